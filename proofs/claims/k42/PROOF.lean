import PyProof.Rows.All
import Wide.All
import OpenK.AllK
import Wide.FinOn
import PyProof.EqAt
import PyProof.EqKinds
import PyProof.TupleCall
import KE.KNest
import HandS.Base
import HandS.Call
import HandS.List
import HandS.Comp
import HandS.Text
import HandS.Iter
import HandS.AnyAll
import HandS.GenOver
import HandS.Words
import PyProof.InstEq
import PyProof.ReprRoads
import PyProof.StrOps2
import HandS.Exc
import HandS.ExcOwn
import HandS.Star
import HandS.ClsMeth
import HandS.Property
import HandS.IsInst
import HandS.OwnEq
import HandS.Wide
import Flt.Len
import PyProof.Rows.SetFrom
import HandS.Strs
import HandS.ForMost
import HandS.ForExc
import PyProof.ReprLen
import HandS.Codes
import HandS.MakeKw
import HandS.Defaults
import PyProof.Draws
import PyProof.EnumMake
import PyProof.ListStr
import PyProof.ListRange
import HandS.Sort
import HandS.ReplaceLit
import HandS.ReplaceDef
import PyProof.Rows.StrStrike
import HandS.Dict
import HandS.SetKeys
import HandS.WordsDict
import HandS.DictComp
import HandS.Walk
import HandS.Flow
import HandS.Style
import HandS.DictTup
import HandS.Conv
import HandS.SortRule
import HandS.More
import PyProof.DictCompW
import HandS.SortKw
import KE.KMinKey
import HandS.ExcIs
import KE.KIsAll
import HandS.Zip
import KE.GoesMore
import HandS.TupLe
import PyProof.ReprBulk
import PyProof.FitsInt
import HandS.EndTab
import HandS.EndOwn
import HandS.Lambda
import KE.KStateDown
import HandS.Head0
import HandS.Head1
import HandS.Head2
import HandS.HeadEnd
import HandS.HeadHook1
import HandS.HeadHook2
import HandS.HeadHook4
import PySem.Challenge.RW_overstamps_k42_numbers_of_parts_shown
set_option Elab.async false
set_option linter.all false
set_option maxRecDepth 100000
set_option maxHeartbeats 4000000
/-! all, any over a generator expression whose element runs like any expression (own defs called, tables grown). -/
namespace Ov
open PySem PySem.Spec PyProof.Rows L2 GxR

/-! ### the consumer -/
/-- the protocol: a truth value is handed out; Dn b: what is to hold when the consumer stops with the answer b; stop: at which value it stops -/
def YB (a : Addr) (g : Nat) (stop : Bool) (Dn : Bool → Shared → Prop) : Protocol := fun _ _ v s1 kap =>
  ∃ b, v = Value.bool b ∧ s1.heap.NoLimit ∧ s1.heap.IsGen a g ∧ AllBare s1.gens ∧
    (b = stop → ∀ G, AllBare G → Dn stop { s1 with gens := G }) ∧ (b ≠ stop → ∀ G, AllBare G → kap (.send .none) { s1 with gens := G })
def RB (stop : Bool) (Dn : Bool → Shared → Prop) : GenEnd := fun _ _ r s1 => r = .ok .next ∧ AllBare s1.gens ∧ ∀ (h' : Heap) (G : Array GenState), (∀ b o, s1.heap.get? b = some o → h'.get? b = some o) → AllBare G → Dn (!stop) { s1 with heap := h', gens := G }

theorem bare_set {s : Shared} {g : Nat} {x : GenState} (h : AllBare s.gens) (hx : x.bare = true) : AllBare (s.setGen g x).gens := fun y hy => by
  obtain ⟨i, hi, e⟩ := Array.mem_iff_getElem.mp hy
  have hi' : i < s.gens.size := by
    have q : (s.setGen g x).gens.size = s.gens.size := GenW.setGen_size s g x
    rw [q] at hi; exact hi
  by_cases z : i = g
  · subst z
    have q : (s.setGen i x).gens[i]? = some x := by
      show (s.gens.setIfInBounds i x)[i]? = some x
      simp [hi']
    have q2 : (s.setGen i x).gens[i]? = some y := by rw [Array.getElem?_eq_getElem hi, e]
    rw [q] at q2; cases q2; exact hx
  · have q : (s.setGen g x).gens[i]? = s.gens[i]? := by
      show (s.gens.setIfInBounds g x)[i]? = _
      rw [Array.getElem?_setIfInBounds_ne (Ne.symm z)]
    have q2 : s.gens[i]? = some y := by rw [← q, Array.getElem?_eq_getElem hi, e]
    exact h y (Array.mem_of_getElem? q2)
theorem set_at {s : Shared} {g : Nat} {x : GenState} (h : g < s.gens.size) : (s.setGen g x).gens[g]? = some x := by
  show (s.gens.setIfInBounds g x)[g]? = some x
  simp [h]

section
variable {P : Program} {w : World} {A : Around}
theorem all_drain {R : Result → Shared → Prop} {a : Addr} {g : Nat} {Dn : Bool → Shared → Prop} (hh : A.handled = none) (hd : A.depth < recursionLimit)
    (hR : ∀ b s', Dn b s' → R (.ok (.ret (.bool b))) s') :
    ∀ (m : Nat) (s : Shared), s.heap.IsGen a g → s.heap.NoLimit → AllBare s.gens →
      (∃ gs, s.gens[g]? = some gs ∧ gs.Goes (model P w) A.in1.in1 (RB false Dn) (YB a g false Dn) m (.send .none) (s.setGen g .running)) →
      codeAny (model P w) A (.builtin "all.loop" ⟨[.ref a], []⟩) R s := by
  intro m
  induction m with
  | zero =>
    intro s hg hl hb ⟨gs, hgs, hgo⟩
    have hgl : g < s.gens.size := (Array.getElem?_eq_some_iff.mp hgs).1
    refine codeAny_builtin F.entry_all_loop ?_
    rw [Around.under_plainId F.plain_all_loop _]
    show wpAny _ A.in1 (pyNext (.ref a) >>= _) _ _ s
    refine wpAny_bind (GenW.wpAny_gsz (n := g + 1) hgl (wpAny_pyNext_genexpQ (A := A.in1) (P := fun n s₀ s₁ => AllBare s₁.gens ∧ ∀ (h' : Heap) (G : Array GenState), (∀ b o, s₁.heap.get? b = some o → h'.get? b = some o) → AllBare G → Dn (!false) { s₁ with heap := h', gens := G }) hh hl hd hg hgs hgo (fun v s₁ gs' hbare hv => ?_) (fun s₁ hp h' hk => ?_)))
    · intro hsz
      obtain ⟨b, rfl, hl1, hg1, hb1, hs1, hk1⟩ := hv
      cases b with
      | true => exact False.elim (hk1 (by decide) _ hb1)
      | false =>
        refine wpAny_bind (wpAny_holding (wpAny_truthy_bool ?_))
        refine wpAny_bind (wpAny_letGo ?_)
        simp only [Bool.false_eq_true, if_false]
        refine wpAny_bind (wpAny_rule (wpAny_pure ?_))
        exact hR false _ (hs1 rfl _ (bare_set hb1 hbare))
    · intro hsz
      refine wpAny_bind (wpAny_rule (wpAny_pure ?_))
      exact hR true _ (hp.2 h' _ hk (bare_set hp.1 rfl))
  | succ m ih =>
    intro s hg hl hb ⟨gs, hgs, hgo⟩
    have hgl : g < s.gens.size := (Array.getElem?_eq_some_iff.mp hgs).1
    refine codeAny_builtin F.entry_all_loop ?_
    rw [Around.under_plainId F.plain_all_loop _]
    show wpAny _ A.in1 (pyNext (.ref a) >>= _) _ _ s
    refine wpAny_bind (GenW.wpAny_gsz (n := g + 1) hgl (wpAny_pyNext_genexpQ (A := A.in1) (P := fun n s₀ s₁ => AllBare s₁.gens ∧ ∀ (h' : Heap) (G : Array GenState), (∀ b o, s₁.heap.get? b = some o → h'.get? b = some o) → AllBare G → Dn (!false) { s₁ with heap := h', gens := G }) hh hl hd hg hgs hgo (fun v s₁ gs' hbare hv => ?_) (fun s₁ hp h' hk => ?_)))
    · intro hsz
      obtain ⟨b, rfl, hl1, hg1, hb1, hs1, hk1⟩ := hv
      have hsz1 : g < s₁.gens.size := by
        have q : (s₁.setGen g gs').gens.size = s₁.gens.size := GenW.setGen_size _ _ _
        have hsz' : g + 1 ≤ (s₁.setGen g gs').gens.size := hsz
        omega
      cases b with
      | true =>
        refine wpAny_bind (wpAny_holding (wpAny_truthy_bool ?_))
        refine wpAny_bind (wpAny_letGo ?_)
        simp only [if_true]
        refine wpAny_pure ⟨plainId_quiet F.plain_all_loop _, ih (s₁.setGen g gs') hg1 hl1 (bare_set hb1 hbare) ⟨gs', set_at hsz1, ?_⟩⟩
        have z := hk1 (by decide) (((s₁.setGen g gs').setGen g .running).gens) (bare_set (bare_set hb1 hbare) rfl)
        exact z
      | false =>
        refine wpAny_bind (wpAny_holding (wpAny_truthy_bool ?_))
        refine wpAny_bind (wpAny_letGo ?_)
        simp only [Bool.false_eq_true, if_false]
        refine wpAny_bind (wpAny_rule (wpAny_pure ?_))
        exact hR false _ (hs1 rfl _ (bare_set hb1 hbare))
    · intro hsz
      refine wpAny_bind (wpAny_rule (wpAny_pure ?_))
      exact hR true _ (hp.2 h' _ hk (bare_set hp.1 rfl))
end
end Ov

set_option Elab.async false
set_option linter.all false
set_option maxRecDepth 100000
set_option maxHeartbeats 4000000
namespace Ov
open PySem PySem.Spec PyProof.Rows L2 GxR
/-- the values of the captured names -/
def caps (σ : L2.St) (pick : List Nat) : L2.St := pick.map fun j => (σ[j]?).join
/-- the context of the generator's block -/
abbrev cxG (X : Cx) (s : Shared) (H : Hp) (N : List Str) (cenv : Env) (A : Around) (fp : List Addr) (pn : List (Addr × Obj)) : Cx :=
  { X with A := A, N := N, s_0 := s, H_0 := H, env := cenv, outer := X.stack, stack := cenv :: X.stack, ex := fp, fn := fun _ => false, calm := true, pn := pn, xe := fun _ _ => False }
/-- the names of the block: its variable x, the captured ones cs with their places in the def's names -/
structure GenN (X : Cx) (scope : Scope) (x : Str) (cs : List Str) (pick : List Nat) : Prop where
  gen : GenS X.env scope x
  uniq : ∀ y ∈ scope.names, scope.names.lookup y.1 = some y.2
  nd : (x :: cs).Nodup
  len : cs.length = pick.length
  at_ : ∀ (i : Nat) (y : Str), cs[i]? = some y → scope.names.lookup y = some .free ∧ (X.env.scope.names.lookup y = some .cell ∨ X.env.scope.names.lookup y = some .free) ∧ ∃ j, pick[i]? = some j ∧ X.N[j]? = some y
section
variable {X : Cx} {pins : List (Addr × Obj)} {σ : L2.St} {H : Hp} {s : Shared}
theorem clo_get {cells : List (Str × Addr)} {names : List (Str × NameKind)} (h : ∀ y ∈ names, y.2 = .free → ∃ c, cells.lookup y.1 = some c) {y : Str} {c : Addr} (e : (cloFrom cells names []).lookup y = some c) : (y, NameKind.free) ∈ names ∧ cells.lookup y = some c := by
  rcases cloFrom_mem (PySem.mem_of_lookup e) with hm | ⟨h1, rfl⟩
  · cases hm
  · obtain ⟨c, hc⟩ := h _ h1 rfl
    rw [hc]
    exact ⟨h1, rfl⟩
theorem clo_has {cells : List (Str × Addr)} {names : List (Str × NameKind)} (h : ∀ y ∈ names, y.2 = .free → ∃ c, cells.lookup y.1 = some c) {y : Str} (hy : (y, NameKind.free) ∈ names) : ∃ c, (cloFrom cells names []).lookup y = some c ∧ cells.lookup y = some c := by
  obtain ⟨c', e'⟩ := mem_lookup (cloFrom_has (cells := cells) (acc := []) hy)
  exact ⟨c', e', (clo_get h e').2⟩
/-- the block's start: the frame at s.heap's size, empty of x; the generator's own object at a -/
theorem gen_start {scope : Scope} {x : Str} {cs : List Str} {pick : List Nat} {fp : List Addr} {A : Around} {code itv : Value} {go : Obj} {gs : Array GenState} {tk : Nat} {h' : Heap} {a : Addr}
    (I : Inv X pins σ H s) (G : GenN X scope x cs pick) (hA : A.handled = none) (hfr : A.frames = some (genEnv scope (cloFrom X.env.cells scope.names []) s.heap.objs.size code builtinsNs X.env :: X.stack))
    (hfp : ∀ b ∈ fp, FpOk X pins H b ∧ b < s.heap.objs.size)
    (hn : h'.Ns s.heap.objs.size fun y => if y = ".0" then some itv else none) (hk : ∀ b o, s.heap.get? b = some o → h'.get? b = some o) (ha : s.heap.objs.size < a) (hgo : h'.get? a = some go) (hgd : ∀ v, go.data ≠ .cell v)
    (hb : AllBare gs) :
    Inv (cxG X s H (x :: cs) (genEnv scope (cloFrom X.env.cells scope.names []) s.heap.objs.size code builtinsNs X.env) A fp [(a, go)]) [] (none :: caps σ pick) H { s with heap := h', gens := gs, toks := tk } := by
  have hfree : ∀ y ∈ scope.names, y.2 = .free → ∃ c, X.env.cells.lookup y.1 = some c := G.gen.free
  have okB : (cxG X s H (x :: cs) (genEnv scope (cloFrom X.env.cells scope.names []) s.heap.objs.size code builtinsNs X.env) A fp [(a, go)]).Ok := by
    refine ⟨I.ok.mod, G.gen.kind, I.ok.glob, rfl, Nat.le_refl _, fun y z c e1 e2 => ?_, fun y hy => ?_, fun y c z _ => ?_, fun _ => hA, hfr, .inr ⟨rfl, rfl⟩, fun b hb => ⟨?_, fun y c e z => ?_⟩, I.bs, Nat.le_trans I.ok.bsz I.sz, fun b o e hb => ?_, fun b hb z => ?_, I.stack, I.stkFree⟩
    · exact I.ok.inj y z c (clo_get hfree e1).2 (clo_get hfree e2).2
    · have hy : scope.names.lookup y = some .cell ∨ scope.names.lookup y = some .free := hy
      rcases hy with hy | hy
      · exact absurd rfl (G.gen.cell _ (PySem.mem_of_lookup hy))
      · obtain ⟨c, h1, _⟩ := clo_has hfree (PySem.mem_of_lookup hy)
        exact ⟨c, h1⟩
    · exact absurd (show false = true from z) (by decide)
    · exact Nat.ne_of_lt (hfp b hb).2
    · exact (hfp b hb).1.2.2.2.2.1 y c (clo_get hfree e).2 z
    · rcases (hfp b hb).1.2.2.2.1 with z | z
      · exact I.ok.noex b o e z
      · exact absurd (Nat.lt_of_lt_of_le (Heap.lt_size e) (Nat.le_trans I.ok.bsz z)) (Nat.lt_irrefl _)
    · rcases List.mem_cons.mp (I.stkSub b z) with z | z
      · exact (hfp b hb).1.2.1 z
      · exact (hfp b hb).1.2.2.1 z
  refine ⟨okB, rfl, hb, Un.kept hk, ⟨_, hn, fun i y av e1 e2 e3 => ?_⟩, fun y c e => ?_, I.hok.fresh (Nat.le_refl _), fun y c e => I.freeC y c (clo_get hfree e).2, fun p hp => ?_, I.hok.kept hk, ?_⟩
  · cases i with
    | zero => cases e2
    | succ i =>
      have e1 : cs[i]? = some y := e1
      obtain ⟨q1, q2, j, hj, hN⟩ := G.at_ i y e1
      have e2 : (caps σ pick)[i]? = some (some av) := e2
      unfold caps at e2
      rw [List.getElem?_map, hj] at e2
      have e2 : (σ[j]?).join = some av := Option.some.inj e2
      have e2' : σ[j]? = some (some av) := by
        cases q : σ[j]? with
        | none => rw [q] at e2; cases e2
        | some o =>
          rw [q] at e2
          have : o = some av := e2
          rw [this]
      obtain ⟨m, hm, hl⟩ := I.loc
      have hvis : Vis X.env.scope y := q2.elim (fun k => .inr (.inl k)) (fun k => .inr (.inr k))
      obtain ⟨u, r, q⟩ := hl j y av hN e2' hvis
      refine ⟨u, r, .inr ⟨.inr q1, ?_⟩⟩
      obtain ⟨c, h1, h2⟩ := clo_has hfree (PySem.mem_of_lookup q1)
      refine ⟨c, h1, ?_⟩
      rcases q with ⟨k, _⟩ | ⟨_, c', e', z⟩
      · have k : X.env.scope.names.lookup y = some .local := k
        rcases q2 with k' | k' <;> rw [k'] at k <;> cases k
      · rw [h2] at e'; cases e'
        exact z.keeps hk
  · obtain ⟨w, z⟩ := I.cell y c (clo_get hfree e).2
    exact ⟨w, z.keeps hk⟩
  · have e : p = (a, go) := by simpa using hp
    subst e
    refine ⟨hgo, I.hok.fresh (Nat.le_of_lt ha), Nat.ne_of_gt ha, ?_, hgd⟩
    intro z
    rcases List.mem_cons.mp (I.stkSub a z) with z | z
    · have := I.lt
      rw [← z] at this
      exact absurd (Nat.lt_trans this ha) (Nat.lt_irrefl _)
    · exact I.nofs (Nat.le_of_lt ha) z
  · show (none :: caps σ pick).length = (x :: cs).length
    unfold caps
    rw [List.length_cons, List.length_cons, List.length_map, G.len]
end
end Ov

set_option Elab.async false
set_option linter.all false
set_option maxRecDepth 100000
set_option maxHeartbeats 4000000
namespace Ov
open PySem PySem.Spec PyProof.Rows L2 GxR
/-- the reading of a turn for all: the element's answer b; true: on; false: the answer -/
def turnAll (J : It) (te : TE) (W : Nat → Nat → Hp → Prop) (caps : L2.St) (Q : VK) : Prop := ∀ i m H, W i m H →
  (J.stop i H ∧ Q (.bl true) H) ∨ (J.go i H ∧ ∀ x H', J.yld i H x H' → te (some x :: caps) H' fun y H'' => ∃ b, y = .bl b ∧ if b = true then ∃ m', m' < m ∧ W (i + 1) m' H'' else Q (.bl false) H'')
section
variable {X : Cx} {σ : L2.St} {H : Hp} {s : Shared}
/-- the context's own: nothing is raised, the generator's object is pinned -/
structure Gen (G : Cx) (A : Around) (a : Addr) (g : Nat) (x : Str) (go : Obj) : Prop where
  over : G.A = A.deeper G.env
  calm : G.calm = true
  xe : G.xe = fun _ _ => False
  nd : G.N.Nodup
  at0 : G.N[0]? = some x
  loc : G.env.scope.names.lookup x = some .local
  co : G.env.scope.isCoroutine = false
  pn : G.pn = [(a, go)]
  gen : ∀ h : Heap, h.get? a = some go → h.IsGen a g
theorem seg_all {G : Cx} {A : Around} {a : Addr} {g : Nat} {x : Str} {go : Obj} (S : Gen G A a g x go) {elt iter : Expr} {px pos : Pos} {scope : Scope} {te : TE} {J : It} {fp : List Addr} {it : Addr} {tn : Nat → Heap → Prop} {W : Nat → Nat → Hp → Prop} {cp : L2.St} {Q : VK} {Dn : Bool → Shared → Prop}
    (T : Turn G.prog G.w G.K (.Name x px) J fp it tn) (he : PE G elt te) (turn : turnAll J te W cp Q) (hex : G.ex = fp) (hfa : ∀ b ∈ fp, a ≠ b)
    (hD : ∀ b H' s' v, Inv G [] (v :: cp) H' s' → Q (.bl b) H' → Dn b s') :
    ∀ (n i m : Nat) (s₀ s : Shared) (v : Option V) (H : Hp), m < n → Inv G [] (v :: cp) H s → tn i s.heap → (∀ b ∈ fp, H b = none) → W i m H →
      Seg (model G.prog G.w) A (RB false Dn) (YB a g false Dn) n s₀ (.compLoop (.GeneratorExp elt [⟨.Name x px, iter, [], 0⟩] scope pos) 0 (.ref it) .none G.env)
        ((model G.prog G.w).den (.compLoop (.GeneratorExp elt [⟨.Name x px, iter, [], 0⟩] scope pos) 0 (.ref it) .none G.env)) [] s := by
  have stat : ∀ {σ' : L2.St} {H' : Hp} {s' : Shared}, Inv G [] σ' H' s' → (∀ b ∈ fp, H' b = none) → ∀ b ∈ fp, FpOk G [] H' b := fun {σ' H' s'} I' hn b hb => by
    have hb' : b ∈ G.ex := by rw [hex]; exact hb
    refine ⟨hn b hb, (I'.ok.exf b hb').1, I'.ok.exfs b hb', .inl hb', fun x c e => (I'.ok.exf b hb').2 x c e, fun p hp z => ?_⟩
    have hp' : p ∈ G.pn := by simpa using hp
    rw [S.pn] at hp'
    rw [List.mem_singleton.mp hp'] at z
    exact hfa b hb z
  intro n
  induction n with
  | zero => intro i m s₀ s v H hm; exact absurd hm (Nat.not_lt_zero _)
  | succ n ih =>
    intro i m s₀ s v H hm I st hf w
    show Seg _ A _ _ _ s₀ _ ((compTurn (.GeneratorExp elt [⟨.Name x px, iter, [], 0⟩] scope pos) 0 (.ref it) .none G.env).onRaise (leaving G.env)) [] s
    rw [compTurn_gen, Sem.onRaise_eq_wrap]
    have ov : A.over (.compLoop (.GeneratorExp elt [⟨.Name x px, iter, [], 0⟩] scope pos) 0 (.ref it) .none G.env) [] = G.A := by rw [S.over]; rfl
    refine seg_bind_wrap (wpAny_standAt ?_)
    rcases turn i m H w with ⟨stop, q⟩ | ⟨go', step⟩
    · refine seg_bind_wrap ?_
      rw [ov]
      refine wpAny_mono (T.done G rfl rfl rfl S.calm i [] s (v :: cp) H (fun _ _ => False) I (stat I hf) st stop) (fun r s1 hr => ?_) fun _ _ z => z.elim
      obtain ⟨rfl, I1⟩ := hr
      refine seg_end (.ok .next) ⟨rfl, I1.bare, fun h' gs hk hb => ?_⟩
      exact hD true H _ v (I1.call' (ch := []) rfl (Un.kept hk) (I1.hok.kept hk) hb fun b z => by simp at z) q
    · refine seg_bind_wrap ?_
      rw [ov]
      refine wpAny_mono (T.item G rfl rfl rfl S.calm i [] s (v :: cp) H (fun _ _ => False) I (stat I hf) st go') (fun r s1 hr => ?_) fun _ _ z => z.elim
      obtain ⟨u, rfl, h1⟩ := hr
      refine seg_bind_wrap ?_
      rw [ov]
      refine wpAny_mono h1 (fun _ s2 h2 => ?_) fun _ _ z => z.elim
      obtain ⟨y, H2, I2, r2, y2, st2, n2⟩ := h2
      have I2' := I2.pinned (stat I2 n2) (T.obj _ _ st2)
      refine seg_bind_wrap ?_
      rw [ov]
      refine wpAny_mono ((pg_name (X := G) (i := 0) (pos := px) S.nd S.at0 (.inl S.loc) (.inr S.loc)).run _ s2 (v :: cp) H2 y u (fun σ' H' => σ' = some y :: cp ∧ H' = H2) I2' r2 ⟨rfl, rfl⟩) (fun _ s3 h3 => ?_) fun _ _ z => by rw [S.xe] at z; exact z.elim
      obtain ⟨σ3, H3, I3, rfl, rfl⟩ := h3
      refine seg_bind_wrap ?_
      simp only [List.forIn_nil]
      refine wpAny_pure ?_
      simp only [if_true]
      have hy : ∀ v, yieldOut G.env v = yieldValue v := fun v => by simp only [yieldOut, S.co, Bool.false_eq_true, if_false]
      simp only [hy]
      rw [Sem.bind_eq_wrap', Sem.bind_eq_wrap', Sem.wrap_wrap, Sem.wrap_wrap]
      refine seg_wrap ?_
      rw [ov]
      refine wpAny_mono (he.run _ s3 (some y :: cp) H3 _ I3 (step y H3 y2)) (fun z s4 h4 => ?_) fun _ _ z => by rw [S.xe] at z; exact z.elim
      obtain ⟨zv, H4, I4, r4, b, rfl, q4⟩ := h4
      have ez : z = Value.bool b := r4
      subst ez
      have pin' : ∀ c ∈ fp, ∀ o, s2.heap.get? c = some o → s4.heap.get? c = some o ∧ H4 c = none := fun c hc o e =>
        let z := I4.pin (c, o) (List.mem_append_right _ (List.mem_append_right _ (mem_pinsAt hc e)))
        ⟨z.1, z.2.1⟩
      have st4 : tn (i + 1) s4.heap := T.keep _ _ _ st2 fun c hc o e => (pin' c hc o e).1
      have f4 : ∀ c ∈ fp, H4 c = none := fun c hc => by
        obtain ⟨o, e, _⟩ := T.obj _ _ st2 c hc
        exact (pin' c hc o e).2
      have I5 : Inv G [] (some y :: cp) H4 s4 := I4.unpinned (pins := [])
      have hgo : s4.heap.get? a = some go := (I5.pin (a, go) (by rw [S.pn]; simp)).1
      refine seg_at (seg_yield rfl rfl rfl ⟨b, rfl, I5.nolimit, S.gen _ hgo, I5.bare, fun eb gs hb => ?_, fun nb gs hb => ?_⟩)
      · subst eb
        exact hD false H4 _ (some y) (I5.call' (ch := []) rfl Un.refl I5.hok hb fun b z => by simp at z) q4
      · have eb : b = true := by cases b with
          | true => rfl
          | false => exact absurd rfl nb
        subst eb
        obtain ⟨m', hm', w'⟩ := (if_pos rfl : (if true = true then _ else _) = _) ▸ q4
        refine seg_again rfl (ih (i + 1) m' _ _ (some y) H4 (by omega) (I5.call' (ch := []) rfl Un.refl I5.hok hb fun b z => by simp at z) st4 f4 w')

theorem seg_allStart {G : Cx} {A : Around} {a : Addr} {g : Nat} {x : Str} {go : Obj} (S : Gen G A a g x go) {elt iter : Expr} {px pos : Pos} {scope : Scope} {te : TE} {J : It} {fp : List Addr} {it : Addr} {tn : Nat → Heap → Prop} {W : Nat → Nat → Hp → Prop} {cp : L2.St} {Q : VK} {Dn : Bool → Shared → Prop}
    (T : Turn G.prog G.w G.K (.Name x px) J fp it tn) (he : PE G elt te) (turn : turnAll J te W cp Q) (hex : G.ex = fp) (hfa : ∀ b ∈ fp, a ≠ b)
    (hD : ∀ b H' s' v, Inv G [] (v :: cp) H' s' → Q (.bl b) H' → Dn b s') (n m : Nat) (s₀ s : Shared) (v : Option V) (H : Hp) (hm : m < n) (I : Inv G [] (v :: cp) H s) (st : tn 0 s.heap) (hf : ∀ b ∈ fp, H b = none) (w : W 0 m H) :
      Seg (model G.prog G.w) A (RB false Dn) (YB a g false Dn) n s₀ (.compStart (.GeneratorExp elt [⟨.Name x px, iter, [], 0⟩] scope pos) 0 (.ref it) .none G.env)
        ((model G.prog G.w).den (.compStart (.GeneratorExp elt [⟨.Name x px, iter, [], 0⟩] scope pos) 0 (.ref it) .none G.env)) [] s := by
  have loop := seg_all (iter := iter) (pos := pos) (scope := scope) S T he turn hex hfa hD n 0 m s₀ s v H hm I st hf w
  show Seg _ A _ _ _ s₀ _ ((compStart (.GeneratorExp elt [⟨.Name x px, iter, [], 0⟩] scope pos) 0 (.ref it) .none G.env).onRaise (leaving G.env)) [] s
  unfold compStart
  rw [Sem.onRaise_eq_wrap]
  show Seg _ A _ _ _ s₀ _ ((ask >>= _).wrap _ _ _ _) [] s
  refine seg_bind_wrap (wpAny_askSetting ?_)
  split
  · exact seg_again rfl loop
  · first
      | exact seg_bind_wrap (wpAny_rule (seg_bind_wrap (wpAny_standAt (seg_bind_wrap (T.self _ 0 s _ _ st (seg_again rfl loop))))))
      | (refine seg_bind_wrap (wpAny_rule ?_); show Seg _ A _ _ _ s₀ _ ((standAt iter.pos >>= _).wrap _ _ _ _) [] s; exact seg_bind_wrap (wpAny_standAt (seg_bind_wrap (T.self _ 0 s _ _ st (seg_again rfl loop)))))

/-- all(elt for x in iter): J walks; W by the turn and a measure -/
def tAllG (P : Addr) (wi : TI) (pick : List Nat) (te : TE) : TE := fun σ H Q => wi σ H fun J H1 => TabG H1 P ∧ ∀ H2, Tabbed P H1 H2 → ∃ W : Nat → Nat → Hp → Prop, (∃ m, W 0 m H2) ∧ turnAll J te W (caps σ pick) Q

theorem fpOk_tab {pins : List (Addr × Obj)} {H1 H2 : Hp} {P b : Addr} {ps : Array Value} (hP : H1 P = some (.tbl ps)) (hT : ∀ b, b ≠ P → H2 b = H1 b) (f : FpOk X pins H1 b) : FpOk X pins H2 b := by
  refine ⟨?_, f.2⟩
  rw [hT b (fun z => by have := f.1; rw [z, hP] at this; cases this)]
  exact f.1

theorem pe_allG {c P : Addr} {elt iter : Expr} {x : Str} {px p pos gpos : Pos} {scope : Scope} {cs : List Str} {pick : List Nat} {wi : TI} {te : TE} {k : Nat}
    (hc : X.calm = true) (hr : Room (k + 1) X.A) (hg : Gl X "all") (hm : X.mg "all" = none) (hb : bootBuiltins "all" = some (.builtin "all")) (TB : TabB X.base X.mg c P) (hcode : X.env.code = .ref c) (S : GenN X scope x cs pick)
    (hi : PI X (.Name x px) iter wi)
    (he : ∀ (s : Shared) (H : Hp) (code : Value) (C : Addr) (A : Around) (fp : List Addr) (pn : List (Addr × Obj)), Room k A → PE (cxG X s H (x :: cs) (genEnv scope (cloFrom X.env.cells scope.names []) C code builtinsNs X.env) A fp pn) elt te)
    (hs : ∀ v, genFold iter X.env v = pure v := by intro _; rfl)
    (hst : starEach [.GeneratorExp elt [⟨.Name x px, iter, [], 0⟩] scope gpos] X.env = (false, eval (.GeneratorExp elt [⟨.Name x px, iter, [], 0⟩] scope gpos) X.env) :: starEach [] X.env := by rfl) :
    PE X (.Call (.Name "all" p) [.GeneratorExp elt [⟨.Name x px, iter, [], 0⟩] scope gpos] [] pos) (tAllG P wi pick te) := by
  refine ⟨fun pins s σ H Q I h => ?_⟩
  refine wpAny_Call_Name_kw (ld_blt I hg hm hb ?_)
  refine PyProof.Rows.callWith_builtin1 ?_ hst (by rfl)
  rw [hst]
  show wpAny _ _ (spliced ((false, eval (.GeneratorExp elt [⟨.Name x px, iter, [], 0⟩] scope gpos) X.env) :: backTo pos (starEach [] X.env))) _ _ s
  refine Calls.spliced_cons ?_
  refine wpAny_GeneratorExp_make S.gen.co (closure_ok S.gen.free) S.gen.cell S.gen.dot S.gen.kind (by have := hr.dp; omega) ?_ hs
  refine thn (hi.run pins s σ H _ I h) fun xv s1 h1 => thn h1 fun itv s2 h2 => ?_
  obtain ⟨it, fp, tn, J, H2, rfl, I2, T, st2, f2, ⟨ps, hP, ht⟩, hW⟩ := h2
  refine ⟨I2.nolimit, ?_⟩
  have hPs : s2.heap.get? P = some { cls := .none, data := .fields ps } := I2.hok P _ hP
  have hPlt : P < s2.heap.objs.size := Heap.lt_size hPs
  have cd : PySem.W.CodeHd s2.heap c P := TB.code.keeps fun b u e => I2.bk b u e
  -- behind the code object
  have cont : ∀ (code : Value) (h3 : Heap) (tk : Nat) (ps' : Array Value), Heap.ExtBut P s2.heap h3 → h3.get? P = some { cls := .none, data := .fields ps' } → (∃ more, ps' = ps ++ more) → TriplesOk ps'.toList →
      wpAny (model X.prog X.w) X.A (builtinsFor X.env.globals X.env.builtins) (fun bi s₄ =>
        ∀ h', h'.Ns s₄.heap.objs.size (fun y => if y = ".0" then some (.ref it) else none) → Heap.SameBut s₄.heap.objs.size (s₄.heap.push { cls := .type "frame", data := .dict #[] }) h' →
          wpAny (model X.prog X.w) X.A (spliced (backTo pos (starEach [] X.env))) (fun us s' => wpAny (model X.prog X.w) X.A (call (.builtin "all") (.ref h'.objs.size :: us)) (EP X pins σ Q) X.xe s') X.xe { s₄ with
            gens := s₄.gens.push (.fresh (.compStart (.GeneratorExp elt [⟨.Name x px, iter, [], 0⟩] scope gpos) 0 (.ref it) .none (genEnv scope (cloFrom X.env.cells scope.names []) s₄.heap.objs.size code bi X.env))),
            toks := s₄.toks + 1 + 1 + 1,
            heap := h'.push { cls := .type "generator", data := .fields #[.int s₄.gens.size 0, .str "<genexpr>" (s₄.toks + 1), .str (X.env.qual ++ "<genexpr>") (s₄.toks + 1 + 1)] } }) X.xe { s2 with heap := h3, toks := tk } := by
    intro code h3 tk ps' hx hP3 hmore ht3
    obtain ⟨more, em⟩ := hmore
    subst em
    obtain ⟨bm, ob, e1, e2, e3, e4, e5, e6, e7, e8⟩ := TB.bm
    have keep3 : ∀ b u, b ≠ P → s2.heap.get? b = some u → h3.get? b = some u := fun b u hb e => hx b u hb e
    refine wpAny_builtinsFor (m := X.mg) (by rw [I2.ok.glob]; exact (I2.mod.glob.keeps I2.bk).extBut hx TB.gP) e1 e2 (keep3 _ _ e4 (I2.bk _ _ e5)) e6 e7 e8 ?_
    intro h' hn' hs'
    have I3 : Inv X pins σ (upd H2 P (.tbl (ps ++ more))) { s2 with heap := h3, toks := tk } := inv_tab (more := more) (h' := h3) (g' := s2.gens) (d' := s2.drawn) (t' := tk) I2 hP keep3 hP3 I2.bare
    generalize hs3 : ({ s2 with heap := h3, toks := tk } : Shared) = s3 at I3 ⊢
    have hh3 : s3.heap = h3 := by rw [← hs3]
    have hg3 : s3.gens = s2.gens := by rw [← hs3]
    have hn' : h'.Ns s3.heap.objs.size (fun y => if y = ".0" then some (.ref it) else none) := hh3.symm ▸ hn'
    have hs' : Heap.SameBut s3.heap.objs.size (s3.heap.push { cls := .type "frame", data := .dict #[] }) h' := hh3.symm ▸ hs'
    have hsz : h'.objs.size = s3.heap.objs.size + 1 := by rw [hs'.1, Heap.size_push]
    have keep' : ∀ b o, s3.heap.get? b = some o → h'.get? b = some o := fun b o e => hs'.extBut b o (Nat.ne_of_lt (Heap.lt_size e)) (Heap.get?_push_of_some _ e)
    have hT23 : Tabbed P H2 (upd H2 P (.tbl (ps ++ more))) := ⟨⟨_, upd_same, ht3⟩, fun b hb => upd_ne hb⟩
    obtain ⟨W, ⟨m0, w0⟩, turn⟩ := hW _ hT23
    generalize hH3 : upd H2 P (.tbl (ps ++ more)) = H3 at I3 w0 hT23
    have nfpP : ∀ b ∈ fp, b ≠ P := fun b hb z => by have := (f2 b hb).1; rw [z, hP] at this; cases this
    have st3 : tn 0 s3.heap := T.keep _ _ _ st2 fun b hb o e => by rw [hh3]; exact keep3 b o (nfpP b hb) e
    have f3 : ∀ b ∈ fp, FpOk X pins H3 b ∧ b < s3.heap.objs.size := fun b hb => by
      refine ⟨fpOk_tab hP hT23.2 (f2 b hb), ?_⟩
      obtain ⟨o, e, _⟩ := T.obj _ _ st3 b hb
      exact Heap.lt_size e
    generalize hgo : ({ cls := .type "generator", data := .fields #[.int s3.gens.size 0, .str "<genexpr>" (s3.toks + 1), .str (X.env.qual ++ "<genexpr>") (s3.toks + 1 + 1)] } : Obj) = go
    generalize hcenv : genEnv scope (cloFrom X.env.cells scope.names []) s3.heap.objs.size code builtinsNs X.env = cenv
    have keep5 : ∀ b o, s3.heap.get? b = some o → (h'.push go).get? b = some o := fun b o e => Heap.get?_push_of_some _ (keep' b o e)
    have hga : (h'.push go).get? h'.objs.size = some go := Heap.get?_push_size _ (by subst hgo; rfl)
    have hgd : ∀ v, go.data ≠ .cell v := fun v => by rw [← hgo]; exact fun z => by cases z
    have hgen : ∀ h : Heap, h.get? h'.objs.size = some go → h.IsGen h'.objs.size s3.gens.size := fun h e => ⟨go, _, _, e, by subst hgo; rfl, by subst hgo; rfl, by subst hgo; rfl⟩
    have bareG : AllBare (s3.gens.push (.fresh (.compStart (.GeneratorExp elt [⟨.Name x px, iter, [], 0⟩] scope gpos) 0 (.ref it) .none cenv))) := I3.bare.push rfl
    refine Calls.spliced_nil ?_
    refine call_function_tree F.kind_all F.plain_all F.entry_all (F.args_all1 _) ?_
    unfold Builtin.«all»
    refine wpAny_bind (m := oneArg "all" _) (wpAny_pure ?_)
    refine wpAny_bind (wpAny_pyIter_gen (hgen _ hga) ?_)
    refine wpAny_pure ⟨plainId_quiet F.plain_all_loop _, ?_⟩
    have hA : X.A.in1.in1.handled = none := hr.hd
    have hfr : (X.A.in1.in1.deeper cenv).frames = some (cenv :: X.stack) := Around.frames_deeper (A := X.A.in1.in1) I3.ok.frames
    have start : ∀ gs : Array GenState, AllBare gs → Inv (cxG X s3 H3 (x :: cs) cenv (X.A.in1.in1.deeper cenv) fp [(h'.objs.size, go)]) [] (none :: caps σ pick) H3 { s3 with heap := h'.push go, gens := gs, toks := s3.toks + 1 + 1 + 1 } := fun gs hb => by
      subst hcenv
      exact gen_start I3 S hA hfr f3 (hn'.push _) keep5 (by omega) hga hgd hb
    have rm : Room k (X.A.in1.in1.deeper cenv) := ⟨hr.hd, by have := hr.dp; show X.A.depth + 1 + 3 * k + 5 < _; omega, by have := hr.un; show X.A.units + 1 + 1 + 3 + 16 * k + 200 < _; omega⟩
    have hel : PE (cxG X s3 H3 (x :: cs) cenv (X.A.in1.in1.deeper cenv) fp [(h'.objs.size, go)]) elt te := by
      subst hcenv
      exact he s3 H3 code s3.heap.objs.size _ fp _ rm
    refine all_drain (P := X.prog) (w := X.w) (A := X.A) (Dn := fun b s' => EP X pins σ Q (.bool b) s') hr.hd (by have := hr.dp; omega) (fun b s' hb => hb) (m0 + 1) _ (hgen _ hga) (I3.nolimit.keeps keep5) bareG ⟨_, Array.getElem?_push_size .., rfl, ?_⟩
    have GG : Gen (cxG X s3 H3 (x :: cs) cenv (X.A.in1.in1.deeper cenv) fp [(h'.objs.size, go)]) X.A.in1.in1 h'.objs.size s3.gens.size x go := by
      refine ⟨rfl, rfl, rfl, S.nd, rfl, ?_, ?_, rfl, hgen⟩
      · subst hcenv; exact S.gen.loc
      · subst hcenv; exact S.gen.co
    refine seg_allStart (iter := iter) (pos := gpos) (scope := scope) GG T hel turn rfl (fun b hb z => ?_) (fun b H' s' v I' q => ?_) (m0 + 1) m0 _ _ none H3 (Nat.lt_succ_self _) (start _ (bare_set bareG rfl)) (T.keep _ _ _ st3 fun b hb o e => keep5 b o e) (fun b hb => (f3 b hb).1.1) w0
    · have z1 : h'.objs.size < s3.heap.objs.size := by
        rw [show h'.objs.size = b from z]
        exact (f3 b hb).2
      have z2 : (h'.objs.size : Nat) = s3.heap.objs.size + 1 := hsz
      omega
    · exact ⟨.bl b, H', I3.call' (ch := fp) I'.os I'.base I'.hok I'.bare fun b hb => ⟨(f3 b hb).1.2.2.2.1, (f3 b hb).1.2.1, (f3 b hb).1.2.2.2.2.1, (f3 b hb).1.2.2.2.2.2⟩, rfl, q⟩
  cases hf : codeAmong gpos ps.toList with
  | none =>
    refine wpAny_genexprCodeX hcode (cd.code hPs ht) (cd.tab hPs) hf fun c' h' tk hx hge hlt hco' _ htab' _ => ?_
    obtain ⟨o1, vs, f1, tf, fl, tg, inF, tx, tt, op, _, _, _, _, _, _, _, _, _, htr, _⟩ := hco'
    exact cont _ h' tk _ hx htab'.2 ⟨_, rfl⟩ htr
  | some cv =>
    refine wpAny_genexprCode_hit hcode (cd.code hPs ht) hf ?_
    exact cont cv s2.heap s2.toks ps (Heap.ExtBut.refl _ _) hPs ⟨#[], by simp⟩ ht
end
end Ov

set_option Elab.async false
set_option linter.all false
set_option maxRecDepth 100000
set_option maxHeartbeats 4000000
/-! rules that the layer lacks: powers of great ints, <= of texts, text * int, == of own instances by identity, an own __add__, an own __len__, C(*xs), repr of a list of texts -/
namespace Ov
open PySem PySem.Spec PyProof.Rows L2
/-! ### == by identity -/
section
variable {prog : Program} {w : World} {A : Around} {E : Value → Shared → Prop} {s : Shared} {K : PySem.W.Frag} {x y C : Addr} {ox oy : Obj} {od od' : Option Obj}
theorem call_objEq {Q : Value → Shared → Prop} (X : K.In s.heap) (I : PySem.W.InstAt s.heap x ox C od) (J : PySem.W.InstAt s.heap y oy C od') (hsub : PySem.W.subIn K (.ref C) (.type "object") = some true)
    (h : Q (if x = y then .bool true else .notImplemented) s) : wpAny (model prog w) A (call (.builtin "object.__eq__") [.ref x, .ref y]) Q E s := by
  refine wpAny_call (codeAny_call_builtin F.cmp_object.eq.plain F.cmpEntry_eq ?_)
  have fin : wpAny (model prog w) A.in1 (Builtin.«object.__eq__» ⟨[.ref x, .ref y], []⟩) (fun fin s' => match fin with | .done f => (wants Q E) (.ok f) s' | .again c' => c'.quiet = true ∧ codeAny (model prog w) A c' (wants Q E) s') (fun e s' => (wants Q E) (.error e) s') s := by
    by_cases hxy : x = y
    · subst hxy
      exact objEq_entry_same (by rw [if_pos rfl] at h; exact h)
    · refine objEq_entry_other hxy I.at_ J.at_ ?_ (by rw [if_neg hxy] at h; exact h)
      rw [I.cls]
      intro z; cases z
  simp only [checkBuiltinCall, F.cmpKind_eq, F.cmpSplit_eq]
  refine wpAny_bind ?_
  unfold isInstance
  refine wpAny_bind (I.type.here ?_)
  refine (PySem.W.looks_subIn X hsub).here ?_
  cases hsig : Manifest.signature? "object.__eq__" with
  | none => exact wpAny_pure fin
  | some sig =>
    have ha := F.cmpArgs_eq (.ref x) (.ref y)
    simp only [argsOk, hsig] at ha
    have h2 : Bind.checkArgs "object.__eq__" sig ⟨[.ref x, .ref y], []⟩ = pure () := ha
    show wpAny _ A.in1 (Bind.checkArgs "object.__eq__" sig ⟨[.ref x, .ref y], []⟩) _ _ _
    rw [h2]; exact wpAny_pure fin
theorem special_eq {Q : Option Value → Shared → Prop} (X : K.In s.heap) (I : PySem.W.InstAt s.heap x ox C od) (J : PySem.W.InstAt s.heap y oy C od') (hs : PySem.W.findIn K (.ref C) "__eq__" = some (some (.builtin "object.__eq__"))) (hsub : PySem.W.subIn K (.ref C) (.type "object") = some true)
    (h : Q (some (if x = y then .bool true else .notImplemented)) s) : wpAny (model prog w) A (callSpecialIfBound? (.ref x) "__eq__" [.ref y]) Q E s := by
  simp only [callSpecialIfBound?, bindSpecialIfBound?]
  refine wpAny_holding (wpAny_bind (wpAny_bind (wpAny_bind (I.type.here ((PySem.W.looks_findIn X hs).here ?_)))))
  have fin : wpAny (model prog w) A (call (.builtin "object.__eq__") ([.ref x] ++ [.ref y]) >>= fun v => pure (some v)) Q E s := wpAny_bind (call_objEq X I J hsub (wpAny_pure h))
  simp only [F.cmp_object.eq.bind]
  refine wpAny_bind (wpAny_askSetting (wpAny_ite ?_))
  split
  · exact wpAny_bind (wpAny_pure (wpAny_pure fin))
  · exact wpAny_tryCatch (wpAny_bind (wpAny_pure (wpAny_pure fin)))
theorem try_eq {Q : Option Value → Shared → Prop} (X : K.In s.heap) (I : PySem.W.InstAt s.heap x ox C od) (J : PySem.W.InstAt s.heap y oy C od') (hs : PySem.W.findIn K (.ref C) "__eq__" = some (some (.builtin "object.__eq__"))) (hsub : PySem.W.subIn K (.ref C) (.type "object") = some true)
    (h : Q (if x = y then some (.bool true) else none) s) : wpAny (model prog w) A (tryCompare (.ref x) "__eq__" (.ref y)) Q E s := by
  unfold tryCompare
  refine wpAny_bind (special_eq X I J hs hsub ?_)
  by_cases hxy : x = y
  · rw [if_pos hxy] at h ⊢
    exact wpAny_pure h
  · rw [if_neg hxy] at h ⊢
    exact wpAny_pure h
theorem eq_id {Q : Value → Shared → Prop} (hu : A.units < cLine) (X : K.In s.heap) (I : PySem.W.InstAt s.heap x ox C od) (J : PySem.W.InstAt s.heap y oy C od') (hs : PySem.W.findIn K (.ref C) "__eq__" = some (some (.builtin "object.__eq__"))) (hsub : PySem.W.subIn K (.ref C) (.type "object") = some true)
    (h : Q (.bool (decide (x = y))) s) : wpAny (model prog w) A (compareOp .Eq (.ref x) (.ref y)) Q E s := by
  show wpAny _ _ (richCompare .Eq (.ref x) (.ref y)) _ _ _
  unfold richCompare
  simp only [oneThing_ref, cmpInfo_Eq]
  refine wpAny_holding (wpAny_bind (wpAny_cRoomFor hu ?_))
  refine wpAny_bind (I.type.here (wpAny_bind (J.type.here ?_)))
  rw [if_neg (by simp)]
  refine wpAny_bind (wpAny_pure ?_)
  simp only [Bool.false_eq_true, if_false]
  refine wpAny_bind (try_eq X I J hs hsub ?_)
  by_cases hxy : x = y
  · rw [if_pos hxy]
    subst hxy
    exact wpAny_pure (by simpa using h)
  · rw [if_neg hxy]
    have hyx : ¬ y = x := fun z => hxy z.symm
    simp only [Bool.not_false, if_true]
    refine wpAny_bind (try_eq X J I hs hsub ?_)
    rw [if_neg hyx]
    refine wpAny_bind (wpAny_rule ?_)
    refine wpAny_bind (wpAny_isSame_ref_other hxy I.at_ J.at_ (by rw [I.cls]; intro z; cases z) ?_)
    exact wpAny_pure (by simpa [hxy] using h)
end

/-! ### the same over the layer; powers; texts -/
section
variable {X : Cx}
/-- the class has no == of its own -/
structure NoEq (K : PySem.W.Frag) (C : Addr) : Prop where
  eq : PySem.W.findIn K (.ref C) "__eq__" = some (some (.builtin "object.__eq__"))
  sub : PySem.W.subIn K (.ref C) (.type "object") = some true
theorem op_eqId {C : Addr} (hu : X.A.units < cLine) (n : NoEq X.K C) : OpR X (compareOp .Eq) (fun x y H Q => ∃ a b dx dy fs gs, x = .ref a ∧ y = .ref b ∧ H a = some (.ins C dx fs) ∧ H b = some (.ins C dy gs) ∧ Q (.bl (decide (a = b))) H) := by
  intro pins s σ H x y v u Q I rx ry h
  obtain ⟨a, b, dx, dy, fs, gs, rfl, rfl, ha, hb, q⟩ := h
  obtain rfl : v = Value.ref a := rx
  obtain rfl : u = Value.ref b := ry
  obtain ⟨mA, O, _⟩ := ins_get I.hok ha
  obtain ⟨od, J, _⟩ := O.look
  obtain ⟨mB, O', _⟩ := ins_get I.hok hb
  obtain ⟨od', J', _⟩ := O'.look
  exact eq_id hu I.kIn J J' n.eq n.sub ⟨.bl _, H, I, rfl, q⟩
/-- a power of a great number -/
def CPowW (i j : Int) : Prop := 0 ≤ j ∧ (Builtin.Int.intBits i : Int) * j ≤ 2 ^ 27
theorem op_powW : OpR X (binaryOp .Pow) (rI CPowW fun i j => .int (i ^ j.toNat)) := opI fun _ _ _ _ _ _ _ hc q => pow_int hc.1 hc.2 q
theorem bits_le {i : Int} {b : Nat} (h : i.natAbs < 2 ^ b) (h0 : 0 < b) : Builtin.Int.intBits i ≤ b := by
  have x := PySem.Flt.log2_lt_of h0 h
  unfold Builtin.Int.intBits
  split <;> omega
theorem op_le_str : OpR X (compareOp .LtE) (fun x y H Q => ∃ i j, x = .str i ∧ y = .str j ∧ Q (.bl (!decide (j.cps.toList < i.cps.toList))) H) := by
  intro pins s σ H x y v u Q I rx ry h
  obtain ⟨i, j, rfl, rfl, q⟩ := h
  obtain ⟨t, rfl⟩ := rx
  obtain ⟨t', rfl⟩ := ry
  exact PySem.P.le_str ⟨.bl _, H, I, rfl, q⟩
end
/-! ### C(*xs) -/
def tMakeS (X : Cx) (C : Addr) (sp : Sp) (E : XK) (tc te : TE) : TE := fun σ H Q => tc σ H fun c H0 => c = .ref C ∧ te σ H0 fun y H1 => ∃ a xs, y = V.ref a ∧ (SqT X.K H1 a xs ∨ SqL X.K H1 a xs) ∧
  ∀ x dx, H1 x = none → H1 dx = none → dx ≠ x → sp (V.ref x :: xs) (upd (upd H1 dx (.own x)) x (.ins C dx [])) (fun v H2 => v = .non ∧ Q (.ref x) H2) E
section
variable {X : Cx} {CX : CXT} {k : Nat} {f C : Addr} {sp : Sp} {E : XK} {x : Str} {e : Expr} {tc te : TE} {p pos sp_ : Pos}
/-- c(*xs), c a name whose value is the class -/
theorem pe_makeS (M : Mk X.K C f) (F : FnR X.prog X.w X.K X.mg X.base CX k f sp) (hr : Room (k + 1) X.A) (hx : Passes CX X E) (hn : PE X (.Name x p) tc) (he : PE X e te)
    (hst : starEach [.Starred e sp_] X.env = [(true, eval e X.env)] := by rfl) : PE X (.Call (.Name x p) [.Starred e sp_] [] pos) (tMakeS X C sp E tc te) := by
  refine ⟨fun pins s σ H Q I h => ?_⟩
  refine wpAny_Call_Name_kw (thn (hn.run pins s σ H _ I h) fun c s0 ⟨cv, H0, I0, rc, ec, h⟩ => ?_)
  subst ec
  obtain rfl : c = Value.ref C := rc
  refine PySem.W.callWith_S (h₀ := X.base) I0.ok.mod.kin M.kp (thn (he.run pins s0 σ H0 _ I0 h) fun v s1 ⟨y, H1, I1, ry, a, xs, ey, hxs, q⟩ => ?_) hst
  subst ey
  obtain rfl : v = Value.ref a := ry
  exact StX.star_any I1 hxs fun us s2 I2 rv => ⟨I2.kIn, StX.run_makeR M F hr hx I2 rv q⟩
end
end Ov

set_option Elab.async false
set_option linter.all false
set_option maxRecDepth 100000
set_option maxHeartbeats 4000000
/-! len(set(xs)), xs a tuple of any number of texts (below 4000) -/
namespace Ov
open PySem PySem.Spec PyProof.Rows L2
/-- the texts without those that were there before -/
def addS (z : List Str) (v : Str) : List Str := if z.any (· == v) = true then z else z ++ [v]
def once (xs : List Str) : List Str := xs.foldl addS []
theorem addS_len (z : List Str) (v : Str) : (addS z v).length = if z.any (· == v) = true then z.length else z.length + 1 := by
  unfold addS; split <;> simp
theorem addS_any (z : List Str) (v k : Str) : (addS z v).any (· == k) = (z.any (· == k) || decide (k = v)) := by
  unfold addS
  by_cases h : z.any (· == v) = true
  · rw [if_pos h]
    by_cases e : k = v
    · subst e; rw [h]; simp
    · simp [e]
  · rw [if_neg h, List.any_append]
    by_cases e : k = v
    · subst e; simp
    · have hb : (v == k) = false := by simpa [beq_iff_eq] using (fun h' : v = k => e h'.symm)
      simp [hb, e]
theorem once_take {xs : List Str} {i : Nat} (h : i < xs.length) : once (xs.take (i + 1)) = addS (once (xs.take i)) (xs.getD i Str.empty) := by
  unfold once
  rw [List.take_succ, List.foldl_append, List.getElem?_eq_getElem h]
  simp [List.getD, List.getElem?_eq_getElem h]
theorem once_le (xs : List Str) : (once xs).length ≤ xs.length := by
  have key : ∀ (l z : List Str), (l.foldl addS z).length ≤ z.length + l.length := by
    intro l
    induction l with
    | nil => intro z; simp
    | cons a l ih =>
      intro z
      rw [List.foldl_cons, List.length_cons]
      refine Nat.le_trans (ih _) ?_
      rw [addS_len]
      split <;> omega
  have := key xs []
  simpa [once] using this
/-- as many as there are, exactly if no two are alike -/
theorem once_nodup (xs : List Str) : (once xs).length = xs.length ↔ xs.Nodup := by
  have key : ∀ (l z : List Str), ((l.foldl addS z).length = z.length + l.length ↔ (l.Nodup ∧ ∀ a ∈ l, ¬ z.any (· == a) = true)) := by
    intro l
    induction l with
    | nil => intro z; simp
    | cons a l ih =>
      intro z
      rw [List.foldl_cons, List.length_cons, List.nodup_cons]
      have bound : ∀ (l z : List Str), (l.foldl addS z).length ≤ z.length + l.length := by
        intro l
        induction l with
        | nil => intro z; simp
        | cons a l ih =>
          intro z
          rw [List.foldl_cons, List.length_cons]
          refine Nat.le_trans (ih _) ?_
          rw [addS_len]
          split <;> omega
      by_cases h : z.any (· == a) = true
      · have e : addS z a = z := if_pos h
        rw [e]
        have := bound l z
        constructor
        · intro q; omega
        · rintro ⟨_, q⟩; exact absurd h (q a List.mem_cons_self)
      · have e : addS z a = z ++ [a] := if_neg h
        rw [e]
        have ih' := ih (z ++ [a])
        rw [List.length_append, List.length_singleton] at ih'
        rw [show z.length + (l.length + 1) = z.length + 1 + l.length by omega, ih']
        constructor
        · rintro ⟨h1, h2⟩
          refine ⟨⟨fun hm => ?_, h1⟩, fun b hb => ?_⟩
          · have := h2 a hm
            rw [List.any_append] at this
            simp at this
          · rcases List.mem_cons.mp hb with e | hb
            · rw [e]; exact h
            · have := h2 b hb
              rw [List.any_append] at this
              intro q
              rw [q] at this
              simp at this
        · rintro ⟨⟨h1, h2⟩, h3⟩
          refine ⟨h2, fun b hb => ?_⟩
          rw [List.any_append]
          have q := h3 b (List.mem_cons_of_mem _ hb)
          have nb : (a == b) = false := by
            rw [beq_eq_false_iff_ne]
            intro e
            exact h1 (e ▸ hb)
          simp only [Bool.not_eq_true] at q ⊢
          rw [q]
          simp [nb]
  have := key xs []
  simpa [once] using this

section
variable {prog : Program} {w : World} {A : Around} {R : Result → Shared → Prop} {I : Addr} {fp wr : List Addr} {G : Array GenState → Array GenState → Prop} {n : Nat} {P : Nat → Value → Prop} {St : Nat → Shared → Prop}
theorem set_loop (W : WalksS prog w A.in1 I fp wr G n P St) (S : Addr) (hSf : S ∉ fp) (xs : List Str) (hsz : xs.length = n) (hn : n + 1 < scanBound)
    (hval : ∀ i v, P i v → ∃ t, v = .str (xs.getD i Str.empty) t) :
    ∀ (k i : Nat) (s : Shared), n - i = k → i ≤ n → St i s →
      s.heap.SetOf (PySem.strKind prog w) S (fun k' => (once (xs.take i)).any (· == k')) (once (xs.take i)).length →
      (∀ s', Moved (S :: wr) G s s' → s'.heap.SetOf (PySem.strKind prog w) S (fun k' => (once xs).any (· == k')) (once xs).length → R (.ok (.ret .none)) s') →
      codeAny (model prog w) A (.builtin "set.update.loop" ⟨[.ref S, .ref I], []⟩) R s := by
  have hSw : S ∉ wr := fun h => hSf (W.sub _ h)
  have hsub : ∀ b ∈ wr, b ∈ S :: wr := fun b hb => List.mem_cons_of_mem _ hb
  intro k
  induction k with
  | zero =>
    intro i s hk hi hst hS hR
    have hin : i = n := by omega
    subst hin
    refine codeAny_builtin PyProof.Rows.F.entry_set_update_loop ?_
    rw [Around.under_plainId PyProof.Rows.F.plain_set_update_loop _]
    show wpAny _ A.in1 (pyNext (.ref I) >>= _) _ _ s
    refine wpAny_bind (W.done s _ _ hst fun s' hm => ?_)
    show wpAny _ A.in1 (ret Value.none) _ _ s'
    rw [← hsz, List.take_length] at hS
    exact wpAny_pure (hR s' (hm.mono hsub) (by
      obtain ⟨o, es, ep, t, ho, rest⟩ := hS
      exact ⟨o, es, ep, t, hm.heap S _ hSw ho, rest⟩))
  | succ k ih =>
    intro i s hk hi hst hS hR
    have hlt : i < n := by omega
    refine codeAny_builtin PyProof.Rows.F.entry_set_update_loop ?_
    rw [Around.under_plainId PyProof.Rows.F.plain_set_update_loop _]
    show wpAny _ A.in1 (pyNext (.ref I) >>= _) _ _ s
    refine wpAny_bind (W.item i s _ _ hlt hst fun v s' hP hst' hm => ?_)
    obtain ⟨t, rfl⟩ := hval i v hP
    have hS' : s'.heap.SetOf (PySem.strKind prog w) S (fun k' => (once (xs.take i)).any (· == k')) (once (xs.take i)).length := by
      obtain ⟨o, es, ep, tb, ho, rest⟩ := hS
      exact ⟨o, es, ep, tb, hm.heap S _ hSw ho, rest⟩
    have hle : (once (xs.take i)).length ≤ i := Nat.le_trans (once_le _) (by rw [List.length_take]; omega)
    show wpAny _ A.in1 (holding [Value.str (xs.getD i Str.empty) t] (setAdd S (.str (xs.getD i Str.empty) t)) >>= _) _ _ s'
    refine wpAny_bind (wpAny_holding ?_)
    unfold setAdd
    refine wpAny_holding ?_
    refine wpAny_bind ((PySem.strKind prog w).pyHash (k := xs.getD i Str.empty) (strKind_is _ _ _ _) ?_)
    refine wpAny_setAddHashed_of (knd := PySem.strKind prog w) (s := { s' with toks := s'.toks + 1 }) (strKind_is _ _ _ _) rfl hS' (by omega) fun h' hsb hS2 => ?_
    have hSi : h'.SetOf (PySem.strKind prog w) S (fun k' => (once (xs.take (i + 1))).any (· == k')) (once (xs.take (i + 1))).length := by
      rw [once_take (by omega)]
      exact SetOf_congr hS2 (fun k' => by rw [addS_any]) (by rw [addS_len])
    refine wpAny_pure ⟨plainId_quiet PyProof.Rows.F.plain_set_update_loop _, ih (i + 1) _ (by omega) hlt (W.frame _ s' _ _ hst' (Nat.le_succ _) fun b hb o e => ?_) hSi fun s'' hm'' hS'' => ?_⟩
    · rw [hsb.2 b (fun h : b = S => hSf (by rw [← h]; exact hb))]; exact e
    · refine hR s'' (Moved.trans W.gtrans ((hm.mono hsub).then_heap (Nat.le_succ _) fun b o hb e => ?_) hm'') hS''
      rw [hsb.2 b (fun h : b = S => hb (by rw [h]; exact List.mem_cons_self))]; exact e
end
section
variable {prog : Program} {w : World} {A : Around} {E : Value → Shared → Prop} {s : Shared}
theorem set_of_tuple {l : Addr} {items : Array Value} {xs : List Str} {Q : Value → Shared → Prop}
    (hh : A.handled = none) (hl : s.heap.IsTuple l items) (hi : PyProof.Rows.StrsAre items.toList xs) (hn1 : xs.length + 1 < scanBound)
    (h : ∀ (h' : Heap) (tk : Nat), h'.SetOf (PySem.strKind prog w) s.heap.objs.size (fun k' => (once xs).any (· == k')) (once xs).length →
      (∀ b o, b < s.heap.objs.size → s.heap.get? b = some o → h'.get? b = some o) → Q (.ref s.heap.objs.size) { s with heap := h', toks := tk }) :
    wpAny (model prog w) A (call (.type "set") [.ref l]) Q E s := by
  obtain ⟨c, tl, hmro⟩ := PySem.F.called_set.mro
  have hmade := PySem.F.called_set.made
  have hsub := PySem.F.called_set.sub
  have h1 := PySem.F.called_set.notType
  have h2 := PySem.F.called_set.canCreate
  have hct := PySem.F.typeCall_set_1 (.ref l)
  refine wpAny_call (codeAny_of_tree ?_)
  show wpAny _ _ (callAny (.type "set") _) _ _ _
  refine wpAny_pure ⟨Code.quiet_builtin _ (by decide +kernel), codeAny_builtin PySem.F.entry_type_call ?_⟩
  rw [Around.under_plain (weight_type_call_type "set" [.ref l] []) rfl]
  repeat (any_goals (first | assumption | wp_step))
  refine codeAny_mono (code_set_new_1 (.ref l) (E := E) (Q₁ := fun obj s₁ => ∃ led : Bool, obj = .ref s.heap.objs.size ∧ s₁ = { s with heap := s.heap.push { cls := .type "set", dict := none, data := .set #[] 0 (.fresh 0 0 led) } }) fun led => ⟨led, rfl, rfl⟩) fun r s₁ hr => ?_
  cases r with
  | error e => exact hr
  | ok fl =>
    cases fl with
    | ret obj =>
      obtain ⟨led, rfl, rfl⟩ := hr
      have hS : (s.heap.push { cls := .type "set", dict := none, data := .set #[] 0 (.fresh 0 0 led) }).get? s.heap.objs.size = some { cls := .type "set", dict := none, data := .set #[] 0 (.fresh 0 0 led) } := Heap.get?_push_size _ rfl
      have hT : Shared.TypeIs { s with heap := s.heap.push { cls := .type "set", dict := none, data := .set #[] 0 (.fresh 0 0 led) } } (.ref s.heap.objs.size) "set" := ⟨_, hS, rfl⟩
      have hli := PySem.F.called_set.init.lookup
      have hbi := PySem.F.called_set.init.bind (.ref s.heap.objs.size)
      repeat (any_goals (first | assumption | wp_step))
      refine codeAny_mono (codeAny_call_builtin (R := wants (fun r s₂ => r = .none ∧ ∃ h' tk, s₂ = { s with heap := h', toks := tk } ∧
          h'.SetOf (PySem.strKind prog w) s.heap.objs.size (fun k' => (once xs).any (· == k')) (once xs).length ∧
          (∀ b o, b < s.heap.objs.size → s.heap.get? b = some o → h'.get? b = some o)) E) PySem.F.called_set.init.plain PySem.F.entry_set_init (check_set_init_1 hT ?_)) fun r₂ s₂ hr₂ => ?_
      · obtain ⟨ol, hol, hcl, nl, hdl⟩ := hl
        obtain ⟨ocls, odict, odata, oslots⟩ := ol
        simp only at hcl hdl
        subst hcl; subst hdl
        have hol' : (s.heap.push { cls := .type "set", dict := none, data := .set #[] 0 (.fresh 0 0 led) }).get? l = some { cls := .type "tuple", dict := odict, data := .seq items nl, slots := oslots } := Heap.get?_push_of_some _ hol
        have hsls := PySem.F.sub_tuple_set
        have hslf := PySem.F.sub_tuple_frozenset
        have hne : (Value.type "tuple" == Value.type "dict") = false := by decide
        have hl1 : (s.heap.push { cls := .type "set", dict := none, data := .set #[] 0 (.fresh 0 0 led) }).IsTuple l items := ⟨_, hol', rfl, nl, rfl⟩
        unfold Builtin.«set.__init__» noKeywords Builtin.Frozenset.updateFrom
        generalize hPI : pyIter = PI
        wp_walk
        subst hPI
        refine wpAny_pyIter_tuple hl1 ?_
        refine wpAny_bind (wpAny_runValue ?_)
        have hlS : l < s.heap.objs.size := Heap.lt_size hol
        have hh3 : A.in1.in1.in1.handled = none := by simp [hh]
        have hneI : l ≠ (s.heap.push { cls := .type "set", dict := none, data := .set #[] 0 (.fresh 0 0 led) }).objs.size := by
          rw [Heap.size_push]; exact Nat.ne_of_lt (Nat.lt_succ_of_lt hlS)
        have hSf : s.heap.objs.size ∉ [(s.heap.push { cls := .type "set", dict := none, data := .set #[] 0 (.fresh 0 0 led) }).objs.size, l] := by
          rw [Heap.size_push]; simp only [List.mem_cons, List.mem_singleton, List.not_mem_nil, or_false, not_or]
          exact ⟨Nat.ne_of_lt (Nat.lt_succ_self _), Nat.ne_of_gt hlS⟩
        have hsz : xs.length = items.size := by rw [← StrsAre.len_eq hi, Array.length_toList]
        have hval : ∀ (i : Nat) (v : Value), items[i]? = some v → ∃ t, v = .str (xs.getD i Str.empty) t := fun i v hv => SS.strs_at hi i v (by rw [Array.getElem?_toList]; exact hv)
        refine set_loop ((Walks.tuple hh3 _ l hneI items).toS) s.heap.objs.size
          hSf xs hsz (by rw [← hsz]; exact hn1) hval (items.size - 0) 0 _ (by omega) (Nat.zero_le _)
          ⟨⟨_, Heap.get?_push_size _ rfl, rfl, rfl⟩, (hl1.push _)⟩ ?hS0 ?hR
        case hS0 =>
          have hget : ((s.heap.push { cls := .type "set", dict := none, data := .set #[] 0 (.fresh 0 0 led) }).push { cls := .type "tuple_iterator", data := .fields #[.ref l, .int 0 0] }).get? s.heap.objs.size
              = some { cls := .type "set", dict := none, data := .set #[] 0 (.fresh 0 0 led) } := Heap.get?_push_of_some _ hS
          exact PyProof.Rows.SetOf_congr ((PyProof.Rows.setObjOf_fresh (knd := PySem.strKind prog w) led).setOf hget (by unfold scanBound; omega)) (fun _ => rfl) rfl
        case hR =>
          intro s' hm hS'
          obtain ⟨h', g', d', tk', os'⟩ := s'
          have eg : g' = s.gens := hm.gens
          have ed : d' = s.drawn := hm.drawn
          have eo : os' = s.os := hm.os
          subst eg; subst ed; subst eo
          show wpAny _ _ _ _ _ _
          refine wpAny_pure ?_
          show wpAny _ _ (ret Value.none) _ _ _
          refine wpAny_pure ⟨rfl, h', tk', rfl, hS', fun b o hb e => ?_⟩
          have hb1 : b ≠ s.heap.objs.size := Nat.ne_of_lt hb
          have hb2 : b ≠ (s.heap.push { cls := .type "set", dict := none, data := .set #[] 0 (.fresh 0 0 led) }).objs.size := by
            rw [Heap.size_push]; exact Nat.ne_of_lt (Nat.lt_succ_of_lt hb)
          exact hm.heap b o (by simp only [List.mem_cons, List.mem_singleton, List.not_mem_nil, or_false, not_or]; exact ⟨hb1, hb2⟩) (Heap.get?_push_of_some _ (Heap.get?_push_of_some _ e))
      · cases r₂ with
        | error e => exact hr₂
        | ok fl₂ =>
          cases fl₂ with
          | ret r =>
            obtain ⟨rfl, h', tk, rfl, hS', hk'⟩ := hr₂
            repeat (any_goals (first | assumption | wp_step))
            exact h _ _ hS' hk'
          | _ => exact hr₂.elim
    | _ => exact hr.elim
end
/-- len(set(xs)), xs a tuple of texts -/
def tLenOnce (K : PySem.W.Frag) (ta : TE) : TE := fun σ H Q => ta σ H fun x H1 => ∃ (l : Addr) (xs : List Str), x = .ref l ∧ SqT K H1 l (xs.map V.str) ∧ xs.length ≤ 4000 ∧ Q (.int ((once xs).length : Nat)) H1
theorem pe_lenOnce {X : Cx} {a : Expr} {ta : TE} {p p2 q pos : Pos} (hc : X.calm = true) (hg : Gl X "len") (hm : X.mg "len" = none) (hg2 : Gl X "set") (hm2 : X.mg "set" = none) (ha : PE X a ta)
    (na : starEach [a] X.env = (false, eval a X.env) :: starEach [] X.env := by rfl) : PE X (.Call (.Name "len" p) [.Call (.Name "set" p2) [a] [] q] [] pos) (tLenOnce X.K ta) := by
  refine ⟨fun pins s σ H Q I h => ?_⟩
  refine Call_ (ld_blt I hg hm boot_len ?_)
  refine PyProof.Rows.callWith_builtin1 (PyProof.Rows.args_cons ?_ rfl) rfl rfl
  refine Call_ (ld_blt I hg2 hm2 boot_set ?_)
  refine PyProof.Rows.callWith_type1 (PyProof.Rows.args_cons (thn (ha.run pins s σ H _ I h) fun v s1 ⟨x, H1, I1, r1, q1⟩ => PyProof.Rows.args_nil ?_) na) na rfl
  obtain ⟨l, xs, rfl, hq, h1, q1⟩ := q1
  cases r1
  obtain ⟨its, r, pl, hz⟩ := I1.tuple hq
  refine set_of_tuple (I1.ok.hd hc) pl (by simpa using strsAre_of r) (by unfold scanBound; omega) fun h' tk hS hk => ?_
  refine PyProof.Rows.args_nil ?_
  have hle := once_le xs
  obtain ⟨o, es, ep, t, ho, hex, hd, _, _, _, hf, hn⟩ := hS
  have I2 : Inv X pins σ H1 { s1 with heap := h', toks := tk } := I1.kept fun b o e => hk b o (Heap.lt_size e) e
  exact call_len_set ho hex hd hf (by rw [hn] <;> omega) ⟨.int (once xs).length, H1, I2.tok _, ⟨_, by rw [hn]⟩, q1⟩
end Ov

set_option Elab.async false
set_option linter.all false
set_option maxRecDepth 100000
set_option maxHeartbeats 4000000
namespace Ov
open PySem PySem.Spec PyProof.Rows L2 GxR
/-! ### all, by its items -/
theorem all_str {x : Str} {te : TE} {cp : L2.St} {Q : VK} {H2 : Hp} (f : Nat → Bool) (he : ∀ c, ∀ R : VK, R (.bl (f c)) H2 → te (some (.str ⟨#[c]⟩) :: cp) H2 R) (q : Q (.bl (x.cps.toList.all f)) H2) :
    ∃ W : Nat → Nat → Hp → Prop, (∃ m, W 0 m H2) ∧ turnAll (Its x) te W cp Q := by
  refine ⟨fun i m H => H = H2 ∧ m = x.cps.size - i ∧ i ≤ x.cps.size ∧ (x.cps.toList.take i).all f = true, ⟨x.cps.size, rfl, by simp, Nat.zero_le _, rfl⟩, ?_⟩
  rintro i m H ⟨rfl, rfl, hi, ha⟩
  by_cases hlt : i < x.cps.size
  · refine .inr ⟨hlt, fun v H' hy => ?_⟩
    obtain ⟨rfl, c, hc, rfl⟩ := hy
    refine he c _ ⟨f c, rfl, ?_⟩
    have hcl : x.cps.toList[i]? = some c := by rw [Array.getElem?_toList]; exact hc
    cases hf : f c with
    | true =>
      refine iteT ⟨x.cps.size - (i + 1), by omega, rfl, rfl, hlt, ?_⟩
      rw [List.take_succ, hcl, List.all_append, ha]
      simp [hf]
    | false =>
      refine iteF ?_
      have e : x.cps.toList.all f = false := by
        rw [List.all_eq_false]
        exact ⟨c, List.mem_of_getElem? hcl, by simp [hf]⟩
      rw [← e]; exact q
  · have e : i = x.cps.size := by omega
    subst e
    refine .inl ⟨Nat.le_refl _, ?_⟩
    have e2 : x.cps.toList.take x.cps.size = x.cps.toList := by rw [List.take_of_length_le (by simp)]
    rw [e2] at ha
    rw [ha] at q
    exact q
theorem all_tup {K : PySem.W.Frag} {a : Addr} {xs : List V} {te : TE} {cp : L2.St} {Q : VK} {H2 : Hp} (f : V → Bool) (Pv : Hp → Prop) (h0 : Pv H2) (hs : ∀ H, Pv H → SqT K H a xs)
    (he : ∀ x ∈ xs, ∀ H, Pv H → ∀ R : VK, (∀ H', Pv H' → R (.bl (f x)) H') → te (some x :: cp) H R) (q : ∀ H, Pv H → Q (.bl (xs.all f)) H) :
    ∃ W : Nat → Nat → Hp → Prop, (∃ m, W 0 m H2) ∧ turnAll (Itt K a) te W cp Q := by
  refine ⟨fun i m H => Pv H ∧ m = xs.length - i ∧ i ≤ xs.length ∧ (xs.take i).all f = true, ⟨xs.length, h0, by simp, Nat.zero_le _, rfl⟩, ?_⟩
  rintro i m H ⟨hp, rfl, hi, ha⟩
  by_cases hlt : i < xs.length
  · refine .inr ⟨⟨xs, xs[i], hs H hp, List.getElem?_eq_getElem hlt⟩, fun v H' hy => ?_⟩
    obtain ⟨rfl, hy⟩ := hy
    have hv := hy xs (hs _ hp)
    refine he v (List.mem_of_getElem? hv) _ hp _ fun H'' hp'' => ⟨f v, rfl, ?_⟩
    cases hf : f v with
    | true =>
      refine iteT ⟨xs.length - (i + 1), by omega, hp'', rfl, hlt, ?_⟩
      rw [List.take_succ, hv, List.all_append, ha]
      simp [hf]
    | false =>
      refine iteF ?_
      have e : xs.all f = false := by
        rw [List.all_eq_false]
        exact ⟨v, List.mem_of_getElem? hv, by simp [hf]⟩
      rw [← e]; exact q _ hp''
  · have e : i = xs.length := by omega
    subst e
    refine .inl ⟨⟨xs, hs _ hp, Nat.le_refl _⟩, ?_⟩
    rw [List.take_length] at ha
    rw [← ha]
    exact q _ hp
/-! ### a def whose code object is known -/
structure FunC (K : PySem.W.Frag) (x qual : Str) (st : Stmt) (f : Addr) (fd : FuncData) (c : Addr) : Prop where
  ex : ∃ (oc : Value) (od : Option Addr) (kV doc pm : Value) (an : Option Addr) (ct : Value) (osl : Array (Option Value)),
    fd = PySem.W.fnOf x qual (defArgs st) (defBody st) (defScope st) .none kV doc pm an (.ref c) ct ∧ K.lookup f = some ⟨oc, od, .func fd, osl⟩ ∧ PySem.W.codeIn K (.ref c) qual = true
  kp : PySem.W.keepIn K (.ref f) = true
section
variable {P : Program} {w : World} {K : PySem.W.Frag} {mg : Str → Option Value} {base : Heap}
theorem FunC.ok {x qual : Str} {st : Stmt} {f c : Addr} {fd : FuncData} {N ps : List Str} {k : Nat} {sp : Sp} (F : FunC K x qual st f fd c) (S : FnScope N ps (defScope st)) (len : ∀ vs H Q E, sp vs H Q E → vs.length = ps.length)
    (hbody : ∀ (A : Around) (outer : List Env) (s : Shared) (H : Hp) (vs : List V) (Q : VK) (E : XK), Room k (A.deeper (envOfC qual (defScope st) s.heap.objs.size f (.ref c))) → sp vs H Q E →
      ∃ t, PSs (cxOf CX0 P w K mg base N qual (defScope st) f (.ref c) A outer s H E).nox (defBody st) t ∧ t { nx := fun _ H' => Q .non H', rt := Q } (start N vs) H) : FnOk P w K mg base CX0 (k + 1) f fd ps sp := by
  obtain ⟨oc, od, kV, doc, pm, an, ct, osl, rfl, lk, hcd⟩ := F.ex
  refine fn_of lk hcd S len fun A outer s H vs Q E hr hsp => ?_
  obtain ⟨t, h, q⟩ := hbody A outer s H vs Q E hr hsp
  exact ⟨t, h.nox, q⟩
theorem FunC.toFun {x qual : Str} {st : Stmt} {f c : Addr} {fd : FuncData} (F : FunC K x qual st f fd c) : Fun K x qual st f fd := by
  obtain ⟨oc, od, kV, doc, pm, an, ct, osl, e, lk, hcd⟩ := F.ex
  exact ⟨⟨oc, od, kV, doc, pm, an, _, ct, osl, e, lk, hcd⟩, F.kp⟩
theorem funC_mk {x qual : Str} {st : Stmt} {f c : Addr} {oc : Value} {od an : Option Addr} {osl : Array (Option Value)} {kV doc pm ct : Value} (l : K.lookup f = some ⟨oc, od, .func (PySem.W.fnOf x qual (defArgs st) (defBody st) (defScope st) .none kV doc pm an (.ref c) ct), osl⟩)
    (hc : PySem.W.codeIn K (.ref c) qual = true) (k : PySem.W.keepIn K (.ref f) = true) : FunC K x qual st f (PySem.W.fnOf x qual (defArgs st) (defBody st) (defScope st) .none kV doc pm an (.ref c) ct) c := ⟨⟨oc, od, kV, doc, pm, an, ct, osl, rfl, l, hc⟩, k⟩
end
/-! ### heaps that differ in the tables of the defs alone -/
/-- the tables at T may grow; nothing else has changed -/
def Tbs (T : List Addr) (H H' : Hp) : Prop := (∀ P ∈ T, TabG H' P) ∧ ∀ b, b ∉ T → H' b = H b
/-- .. what stood stands -/
def Kep (T : List Addr) (H H' : Hp) : Prop := (∀ P ∈ T, TabG H' P) ∧ ∀ b o, b ∉ T → H b = some o → H' b = some o
theorem Tbs.refl {T : List Addr} {H : Hp} (h : ∀ P ∈ T, TabG H P) : Tbs T H H := ⟨h, fun _ _ => rfl⟩
theorem Tbs.trans {T : List Addr} {H H1 H2 : Hp} (a : Tbs T H H1) (b : Tbs T H1 H2) : Tbs T H H2 := ⟨b.1, fun c hc => (b.2 c hc).trans (a.2 c hc)⟩
theorem Tbs.kep {T : List Addr} {H H' : Hp} (a : Tbs T H H') : Kep T H H' := ⟨a.1, fun b o hb e => (a.2 b hb).trans e⟩
theorem Kep.refl {T : List Addr} {H : Hp} (h : ∀ P ∈ T, TabG H P) : Kep T H H := ⟨h, fun _ _ _ e => e⟩
theorem Kep.trans {T : List Addr} {H H1 H2 : Hp} (a : Kep T H H1) (b : Kep T H1 H2) : Kep T H H2 := ⟨b.1, fun c o hc e => b.2 c o hc (a.2 c o hc e)⟩
theorem Tbs.of1 {T : List Addr} {H H' : Hp} {P : Addr} (h : ∀ p ∈ T, TabG H p) (hP : P ∈ T) (t : Tabbed P H H') : Tbs T H H' := by
  refine ⟨fun p hp => ?_, fun b hb => t.2 b fun z => hb (by rw [z]; exact hP)⟩
  by_cases e : p = P
  · rw [e]; exact t.1
  · obtain ⟨ps, h1, h2⟩ := h p hp
    exact ⟨ps, (t.2 p e).trans h1, h2⟩
/-- a tracked thing of another kind is no table -/
theorem not_tab {T : List Addr} {H : Hp} {b : Addr} {o : HO} (h : ∀ p ∈ T, TabG H p) (e : H b = some o) (n : ∀ ps, o ≠ .tbl ps) : b ∉ T := fun z => by
  obtain ⟨ps, h1, _⟩ := h b z
  rw [e] at h1
  exact n ps (Option.some.inj h1)
theorem free_tab {T : List Addr} {H : Hp} {b : Addr} (h : ∀ p ∈ T, TabG H p) (e : H b = none) : b ∉ T := fun z => by
  obtain ⟨ps, h1, _⟩ := h b z
  rw [e] at h1
  cases h1
theorem Kep.at {T : List Addr} {H H' : Hp} {b : Addr} {o : HO} (a : Kep T H H') (h : ∀ p ∈ T, TabG H p) (e : H b = some o) (n : ∀ ps, o ≠ .tbl ps) : H' b = some o := a.2 b o (not_tab h e n) e
/-- a new thing -/
theorem Kep.new {T : List Addr} {H : Hp} {p : Addr} {o : HO} (h : ∀ q ∈ T, TabG H q) (e : H p = none) : Kep T H (upd H p o) := by
  refine ⟨fun q hq => ?_, fun b u _ hb => ?_⟩
  · obtain ⟨ps, h1, h2⟩ := h q hq
    exact ⟨ps, (upd_ne (ne_of_none h1 e)).trans h1, h2⟩
  · exact (upd_ne (ne_of_none hb e)).trans hb
/-- a list that was not there at H may be written -/
theorem Kep.put {T : List Addr} {H H1 : Hp} {p : Addr} {o : HO} (a : Kep T H H1) (e : H p = none) (n : p ∉ T) : Kep T H (upd H1 p o) := by
  refine ⟨fun q hq => ?_, fun b u hb hu => ?_⟩
  · obtain ⟨ps, h1, h2⟩ := a.1 q hq
    exact ⟨ps, (upd_ne (fun z => n (by rw [← z]; exact hq))).trans h1, h2⟩
  · exact (upd_ne (ne_of_none hu e)).trans (a.2 b u hb hu)
theorem Kep.seqL {T : List Addr} {K : PySem.W.Frag} {H H' : Hp} {a : Addr} {xs : List V} (k : Kep T H H') (h : ∀ p ∈ T, TabG H p) (e : SqL K H a xs) : SqL K H' a xs := by
  rcases e with (e | ⟨o, e⟩) | e
  · exact .inl (.inl (k.at h e fun _ z => by cases z))
  · exact .inl (.inr ⟨o, k.at h e fun _ z => by cases z⟩)
  · exact .inr e
theorem Kep.seqT {T : List Addr} {K : PySem.W.Frag} {H H' : Hp} {a : Addr} {xs : List V} (k : Kep T H H') (h : ∀ p ∈ T, TabG H p) (e : SqT K H a xs) : SqT K H' a xs := by
  rcases e with (e | ⟨o, e⟩) | e
  · exact .inl (.inl (k.at h e fun _ z => by cases z))
  · exact .inl (.inr ⟨o, k.at h e fun _ z => by cases z⟩)
  · exact .inr e
theorem Kep.free {T : List Addr} {H H' : Hp} {b : Addr} (k : Kep T H H') (h : ∀ p ∈ T, TabG H p) (e : H' b = none) : H b = none := by
  cases q : H b with
  | none => rfl
  | some o =>
    by_cases hb : b ∈ T
    · obtain ⟨ps, h1, _⟩ := k.1 b hb
      rw [h1] at e; cases e
    · rw [k.2 b o hb q] at e; cases e
end Ov
namespace Ov
open PySem PySem.Spec PyProof.Rows L2 GxR
theorem one_lt (a b : Nat) : ([a] < [b]) ↔ a < b := by
  rw [List.cons_lt_cons_iff]
  constructor
  · rintro (h | ⟨_, h⟩)
    · exact h
    · exact absurd h (by simp)
  · exact .inl
/-! ### a generator's names, by a check -/
def genC (N : List Str) (sc scope : Scope) (x : Str) (cs : List Str) (pick : List Nat) : Bool :=
  (scope.kind == .function) && (scope.isCoroutine == false) && (scope.names.all fun y => y.2 != .cell) && (scope.names.lookup (".0" : Str) == some NameKind.local) && (scope.names.lookup x == some NameKind.local) &&
  (scope.names.all fun y => y.2 != .free || (sc.names.lookup y.1 == some NameKind.cell)) && (scope.names.all fun y => scope.names.lookup y.1 == some y.2) && decide ((x :: cs).Nodup) && (cs.length == pick.length) &&
  ((cs.zip pick).all fun p => (scope.names.lookup p.1 == some NameKind.free) && (sc.names.lookup p.1 == some NameKind.cell) && (N[p.2]? == some p.1))
theorem genN_by {X : Cx} {N : List Str} {sc scope : Scope} {x : Str} {cs : List Str} {pick : List Nat} (hN : X.N = N) (hs : X.env.scope = sc) (hc : ∀ y, sc.names.lookup y = some .cell → ∃ c, X.env.cells.lookup y = some c) (h : genC N sc scope x cs pick = true) : GenN X scope x cs pick := by
  unfold genC at h
  simp only [Bool.and_eq_true, beq_iff_eq, decide_eq_true_eq] at h
  obtain ⟨⟨⟨⟨⟨⟨⟨⟨⟨h1, h2⟩, h3⟩, h4⟩, h5⟩, h6⟩, h7⟩, h8⟩, h9⟩, h10⟩ := h
  refine ⟨⟨h1, h2, fun y hy e => ?_, h4, h5, fun y hy e => ?_⟩, fun y hy => ?_, h8, h9, fun i y hi => ?_⟩
  · have := List.all_eq_true.mp h3 y hy
    rw [e] at this
    exact absurd this (by decide)
  · have := List.all_eq_true.mp h6 y hy
    rw [e] at this
    simp only [bne_self_eq_false, Bool.false_or, beq_iff_eq] at this
    exact hc y.1 this
  · exact beq_iff_eq.mp (List.all_eq_true.mp h7 y hy)
  · obtain ⟨j, hj⟩ : ∃ j, pick[i]? = some j := by
      have : i < pick.length := by rw [← h9]; exact (List.getElem?_eq_some_iff.mp hi).1
      exact ⟨_, List.getElem?_eq_getElem this⟩
    have hz : (cs.zip pick)[i]? = some (y, j) := by
      rw [List.getElem?_zip_eq_some]
      exact ⟨hi, hj⟩
    have := List.all_eq_true.mp h10 (y, j) (List.mem_of_getElem? hz)
    simp only [Bool.and_eq_true, beq_iff_eq] at this
    obtain ⟨⟨q1, q2⟩, q3⟩ := this
    exact ⟨q1, .inl (by rw [hs]; exact q2), j, hj, by rw [hN]; exact q3⟩
end Ov

set_option Elab.async false
set_option linter.all false
set_option maxRecDepth 100000
set_option maxHeartbeats 4000000
/-! the end of a law with the tables of defs at the top -/
namespace Ov
open PySem PySem.Spec PyProof.Rows L2 GxR
def TabsT (q : Program) (K : PySem.W.Frag) (h : Heap) : Prop := ∀ (x : Str) (c P : Addr), ((recsOf q).find? (fun e => e.name == x)).isSome = true → PySem.W.tabIn K x = some (c, P) → PySem.W.CodeHd h c P ∧ h.get? P = some { cls := .none, data := .fields #[] }
theorem walk_T {l : PySem.W.OpenLaw} {n k : Nat} {q : Program} {loose : List Str} {XP : (Str → Option Value) → Heap → Prop} {YP : World → Heap → Prop} {d : DefRec} {K : Params → PySem.W.Frag} {x : Str}
    (hn : l.most = some n) (hn2 : n ≤ sizeLine) (hdf : d.params.defaults = []) (hr : Room k callerA) (hY : ∀ (w : World) (h : Heap), YP w h → (K w.params).In h)
    (F : ∀ (w : World) (mg : Str → Option Value) (fa : Addr) (h : Heap), YP w h → (K w.params).In h → h.Ns mainGlobals mg → mg d.name = some (.ref fa) → TabsT q (K w.params) h → LamX.LawAtS l w (K w.params) CX0 k n x mg fa h) :
    PySem.W.WalkO q loose XP YP l.row.toRowW d [] (fun f vs => PySem.call f vs) := by
  refine Att.attach_callB hn hdf fun w s₀ s₁ mg mb fa o pm cd doc a vs ns G Y ho hd hcd hmg hobj hints hlen hbits hg => ?_
  have KX := hY w _ Y
  have tabs : TabsT q (K w.params) s₁.heap := fun x c P h1 h2 => by
    obtain ⟨d', hd'⟩ := Option.isSome_iff_exists.mp h1
    exact PySem.W.tab_of G.T KX hd' h2
  obtain ⟨fd, cs, sp, hT, nT, C, hb, hsp, hF⟩ := F w mg fa _ Y KX G.T.g hmg tabs
  exact LamX.law_callTs KX G.T.g G.T.b G.T.builtins G.T.nolimit hg hT nT C G.T.bmain hobj hints (Nat.le_trans hlen hn2) hr hF hb (fun H hH hS => hsp H a ns hlen hbits hH hS) fun H e s' z => z
end Ov

set_option Elab.async false
set_option linter.all false
set_option maxRecDepth 100000
set_option maxHeartbeats 4000000
/-! defs that run where no printing is under way: what repr wants to know -/
namespace Ov
open PySem PySem.Spec PyProof.Rows L2 GxR
/-- a def's promise at the places where no repr is under way -/
structure FnG (P : Program) (w : World) (K : PySem.W.Frag) (mg : Str → Option Value) (base : Heap) (CX : CXT) (k : Nat) (f : Addr) (fd : FuncData) (ps : List Str) (sp : Sp) : Prop where
  len : ∀ vs H Q E, sp vs H Q E → vs.length = ps.length
  run : ∀ (A : Around) (fr : List Env) (s : Shared) (H : Hp) (args : Args) (us : List Value) (vs : List V) (Q : VK) (E : XK), A.guards = some [] → Room k A → Env0 P w K mg base A fr s H → BindsTo s fd args (ps.zip us) → Vals vs us → sp vs H Q E →
    codeAny (model P w) A (.call (.ref f) args) (CR CX fr P w H s Q E) s
theorem FnOk.toG {P : Program} {w : World} {K : PySem.W.Frag} {mg : Str → Option Value} {base : Heap} {CX : CXT} {k : Nat} {f : Addr} {fd : FuncData} {ps : List Str} {sp : Sp} (F : FnOk P w K mg base CX k f fd ps sp) : FnG P w K mg base CX k f fd ps sp :=
  ⟨F.len, fun A fr s H args us vs Q E _ => F.run A fr s H args us vs Q E⟩
section
variable {P : Program} {w : World} {K : PySem.W.Frag} {mg : Str → Option Value} {base : Heap}
/-- as Fun.ok; the body knows the guards -/
theorem fun_okG {x qual : Str} {st : Stmt} {f : Addr} {fd : FuncData} {N ps : List Str} {k : Nat} {sp : Sp} (F : L2.Fun K x qual st f fd) (S : FnScope N ps (defScope st)) (len : ∀ vs H Q E, sp vs H Q E → vs.length = ps.length)
    (body : ∀ (cdv : Value) (A : Around) (fr : List Env) (s : Shared) (H : Hp) (vs : List V) (Q : VK) (E : XK), (A.deeper (envOfC qual (defScope st) s.heap.objs.size f cdv)).guards = some [] → Room k (A.deeper (envOfC qual (defScope st) s.heap.objs.size f cdv)) → sp vs H Q E →
      ∃ t, PSs (cxOf CX0 P w K mg base N qual (defScope st) f cdv A fr s H E).nox (defBody st) t ∧ t { nx := fun _ H' => Q .non H', rt := Q } (start N vs) H) : FnG P w K mg base CX0 (k + 1) f fd ps sp := by
  obtain ⟨oc, od, kV, doc, pm, an, cdv, ct, osl, rfl, lk, hcd⟩ := F.ex
  refine ⟨len, fun A fr s H args us vs Q E hg hr e0 hb rv hs => ?_⟩
  refine LamX.run_ofS lk hcd S hr e0 hb rv (len _ _ _ _ hs) fun hr' => ?_
  obtain ⟨t, h, q⟩ := body cdv A fr s H vs Q E (by simpa [Around.deeper] using hg) hr' hs
  exact ⟨t, h.nox, q⟩
end
section
variable {X : Cx} {CX : CXT} {k : Nat} {f : Addr} {fd : FuncData} {ps : List Str} {sp : Sp} {E : XK} {x : Str} {p pos : Pos} {e : Expr} {es : List Expr} {t : TA}
/-- f(..) where the guards are known -/
theorem pe_callG (F : FnG X.prog X.w X.K X.mg X.base CX k f fd ps sp) (hg0 : X.A.guards = some []) (hr : Room k X.A) (hg : Gl X x) (hm : X.mg x = some (.ref f)) (hk : PySem.W.keepIn X.K (.ref f) = true) (hb : Binds X.K fd ps []) (hx : Passes CX X E) (ha : PA X (e :: es) t)
    (hdb : (x == ("__debug__" : Str)) = false := by decide) (he : starEach (e :: es) X.env = (false, eval e X.env) :: starEach es X.env := by rfl) (hpl : (backTo pos (starEach es X.env)).any (·.1) = false := by rfl) :
    PE X (.Call (.Name x p) (e :: es) [] pos) (tCall sp [] E t) := by
  refine ⟨fun pins s σ H Q I h => ?_⟩
  refine wpAny_Call_Name_kw (ld_glob I hg hm ?_ hdb)
  refine PySem.W.callWith_K (h₀ := X.base) I.ok.mod.kin hk (thn (ha.run pos pins s σ H _ I h) fun us s1 ⟨vs, H1, I1, r, q⟩ => ⟨I1.kIn, ?_⟩) he hpl
  have q : sp vs H1 Q E := by
    have z : sp (vs ++ []) H1 Q E := q
    rwa [List.append_nil] at z
  have hl : us.length = ps.length := by rw [← r.length]; exact F.len _ _ _ _ q
  have b := hb s1 us I1.kIn (by rw [List.append_nil]; exact hl)
  rw [List.append_nil] at b
  refine wpAny_call (codeAny_mono (F.run X.A X.stack s1 H1 ⟨us, []⟩ us vs Q E hg0 hr I1.env0 b r q) fun rr s' hq => ?_)
  cases rr with
  | error er => exact hx pins σ H1 s1 er s' I1 hq
  | ok fl =>
    cases fl with
    | ret u => exact I1.after hq
    | next => exact False.elim hq
    | brk => exact False.elim hq
    | cont => exact False.elim hq
end
/-! ### the end -/
/-- the script at a (as o has it) and the empty tables are tracked, nothing else -/
def trackH (cs : List (Addr × Addr)) (a : Addr) (o : Option HO) : Hp := fun b => if b = a then o else if b ∈ cs.map (·.2) then some (.tbl #[]) else none
theorem law_callG {P : Program} {w : World} {K : PySem.W.Frag} {mg mb : Str → Option Value} {fa a : Addr} {cs : List (Addr × Addr)} {s₁ : Shared} {vs : List Value} {ns : List Int}
    (KX : K.In s₁.heap) (gl : s₁.heap.Ns mainGlobals mg) (bl : s₁.heap.Ns builtinsNs mb) (bb : ∀ x : Str, x ≠ "__name__" → mb x = bootBuiltins x) (lim : s₁.heap.NoLimit) (nog : s₁.gens = #[])
    (tabs : ∀ p ∈ cs, s₁.heap.get? p.2 = some { cls := .none, data := .fields #[] }) (nT : ∀ p ∈ cs, K.lookup p.2 = none) (Cd : ∀ p ∈ cs, PySem.W.CodeHd s₁.heap p.1 p.2)
    (bmod : ∃ (bm : Addr) (ob : Obj), mg "__builtins__" = some (.ref bm) ∧ bm ≠ builtinsNs ∧ s₁.heap.get? bm = some ob ∧ ob.cls = .type "module" ∧ ob.dict = some builtinsNs ∧ ob.data = .plain)
    (ha : s₁.heap.get? a = some { cls := .type "list", data := .seq vs.toArray }) (hi : IntsAre vs ns) (hl : ns.length ≤ sizeLine)
    (F : ∀ (base : Heap) (H : Hp), K.In base → base.Ns mainGlobals mg → (∀ p ∈ cs, LamX.TabB base mg p.1 p.2) → Env0 P w K mg base callerA [] s₁ H → (∀ p ∈ cs, H p.2 = some (.tbl #[])) → SqL K H a (ns.map V.int) →
      codeAny (model P w) callerA (.call (.ref fa) ⟨[.ref a], []⟩) (CR CX0 [] P w H s₁ (fun v _ => v = .bl true) fun _ _ _ => False) s₁) :
    codeAny (model P w) callerA (.call (.ref fa) ⟨[.ref a], []⟩) (fun r s' => r = .ok (.ret (.bool true)) ∧ OldK s₁.heap s'.heap ∧ s'.os = s₁.os ∧ AllBare s'.gens) s₁ := by
  have rel := vals_ints hi
  have nl : ns.length = vs.length := hi.length.symm
  have memT : ∀ p ∈ cs, p.2 ∈ cs.map (·.2) := fun p hp => List.mem_map.mpr ⟨p, hp, rfl⟩
  have tabT : ∀ b ∈ cs.map (·.2), s₁.heap.get? b = some { cls := .none, data := .fields #[] } := fun b hb => by
    obtain ⟨p, hp, rfl⟩ := List.mem_map.mp hb
    exact tabs p hp
  have aT : a ∉ cs.map (·.2) := fun z => by
    have q := (tabT a z).symm.trans ha
    cases q
  -- the way, once the script's place is chosen
  have go : ∀ o : Option HO, SqL K (trackH cs a o) a (ns.map V.int) → (∀ u, o = some u → ObjOk P w (trackH cs a o) s₁.heap a u ∧ K.lookup a = none ∧ ∃ ob xs, u = .frz ob (.lst xs)) →
      codeAny (model P w) callerA (.call (.ref fa) ⟨[.ref a], []⟩) (fun r s' => r = .ok (.ret (.bool true)) ∧ OldK s₁.heap s'.heap ∧ s'.os = s₁.os ∧ AllBare s'.gens) s₁ := by
    intro o seq hob
    generalize hH : trackH cs a o = H at seq hob
    have Ha : H a = o := by rw [← hH]; exact if_pos rfl
    have HT : ∀ b ∈ cs.map (·.2), H b = some (.tbl #[]) := fun b hb => by
      have ne : b ≠ a := fun z => aT (z ▸ hb)
      rw [← hH]
      exact (if_neg ne).trans (if_pos hb)
    have HN : ∀ b, b ≠ a → b ∉ cs.map (·.2) → H b = none := fun b h1 h2 => by
      rw [← hH]
      exact (if_neg h1).trans (if_neg h2)
    -- what is neither the script nor a table is not tracked
    have un1 : ∀ {b : Addr} {u : Obj}, s₁.heap.get? b = some u → (∀ k n, u.data ≠ .seq k n) → u.data ≠ .fields #[] → H b = none := fun {b u} e n1 n2 => by
      refine HN b (fun z => ?_) fun z => ?_
      · subst z
        rw [ha] at e
        exact n1 _ _ (by rw [← Option.some.inj e])
      · rw [tabT b z] at e
        exact n2 (by rw [← Option.some.inj e])
    have hok : HOk P w H s₁.heap := fun b u e => by
      by_cases h1 : b = a
      · subst h1
        rw [Ha] at e
        exact (hob u e).1
      · by_cases h2 : b ∈ cs.map (·.2)
        · rw [HT b h2] at e
          cases e
          exact tabT b h2
        · rw [HN b h1 h2] at e
          cases e
    have ns1 : ∀ {b : Addr} {m : Str → Option Value}, s₁.heap.Ns b m → (hidT s₁.heap H).Ns b m := fun {b m} ⟨u, es, ep, e, d, r⟩ =>
      ⟨u, es, ep, hidT_get e (un1 e (fun k n z => by rw [d] at z; cases z) fun z => by rw [d] at z; cases z), d, r⟩
    have kb : K.In (hidT s₁.heap H) := fun b u e => by
      refine hidT_get (KX b u e) ?_
      by_cases h1 : b = a
      · subst h1
        rw [Ha]
        cases ho : o with
        | none => rfl
        | some u' =>
          have z := (hob u' ho).2.1
          rw [e] at z
          cases z
      · refine HN b h1 fun z => ?_
        obtain ⟨p, hp, rfl⟩ := List.mem_map.mp z
        rw [nT p hp] at e
        cases e
    have md : L2.Mod K mg (hidT s₁.heap H) := ⟨kb, ns1 gl, ⟨mb, ns1 bl, bb⟩, by
      obtain ⟨mc, q1, q2⟩ := lim
      exact ⟨mc, ns1 q1, q2⟩⟩
    have TB : ∀ p ∈ cs, LamX.TabB (hidT s₁.heap H) mg p.1 p.2 := fun p hp => by
      have tp := tabs p hp
      refine ⟨?_, ?_, fun z => ?_⟩
      · obtain ⟨u, us, fl, tf, fg, tg, inF, tx, tt, c1, c2, c3, c4, c5, c6, c7, c8, c9, cne⟩ := Cd p hp
        exact ⟨u, us, fl, tf, fg, tg, inF, tx, tt, hidT_get c1 (un1 c1 (fun k n z => by rw [c3] at z; cases z) fun z => by rw [c3] at z; cases z; simp at c4), c2, c3, c4, c5, c6, c7, c8, c9, cne⟩
      · obtain ⟨bm, ob, m1, m2, m3, m4, m5, m6⟩ := bmod
        refine ⟨bm, ob, m1, m2, fun q => ?_, fun q => ?_, hidT_get m3 (un1 m3 (fun k n z => by rw [m6] at z; cases z) fun z => by rw [m6] at z; cases z), m4, m5, m6⟩
        · obtain ⟨u, es, ep, e, hd, _⟩ := gl
          rw [q, e] at m3
          cases m3
          rw [hd] at m6
          cases m6
        · rw [q, tp] at m3
          cases m3
          cases m6
      · obtain ⟨u, es, ep, e, hd, _⟩ := gl
        rw [z, tp] at e
        cases e
        cases hd
    have env : Env0 P w K mg (hidT s₁.heap H) callerA [] s₁ H := ⟨rfl, md, fun b u e => of_hidT e, Nat.le_of_eq (hidT_size _ _), trivial, fun b hb => (by cases hb), hok, .of_eq nog⟩
    refine codeAny_mono (F _ H kb (ns1 gl) TB env (fun p hp => HT _ (memT p hp)) seq) fun r s' h => ?_
    cases r with
    | error e => exact False.elim h
    | ok f =>
      cases f with
      | next => exact False.elim h
      | brk => exact False.elim h
      | cont => exact False.elim h
      | ret u =>
        obtain ⟨v, H', os, bare, un, hok', rv, q⟩ := h
        have qv : v = .bl true := q
        subst qv
        obtain rfl : u = Value.bool true := rv
        have stays : ∀ b u, b ∉ cs.map (·.2) → s₁.heap.get? b = some u → s'.heap.get? b = some u := fun b u nb e => by
          by_cases h1 : b = a
          · subst h1
            cases ho : o with
            | none =>
              have hn : H b = none := Ha.trans ho
              exact un.keep b u e hn (by intro z; cases z) (by simp)
            | some u' =>
              obtain ⟨ok1, _, ob, xs, rfl⟩ := hob u' ho
              have z1 : H b = some (.frz ob (.lst xs)) := Ha.trans ho
              have z2 := un.frzs b ob _ z1
              have e1 := (hok b _ z1).1
              have e2 := (hok' b _ z2).1
              rw [e] at e1
              cases e1
              exact e2
          · exact un.keep b u e (HN b h1 nb) (by intro z; cases z) (by simp)
        have grow : ∀ p ∈ cs, ∃ more : Array Value, s'.heap.get? p.2 = some { cls := .none, data := .fields more } := fun p hp => by
          obtain ⟨more, z⟩ := un.tbls p.2 #[] (HT _ (memT p hp))
          exact ⟨_, hok' p.2 _ z⟩
        refine ⟨rfl, ⟨fun b u e => ?_, fun b u e => ?_⟩, os, bare⟩
        · by_cases hb : b ∈ cs.map (·.2)
          · obtain ⟨p, hp, rfl⟩ := List.mem_map.mp hb
            obtain ⟨more, hm⟩ := grow p hp
            have eu := (tabs p hp).symm.trans e
            cases eu
            exact .inr (.inl ⟨((Cd p hp).tab (tabs p hp)).isCodeTable, rfl, #[], more, rfl, by rw [Array.empty_append]; exact hm⟩)
          · exact .inl (stays b u hb e)
        · by_cases hb : b ∈ cs.map (·.2)
          · obtain ⟨p, hp, rfl⟩ := List.mem_map.mp hb
            obtain ⟨more, hm⟩ := grow p hp
            exact ⟨_, hm⟩
          · exact ⟨u, stays b u hb e⟩
  cases hk : K.lookup a with
  | some u =>
    have e := (KX a u hk).symm.trans ha
    cases e
    exact go none (.inr ⟨_, vs.toArray, _, hk, rfl, rfl, rfl, by rw [List.size_toArray, ← nl]; exact hl, by simpa using rel⟩) fun u z => by cases z
  | none =>
    refine go (some (.frz { cls := .type "list", data := .seq vs.toArray } (.lst (ns.map V.int)))) (.inl (.inr ⟨_, if_pos rfl⟩)) fun u z => ?_
    cases z
    exact ⟨⟨ha, by rw [List.length_map]; exact hl, vs, _, rel, ha⟩, hk, _, _, rfl⟩
end Ov

set_option Elab.async false
set_option linter.all false
set_option maxRecDepth 100000
set_option maxHeartbeats 4000000
/-! the end of a law whose defs know the guards -/
namespace Ov
open PySem PySem.Spec PyProof.Rows L2 GxR
/-- as the library's for defs alone, with FnG -/
def LawAtG (l : PySem.W.OpenLaw) (w : World) (K : PySem.W.Frag) (k n : Nat) (x : Str) (mg : Str → Option Value) (fa : Addr) (h : Heap) : Prop :=
  ∃ (fd : FuncData) (cs : List (Addr × Addr)) (sp : Sp), (∀ p ∈ cs, h.get? p.2 = some { cls := .none, data := .fields #[] }) ∧ (∀ p ∈ cs, K.lookup p.2 = none) ∧ (∀ p ∈ cs, PySem.W.CodeHd h p.1 p.2) ∧ (∀ (s : Shared) (u : Value), BindsTo s fd ⟨[u], []⟩ [(x, u)]) ∧
    (∀ (H : Hp) (a : Addr) (ns : List Int), ns.length ≤ n → (∀ p ∈ cs, H p.2 = some (.tbl #[])) → SqL K H a (ns.map V.int) → sp [.ref a] H (fun v _ => v = .bl true) fun _ _ _ => False) ∧
    ∀ base : Heap, K.In base → base.Ns mainGlobals mg → (∀ p ∈ cs, LamX.TabB base mg p.1 p.2) → FnG l.prog w K mg base CX0 k fa fd [x] sp
theorem walk_TG {l : PySem.W.OpenLaw} {n k : Nat} {q : Program} {loose : List Str} {XP : (Str → Option Value) → Heap → Prop} {YP : World → Heap → Prop} {d : DefRec} {K : Params → PySem.W.Frag} {x : Str}
    (hn : l.most = some n) (hn2 : n ≤ sizeLine) (hdf : d.params.defaults = []) (hr : Room k callerA) (hY : ∀ (w : World) (h : Heap), YP w h → (K w.params).In h)
    (F : ∀ (w : World) (mg : Str → Option Value) (fa : Addr) (h : Heap), YP w h → (K w.params).In h → h.Ns mainGlobals mg → mg d.name = some (.ref fa) → TabsT q (K w.params) h → LawAtG l w (K w.params) k n x mg fa h) :
    PySem.W.WalkO q loose XP YP l.row.toRowW d [] (fun f vs => PySem.call f vs) := by
  refine Att.attach_callB hn hdf fun w s₀ s₁ mg mb fa o pm cd doc a vs ns G Y ho hd hcd hmg hobj hints hlen hbits hg => ?_
  have KX := hY w _ Y
  have tabs : TabsT q (K w.params) s₁.heap := fun x c P h1 h2 => by
    obtain ⟨d', hd'⟩ := Option.isSome_iff_exists.mp h1
    exact PySem.W.tab_of G.T KX hd' h2
  obtain ⟨fd, cs, sp, hT, nT, C, hb, hsp, hF⟩ := F w mg fa _ Y KX G.T.g hmg tabs
  exact law_callG KX G.T.g G.T.b G.T.builtins G.T.nolimit hg hT nT C G.T.bmain hobj hints (Nat.le_trans hlen hn2) fun base H KB GB TB env hH hS =>
    (hF base KB GB TB).run callerA [] s₁ H ⟨[.ref a], []⟩ [.ref a] [V.ref a] _ _ rfl hr env (hb s₁ (.ref a)) (.cons rfl .nil) (hsp H a ns hlen hH hS)
end Ov

set_option Elab.async false
set_option linter.all false
set_option maxRecDepth 100000
set_option maxHeartbeats 2000000
/-! a Hook whose defs are found by a path, with one Bool for all other facts -/
namespace Ov
open PySem PySem.Spec PyProof.Rows L2
structure DefP where
  at_ : PySem.W.Frag → Addr
  name : Str
  qual : Str
  params : Arguments
  body : List Stmt
  scope : Scope
def fnWP (K : PySem.W.Frag) (a : Addr) : He.FnW := match K.lookup a with
  | some ⟨_, _, .func fd, _⟩ => some (fd.name, fd.qualname, fd.params, fd.body, fd.scope, fd.globals, fd.closure, fd.builtins)
  | _ => none
def DefP.val (d : DefP) : He.FnW := some (d.name, d.qual, d.params, .stmts d.body, d.scope, mainGlobals, [], builtinsNs)
def DefP.ok (K : PySem.W.Frag) (d : DefP) : Bool := PySem.W.keepIn K (.ref (d.at_ K)) && (match K.lookup (d.at_ K) with
  | some ⟨_, _, .func fd, _⟩ => PySem.W.codeIn K fd.code d.qual && He.dflB K fd.defaults []
  | _ => false)
theorem DefP.look {K : PySem.W.Frag} {d : DefP} (e : fnWP K (d.at_ K) = d.val) (c : d.ok K = true) : ∃ oc od kV dc pm an cd ct sl, K.lookup (d.at_ K) = some ⟨oc, od, .func (PySem.W.fnOf d.name d.qual d.params d.body d.scope .none kV dc pm an cd ct), sl⟩ ∧ PySem.W.codeIn K cd d.qual = true ∧ PySem.W.keepIn K (.ref (d.at_ K)) = true := by
  obtain ⟨kp, c2⟩ := He.ba c
  unfold fnWP at e
  cases q : K.lookup (d.at_ K) with
  | none =>
    rw [q] at c2
    cases c2
  | some o =>
    obtain ⟨oc, od, dt, osl⟩ := o
    rw [q] at c2 e
    cases dt with
    | func fd =>
      obtain ⟨n1, n2, n3, n4, n5, n6, n7, n8, n9, n10, n11, n12, n13, n14, n15⟩ := fd
      have e2 : (some (n1, n2, n3, n4, n5, n6, n7, n15) : He.FnW) = some (d.name, d.qual, d.params, .stmts d.body, d.scope, mainGlobals, [], builtinsNs) := e
      simp only [Option.some.injEq, Prod.mk.injEq] at e2
      obtain ⟨h1, h2, h3, h4, h5, h6, h7, h8⟩ := e2
      subst h1 h2 h3 h4 h5 h6 h7 h8
      obtain ⟨k1, k2⟩ := He.ba (show (PySem.W.codeIn K n13 d.qual && He.dflB K n8 []) = true from c2)
      have hn : n8 = .none := by
        cases n8 with
        | none => rfl
        | _ => cases k2
      subst hn
      exact ⟨oc, od, n9, n10, n11, n12, n13, n14, osl, rfl, k1, kp⟩
    | _ => cases c2
/-! ### the Hook -/
abbrev TabP : Type := PySem.W.Frag → Addr × Addr
structure SaysP (fn : List DefP) (tf : List TabP) (ex : PySem.W.Frag → Bool) (h : Heap) (K : PySem.W.Frag) : Prop where
  ok : (fn.all fun d => d.ok K) = true
  defs : (fn.map fun d => fnWP K (d.at_ K)) = fn.map DefP.val
  more : ex K = true
  hd : ∀ p ∈ tf, PySem.W.codeHdIn K (p K).1 (p K).2 = true
  out : ∀ p ∈ tf, K.lookup (p K).2 = none
  empty : ∀ p ∈ tf, h.get? (p K).2 = some { cls := .none, data := .fields #[] }
abbrev AlP : Type := (Bool × List He.FnW) × Bool
def tabsP (g : Addr → Option Obj) (tf : List TabP) (K : PySem.W.Frag) : Bool := tf.all fun p => PySem.W.codeHdIn K (p K).1 (p K).2 && (match g (p K).2 with
  | some o => He.emptyTab o
  | none => false)
def obsP (as : List Addr) (fn : List DefP) (tf : List TabP) (ex : PySem.W.Frag → Bool) (g : Addr → Option Obj) : AlP :=
  (((fn.all fun d => d.ok (He.frT g (as))), fn.map fun d => fnWP (He.frT g (as)) (d.at_ (He.frT g (as)))), ex (He.frT g (as)) && tabsP g tf (He.frT g (as)))
def valP (fn : List DefP) : AlP := ((true, fn.map DefP.val), true)
theorem saysP_of {as : List Addr} {fn : List DefP} {tf : List TabP} {ex : PySem.W.Frag → Bool} {h : Heap} (e : obsP as fn tf ex h.get? = valP fn) : SaysP fn tf ex h (He.frT h.get? as) := by
  have e1 := congrArg (fun z : AlP => z.1.1) e
  have e2 := congrArg (fun z : AlP => z.1.2) e
  have e3 : (ex (He.frT h.get? as) && tabsP h.get? tf (He.frT h.get? as)) = true := congrArg (fun z : AlP => z.2) e
  obtain ⟨h1, h2⟩ := He.ba e3
  have key : ∀ p ∈ tf, PySem.W.codeHdIn (He.frT h.get? as) (p (He.frT h.get? as)).1 (p (He.frT h.get? as)).2 = true ∧ ∃ o, h.get? (p (He.frT h.get? as)).2 = some o ∧ He.emptyTab o = true := fun p hp => by
    obtain ⟨h3, h4⟩ := He.ba (List.all_eq_true.mp h2 p hp)
    refine ⟨h3, ?_⟩
    cases q : h.get? (p (He.frT h.get? as)).2 with
    | none =>
      rw [q] at h4
      cases h4
    | some o =>
      rw [q] at h4
      exact ⟨o, rfl, h4⟩
  exact ⟨e1, e2, h1, fun p hp => (key p hp).1, fun p hp => by
    obtain ⟨_, o, q, z⟩ := key p hp
    exact He.frT_none q z, fun p hp => by
    obtain ⟨_, o, q, z⟩ := key p hp
    rw [q, He.emptyTab_eq z]⟩
def hookP (as : List Addr) (fn : List DefP) (tf : List TabP) (ex : PySem.W.Frag → Bool) : PySem.W.Hook where
  α := AlP
  obs := fun s => obsP as fn tf ex s.heap.get?
  val := fun _ => valP fn
  says := fun _ h => ∃ K : PySem.W.Frag, K.In h ∧ SaysP fn tf ex h K
  of := fun _ _ e => ⟨_, He.frT_in, saysP_of e⟩
  keeps := fun _ _ _ ⟨K, hK, c⟩ k => ⟨K, PySem.W.Frag.In.keeps hK k, ⟨c.ok, c.defs, c.more, c.hd, c.out, fun p hp => k _ _ (c.empty p hp)⟩⟩
theorem obsP_eq {as : List Addr} {fn : List DefP} {tf : List TabP} {ex : PySem.W.Frag → Bool} {g : Addr → Option Obj} {s : Shared} (h : ∀ a, g a = s.heap.get? a) : obsP as fn tf ex g = (hookP as fn tf ex).obs s := by
  have e : g = s.heap.get? := funext h
  rw [e] <;> rfl
theorem SaysP.def_ {fn : List DefP} {tf : List TabP} {ex : PySem.W.Frag → Bool} {h : Heap} {K : PySem.W.Frag} (c : SaysP fn tf ex h K) (i : Nat) {d : DefP} (hi : fn[i]? = some d := by rfl) :
    ∃ oc od kV dc pm an cd ct sl, K.lookup (d.at_ K) = some ⟨oc, od, .func (PySem.W.fnOf d.name d.qual d.params d.body d.scope .none kV dc pm an cd ct), sl⟩ ∧ PySem.W.codeIn K cd d.qual = true ∧ PySem.W.keepIn K (.ref (d.at_ K)) = true := by
  have e2 : (fn.map fun d => fnWP K (d.at_ K))[i]? = (fn.map DefP.val)[i]? := by rw [c.defs]
  rw [List.getElem?_map, List.getElem?_map, hi] at e2
  exact DefP.look (Option.some.inj e2) (List.all_eq_true.mp c.ok d (List.mem_of_getElem? hi))
instance : DecidableEq PySem.W.CFound := fun a b => match a, b with
  | .val x, .val y => if h : x = y then isTrue (by rw [h]) else isFalse (fun e => h (by injection e))
  | .get a b c d, .get a' b' c' d' => if h : a = a' ∧ b = b' ∧ c = c' ∧ d = d' then isTrue (by obtain ⟨rfl, rfl, rfl, rfl⟩ := h; rfl) else isFalse (fun e => h (by injection e with h1 h2 h3 h4; exact ⟨h1, h2, h3, h4⟩))
  | .val _, .get _ _ _ _ => isFalse (fun e => by cases e)
  | .get _ _ _ _, .val _ => isFalse (fun e => by cases e)
/-! ### code objects, lists of facts -/
def codeP (K : PySem.W.Frag) (a : Addr) : Addr := match K.lookup a with
  | some ⟨_, _, .func fd, _⟩ => (match fd.code with
    | .ref c => c
    | _ => 0)
  | _ => 0
theorem codeP_eq {K : PySem.W.Frag} {a : Addr} {oc : Value} {od : Option Addr} {fd : FuncData} {sl : Array (Option Value)} {q : Str} (lk : K.lookup a = some ⟨oc, od, .func fd, sl⟩) (co : PySem.W.codeIn K fd.code q = true) : fd.code = .ref (codeP K a) := by
  obtain ⟨c, e⟩ := He.codeIn_ref co
  unfold codeP
  rw [lk]
  show fd.code = .ref (match fd.code with | .ref c => c | _ => 0)
  rw [e]
theorem all_at {l : List Bool} (h : l.all id = true) (i : Nat) {b : Bool} (e : l[i]? = some b) : b = true := List.all_eq_true.mp h b (List.mem_of_getElem? e)
/-- the walk: the written part comes from the Hook -/
theorem walk_TGP {l : PySem.W.OpenLaw} {n k : Nat} {q : Program} {loose : List Str} {XP : (Str → Option Value) → Heap → Prop} {YP : World → Heap → Prop} {d : DefRec} {x : Str}
    (hn : l.most = some n) (hn2 : n ≤ sizeLine) (hdf : d.params.defaults = []) (hr : Room k callerA)
    (F : ∀ (w : World) (mg : Str → Option Value) (fa : Addr) (h : Heap), YP w h → h.Ns mainGlobals mg → mg d.name = some (.ref fa) → ∃ K : PySem.W.Frag, K.In h ∧ LawAtG l w K k n x mg fa h) :
    PySem.W.WalkO q loose XP YP l.row.toRowW d [] (fun f vs => PySem.call f vs) := by
  refine Att.attach_callB hn hdf fun w s₀ s₁ mg mb fa o pm cd doc a vs ns G Y ho hd hcd hmg hobj hints hlen hbits hg => ?_
  obtain ⟨K, KX, fd, cs, sp, hT, nT, C, hb, hsp, hF⟩ := F w mg fa _ Y G.T.g hmg
  exact law_callG KX G.T.g G.T.b G.T.builtins G.T.nolimit hg hT nT C G.T.bmain hobj hints (Nat.le_trans hlen hn2) fun base H KB GB TB env hH hS =>
    (hF base KB GB TB).run callerA [] s₁ H ⟨[.ref a], []⟩ [.ref a] [V.ref a] _ _ rfl hr env (hb s₁ (.ref a)) (.cons rfl .nil) (hsp H a ns hlen hH hS)
end Ov

set_option Elab.async false
set_option linter.all false
set_option maxRecDepth 100000
set_option maxHeartbeats 4000000
namespace Ov
open PySem PySem.Spec PyProof.Rows L2 GxR
def top (i : Nat) : Stmt := PySem.Challenge.pw_overstamps_k42_numbers_of_parts_shown.main.body.getD i (.Pass ⟨0, 0, 0, 0⟩)
abbrev sLow : Stmt := top 40
abbrev sText : Stmt := top 41
abbrev sAre : Stmt := top 43
abbrev sInit : Stmt := inClass (top 45) 1
abbrev sOf : Stmt := inClass (top 45) 2
abbrev sTape : Stmt := top 64
abbrev sNext : Stmt := top 65
abbrev sInks : Stmt := top 66
abbrev sStrip : Stmt := top 42
abbrev sOver : Stmt := top 44
abbrev sWords : Stmt := inClass (top 45) 3
abbrev sWidth : Stmt := inClass (top 45) 4
abbrev sCall : Stmt := inClass (top 45) 7
abbrev sSpots : Stmt := top 22
abbrev sKinds : Stmt := top 23
abbrev sPInit : Stmt := inClass (top 24) 0
abbrev sBInit : Stmt := inClass (top 47) 3
abbrev sNamed : Stmt := inClass (top 47) 4
abbrev sStamps : Stmt := inClass (top 47) 5
abbrev sAg : Stmt := top 53
abbrev sFe : Stmt := top 54
abbrev sNe : Stmt := top 55
abbrev sChkT : Stmt := inClass (top 47) 12
abbrev sTo : Stmt := top 57
abbrev sIsI : Stmt := top 15
abbrev sIe : Stmt := top 58
abbrev sAe : Stmt := top 59
abbrev sIt : Stmt := top 60
abbrev sHa : Stmt := top 61
abbrev sLb : Stmt := top 56
abbrev sSh : Stmt := top 62
abbrev sMk : Stmt := top 67
abbrev sMd : Stmt := top 68
abbrev sLa : Stmt := top 69
abbrev sLe : Stmt := top 70
abbrev sLi : Stmt := top 71
abbrev sRx : Stmt := top 72
abbrev sLy : Stmt := top 73
end Ov
set_option Elab.async false
set_option linter.all false
set_option maxRecDepth 100000
set_option maxHeartbeats 0
namespace Ov
open PySem PySem.Spec PyProof.Rows L2 GxR
def q_fLow (K : PySem.W.Frag) : Addr := match PySem.W.nsIn K mainGlobals "is_lowercase" with
  | some (some (.ref z)) => z
  | _ => default
def q_fText (K : PySem.W.Frag) : Addr := match PySem.W.nsIn K mainGlobals "is_text" with
  | some (some (.ref z)) => z
  | _ => default
def q_fAre (K : PySem.W.Frag) : Addr := match PySem.W.nsIn K mainGlobals "are_stamps" with
  | some (some (.ref z)) => z
  | _ => default
def q_fAe (K : PySem.W.Frag) : Addr := match PySem.W.nsIn K mainGlobals "are_entries" with
  | some (some (.ref z)) => z
  | _ => default
def q_fSh (K : PySem.W.Frag) : Addr := match PySem.W.nsIn K mainGlobals "shows" with
  | some (some (.ref z)) => z
  | _ => default
def q_fTape (K : PySem.W.Frag) : Addr := match PySem.W.nsIn K mainGlobals "_law_vat" with
  | some (some (.ref z)) => z
  | _ => default
def q_fNext (K : PySem.W.Frag) : Addr := match PySem.W.nsIn K mainGlobals "_law_sip" with
  | some (some (.ref z)) => z
  | _ => default
def q_fInks (K : PySem.W.Frag) : Addr := match PySem.W.nsIn K mainGlobals "_law_words" with
  | some (some (.ref z)) => z
  | _ => default
def q_fAg (K : PySem.W.Frag) : Addr := match PySem.W.nsIn K mainGlobals "agreeing" with
  | some (some (.ref z)) => z
  | _ => default
def q_fFe (K : PySem.W.Frag) : Addr := match PySem.W.nsIn K mainGlobals "first_entries" with
  | some (some (.ref z)) => z
  | _ => default
def q_fNe (K : PySem.W.Frag) : Addr := match PySem.W.nsIn K mainGlobals "next_entries" with
  | some (some (.ref z)) => z
  | _ => default
def q_fTo (K : PySem.W.Frag) : Addr := match PySem.W.nsIn K mainGlobals "table_of" with
  | some (some (.ref z)) => z
  | _ => default
def q_fInt (K : PySem.W.Frag) : Addr := match PySem.W.nsIn K mainGlobals "is_integer" with
  | some (some (.ref z)) => z
  | _ => default
def q_fIe (K : PySem.W.Frag) : Addr := match PySem.W.nsIn K mainGlobals "is_entry" with
  | some (some (.ref z)) => z
  | _ => default
def q_fIt (K : PySem.W.Frag) : Addr := match PySem.W.nsIn K mainGlobals "is_table" with
  | some (some (.ref z)) => z
  | _ => default
def q_fHa (K : PySem.W.Frag) : Addr := match PySem.W.nsIn K mainGlobals "has_all" with
  | some (some (.ref z)) => z
  | _ => default
def q_fLb (K : PySem.W.Frag) : Addr := match PySem.W.nsIn K mainGlobals "last_bounds" with
  | some (some (.ref z)) => z
  | _ => default
def q_fMk (K : PySem.W.Frag) : Addr := match PySem.W.nsIn K mainGlobals "_law_mark" with
  | some (some (.ref z)) => z
  | _ => default
def q_fMd (K : PySem.W.Frag) : Addr := match PySem.W.nsIn K mainGlobals "_law_made" with
  | some (some (.ref z)) => z
  | _ => default
def q_fLa (K : PySem.W.Frag) : Addr := match PySem.W.nsIn K mainGlobals "_law_agreeing" with
  | some (some (.ref z)) => z
  | _ => default
def q_fLe (K : PySem.W.Frag) : Addr := match PySem.W.nsIn K mainGlobals "_law_least" with
  | some (some (.ref z)) => z
  | _ => default
def q_fLi (K : PySem.W.Frag) : Addr := match PySem.W.nsIn K mainGlobals "_law_listed" with
  | some (some (.ref z)) => z
  | _ => default
def q_fRt (K : PySem.W.Frag) : Addr := match PySem.W.nsIn K mainGlobals "_law_right" with
  | some (some (.ref z)) => z
  | _ => default
def q_fLaw (K : PySem.W.Frag) : Addr := match PySem.W.nsIn K mainGlobals "law" with
  | some (some (.ref z)) => z
  | _ => default
def q_tW (K : PySem.W.Frag) : Tok := match PySem.W.nsIn K mainGlobals "WIDEST" with
  | some (some (.int _ z)) => z
  | _ => default
def q_tM (K : PySem.W.Frag) : Tok := match PySem.W.nsIn K mainGlobals "MOST_LETTERS" with
  | some (some (.int _ z)) => z
  | _ => default
def q_tUn (K : PySem.W.Frag) : Tok := match PySem.W.nsIn K mainGlobals "UNREADABLE" with
  | some (some (.str _ z)) => z
  | _ => default
def q_C (K : PySem.W.Frag) : Addr := match PySem.W.nsIn K mainGlobals "Stamps" with
  | some (some (.ref z)) => z
  | _ => default
def q_fInit (K : PySem.W.Frag) : Addr := match PySem.W.findIn K (.ref (q_C K)) "__init__" with
  | some (some (.ref z)) => z
  | _ => default
def q_tMost (K : PySem.W.Frag) : Tok := match PySem.W.findCls K (.ref (q_C K)) (.type "type") "MOST" with
  | some (.val (.int _ z)) => z
  | _ => default
def q_pO (K : PySem.W.Frag) : Addr := match PySem.W.findCls K (.ref (q_C K)) (.type "type") "of" with
  | some (.get (.builtin _) (.ref z) .none (.ref _)) => z
  | _ => default
def q_gO (K : PySem.W.Frag) : Addr := match PySem.W.recIn K (q_pO K) "classmethod" with
  | some (.ref z :: _) => z
  | _ => default
def q_restO (K : PySem.W.Frag) : List Value := match PySem.W.recIn K (q_pO K) "classmethod" with
  | some (.ref _ :: z) => z
  | _ => default
def q_pWi (K : PySem.W.Frag) : Addr := match PySem.W.findIn K (.ref (q_C K)) "width" with
  | some (some (.ref z)) => z
  | _ => default
def q_fWi (K : PySem.W.Frag) : Addr := match PySem.W.recIn K (q_pWi K) "property" with
  | some (.ref z :: _) => z
  | _ => default
def q_restWi (K : PySem.W.Frag) : List Value := match PySem.W.recIn K (q_pWi K) "property" with
  | some (.ref _ :: z) => z
  | _ => default
def q_pWo (K : PySem.W.Frag) : Addr := match PySem.W.findIn K (.ref (q_C K)) "words" with
  | some (some (.ref z)) => z
  | _ => default
def q_fWo (K : PySem.W.Frag) : Addr := match PySem.W.recIn K (q_pWo K) "property" with
  | some (.ref z :: _) => z
  | _ => default
def q_restWo (K : PySem.W.Frag) : List Value := match PySem.W.recIn K (q_pWo K) "property" with
  | some (.ref _ :: z) => z
  | _ => default
def q_D (K : PySem.W.Frag) : Addr := match PySem.W.nsIn K mainGlobals "InvalidStamps" with
  | some (some (.ref z)) => z
  | _ => default
def q_DN (K : PySem.W.Frag) : Addr := match PySem.W.nsIn K mainGlobals "InvalidName" with
  | some (some (.ref z)) => z
  | _ => default
def q_DTx (K : PySem.W.Frag) : Addr := match PySem.W.nsIn K mainGlobals "InvalidText" with
  | some (some (.ref z)) => z
  | _ => default
def q_b0 (K : PySem.W.Frag) : Addr := match PySem.W.nsIn K mainGlobals "Line" with
  | some (some (.ref z)) => z
  | _ => default
def q_fB (K : PySem.W.Frag) : Addr := match PySem.W.findIn K (.ref (q_b0 K)) "__init__" with
  | some (some (.ref z)) => z
  | _ => default
def q_u0 (K : PySem.W.Frag) : Tok := match PySem.W.findCls K (.ref (q_b0 K)) (.type "type") "NAME" with
  | some (.val (.str _ z)) => z
  | _ => default
def q_v0 (K : PySem.W.Frag) : Tok := match PySem.W.findIn K (.ref (q_b0 K)) "NAME" with
  | some (some (.str _ z)) => z
  | _ => default
def q_w0 (K : PySem.W.Frag) : Tok := match PySem.W.findIn K (.ref (q_b0 K)) "CELLS" with
  | some (some (.int _ z)) => z
  | _ => default
def q_pN (K : PySem.W.Frag) : Addr := match PySem.W.findCls K (.ref (q_b0 K)) (.type "type") "named" with
  | some (.get (.builtin _) (.ref z) .none (.ref _)) => z
  | _ => default
def q_pS (K : PySem.W.Frag) : Addr := match PySem.W.findIn K (.ref (q_b0 K)) "stamps" with
  | some (some (.ref z)) => z
  | _ => default
def q_fKn (K : PySem.W.Frag) : Addr := match PySem.W.findIn K (.ref (q_b0 K)) "_knows" with
  | some (some (.ref z)) => z
  | _ => default
def q_fCk (K : PySem.W.Frag) : Addr := match PySem.W.findIn K (.ref (q_b0 K)) "_check_stamping" with
  | some (some (.ref z)) => z
  | _ => default
def q_fCs (K : PySem.W.Frag) : Addr := match PySem.W.findIn K (.ref (q_b0 K)) "check_strip" with
  | some (some (.ref z)) => z
  | _ => default
def q_b1 (K : PySem.W.Frag) : Addr := match PySem.W.nsIn K mainGlobals "Window" with
  | some (some (.ref z)) => z
  | _ => default
def q_u1 (K : PySem.W.Frag) : Tok := match PySem.W.findCls K (.ref (q_b1 K)) (.type "type") "NAME" with
  | some (.val (.str _ z)) => z
  | _ => default
def q_v1 (K : PySem.W.Frag) : Tok := match PySem.W.findIn K (.ref (q_b1 K)) "NAME" with
  | some (some (.str _ z)) => z
  | _ => default
def q_w1 (K : PySem.W.Frag) : Tok := match PySem.W.findIn K (.ref (q_b1 K)) "CELLS" with
  | some (some (.int _ z)) => z
  | _ => default
def q_b2 (K : PySem.W.Frag) : Addr := match PySem.W.nsIn K mainGlobals "Ring" with
  | some (some (.ref z)) => z
  | _ => default
def q_u2 (K : PySem.W.Frag) : Tok := match PySem.W.findCls K (.ref (q_b2 K)) (.type "type") "NAME" with
  | some (.val (.str _ z)) => z
  | _ => default
def q_v2 (K : PySem.W.Frag) : Tok := match PySem.W.findIn K (.ref (q_b2 K)) "NAME" with
  | some (some (.str _ z)) => z
  | _ => default
def q_w2 (K : PySem.W.Frag) : Tok := match PySem.W.findIn K (.ref (q_b2 K)) "CELLS" with
  | some (some (.int _ z)) => z
  | _ => default
def q_b3 (K : PySem.W.Frag) : Addr := match PySem.W.nsIn K mainGlobals "Band" with
  | some (some (.ref z)) => z
  | _ => default
def q_u3 (K : PySem.W.Frag) : Tok := match PySem.W.findCls K (.ref (q_b3 K)) (.type "type") "NAME" with
  | some (.val (.str _ z)) => z
  | _ => default
def q_v3 (K : PySem.W.Frag) : Tok := match PySem.W.findIn K (.ref (q_b3 K)) "NAME" with
  | some (some (.str _ z)) => z
  | _ => default
def q_w3 (K : PySem.W.Frag) : Tok := match PySem.W.findIn K (.ref (q_b3 K)) "CELLS" with
  | some (some (.int _ z)) => z
  | _ => default
def q_gN (K : PySem.W.Frag) : Addr := match PySem.W.recIn K (q_pN K) "classmethod" with
  | some (.ref z :: _) => z
  | _ => default
def q_restN (K : PySem.W.Frag) : List Value := match PySem.W.recIn K (q_pN K) "classmethod" with
  | some (.ref _ :: z) => z
  | _ => default
def q_gS (K : PySem.W.Frag) : Addr := match PySem.W.recIn K (q_pS K) "property" with
  | some (.ref z :: _) => z
  | _ => default
def q_restS (K : PySem.W.Frag) : List Value := match PySem.W.recIn K (q_pS K) "property" with
  | some (.ref _ :: z) => z
  | _ => default
def q_fF0 (K : PySem.W.Frag) : Addr := match PySem.W.findIn K (.ref (q_b0 K)) "fits" with
  | some (some (.ref z)) => z
  | _ => default
def q_fS0 (K : PySem.W.Frag) : Addr := match PySem.W.findIn K (.ref (q_b0 K)) "stamped" with
  | some (some (.ref z)) => z
  | _ => default
def q_fF1 (K : PySem.W.Frag) : Addr := match PySem.W.findIn K (.ref (q_b1 K)) "fits" with
  | some (some (.ref z)) => z
  | _ => default
def q_fS1 (K : PySem.W.Frag) : Addr := match PySem.W.findIn K (.ref (q_b1 K)) "stamped" with
  | some (some (.ref z)) => z
  | _ => default
def q_fF2 (K : PySem.W.Frag) : Addr := match PySem.W.findIn K (.ref (q_b2 K)) "fits" with
  | some (some (.ref z)) => z
  | _ => default
def q_fS2 (K : PySem.W.Frag) : Addr := match PySem.W.findIn K (.ref (q_b2 K)) "stamped" with
  | some (some (.ref z)) => z
  | _ => default
def q_CP (K : PySem.W.Frag) : Addr := match PySem.W.nsIn K mainGlobals "Pieces" with
  | some (some (.ref z)) => z
  | _ => default
def q_fP (K : PySem.W.Frag) : Addr := match PySem.W.findIn K (.ref (q_CP K)) "__init__" with
  | some (some (.ref z)) => z
  | _ => default
def q_fSp (K : PySem.W.Frag) : Addr := match PySem.W.nsIn K mainGlobals "spots_of" with
  | some (some (.ref z)) => z
  | _ => default
def q_fKi (K : PySem.W.Frag) : Addr := match PySem.W.nsIn K mainGlobals "kinds_of" with
  | some (some (.ref z)) => z
  | _ => default
def q_fCt (K : PySem.W.Frag) : Addr := match PySem.W.findIn K (.ref (q_b0 K)) "check_text" with
  | some (some (.ref z)) => z
  | _ => default
def q_cLow (K : PySem.W.Frag) : Addr := codeP K (q_fLow K)
def q_PLow (K : PySem.W.Frag) : Addr := He.tabOf K (q_cLow K)
def q_cAre (K : PySem.W.Frag) : Addr := codeP K (q_fAre K)
def q_PAre (K : PySem.W.Frag) : Addr := He.tabOf K (q_cAre K)
def q_cAe (K : PySem.W.Frag) : Addr := codeP K (q_fAe K)
def q_PAe (K : PySem.W.Frag) : Addr := He.tabOf K (q_cAe K)
def q_cSh (K : PySem.W.Frag) : Addr := codeP K (q_fSh K)
def q_PSh (K : PySem.W.Frag) : Addr := He.tabOf K (q_cSh K)
def fs0 (K : PySem.W.Frag) : List Bool := [decide (PySem.W.nsIn K mainGlobals "is_lowercase" = some (some (.ref (q_fLow K)))), decide (PySem.W.nsIn K mainGlobals "is_text" = some (some (.ref (q_fText K)))), decide (PySem.W.nsIn K mainGlobals "are_stamps" = some (some (.ref (q_fAre K)))), decide (PySem.W.nsIn K mainGlobals "are_entries" = some (some (.ref (q_fAe K)))), decide (PySem.W.nsIn K mainGlobals "shows" = some (some (.ref (q_fSh K)))), decide (PySem.W.nsIn K mainGlobals "_law_vat" = some (some (.ref (q_fTape K)))), decide (PySem.W.nsIn K mainGlobals "_law_sip" = some (some (.ref (q_fNext K)))), decide (PySem.W.nsIn K mainGlobals "_law_words" = some (some (.ref (q_fInks K)))), decide (PySem.W.nsIn K mainGlobals "agreeing" = some (some (.ref (q_fAg K)))), decide (PySem.W.nsIn K mainGlobals "first_entries" = some (some (.ref (q_fFe K)))), decide (PySem.W.nsIn K mainGlobals "next_entries" = some (some (.ref (q_fNe K)))), decide (PySem.W.nsIn K mainGlobals "table_of" = some (some (.ref (q_fTo K)))), decide (PySem.W.nsIn K mainGlobals "is_integer" = some (some (.ref (q_fInt K)))), decide (PySem.W.nsIn K mainGlobals "is_entry" = some (some (.ref (q_fIe K)))), decide (PySem.W.nsIn K mainGlobals "is_table" = some (some (.ref (q_fIt K)))), decide (PySem.W.nsIn K mainGlobals "has_all" = some (some (.ref (q_fHa K)))), decide (PySem.W.nsIn K mainGlobals "last_bounds" = some (some (.ref (q_fLb K)))), decide (PySem.W.nsIn K mainGlobals "_law_mark" = some (some (.ref (q_fMk K)))), decide (PySem.W.nsIn K mainGlobals "_law_made" = some (some (.ref (q_fMd K)))), decide (PySem.W.nsIn K mainGlobals "_law_agreeing" = some (some (.ref (q_fLa K)))), decide (PySem.W.nsIn K mainGlobals "_law_least" = some (some (.ref (q_fLe K)))), decide (PySem.W.nsIn K mainGlobals "_law_listed" = some (some (.ref (q_fLi K)))), decide (PySem.W.nsIn K mainGlobals "_law_right" = some (some (.ref (q_fRt K)))), decide (PySem.W.nsIn K mainGlobals "law" = some (some (.ref (q_fLaw K)))), decide (PySem.W.nsIn K mainGlobals "WIDEST" = some (some (.int 8 (q_tW K)))), decide (PySem.W.nsIn K mainGlobals "MOST_LETTERS" = some (some (.int 36 (q_tM K)))), decide (PySem.W.nsIn K mainGlobals "UNREADABLE" = some (some (.str "?" (q_tUn K)))), decide (PySem.W.nsIn K mainGlobals "Stamps" = some (some (.ref (q_C K)))), decide (PySem.W.readsIn K (q_C K) (.type "type") = true), decide (PySem.W.specialIn K (.ref (q_C K)) "__getattribute__" = some (some (.builtin "type.__getattribute__"))), decide (PySem.W.plainGet K (q_C K) Str.empty = true), decide (PySem.W.hasDictIn K (q_C K) = true), decide (PySem.W.plainOver K (q_C K) = true), decide (PySem.W.findIn K (.ref (q_C K)) "__setattr__" = some (some (.builtin "object.__setattr__"))), decide (PySem.W.makesIn K (q_C K) = true), decide (PySem.W.keepIn K (.ref (q_C K)) = true), decide (PySem.W.findIn K (.ref (q_C K)) "__init__" = some (some (.ref (q_fInit K)))), decide (PySem.W.isFn K (.ref (q_fInit K)) = true), decide (PySem.W.findIn K (.ref (q_C K)) "_words" = some none), decide (PySem.W.findCls K (.ref (q_C K)) (.type "type") "MOST" = some (.val (.int 6 (q_tMost K))))]
def fs1 (K : PySem.W.Frag) : List Bool := [decide (PySem.W.findCls K (.ref (q_C K)) (.type "type") "of" = some (.get (.builtin "classmethod.__get__") (.ref (q_pO K)) .none (.ref (q_C K)))), decide (PySem.W.recIn K (q_pO K) "classmethod" = some (.ref (q_gO K) :: (q_restO K))), decide (PySem.W.fnIn K (q_gO K) = true), decide (PySem.W.findIn K (.ref (q_C K)) "width" = some (some (.ref (q_pWi K)))), decide (PySem.W.specialIn K (.ref (q_pWi K)) "__get__" = some (some (.builtin "property.__get__"))), decide (PySem.W.takesIn K (.ref (q_pWi K)) = some true), decide (PySem.W.recIn K (q_pWi K) "property" = some (.ref (q_fWi K) :: (q_restWi K))), decide (PySem.W.findIn K (.ref (q_C K)) "words" = some (some (.ref (q_pWo K)))), decide (PySem.W.specialIn K (.ref (q_pWo K)) "__get__" = some (some (.builtin "property.__get__"))), decide (PySem.W.takesIn K (.ref (q_pWo K)) = some true), decide (PySem.W.recIn K (q_pWo K) "property" = some (.ref (q_fWo K) :: (q_restWo K))), decide (PySem.W.nsIn K mainGlobals "InvalidStamps" = some (some (.ref (q_D K)))), decide (PySem.W.excIn K (q_D K) [.type "ValueError", .type "Exception", .type "BaseException", .type "object"] "ValueError.__new__" = true), decide (PySem.W.keepIn K (.ref (q_D K)) = true), decide (PySem.W.subIn K (.ref (q_D K)) (.type "BaseException") = some true), decide (PySem.W.typeIn K (.ref (q_D K)) = some (.type "type")), decide (PySem.W.nsIn K mainGlobals "InvalidName" = some (some (.ref (q_DN K)))), decide (PySem.W.excIn K (q_DN K) [.type "ValueError", .type "Exception", .type "BaseException", .type "object"] "ValueError.__new__" = true), decide (PySem.W.keepIn K (.ref (q_DN K)) = true), decide (PySem.W.subIn K (.ref (q_DN K)) (.type "BaseException") = some true), decide (PySem.W.typeIn K (.ref (q_DN K)) = some (.type "type")), decide (PySem.W.nsIn K mainGlobals "InvalidText" = some (some (.ref (q_DTx K)))), decide (PySem.W.excIn K (q_DTx K) [.type "ValueError", .type "Exception", .type "BaseException", .type "object"] "ValueError.__new__" = true), decide (PySem.W.keepIn K (.ref (q_DTx K)) = true), decide (PySem.W.subIn K (.ref (q_DTx K)) (.type "BaseException") = some true), decide (PySem.W.typeIn K (.ref (q_DTx K)) = some (.type "type")), decide (PySem.W.specialIn K (.builtin "object.__class__") "__get__" = some (some (.builtin "getset_descriptor.__get__"))), decide (PySem.W.takesIn K (.builtin "object.__class__") = some true), decide (PySem.W.nsIn K mainGlobals "Line" = some (some (.ref (q_b0 K)))), decide (PySem.W.readsIn K (q_b0 K) (.type "type") = true), decide (PySem.W.specialIn K (.ref (q_b0 K)) "__getattribute__" = some (some (.builtin "type.__getattribute__"))), decide (PySem.W.plainGet K (q_b0 K) Str.empty = true), decide (PySem.W.hasDictIn K (q_b0 K) = true), decide (PySem.W.plainOver K (q_b0 K) = true), decide (PySem.W.findIn K (.ref (q_b0 K)) "__setattr__" = some (some (.builtin "object.__setattr__"))), decide (PySem.W.makesIn K (q_b0 K) = true), decide (PySem.W.keepIn K (.ref (q_b0 K)) = true), decide (PySem.W.findIn K (.ref (q_b0 K)) "__eq__" = some (some (.builtin "object.__eq__"))), decide (PySem.W.findIn K (.ref (q_b0 K)) "__ne__" = some (some (.builtin "object.__ne__"))), decide (PySem.W.subIn K (.ref (q_b0 K)) (.type "object") = some true)]
def fs2 (K : PySem.W.Frag) : List Bool := [decide (PySem.W.findIn K (.ref (q_b0 K)) "__init__" = some (some (.ref (q_fB K)))), decide (PySem.W.findIn K (.ref (q_b0 K)) "_stamps" = some none), decide (PySem.W.findIn K (.ref (q_b0 K)) "pieces" = some none), decide (PySem.W.findCls K (.ref (q_b0 K)) (.type "type") "NAME" = some (.val (.str "line" (q_u0 K)))), decide (PySem.W.findIn K (.ref (q_b0 K)) "NAME" = some (some (.str "line" (q_v0 K)))), decide (PySem.W.specialIn K (.str "line" (q_v0 K)) "__get__" = some none), decide (PySem.W.findIn K (.ref (q_b0 K)) "CELLS" = some (some (.int 120 (q_w0 K)))), decide (PySem.W.specialIn K (.int 120 (q_w0 K)) "__get__" = some none), decide (PySem.W.findCls K (.ref (q_b0 K)) (.type "type") "named" = some (.get (.builtin "classmethod.__get__") (.ref (q_pN K)) .none (.ref (q_b0 K)))), decide (PySem.W.findIn K (.ref (q_b0 K)) "stamps" = some (some (.ref (q_pS K)))), decide (PySem.W.findIn K (.ref (q_b0 K)) "_knows" = some (some (.ref (q_fKn K)))), decide (PySem.W.findIn K (.ref (q_b0 K)) "_check_stamping" = some (some (.ref (q_fCk K)))), decide (PySem.W.findIn K (.ref (q_b0 K)) "check_strip" = some (some (.ref (q_fCs K)))), decide (PySem.W.findIn K (.ref (q_b0 K)) "__class__" = some (some (.builtin "object.__class__"))), decide (PySem.W.mroIn K (q_b0 K) (.type "object") = some true), decide (PySem.W.isClsIn K (q_b0 K) = true), decide (PySem.W.typeIn K (.ref (q_b0 K)) = some (.type "type")), decide (PySem.W.nsIn K mainGlobals "Window" = some (some (.ref (q_b1 K)))), decide (PySem.W.readsIn K (q_b1 K) (.type "type") = true), decide (PySem.W.specialIn K (.ref (q_b1 K)) "__getattribute__" = some (some (.builtin "type.__getattribute__"))), decide (PySem.W.plainGet K (q_b1 K) Str.empty = true), decide (PySem.W.hasDictIn K (q_b1 K) = true), decide (PySem.W.plainOver K (q_b1 K) = true), decide (PySem.W.findIn K (.ref (q_b1 K)) "__setattr__" = some (some (.builtin "object.__setattr__"))), decide (PySem.W.makesIn K (q_b1 K) = true), decide (PySem.W.keepIn K (.ref (q_b1 K)) = true), decide (PySem.W.findIn K (.ref (q_b1 K)) "__eq__" = some (some (.builtin "object.__eq__"))), decide (PySem.W.findIn K (.ref (q_b1 K)) "__ne__" = some (some (.builtin "object.__ne__"))), decide (PySem.W.subIn K (.ref (q_b1 K)) (.type "object") = some true), decide (PySem.W.findIn K (.ref (q_b1 K)) "__init__" = some (some (.ref (q_fB K)))), decide (PySem.W.findIn K (.ref (q_b1 K)) "_stamps" = some none), decide (PySem.W.findIn K (.ref (q_b1 K)) "pieces" = some none), decide (PySem.W.findCls K (.ref (q_b1 K)) (.type "type") "NAME" = some (.val (.str "window" (q_u1 K)))), decide (PySem.W.findIn K (.ref (q_b1 K)) "NAME" = some (some (.str "window" (q_v1 K)))), decide (PySem.W.specialIn K (.str "window" (q_v1 K)) "__get__" = some none), decide (PySem.W.findIn K (.ref (q_b1 K)) "CELLS" = some (some (.int 120 (q_w1 K)))), decide (PySem.W.specialIn K (.int 120 (q_w1 K)) "__get__" = some none), decide (PySem.W.findCls K (.ref (q_b1 K)) (.type "type") "named" = some (.get (.builtin "classmethod.__get__") (.ref (q_pN K)) .none (.ref (q_b1 K)))), decide (PySem.W.findIn K (.ref (q_b1 K)) "stamps" = some (some (.ref (q_pS K)))), decide (PySem.W.findIn K (.ref (q_b1 K)) "_knows" = some (some (.ref (q_fKn K))))]
def fs3 (K : PySem.W.Frag) : List Bool := [decide (PySem.W.findIn K (.ref (q_b1 K)) "_check_stamping" = some (some (.ref (q_fCk K)))), decide (PySem.W.findIn K (.ref (q_b1 K)) "check_strip" = some (some (.ref (q_fCs K)))), decide (PySem.W.findIn K (.ref (q_b1 K)) "__class__" = some (some (.builtin "object.__class__"))), decide (PySem.W.mroIn K (q_b1 K) (.type "object") = some true), decide (PySem.W.isClsIn K (q_b1 K) = true), decide (PySem.W.typeIn K (.ref (q_b1 K)) = some (.type "type")), decide (PySem.W.nsIn K mainGlobals "Ring" = some (some (.ref (q_b2 K)))), decide (PySem.W.readsIn K (q_b2 K) (.type "type") = true), decide (PySem.W.specialIn K (.ref (q_b2 K)) "__getattribute__" = some (some (.builtin "type.__getattribute__"))), decide (PySem.W.plainGet K (q_b2 K) Str.empty = true), decide (PySem.W.hasDictIn K (q_b2 K) = true), decide (PySem.W.plainOver K (q_b2 K) = true), decide (PySem.W.findIn K (.ref (q_b2 K)) "__setattr__" = some (some (.builtin "object.__setattr__"))), decide (PySem.W.makesIn K (q_b2 K) = true), decide (PySem.W.keepIn K (.ref (q_b2 K)) = true), decide (PySem.W.findIn K (.ref (q_b2 K)) "__eq__" = some (some (.builtin "object.__eq__"))), decide (PySem.W.findIn K (.ref (q_b2 K)) "__ne__" = some (some (.builtin "object.__ne__"))), decide (PySem.W.subIn K (.ref (q_b2 K)) (.type "object") = some true), decide (PySem.W.findIn K (.ref (q_b2 K)) "__init__" = some (some (.ref (q_fB K)))), decide (PySem.W.findIn K (.ref (q_b2 K)) "_stamps" = some none), decide (PySem.W.findIn K (.ref (q_b2 K)) "pieces" = some none), decide (PySem.W.findCls K (.ref (q_b2 K)) (.type "type") "NAME" = some (.val (.str "ring" (q_u2 K)))), decide (PySem.W.findIn K (.ref (q_b2 K)) "NAME" = some (some (.str "ring" (q_v2 K)))), decide (PySem.W.specialIn K (.str "ring" (q_v2 K)) "__get__" = some none), decide (PySem.W.findIn K (.ref (q_b2 K)) "CELLS" = some (some (.int 60 (q_w2 K)))), decide (PySem.W.specialIn K (.int 60 (q_w2 K)) "__get__" = some none), decide (PySem.W.findCls K (.ref (q_b2 K)) (.type "type") "named" = some (.get (.builtin "classmethod.__get__") (.ref (q_pN K)) .none (.ref (q_b2 K)))), decide (PySem.W.findIn K (.ref (q_b2 K)) "stamps" = some (some (.ref (q_pS K)))), decide (PySem.W.findIn K (.ref (q_b2 K)) "_knows" = some (some (.ref (q_fKn K)))), decide (PySem.W.findIn K (.ref (q_b2 K)) "_check_stamping" = some (some (.ref (q_fCk K)))), decide (PySem.W.findIn K (.ref (q_b2 K)) "check_strip" = some (some (.ref (q_fCs K)))), decide (PySem.W.findIn K (.ref (q_b2 K)) "__class__" = some (some (.builtin "object.__class__"))), decide (PySem.W.mroIn K (q_b2 K) (.type "object") = some true), decide (PySem.W.isClsIn K (q_b2 K) = true), decide (PySem.W.typeIn K (.ref (q_b2 K)) = some (.type "type")), decide (PySem.W.nsIn K mainGlobals "Band" = some (some (.ref (q_b3 K)))), decide (PySem.W.readsIn K (q_b3 K) (.type "type") = true), decide (PySem.W.specialIn K (.ref (q_b3 K)) "__getattribute__" = some (some (.builtin "type.__getattribute__"))), decide (PySem.W.plainGet K (q_b3 K) Str.empty = true), decide (PySem.W.hasDictIn K (q_b3 K) = true)]
def fs4 (K : PySem.W.Frag) : List Bool := [decide (PySem.W.plainOver K (q_b3 K) = true), decide (PySem.W.findIn K (.ref (q_b3 K)) "__setattr__" = some (some (.builtin "object.__setattr__"))), decide (PySem.W.makesIn K (q_b3 K) = true), decide (PySem.W.keepIn K (.ref (q_b3 K)) = true), decide (PySem.W.findIn K (.ref (q_b3 K)) "__eq__" = some (some (.builtin "object.__eq__"))), decide (PySem.W.findIn K (.ref (q_b3 K)) "__ne__" = some (some (.builtin "object.__ne__"))), decide (PySem.W.subIn K (.ref (q_b3 K)) (.type "object") = some true), decide (PySem.W.findIn K (.ref (q_b3 K)) "__init__" = some (some (.ref (q_fB K)))), decide (PySem.W.findIn K (.ref (q_b3 K)) "_stamps" = some none), decide (PySem.W.findIn K (.ref (q_b3 K)) "pieces" = some none), decide (PySem.W.findCls K (.ref (q_b3 K)) (.type "type") "NAME" = some (.val (.str "" (q_u3 K)))), decide (PySem.W.findIn K (.ref (q_b3 K)) "NAME" = some (some (.str "" (q_v3 K)))), decide (PySem.W.specialIn K (.str "" (q_v3 K)) "__get__" = some none), decide (PySem.W.findIn K (.ref (q_b3 K)) "CELLS" = some (some (.int 120 (q_w3 K)))), decide (PySem.W.specialIn K (.int 120 (q_w3 K)) "__get__" = some none), decide (PySem.W.findCls K (.ref (q_b3 K)) (.type "type") "named" = some (.get (.builtin "classmethod.__get__") (.ref (q_pN K)) .none (.ref (q_b3 K)))), decide (PySem.W.findIn K (.ref (q_b3 K)) "stamps" = some (some (.ref (q_pS K)))), decide (PySem.W.findIn K (.ref (q_b3 K)) "_knows" = some (some (.ref (q_fKn K)))), decide (PySem.W.findIn K (.ref (q_b3 K)) "_check_stamping" = some (some (.ref (q_fCk K)))), decide (PySem.W.findIn K (.ref (q_b3 K)) "check_strip" = some (some (.ref (q_fCs K)))), decide (PySem.W.findIn K (.ref (q_b3 K)) "__class__" = some (some (.builtin "object.__class__"))), decide (PySem.W.mroIn K (q_b3 K) (.type "object") = some true), decide (PySem.W.isClsIn K (q_b3 K) = true), decide (PySem.W.typeIn K (.ref (q_b3 K)) = some (.type "type")), decide (PySem.W.isFn K (.ref (q_fB K)) = true), decide (PySem.W.isFn K (.ref (q_fKn K)) = true), decide (PySem.W.keepIn K (.ref (q_fKn K)) = true), decide (PySem.W.isFn K (.ref (q_fCs K)) = true), decide (PySem.W.keepIn K (.ref (q_fCs K)) = true), decide (PySem.W.isFn K (.ref (q_fCk K)) = true), decide (PySem.W.keepIn K (.ref (q_fCk K)) = true), decide (PySem.W.recIn K (q_pN K) "classmethod" = some (.ref (q_gN K) :: (q_restN K))), decide (PySem.W.fnIn K (q_gN K) = true), decide (PySem.W.specialIn K (.ref (q_pS K)) "__get__" = some (some (.builtin "property.__get__"))), decide (PySem.W.takesIn K (.ref (q_pS K)) = some true), decide (PySem.W.recIn K (q_pS K) "property" = some (.ref (q_gS K) :: (q_restS K))), decide (PySem.W.subIn K (.ref (q_b0 K)) (.ref (q_b0 K)) = some true), decide (PySem.W.subIn K (.ref (q_b0 K)) (.ref (q_b1 K)) = some false), decide (PySem.W.subIn K (.ref (q_b0 K)) (.ref (q_b2 K)) = some false), decide (PySem.W.subIn K (.ref (q_b0 K)) (.ref (q_b3 K)) = some true)]
def fs5 (K : PySem.W.Frag) : List Bool := [decide (PySem.W.subIn K (.ref (q_b1 K)) (.ref (q_b0 K)) = some false), decide (PySem.W.subIn K (.ref (q_b1 K)) (.ref (q_b1 K)) = some true), decide (PySem.W.subIn K (.ref (q_b1 K)) (.ref (q_b2 K)) = some false), decide (PySem.W.subIn K (.ref (q_b1 K)) (.ref (q_b3 K)) = some true), decide (PySem.W.subIn K (.ref (q_b2 K)) (.ref (q_b0 K)) = some false), decide (PySem.W.subIn K (.ref (q_b2 K)) (.ref (q_b1 K)) = some false), decide (PySem.W.subIn K (.ref (q_b2 K)) (.ref (q_b2 K)) = some true), decide (PySem.W.subIn K (.ref (q_b2 K)) (.ref (q_b3 K)) = some true), decide (PySem.W.subIn K (.ref (q_b3 K)) (.ref (q_b0 K)) = some false), decide (PySem.W.subIn K (.ref (q_b3 K)) (.ref (q_b1 K)) = some false), decide (PySem.W.subIn K (.ref (q_b3 K)) (.ref (q_b2 K)) = some false), decide (PySem.W.subIn K (.ref (q_b3 K)) (.ref (q_b3 K)) = some true), decide (PySem.W.findIn K (.ref (q_b0 K)) "fits" = some (some (.ref (q_fF0 K)))), decide (PySem.W.isFn K (.ref (q_fF0 K)) = true), decide (PySem.W.keepIn K (.ref (q_fF0 K)) = true), decide (PySem.W.findIn K (.ref (q_b0 K)) "stamped" = some (some (.ref (q_fS0 K)))), decide (PySem.W.isFn K (.ref (q_fS0 K)) = true), decide (PySem.W.keepIn K (.ref (q_fS0 K)) = true), decide (PySem.W.findIn K (.ref (q_b1 K)) "fits" = some (some (.ref (q_fF1 K)))), decide (PySem.W.isFn K (.ref (q_fF1 K)) = true), decide (PySem.W.keepIn K (.ref (q_fF1 K)) = true), decide (PySem.W.findIn K (.ref (q_b1 K)) "stamped" = some (some (.ref (q_fS1 K)))), decide (PySem.W.isFn K (.ref (q_fS1 K)) = true), decide (PySem.W.keepIn K (.ref (q_fS1 K)) = true), decide (PySem.W.findIn K (.ref (q_b2 K)) "fits" = some (some (.ref (q_fF2 K)))), decide (PySem.W.isFn K (.ref (q_fF2 K)) = true), decide (PySem.W.keepIn K (.ref (q_fF2 K)) = true), decide (PySem.W.findIn K (.ref (q_b2 K)) "stamped" = some (some (.ref (q_fS2 K)))), decide (PySem.W.isFn K (.ref (q_fS2 K)) = true), decide (PySem.W.keepIn K (.ref (q_fS2 K)) = true), decide (PySem.W.nsIn K mainGlobals "Pieces" = some (some (.ref (q_CP K)))), decide (PySem.W.readsIn K (q_CP K) (.type "type") = true), decide (PySem.W.specialIn K (.ref (q_CP K)) "__getattribute__" = some (some (.builtin "type.__getattribute__"))), decide (PySem.W.plainGet K (q_CP K) Str.empty = true), decide (PySem.W.hasDictIn K (q_CP K) = true), decide (PySem.W.plainOver K (q_CP K) = true), decide (PySem.W.findIn K (.ref (q_CP K)) "__setattr__" = some (some (.builtin "object.__setattr__"))), decide (PySem.W.makesIn K (q_CP K) = true), decide (PySem.W.keepIn K (.ref (q_CP K)) = true), decide (PySem.W.findIn K (.ref (q_CP K)) "__init__" = some (some (.ref (q_fP K))))]
def fs6 (K : PySem.W.Frag) : List Bool := [decide (PySem.W.isFn K (.ref (q_fP K)) = true), decide (PySem.W.findIn K (.ref (q_CP K)) "span" = some none), decide (PySem.W.findIn K (.ref (q_CP K)) "spots" = some none), decide (PySem.W.findIn K (.ref (q_CP K)) "kinds" = some none), decide (PySem.W.nsIn K mainGlobals "spots_of" = some (some (.ref (q_fSp K)))), decide (PySem.W.nsIn K mainGlobals "kinds_of" = some (some (.ref (q_fKi K)))), decide (PySem.W.nsIn K mainGlobals "enumerate" = some none), decide (PySem.W.findIn K (.ref (q_b0 K)) "check_text" = some (some (.ref (q_fCt K)))), decide (PySem.W.findIn K (.ref (q_b1 K)) "check_text" = some (some (.ref (q_fCt K)))), decide (PySem.W.findIn K (.ref (q_b2 K)) "check_text" = some (some (.ref (q_fCt K)))), decide (PySem.W.isFn K (.ref (q_fCt K)) = true), decide (PySem.W.nsIn K mainGlobals "all" = some none), decide (PySem.W.nsIn K mainGlobals "len" = some none), decide (PySem.W.nsIn K mainGlobals "isinstance" = some none), decide (PySem.W.nsIn K mainGlobals "str" = some none), decide (PySem.W.nsIn K mainGlobals "list" = some none), decide (PySem.W.nsIn K mainGlobals "set" = some none), decide (PySem.W.nsIn K mainGlobals "abs" = some none), decide (PySem.W.nsIn K mainGlobals "max" = some none), decide (PySem.W.nsIn K mainGlobals "min" = some none), decide (PySem.W.nsIn K mainGlobals "range" = some none), decide (PySem.W.nsIn K mainGlobals "int" = some none), decide (PySem.W.nsIn K mainGlobals "repr" = some none), decide (PySem.W.nsIn K mainGlobals "sorted" = some none), decide (PySem.W.nsIn K mainGlobals "bool" = some none), decide (PySem.W.nsIn K mainGlobals "tuple" = some none), decide (PySem.W.nsIn K mainGlobals "zip" = some none)]
def exA (K : PySem.W.Frag) : Bool := (fs0 K).all id && ((fs1 K).all id && ((fs2 K).all id && ((fs3 K).all id && ((fs4 K).all id && ((fs5 K).all id && ((fs6 K).all id))))))
def d_Low : DefP := ⟨q_fLow, "is_lowercase", "is_lowercase", defArgs sLow, defBody sLow, defScope sLow⟩
def d_Text : DefP := ⟨q_fText, "is_text", "is_text", defArgs sText, defBody sText, defScope sText⟩
def d_Are : DefP := ⟨q_fAre, "are_stamps", "are_stamps", defArgs sAre, defBody sAre, defScope sAre⟩
def d_Ae : DefP := ⟨q_fAe, "are_entries", "are_entries", defArgs sAe, defBody sAe, defScope sAe⟩
def d_Sh : DefP := ⟨q_fSh, "shows", "shows", defArgs sSh, defBody sSh, defScope sSh⟩
def d_Tape : DefP := ⟨q_fTape, "_law_vat", "_law_vat", defArgs sTape, defBody sTape, defScope sTape⟩
def d_Next : DefP := ⟨q_fNext, "_law_sip", "_law_sip", defArgs sNext, defBody sNext, defScope sNext⟩
def d_Inks : DefP := ⟨q_fInks, "_law_words", "_law_words", defArgs sInks, defBody sInks, defScope sInks⟩
def d_Ag : DefP := ⟨q_fAg, "agreeing", "agreeing", defArgs sAg, defBody sAg, defScope sAg⟩
def d_Fe : DefP := ⟨q_fFe, "first_entries", "first_entries", defArgs sFe, defBody sFe, defScope sFe⟩
def d_Ne : DefP := ⟨q_fNe, "next_entries", "next_entries", defArgs sNe, defBody sNe, defScope sNe⟩
def d_To : DefP := ⟨q_fTo, "table_of", "table_of", defArgs sTo, defBody sTo, defScope sTo⟩
def d_Int : DefP := ⟨q_fInt, "is_integer", "is_integer", defArgs sIsI, defBody sIsI, defScope sIsI⟩
def d_Ie : DefP := ⟨q_fIe, "is_entry", "is_entry", defArgs sIe, defBody sIe, defScope sIe⟩
def d_It : DefP := ⟨q_fIt, "is_table", "is_table", defArgs sIt, defBody sIt, defScope sIt⟩
def d_Ha : DefP := ⟨q_fHa, "has_all", "has_all", defArgs sHa, defBody sHa, defScope sHa⟩
def d_Lb : DefP := ⟨q_fLb, "last_bounds", "last_bounds", defArgs sLb, defBody sLb, defScope sLb⟩
def d_Mk : DefP := ⟨q_fMk, "_law_mark", "_law_mark", defArgs sMk, defBody sMk, defScope sMk⟩
def d_Md : DefP := ⟨q_fMd, "_law_made", "_law_made", defArgs sMd, defBody sMd, defScope sMd⟩
def d_La : DefP := ⟨q_fLa, "_law_agreeing", "_law_agreeing", defArgs sLa, defBody sLa, defScope sLa⟩
def d_Le : DefP := ⟨q_fLe, "_law_least", "_law_least", defArgs sLe, defBody sLe, defScope sLe⟩
def d_Li : DefP := ⟨q_fLi, "_law_listed", "_law_listed", defArgs sLi, defBody sLi, defScope sLi⟩
def d_Rt : DefP := ⟨q_fRt, "_law_right", "_law_right", defArgs sRx, defBody sRx, defScope sRx⟩
def d_Law : DefP := ⟨q_fLaw, "law", "law", defArgs sLy, defBody sLy, defScope sLy⟩
def d_Init : DefP := ⟨q_fInit, "__init__", "Stamps.__init__", defArgs sInit, defBody sInit, defScope sInit⟩
def d_Of : DefP := ⟨q_gO, "of", "Stamps.of", defArgs sOf, defBody sOf, defScope sOf⟩
def d_Wi : DefP := ⟨q_fWi, "width", "Stamps.width", defArgs sWidth, defBody sWidth, defScope sWidth⟩
def d_Wo : DefP := ⟨q_fWo, "words", "Stamps.words", defArgs sWords, defBody sWords, defScope sWords⟩
def d_B : DefP := ⟨q_fB, "__init__", "Band.__init__", defArgs sBInit, defBody sBInit, defScope sBInit⟩
def d_N : DefP := ⟨q_gN, "named", "Band.named", defArgs sNamed, defBody sNamed, defScope sNamed⟩
def d_G : DefP := ⟨q_gS, "stamps", "Band.stamps", defArgs sStamps, defBody sStamps, defScope sStamps⟩
def d_P : DefP := ⟨q_fP, "__init__", "Pieces.__init__", defArgs sPInit, defBody sPInit, defScope sPInit⟩
def d_Sp : DefP := ⟨q_fSp, "spots_of", "spots_of", defArgs sSpots, defBody sSpots, defScope sSpots⟩
def d_Ki : DefP := ⟨q_fKi, "kinds_of", "kinds_of", defArgs sKinds, defBody sKinds, defScope sKinds⟩
def d_Ct : DefP := ⟨q_fCt, "check_text", "Band.check_text", defArgs sChkT, defBody sChkT, defScope sChkT⟩
def fnA : List DefP := [d_Low, d_Text, d_Are, d_Ae, d_Sh, d_Tape, d_Next, d_Inks, d_Ag, d_Fe, d_Ne, d_To, d_Int, d_Ie, d_It, d_Ha, d_Lb, d_Mk, d_Md, d_La, d_Le, d_Li, d_Rt, d_Law, d_Init, d_Of, d_Wi, d_Wo, d_B, d_N, d_G, d_P, d_Sp, d_Ki, d_Ct]
def tfA : List TabP := [fun K => (q_cLow K, q_PLow K), fun K => (q_cAre K, q_PAre K), fun K => (q_cAe K, q_PAe K), fun K => (q_cSh K, q_PSh K)]
def names0 : List Str := ["_wall", "StampError", "InvalidStamps", "InvalidText", "InvalidStrip", "InvalidStamping", "InvalidName", "NotPossible", "TOO_MANY", "NO_REACH", "LOOSE", "ENDED", "KEPT", "is_integer", "is_part", "are_parts", "ends", "cover", "splits_row", "splits_ring", "spots_of", "kinds_of", "Pieces", "reach_of", "reaches_of", "fewest_rests", "least_cover", "rests_of_row", "fewest_row", "least_row"]
def names1 : List Str := ["rests_around", "fewest_around", "fewest_ring", "least_ring", "WIDEST", "MOST_LETTERS", "MOST_CELLS", "is_lowercase", "is_text", "is_strip", "are_stamps", "over", "Stamps", "Band", "Line", "Window", "Ring", "UNREADABLE", "agreeing", "first_entries", "next_entries", "last_bounds", "table_of", "is_entry", "are_entries", "is_table", "has_all", "shows", "_law_vat", "_law_sip"]
def names2 : List Str := ["_law_words", "_law_mark", "_law_made", "_law_agreeing", "_law_least", "_law_listed", "_law_right"]
def namesA : List Str := names0 ++ names1 ++ names2
abbrev rowA : PySem.W.OpenRow := PySem.W.OpenLaw.row PySem.Challenge.rw_overstamps_k42_numbers_of_parts_shown
def as0 : List Addr := [2, 3, 6, 4, 21, 31, 44, 56, 68, 80, 92, 104, 107, 114, 121, 128, 135, 142, 149, 156, 163, 170, 197, 208, 215, 222, 229, 236, 243, 250, 257, 264, 271, 278, 285, 292, 299, 306, 313, 375, 505, 568, 629, 688, 695, 700, 705, 710, 717, 724, 731, 738, 743, 750, 757, 764, 769, 774, 781, 786]
def as1 : List Addr := [793, 798, 803, 808, 0, 20, 30, 43, 55, 67, 79, 91, 103, 113, 120, 127, 134, 141, 148, 155, 162, 169, 196, 207, 214, 221, 228, 235, 242, 249, 256, 263, 270, 277, 284, 291, 298, 305, 312, 374, 504, 567, 628, 687, 694, 699, 704, 709, 716, 723, 730, 737, 742, 749, 756, 763, 768, 773, 780, 785]
def as2 : List Addr := [792, 797, 802, 807, 15, 16, 17, 18, 19, 29, 32, 42, 54, 66, 78, 90, 102, 108, 109, 110, 111, 112, 115, 116, 117, 118, 119, 122, 123, 124, 125, 126, 129, 130, 131, 132, 133, 136, 137, 138, 139, 140, 143, 144, 145, 146, 147, 150, 151, 152, 153, 154, 157, 158, 159, 160, 161, 164, 165, 166]
def as3 : List Addr := [167, 168, 182, 187, 194, 195, 198, 199, 202, 203, 204, 205, 206, 209, 210, 211, 212, 213, 216, 217, 218, 219, 220, 223, 224, 225, 226, 227, 230, 231, 232, 233, 234, 237, 238, 239, 240, 241, 244, 245, 246, 247, 248, 251, 252, 253, 254, 255, 258, 259, 260, 261, 262, 265, 266, 267, 268, 269, 272, 273]
def as4 : List Addr := [274, 275, 276, 279, 280, 281, 282, 283, 286, 287, 288, 289, 290, 293, 294, 295, 296, 297, 300, 301, 302, 303, 304, 307, 308, 309, 310, 311, 327, 336, 345, 353, 360, 365, 372, 373, 376, 377, 393, 402, 411, 418, 425, 432, 439, 446, 453, 460, 467, 474, 481, 488, 495, 502, 503, 506, 507, 523, 530, 537]
def as5 : List Addr := [544, 551, 558, 565, 566, 584, 591, 598, 605, 612, 619, 626, 627, 645, 652, 657, 664, 671, 678, 685, 686, 691, 692, 693, 696, 697, 698, 701, 702, 703, 706, 707, 708, 711, 712, 713, 714, 715, 718, 719, 720, 721, 722, 725, 726, 727, 728, 729, 732, 733, 734, 735, 736, 739, 740, 741, 744, 745, 746, 747]
def as6 : List Addr := [748, 751, 752, 753, 754, 755, 758, 759, 760, 761, 762, 765, 766, 767, 770, 771, 772, 775, 776, 777, 778, 779, 782, 783, 784, 787, 788, 789, 790, 791, 794, 795, 796, 799, 800, 801, 804, 805, 806, 181, 186, 193, 326, 334, 335, 344, 352, 359, 364, 371, 392, 400, 401, 410, 417, 424, 431, 438, 445, 452]
def as7 : List Addr := [459, 466, 473, 480, 487, 494, 501, 522, 529, 536, 543, 550, 557, 564, 583, 590, 597, 604, 611, 618, 625, 644, 651, 656, 663, 670, 677, 684, 178, 179, 180, 183, 184, 185, 188, 189, 190, 191, 192, 321, 322, 323, 324, 325, 333, 337, 343, 351, 354, 355, 356, 357, 358, 361, 362, 363, 366, 367, 368, 369]
def as8 : List Addr := [370, 387, 388, 389, 390, 391, 399, 403, 409, 412, 413, 414, 415, 416, 419, 420, 421, 422, 423, 426, 427, 428, 429, 430, 433, 434, 435, 436, 437, 440, 441, 442, 443, 444, 447, 448, 449, 450, 451, 454, 455, 456, 457, 458, 461, 462, 463, 464, 465, 468, 469, 470, 471, 472, 475, 476, 477, 478, 479, 482]
def as9 : List Addr := [483, 484, 485, 486, 489, 490, 491, 492, 493, 496, 497, 498, 499, 500, 517, 518, 519, 520, 521, 524, 525, 526, 527, 528, 531, 532, 533, 534, 535, 538, 539, 540, 541, 542, 545, 546, 547, 548, 549, 552, 553, 554, 555, 556, 559, 560, 561, 562, 563, 578, 579, 580, 581, 582, 585, 586, 587, 588, 589, 592]
def as10 : List Addr := [593, 594, 595, 596, 599, 600, 601, 602, 603, 606, 607, 608, 609, 610, 613, 614, 615, 616, 617, 620, 621, 622, 623, 624, 639, 640, 641, 642, 643, 646, 647, 648, 649, 650, 653, 654, 655, 658, 659, 660, 661, 662, 665, 666, 667, 668, 669, 672, 673, 674, 675, 676, 679, 680, 681, 682, 683, 328, 329, 330]
def as11 : List Addr := [331, 332, 338, 339, 340, 341, 342, 346, 347, 348, 349, 350, 394, 395, 396, 397, 398, 404, 405, 406, 407, 408]
def asA : List Addr := as0 ++ as1 ++ as2 ++ as3 ++ as4 ++ as5 ++ as6 ++ as7 ++ as8 ++ as9 ++ as10 ++ as11
abbrev hkA : PySem.W.Hook := hookP asA fnA tfA exA
def obA (s : PySem.W.SharedT) : AlP := obsP asA fnA tfA exA (HandSHeadRun.getT s)
theorem obA_eq (s : PySem.W.SharedT) : obA s = hkA.obs s.abs := obsP_eq (HandSHeadRun.getT_eq s)
theorem runA (w : World) : HandSHeadRun.RunEq rowA (PySem.W.view rowA.prog [73]) hkA obA 20000 namesA w := by
  intro os
  kernel_rfl
end Ov
set_option Elab.async false
set_option linter.all false
set_option maxRecDepth 100000
set_option maxHeartbeats 4000000
/-! lists of texts as data -/
namespace Ov
open PySem PySem.Spec PyProof.Rows L2 GxR
def lowB (z : Str) : Bool := z.cps.toList.all fun c => decide (97 ≤ c) && decide (c ≤ 122)
/-- a list of strings as data -/
def dStrs (ws : List Str) : PyData := .list (ws.map PyData.str)
theorem lay_strs : ∀ (ws : List Str), (∀ z ∈ ws, PyData.strOk z = true) → PyData.canLayAll0 (ws.map PyData.str) = true
  | [], _ => by rw [List.map_nil]; rfl
  | z :: r, h => by
    rw [List.map_cons]
    show (PyData.strOk z && PyData.canLayAll0 (r.map PyData.str)) = true
    rw [h z List.mem_cons_self, lay_strs r fun y hy => h y (List.mem_cons_of_mem _ hy)]; rfl
theorem depth_strs : ∀ (ws : List Str), PyData.depthAll (ws.map PyData.str) ≤ 1
  | [] => by rw [List.map_nil]; decide
  | z :: r => by
    rw [List.map_cons]
    have h := depth_strs r
    show max (PyData.depth (.str z)) (PyData.depthAll (r.map PyData.str)) ≤ 1
    have : PyData.depth (.str z) ≤ 1 := by simp [PyData.depth]
    omega
theorem shaped_strs {ws : List Str} (h : ∀ z ∈ ws, PyData.strOk z = true) : SeqAt.shaped (dStrs ws) = true := by
  unfold SeqAt.shaped
  have e : PyData.canLay0 (dStrs ws) = true := lay_strs ws h
  rw [e, Bool.true_and]
  refine decide_eq_true ?_
  have := depth_strs ws
  show PyData.depthAll (ws.map PyData.str) + 1 ≤ 64
  omega
theorem dp_strs {K : PySem.W.Frag} {H : Hp} : ∀ (ws : List Str), DpAll K H (ws.map V.str) (ws.map PyData.str)
  | [] => .nil
  | z :: r => .cons (.str z) (dp_strs r)
theorem low_ok {z : Str} (h : lowB z = true) : PyData.strOk z = true := by
  unfold lowB at h
  unfold PyData.strOk
  rw [Array.all_eq_true]
  intro i hi
  have h2 := List.all_eq_true.mp h z.cps[i] (by simp)
  simp only [Bool.and_eq_true, decide_eq_true_eq] at h2 ⊢
  omega
theorem eqv_nil (ws : List Str) : PyData.eqv (dStrs ws) (.list []) = ws.isEmpty := by
  cases ws with
  | nil => rfl
  | cons z r => rfl
theorem show_strs : ∀ ws : List Str, PyData.showableAll (ws.map PyData.str) = true
  | [] => rfl
  | z :: r => by
    rw [List.map_cons]
    show (true && PyData.showableAll (r.map PyData.str)) = true
    rw [show_strs r]; rfl
theorem nodict_strs : ∀ ws : List Str, PyData.hasDictAll (ws.map PyData.str) = false
  | [] => rfl
  | z :: r => by
    rw [List.map_cons]
    show (false || PyData.hasDictAll (r.map PyData.str)) = false
    rw [nodict_strs r]; rfl
theorem weight_strs : ∀ ws : List Str, (∀ z ∈ ws, z.length ≤ 100) → PyData.weightAll (ws.map PyData.str) ≤ 101 * ws.length
  | [], _ => by rw [List.map_nil]; exact Nat.le_refl _
  | z :: r, h => by
    rw [List.map_cons]
    have h1 := weight_strs r fun y hy => h y (List.mem_cons_of_mem _ hy)
    have h2 : z.cps.size ≤ 100 := h z List.mem_cons_self
    show z.cps.size + 1 + PyData.weightAll (r.map PyData.str) ≤ 101 * (r.length + 1)
    omega
theorem low_lt {z : Str} (h : lowB z = true) : (z.cps.toList.all fun c => decide (c < 16 ^ 8)) = true := by
  unfold lowB at h
  refine List.all_eq_true.mpr fun c hc => decide_eq_true ?_
  have := List.all_eq_true.mp h c hc
  simp only [Bool.and_eq_true, decide_eq_true_eq] at this
  exact Nat.lt_of_le_of_lt this.2 (by decide)
theorem short_strs : ∀ ws : List Str, (∀ z ∈ ws, lowB z = true) → PyData.leavesShortAll 8 (ws.map PyData.str) = true
  | [], _ => rfl
  | z :: r, h => by
    rw [List.map_cons]
    show ((z.cps.toList.all fun c => decide (c < 16 ^ 8)) && PyData.leavesShortAll 8 (r.map PyData.str)) = true
    rw [low_lt (h z List.mem_cons_self), short_strs r fun y hy => h y (List.mem_cons_of_mem _ hy)]; rfl
theorem eqv_strs : ∀ ws : List Str, PyData.eqv (dStrs ws) (dStrs ws) = true
  | [] => rfl
  | z :: r => by
    have h := eqv_strs r
    show ((z == z) && PyData.eqv (dStrs r) (dStrs r)) = true
    rw [h]; simp
end Ov

set_option Elab.async false
set_option linter.all false
set_option maxRecDepth 100000
set_option maxHeartbeats 4000000
namespace Ov
open PySem PySem.Spec PyProof.Rows L2 GxR
theorem iteT' {b : Bool} {A B : Prop} (e : b = true) (h : A) : if b = true then A else B := by rw [if_pos e]; exact h
theorem iteF' {b : Bool} {A B : Prop} (e : b = false) (h : B) : if b = true then A else B := by rw [if_neg (by rw [e]; decide)]; exact h
/-! ### what the top has left -/
structure Txt (K : PySem.W.Frag) (mg : Str → Option Value) (C fLow fText fAre fTape fNext fInks : Addr) : Prop where
  all : mg "all" = none
  len : mg "len" = none
  isi : mg "isinstance" = none
  str : mg "str" = none
  lst : mg "list" = none
  set : mg "set" = none
  abs : mg "abs" = none
  max : mg "max" = none
  min : mg "min" = none
  rng : mg "range" = none
  gTape : mg "_law_vat" = some (.ref fTape)
  kTape : PySem.W.keepIn K (.ref fTape) = true
  gNext : mg "_law_sip" = some (.ref fNext)
  kNext : PySem.W.keepIn K (.ref fNext) = true
  gInks : mg "_law_words" = some (.ref fInks)
  kInks : PySem.W.keepIn K (.ref fInks) = true
  gLow : mg "is_lowercase" = some (.ref fLow)
  kLow : PySem.W.keepIn K (.ref fLow) = true
  gText : mg "is_text" = some (.ref fText)
  kText : PySem.W.keepIn K (.ref fText) = true
  gAre : mg "are_stamps" = some (.ref fAre)
  kAre : PySem.W.keepIn K (.ref fAre) = true
  gC : mg "Stamps" = some (.ref C)
  widest : ∃ t, mg "WIDEST" = some (.int 8 t)
  letters : ∃ t, mg "MOST_LETTERS" = some (.int 36 t)
  rd : ClX.CRead K C (.type "type")
  most : ∃ t, ClX.CVal K C (.type "type") "MOST" (.int 6) (.int 6 t)
/-- where the tables stand -/
structure Tab (base : Heap) (mg : Str → Option Value) (T : List Addr) (cLow PLow cAre PAre : Addr) : Prop where
  low : TabB base mg cLow PLow
  are : TabB base mg cAre PAre
  lowT : PLow ∈ T
  areT : PAre ∈ T
section
variable {P : Program} {w : World} {K : PySem.W.Frag} {mg : Str → Option Value} {base : Heap} {T : List Addr} {C fLow fText fAre fTape fNext fInks cLow PLow cAre PAre : Addr}
/-! ### is_lowercase -/
def spLow (T : List Addr) : Sp := fun vs H Q _ => ∃ z : Str, vs = [.str z] ∧ (∀ p ∈ T, TabG H p) ∧ ∀ H2, Tbs T H H2 → Q (.bl (lowB z)) H2
theorem scLow : FnScope ["text"] ["text"] (defScope sLow) := ⟨rfl, rfl, rfl, by decide +kernel, rfl, by decide +kernel, by decide +kernel⟩
theorem sign_le (c : Nat) : (!decide (([c] : List Nat) < ("a" : Str).cps.toList)) = decide (97 ≤ c) := by
  have e : ("a" : Str).cps.toList = [97] := by rfl
  rw [e]
  have h := one_lt c 97
  by_cases q : 97 ≤ c
  · have : ¬ ([c] < [97]) := fun z => by have := h.mp z; omega
    simp [q, this]
  · have : [c] < [97] := h.mpr (by omega)
    simp [q, this]
theorem sign_ge (c : Nat) : (!decide (("z" : Str).cps.toList < ([c] : List Nat))) = decide (c ≤ 122) := by
  have e : ("z" : Str).cps.toList = [122] := by rfl
  rw [e]
  have h := one_lt 122 c
  by_cases q : c ≤ 122
  · have : ¬ ([122] < [c]) := fun z => by have := h.mp z; omega
    simp [q, this]
  · have : [122] < [c] := h.mpr (by omega)
    simp [q, this]
theorem ok_low {f : Addr} {fd : FuncData} (F : FunC K "is_lowercase" "is_lowercase" sLow f fd cLow) (X : Txt K mg C fLow fText fAre fTape fNext fInks) (B : Tab base mg T cLow PLow cAre PAre) : FnOk P w K mg base CX0 2 f fd ["text"] (spLow T) := by
  refine F.ok scLow (fun vs H Q E h => ?_) (fun A outer s H vs Q E hr h => ?_)
  · obtain ⟨z, rfl, _⟩ := h
    rfl
  · obtain ⟨z, rfl, hT, k⟩ := h
    refine ⟨_, pss_one (ps_ret (pe_allG (k := 0) (cs := []) (pick := []) rfl hr (by rfl) X.all (by decide +kernel) B.low rfl (genN_by (sc := defScope sLow) (N := ["text"]) rfl rfl (fun y h => cell_has h) (by decide +kernel))
      (pi_str (pv 0)) (fun s H code C A fp pn hr => pe_chain op_le_str op_le_str pe_str (pv 0) pe_str))), ?_⟩
    refine ⟨_, rfl, z, rfl, hT _ B.lowT, fun H2 h2 => ?_⟩
    refine all_str (fun c => decide (97 ≤ c) && decide (c ≤ 122)) (fun c R hR => ?_) (k _ (Tbs.of1 hT B.lowT h2))
    refine ⟨_, rfl, _, _, rfl, rfl, _, rfl, ?_⟩
    have e1 := sign_le c
    have e2 := sign_ge c
    by_cases h1 : 97 ≤ c
    · refine iteT' (by rw [e1]; simpa using h1) ?_
      refine ⟨_, _, rfl, rfl, ?_⟩
      rw [e2]
      simpa [h1] using hR
    · refine iteF' (by rw [e1]; simpa using h1) ?_
      simpa [h1] using hR
/-! ### is_text -/
def textB (z : Str) (m : Int) : Bool := decide (1 ≤ (z.length : Int)) && decide ((z.length : Int) ≤ m) && lowB z
def spText (K : PySem.W.Frag) (T : List Addr) : Sp := fun vs H Q _ => ∃ (x : V) (m : Int), vs = [x, .int m] ∧ (∀ p ∈ T, TabG H p) ∧
  ((∃ z : Str, x = .str z ∧ z.length ≤ sizeLine ∧ ∀ H2, Tbs T H H2 → Q (.bl (textB z m)) H2) ∨ (∃ t, TyX K H x t ∧ PySem.W.kitOne K t (.type "str") = some false ∧ Q (.bl false) H))
theorem scText : FnScope ["thing", "most"] ["thing", "most"] (defScope sText) := ⟨rfl, rfl, rfl, by decide +kernel, rfl, by decide +kernel, by decide +kernel⟩
theorem ok_text {f : Addr} {fd fdL : FuncData} (F : L2.Fun K "is_text" "is_text" sText f fd) (FL : FunC K "is_lowercase" "is_lowercase" sLow fLow fdL cLow) (X : Txt K mg C fLow fText fAre fTape fNext fInks) (B : Tab base mg T cLow PLow cAre PAre) : FnOk P w K mg base CX0 3 f fd ["thing", "most"] (spText K T) := by
  refine F.ok scText (fun vs H Q E h => ?_) (fun cdv A outer s H vs Q E hr h => ?_)
  · obtain ⟨x, m, rfl, _⟩ := h
    rfl
  · obtain ⟨x, m, rfl, hT, k⟩ := h
    refine ⟨_, pss_one (ps_ret (pe_and (pe_callB call_isi (by rfl) X.isi boot_isinstance (pa_cons (pv 0) (pa_cons (pe_bltn (v := .ty "str") (by rfl) X.str PySem.Pv.boot_str rfl) pa_nil)))
      (pe_and (pe_chain op_le op_le pe_int (pe_callB call_len_str (by rfl) X.len boot_len (pa_cons (pv 0) pa_nil)) (pv 1))
        (pe_one (pe_call (ok_low FL X B) hr (by rfl) X.gLow X.kLow (FL.toFun.binds fun _ _ _ _ _ _ us hl => match us, hl with | [_], _ => rfl) .nil L2.pass0 (pa_cons (pv 0) pa_nil)))))), ?_⟩
    rcases k with ⟨z, rfl, hz, k⟩ | ⟨t, ht, hk, k⟩
    · refine ⟨_, rfl, _, _, _, _, _, rfl, .ty _, .base (.str _), kit_ty (r := true) (by decide +kernel), true, rfl, ?_⟩
      refine iteT ?_
      refine ⟨_, rfl, z, rfl, hz, _, _, rfl, rfl, _, rfl, ?_⟩
      by_cases h1 : 1 ≤ (z.length : Int)
      · refine iteT' (by simpa using h1) ?_
        refine ⟨_, rfl, _, _, rfl, rfl, _, rfl, ?_⟩
        by_cases h2 : (z.length : Int) ≤ m
        · refine iteT' (by simpa using h2) ?_
          refine ⟨_, rfl, z, rfl, hT, fun H2 q => ?_⟩
          have := k H2 q
          unfold textB at this
          simpa [h1, h2] using this
        · refine iteF' (by simpa using h2) ?_
          have := k H (.refl hT)
          unfold textB at this
          simpa [h1, h2] using this
      · refine iteF' (by simpa using h1) ?_
        refine ⟨_, rfl, ?_⟩
        refine iteF ?_
        have := k H (.refl hT)
        unfold textB at this
        simpa [h1] using this
    · refine ⟨_, rfl, _, _, _, _, _, rfl, .ty _, ht, hk, false, rfl, ?_⟩
      exact iteF k
/-! ### are_stamps -/
def isTextV : V → Bool
  | .str z => textB z 8
  | _ => false
def strV : V → Str
  | .str z => z
  | _ => Str.empty
/-- the words, once each of them is a text -/
def tailB (ws : List Str) : Bool := ws.all (fun z => decide (z.length = (ws.headD Str.empty).length)) && (decide ((once ws).length = ws.length) && decide ((ws.headD Str.empty).length * ws.length ≤ 36))
def stampsV (xs : List V) : Bool := decide (1 ≤ xs.length) && (decide (xs.length ≤ 6) && (xs.all isTextV && tailB (xs.map strV)))
theorem isTextV_str {x : V} (h : isTextV x = true) : x = .str (strV x) ∧ (strV x).length ≤ 8 := by
  cases x with
  | str z =>
    refine ⟨rfl, ?_⟩
    unfold isTextV textB at h
    simp only [Bool.and_eq_true, decide_eq_true_eq] at h
    show z.length ≤ 8
    omega
  | _ => cases h
theorem all_str_eq {xs : List V} (h : xs.all isTextV = true) : xs = (xs.map strV).map V.str ∧ ∀ z ∈ xs.map strV, z.length ≤ 8 := by
  rw [List.all_eq_true] at h
  refine ⟨?_, fun z hz => ?_⟩
  · rw [List.map_map]
    conv => lhs; rw [← List.map_id xs]
    exact List.map_congr_left fun x hx => (isTextV_str (h x hx)).1
  · obtain ⟨x, hx, rfl⟩ := List.mem_map.mp hz
    exact (isTextV_str (h x hx)).2
def spAre (K : PySem.W.Frag) (T : List Addr) : Sp := fun vs H Q _ => ∃ (a : Addr) (xs : List V), vs = [.ref a] ∧ (∀ p ∈ T, TabG H p) ∧ SqT K H a xs ∧ xs.length ≤ 4000 ∧
  (∀ x ∈ xs, (∃ z : Str, x = .str z ∧ z.length ≤ sizeLine) ∨ (isTextV x = false ∧ ∃ t, PySem.W.kitOne K t (.type "str") = some false ∧ ∀ H2, Tbs T H H2 → TyX K H2 x t)) ∧ ∀ H2, Tbs T H H2 → Q (.bl (stampsV xs)) H2
theorem scAre : FnScope ["words", "width"] ["words"] (defScope sAre) := ⟨rfl, rfl, rfl, by decide +kernel, rfl, by decide +kernel, by decide +kernel⟩
theorem ok_are {f : Addr} {fd fdT fdL : FuncData} (F : FunC K "are_stamps" "are_stamps" sAre f fd cAre) (FT : L2.Fun K "is_text" "is_text" sText fText fdT) (FL : FunC K "is_lowercase" "is_lowercase" sLow fLow fdL cLow) (X : Txt K mg C fLow fText fAre fTape fNext fInks) (B : Tab base mg T cLow PLow cAre PAre) : FnOk P w K mg base CX0 5 f fd ["words"] (spAre K T) := by
  refine F.ok scAre (fun vs H Q E h => ?_) (fun A outer s H vs Q E hr h => ?_)
  · obtain ⟨a, xs, rfl, _⟩ := h
    rfl
  · obtain ⟨a, xs, rfl, hT, hs, hn, hx, k⟩ := h
    obtain ⟨t8, g8⟩ := X.widest
    obtain ⟨t36, g36⟩ := X.letters
    refine ⟨_, pss_cons (ps_if (pt_not (pt_chain op_le op_le pe_int (pe_callB call_len_seq (by rfl) X.len boot_len (pa_cons (pv 0) pa_nil)) (ClX.pe_cval (pe_glob (v := .ref C) (by rfl) X.gC rfl)))) (pss_one (ps_ret pe_bl)) pss_nil)
      (pss_cons (ps_if (pt_not (pt_val (pe_allG (k := 3) (cs := []) (pick := []) rfl hr (by rfl) X.all (by decide +kernel) B.are rfl (genN_by (sc := defScope sAre) (N := ["words", "width"]) rfl rfl (fun y h => cell_has h) (by decide +kernel))
        (pi_tup (pv 0)) (fun s H code C A fp pn hr => pe_call (ok_text FT FL X B) hr (by rfl) X.gText X.kText (FT.binds fun _ _ _ _ _ _ us hl => match us, hl with | [_, _], _ => rfl) .nil L2.pass0 (pa_cons (pv 0) (pa_cons (pe_glob (v := .int 8) (by rfl) g8 ⟨_, rfl⟩) pa_nil)))))) (pss_one (ps_ret pe_bl)) pss_nil)
      (pss_cons (ps_set (i := 1) scAre.nd rfl (.inr rfl) (pe_callB call_len_str (by rfl) X.len boot_len (pa_cons (pe_ix ix_seq (pv 0) pe_int fun _ _ => rfl) pa_nil)))
      (pss_cons (ps_if (pt_not (pt_val (pe_allG (k := 3) (cs := ["width"]) (pick := [1]) rfl hr (by rfl) X.all (by decide +kernel) B.are rfl (genN_by (sc := defScope sAre) (N := ["words", "width"]) rfl rfl (fun y h => cell_has h) (by decide +kernel))
        (pi_tup (pv 0)) (fun s H code C A fp pn hr => pe_cmpR op_eq (pe_callB call_len_str (by rfl) X.len boot_len (pa_cons (pv 0) pa_nil)) (pv 1) (by rfl))))) (pss_one (ps_ret pe_bl)) pss_nil)
      (pss_one (ps_ret (pe_and (pe_cmpR op_eq (pe_lenOnce rfl (by rfl) X.len (by rfl) X.set (pv 0)) (pe_callB call_len_seq (by rfl) X.len boot_len (pa_cons (pv 0) pa_nil)) (by rfl))
        (pe_one (pe_cmpR op_le (pe_op op_mul (pv 1) (pe_callB call_len_seq (by rfl) X.len boot_len (pa_cons (pv 0) pa_nil))) (pe_glob (v := .int 36) (by rfl) g36 ⟨_, rfl⟩) (by rfl))))))))), ?_⟩
    obtain ⟨tm, hm⟩ := X.most
    refine ⟨_, rfl, a, xs, rfl, .inr hs, _, _, rfl, rfl, _, rfl, ?_⟩
    by_cases h1 : 1 ≤ xs.length
    case neg =>
      refine iteF' (by simp; omega) ⟨_, rfl, iteT ?_⟩
      have := k H (.refl hT)
      unfold stampsV at this
      rw [decide_eq_false h1, Bool.false_and] at this
      exact this
    refine iteT' (by simp; omega) ⟨C, _, _, _, rfl, X.rd, hm, _, _, rfl, rfl, _, rfl, ?_⟩
    by_cases h2 : xs.length ≤ 6
    case neg =>
      refine iteT' (by simp; omega) ?_
      have := k H (.refl hT)
      unfold stampsV at this
      rw [decide_eq_false h2, Bool.false_and, Bool.and_false] at this
      exact this
    refine iteF' (by simp; omega) ?_
    refine ⟨_, rfl, a, rfl, ⟨xs, hs⟩, hT _ B.areT, fun H2 h2' => ?_⟩
    refine all_tup isTextV (Tbs T H) (Tbs.of1 hT B.areT h2') (fun H1 q => q.kep.seqT hT hs) (fun x hxm H1 q R hR => ?_) (fun H1 q => ?_)
    · refine ⟨x, rfl, x, 8, rfl, q.1, ?_⟩
      rcases hx x hxm with ⟨z, rfl, hz⟩ | ⟨hf, t, hk, ht⟩
      · exact .inl ⟨z, rfl, hz, fun H3 q3 => hR H3 (q.trans q3)⟩
      · refine .inr ⟨t, ht H1 q, hk, ?_⟩
        rw [hf] at hR
        exact hR H1 q
    refine ⟨_, rfl, ?_⟩
    cases hall : xs.all isTextV with
    | false =>
      refine iteT ?_
      have := k H1 q
      unfold stampsV at this
      rw [hall, Bool.false_and, Bool.and_false, Bool.and_false] at this
      exact this
    | true =>
    refine iteF ?_
    obtain ⟨hws, hle⟩ := all_str_eq hall
    generalize hw : xs.map strV = ws at hws hle
    have hl : ws.length = xs.length := by rw [← hw, List.length_map]
    have hb : stampsV xs = tailB ws := by
      unfold stampsV
      rw [decide_eq_true h1, decide_eq_true h2, hall, hw]; rfl
    rw [hb] at k
    subst hws
    clear hall hb hx
    obtain ⟨z0, zs, rfl⟩ : ∃ z0 zs, ws = z0 :: zs := by
      cases ws with
      | nil => simp at h1
      | cons z0 zs => exact ⟨z0, zs, rfl⟩
    have hz0 : z0.length ≤ 8 := hle z0 List.mem_cons_self
    have hs1 : SqT K H1 a ((z0 :: zs).map V.str) := q.kep.seqT hT hs
    have h8 : (8 : Nat) ≤ sizeLine := by decide
    have hsz : ∀ z ∈ z0 :: zs, z.length ≤ sizeLine := fun z hz => Nat.le_trans (hle z hz) h8
    refine ⟨_, rfl, .inr (.inl ⟨a, _, 0, .str z0, rfl, rfl, hs1, by simp [atI, ixN], z0, rfl, hsz z0 List.mem_cons_self, ?_⟩)⟩
    refine ⟨_, rfl, a, rfl, ⟨_, hs1⟩, q.1 _ B.areT, fun H3 h3 => ?_⟩
    refine all_tup (fun x => decide ((strV x).length = z0.length)) (Tbs T H) (q.trans (Tbs.of1 q.1 B.areT h3)) (fun H1 q => q.kep.seqT hT hs) (fun x hxm H1 q R hR => ?_) (fun H4 q4 => ?_)
    · obtain ⟨z, hz, rfl⟩ := List.mem_map.mp hxm
      refine ⟨_, rfl, z, rfl, hsz z hz, _, rfl, rfl, ?_⟩
      have := hR H1 q
      have e : decide (V.int (z.length : Nat) = V.int (z0.length : Nat)) = decide ((strV (V.str z)).length = z0.length) := by
        show _ = decide (z.length = z0.length)
        rw [Bool.eq_iff_iff]
        simp
        omega
      rw [← e] at this
      exact this
    refine ⟨_, rfl, ?_⟩
    have e1 : ((z0 :: zs).map V.str).all (fun x => decide ((strV x).length = z0.length)) = (z0 :: zs).all (fun z => decide (z.length = z0.length)) := by
      rw [List.all_map]; rfl
    have hs4 : SqT K H4 a ((z0 :: zs).map V.str) := q4.kep.seqT hT hs
    have k4 : Q (.bl ((z0 :: zs).all (fun z => decide (z.length = z0.length)) && (decide ((once (z0 :: zs)).length = (z0 :: zs).length) && decide (z0.length * (z0 :: zs).length ≤ 36)))) H4 := k H4 q4
    rw [e1]
    cases hal : (z0 :: zs).all (fun z => decide (z.length = z0.length)) with
    | false =>
      refine iteT ?_
      rw [hal, Bool.false_and] at k4
      exact k4
    | true =>
      rw [hal, Bool.true_and] at k4
      refine iteF ?_
      have hln : ((z0 :: zs).map V.str).length = (z0 :: zs).length := List.length_map ..
      refine ⟨_, rfl, a, z0 :: zs, rfl, hs4, by rw [← hln]; exact hn, _, rfl, a, _, rfl, .inr hs4, rfl, _, rfl, ?_⟩
      have e2 : decide (V.int ((once (z0 :: zs)).length : Nat) = V.int (((z0 :: zs).map V.str).length : Nat)) = decide ((once (z0 :: zs)).length = (z0 :: zs).length) := by
        rw [hln, Bool.eq_iff_iff]
        simp
        omega
      rw [e2]
      by_cases h5 : (once (z0 :: zs)).length = (z0 :: zs).length
      case neg =>
        refine iteF' (decide_eq_false h5) ?_
        rw [decide_eq_false h5, Bool.false_and] at k4
        exact k4
      refine iteT' (decide_eq_true h5) ?_
      rw [decide_eq_true h5, Bool.true_and] at k4
      refine ⟨_, rfl, _, rfl, a, _, rfl, .inr hs4, _, _, rfl, rfl, .inl ⟨by omega, by omega⟩, _, _, rfl, rfl, ?_⟩
      have e3 : decide ((z0.length : Int) * (((z0 :: zs).map V.str).length : Nat) ≤ 36) = decide (z0.length * (z0 :: zs).length ≤ 36) := by
        rw [hln, Bool.eq_iff_iff]
        simp only [decide_eq_true_eq]
        constructor <;> intro h
        · exact_mod_cast h
        · exact_mod_cast h
      rw [← e3] at k4
      exact k4
end
/-! ### Stamps -/
structure ErrC (K : PySem.W.Frag) (mg : Str → Option Value) (x : Str) (D : Addr) : Prop where
  e : PySem.W.excIn K D [.type "ValueError", .type "Exception", .type "BaseException", .type "object"] "ValueError.__new__" = true
  g : mg x = some (.ref D)
  k : PySem.W.keepIn K (.ref D) = true
  b : PySem.W.subIn K (.ref D) (.type "BaseException") = some true
  t : PySem.W.typeIn K (.ref D) = some (.type "type")
/-- what stood stands, but for the tables and the object at a -/
def KepX (T : List Addr) (a : Addr) (H H' : Hp) : Prop := (∀ P ∈ T, TabG H' P) ∧ ∀ b o, b ∉ T → b ≠ a → H b = some o → H' b = some o
/-- an object of the program: a text, or something else -/
def Wd (K : PySem.W.Frag) (T : List Addr) (H : Hp) (x : V) : Prop := (∃ z : Str, x = .str z ∧ z.length ≤ sizeLine) ∨ (isTextV x = false ∧ ∃ t, PySem.W.kitOne K t (.type "str") = some false ∧ ∀ H2, Kep T H H2 → TyX K H2 x t)
/-- stamps stand at a: their list at l -/
def Stp (H : Hp) (C a l dx : Addr) (xs : List V) : Prop := H a = some (.ins C dx [("_words", .ref l)]) ∧ H l = some (.lst xs)
def spInit (K : PySem.W.Frag) (T : List Addr) (C D : Addr) : Sp := fun vs H Q E => ∃ (a dx : Addr) (xs : List V), vs = V.ref a :: xs ∧ H a = some (.ins C dx []) ∧ (∀ p ∈ T, TabG H p) ∧ xs.length ≤ 4000 ∧ (∀ x ∈ xs, Wd K T H x) ∧
  (stampsV xs = true → ∀ H3 l, H l = none → l ∉ T → l ≠ a → Stp H3 C a l dx xs → KepX T a H H3 → Q .non H3) ∧ (stampsV xs = false → ∀ H3, Kep T H H3 → E (.ref D) none H3)
theorem scInit : FnScope ["self", "words"] ((["self"] : List Str) ++ (["words"] : List Str)) (defScope sInit) := ⟨rfl, rfl, rfl, by decide +kernel, rfl, by decide +kernel, by decide +kernel⟩
structure Own (K : PySem.W.Frag) (C : Addr) : Prop where
  cls : Cls K C
  noW : NoAttr K C "_words"
section
variable {P : Program} {w : World} {K : PySem.W.Frag} {mg : Str → Option Value} {base : Heap} {T : List Addr} {C D fLow fText fAre fTape fNext fInks fInit cLow PLow cAre PAre : Addr}
theorem Kep.ty {H H1 H2 : Hp} (h : Kep T H H1) (h2 : Tbs T H1 H2) : Kep T H H2 := h.trans h2.kep
theorem ok_init {fd fdA fdT fdL : FuncData} (F : L2.Fun K "__init__" "Stamps.__init__" sInit fInit fd) (FA : FunC K "are_stamps" "are_stamps" sAre fAre fdA cAre) (FT : L2.Fun K "is_text" "is_text" sText fText fdT) (FL : FunC K "is_lowercase" "is_lowercase" sLow fLow fdL cLow) (X : Txt K mg C fLow fText fAre fTape fNext fInks) (B : Tab base mg T cLow PLow cAre PAre) (O : Own K C) (Er : ErrC K mg "InvalidStamps" D) :
    FnR P w K mg base (L2.CX P w) 6 fInit (spInit K T C D) := by
  obtain ⟨oc, od, kV, doc, pm, an, cdv, ct, osl, rfl, lk, hcd⟩ := F.ex
  have R := StX.fn_star (CX := L2.CX P w) (P := P) (w := w) (mg := mg) (base := base) (ps := ["self"]) (pv := "words") (N := ["self", "words"]) (k := 5)
    (sp := fun vs H Q E => ∃ (a p dx : Addr) (xs : List V), vs = [.ref a, .ref p] ∧ H p = some (.tup xs) ∧ H a = some (.ins C dx []) ∧ p ∉ T ∧ (∀ p ∈ T, TabG H p) ∧ xs.length ≤ 4000 ∧ (∀ x ∈ xs, Wd K T H x) ∧
      (stampsV xs = true → ∀ H3 l, H l = none → l ∉ T → l ≠ a → Stp H3 C a l dx xs → KepX T a H H3 → Q .non H3) ∧ (stampsV xs = false → ∀ H3, Kep T H H3 → E (.ref D) none H3))
    lk hcd scInit StX.cxUp (StX.bind_star1 (B := fun us => bindArgs _ ⟨us, []⟩) (fun _ => rfl) (fun _ _ _ => rfl)) (fun A outer s H vs Q E hr h => ?_)
  · intro A outer s H us vs Q E hr e0 r h
    refine R A outer s H us vs Q E hr e0 r ?_
    obtain ⟨a, dx, xs, rfl, ha, hT, hn, hx, k1, k2⟩ := h
    have hz : xs.length ≤ sizeLine := Nat.le_trans hn (by decide)
    refine ⟨[.ref a], xs, rfl, rfl, hz, fun p hp => ?_⟩
    have hpT : p ∉ T := free_tab hT hp
    have kn : Kep T H (upd H p (.tup xs)) := Kep.new hT hp
    have hpa : a ≠ p := ne_of_none ha hp
    refine ⟨a, p, dx, xs, rfl, upd_same, (upd_ne hpa).trans ha, hpT, kn.1, hn, fun x hx' => ?_, fun hv H3 l hl hlT hla st kx => ?_, fun hv H3 k => k2 hv H3 (kn.trans k)⟩
    · rcases hx x hx' with z | ⟨z1, t, z2, z3⟩
      · exact .inl z
      · exact .inr ⟨z1, t, z2, fun H2 q => z3 H2 (kn.trans q)⟩
    · have hl' : H l = none := kn.free hT hl
      exact k1 hv H3 l hl' hlT hla st ⟨kx.1, fun b o hb hba e => kx.2 b o hb hba (kn.2 b o hb e)⟩
  · obtain ⟨a, p, dx, xs, rfl, hp, ha, hpT, hT, hn, hx, k1, k2⟩ := h
    refine ⟨_, pss_cons (ps_if (pt_not (pt_val (pe_call (ok_are FA FT FL X B) hr (by rfl) X.gAre X.kAre (FA.toFun.binds fun _ _ _ _ _ _ us hl => match us, hl with | [_], _ => rfl) .nil L2.pass0 (pa_cons (pv 1) pa_nil))))
      (pss_one (ps_raise rfl (takes_of rfl rfl rfl rfl) (pmk_own PySem.F.excBase_ValueError Er.e Er.g Er.k (raises_own Er.b Er.t) (by rfl)))) pss_nil)
      (pss_one (ps_fld (pv 0) (pe_callTy call_list_of (by rfl) X.lst (by decide +kernel) (pa_cons (pv 1) pa_nil)) (by rfl))), ?_⟩
    refine ⟨_, rfl, p, xs, rfl, hT, .inl (.inl hp), hn, fun x hx' => ?_, fun H2 h2 => ⟨_, rfl, ?_⟩⟩
    · rcases hx x hx' with z | ⟨z1, t, z2, z3⟩
      · exact .inl z
      · exact .inr ⟨z1, t, z2, fun H2 q => z3 H2 q.kep⟩
    have hp2 : H2 p = some (.tup xs) := h2.kep.at hT hp fun _ z => by cases z
    have ha2 : H2 a = some (.ins C dx []) := h2.kep.at hT ha fun _ z => by cases z
    cases hv : stampsV xs with
    | false => exact iteT (k2 hv H2 h2.kep)
    | true =>
      refine iteF ?_
      refine ⟨_, rfl, p, xs, rfl, .inr (.inl (.inl hp2)), fun l hl => ⟨_, rfl, a, C, dx, [], rfl, ?_, O.cls, O.noW, by decide, ?_⟩⟩
      · exact (upd_ne (ne_of_none ha2 hl)).trans ha2
      · have hla : l ≠ a := fun z => by rw [z, ha2] at hl; cases hl
        have hlT : l ∉ T := free_tab h2.1 hl
        have haT : a ∉ T := not_tab hT ha fun _ z => by cases z
        refine k1 hv _ l (h2.kep.free hT hl) hlT hla ⟨upd_same, (upd_ne hla).trans upd_same⟩ ⟨fun q hq => ?_, fun b o hb hba e => ?_⟩
        · obtain ⟨ps, h1, h2'⟩ := h2.1 q hq
          exact ⟨ps, (upd_ne (show q ≠ a from fun z => haT (z ▸ hq))).trans ((upd_ne (show q ≠ l from fun z => hlT (z ▸ hq))).trans h1), h2'⟩
        · have e2 := h2.kep.2 b o hb e
          exact (upd_ne hba).trans ((upd_ne (ne_of_none e2 hl)).trans e2)
theorem KepX.kep {H H1 H3 : Hp} {a : Addr} (k : Kep T H H1) (ha : H a = none) (x : KepX T a H1 H3) : Kep T H H3 := ⟨x.1, fun b o hb e => x.2 b o hb (ne_of_none e ha) (k.2 b o hb e)⟩
theorem Wd.kep {H H1 : Hp} {x : V} (k : Kep T H H1) (h : Wd K T H x) : Wd K T H1 x := by
  rcases h with z | ⟨z1, t, z2, z3⟩
  · exact .inl z
  · exact .inr ⟨z1, t, z2, fun H2 q => z3 H2 (k.trans q)⟩
/-- a new object with its dict -/
theorem Kep.made {H : Hp} {x dx C : Addr} (hT : ∀ p ∈ T, TabG H p) (hx : H x = none) (hdx : H dx = none) (hne : dx ≠ x) : Kep T H (upd (upd H dx (.own x)) x (.ins C dx [])) :=
  (Kep.new hT hdx).trans (Kep.new (Kep.new hT hdx).1 ((upd_ne hne.symm).trans hx))
/-- C(*xs) for stamps: what it asks -/
def Makes (K : PySem.W.Frag) (T : List Addr) (C D : Addr) (H : Hp) (xs : List V) (Q : VK) (E : XK) : Prop := (∀ p ∈ T, TabG H p) ∧ xs.length ≤ 4000 ∧ (∀ x ∈ xs, Wd K T H x) ∧
  (stampsV xs = true → ∀ H3 a l dx, H a = none → H l = none → H dx = none → a ∉ T → l ∉ T → Stp H3 C a l dx xs → Kep T H H3 → Q (.ref a) H3) ∧ (stampsV xs = false → ∀ H3, Kep T H H3 → E (.ref D) none H3)
theorem Makes.init {H : Hp} {xs : List V} {Q : VK} {E : XK} (m : Makes K T C D H xs Q E) {x dx : Addr} (hx : H x = none) (hdx : H dx = none) (hne : dx ≠ x) :
    spInit K T C D (V.ref x :: xs) (upd (upd H dx (.own x)) x (.ins C dx [])) (fun v H2 => v = .non ∧ Q (.ref x) H2) E := by
  obtain ⟨hT, hn, hw, k1, k2⟩ := m
  have kn : Kep T H (upd (upd H dx (.own x)) x (.ins C dx [])) := Kep.made hT hx hdx hne
  exact ⟨x, dx, xs, rfl, upd_same, kn.1, hn, fun y hy => (hw y hy).kep kn, fun hv H3 l hl hlT hla st kx => ⟨rfl, k1 hv H3 x l dx hx (kn.free hT hl) hdx (free_tab hT hx) hlT st (KepX.kep kn hx kx)⟩, fun hv H3 k => k2 hv H3 (kn.trans k)⟩
def spOf (K : PySem.W.Frag) (T : List Addr) (C D : Addr) : Sp := fun vs H Q E => ∃ y, vs = [V.ref C, y] ∧
  ((∃ p xs, y = V.ref p ∧ H p = some (.lst xs) ∧ Makes K T C D H xs Q E) ∨ (∃ t, TyX K H y t ∧ PySem.W.kitOne K t (.type "list") = some false ∧ E (.ref D) none H))
theorem scOf : FnScope ["cls", "words"] ["cls", "words"] (defScope sOf) := ⟨rfl, rfl, rfl, by decide +kernel, rfl, by decide +kernel, by decide +kernel⟩
theorem ok_of {f : Addr} {fd : FuncData} (F : L2.Fun K "of" "Stamps.of" sOf f fd) (FI : FnR P w K mg base (L2.CX P w) 6 fInit (spInit K T C D)) (M : Mk K C fInit) (X : Txt K mg C fLow fText fAre fTape fNext fInks) (Er : ErrC K mg "InvalidStamps" D) :
    FnOk P w K mg base (L2.CX P w) 8 f fd ["cls", "words"] (spOf K T C D) := by
  refine F.okX scOf (fun vs H Q E h => ?_) (fun cdv A outer s H vs Q E hr h => ?_)
  · obtain ⟨y, rfl, _⟩ := h
    rfl
  · obtain ⟨y, rfl, h⟩ := h
    refine ⟨_, pss_cons (ps_if (pt_not (pt_val (pe_callB call_isi (by rfl) X.isi boot_isinstance (pa_cons (pv 1) (pa_cons (pe_bltn (v := .ty "list") (by rfl) X.lst (by decide +kernel) rfl) pa_nil)))))
      (pss_one (ps_raise rfl (takes_of rfl rfl rfl rfl) (pmk_own PySem.F.excBase_ValueError Er.e Er.g Er.k (raises_own Er.b Er.t) (by rfl)))) pss_nil)
      (pss_one (ps_ret (pe_makeS M FI hr (passes_call (E := E) (takes_of rfl rfl rfl rfl) (fun _ _ _ _ h => h)) (pv 0) (pv 1)))), ?_⟩
    rcases h with ⟨p, xs, rfl, hp, m⟩ | ⟨t, ht, hk, he⟩
    · refine ⟨_, rfl, _, _, _, _, _, rfl, .ty _, .base (.lst hp), kit_ty (r := true) (by decide +kernel), true, rfl, iteF ?_⟩
      refine ⟨_, rfl, rfl, _, rfl, p, xs, rfl, .inr (.inl (.inl hp)), fun x dx hx hdx hne => m.init hx hdx hne⟩
    · refine ⟨_, rfl, _, _, _, _, _, rfl, .ty _, ht, hk, false, rfl, iteT ?_⟩
      exact he
end
/-! ### the law's tape -/
/-- a tape at t that was asked n times at most -/
def Tp (H : Hp) (t : Addr) (n : Nat) : Prop := ∃ a b c : Int, H t = some (.lst [.int a, .int b, .int c]) ∧ 0 ≤ a ∧ 0 ≤ b ∧ b < 10 ^ 41 ∧ 0 ≤ c ∧ c ≤ n
/-- all but the thing at t is as it was -/
def But (t : Addr) (H H' : Hp) : Prop := ∀ b, b ≠ t → H' b = H b
theorem But.put {H : Hp} {t : Addr} {o : HO} : But t H (upd H t o) := fun _ hb => upd_ne hb
theorem But.trans {H H1 H2 : Hp} {t : Addr} (a : But t H H1) (b : But t H1 H2) : But t H H2 := fun c hc => (b c hc).trans (a c hc)
def spTape (K : PySem.W.Frag) : Sp := fun vs H Q _ => ∃ (p : Addr) (ns : List Int) (k : Int), vs = [.ref p, .int k] ∧ SqL K H p (ns.map V.int) ∧ 0 ≤ k ∧ k ≤ 63 ∧ ∀ t H', H t = none → Tp H' t 0 → But t H H' → Q (.ref t) H'
def spNext : Sp := fun vs H Q _ => ∃ (t : Addr) (many : Int) (n : Nat), vs = [.ref t, .int many] ∧ Tp H t n ∧ n < 2 ^ 40 ∧ 0 < many ∧ many < 1000000 ∧ ∀ d H', 0 ≤ d → d < many → Tp H' t (n + 1) → But t H H' → Q (.int d) H'
section
variable {P : Program} {w : World} {K : PySem.W.Frag} {mg : Str → Option Value} {base : Heap} {T : List Addr} {C D fLow fText fAre fTape fNext fInks fInit cLow PLow cAre PAre : Addr}
theorem scTape : FnScope ["script", "k", "cell"] ["script", "k"] (defScope sTape) := ⟨rfl, rfl, rfl, by decide +kernel, rfl, by decide +kernel, by decide +kernel⟩
theorem ok_tape {f : Addr} {fd : FuncData} (F : L2.Fun K "_law_vat" "_law_vat" sTape f fd) (X : Txt K mg C fLow fText fAre fTape fNext fInks) : FnOk P w K mg base CX0 1 f fd ["script", "k"] (spTape K) := by
  refine F.ok scTape (fun vs H Q E h => ?_) (fun cdv A outer s H vs Q E hr h => ?_)
  · obtain ⟨p, ns, k, rfl, _⟩ := h
    rfl
  · obtain ⟨p, ns, k, rfl, hs, h0, h63, q⟩ := h
    refine ⟨_, C8.pss_cut (ps_set (i := 2) scTape.nd rfl (.inl rfl) (pe_ifExp (pt_cmpR op_lt (pv 1) (pe_callB call_len_seq (by rfl) X.len boot_len (pa_cons (pv 0) pa_nil)) (by rfl))
        (pe_callB call_abs (by rfl) X.abs (by decide +kernel) (pa_cons (pe_ix ix_seq (pv 0) (pv 1) fun _ _ => rfl) pa_nil)) pe_int))
      (pss_one (ps_ret (pe_lst (pa_cons (pe_callB (call_max2 rfl) (by rfl) X.max (by decide +kernel) (pa_cons pe_int (pa_cons (pe_op op_sub (pv 2) (pe_op op_pow pe_int pe_int)) pa_nil)))
        (pa_cons (pe_op op_add (pe_op op_mul (pe_op op_mod (pv 2) (pe_op op_add (pe_op op_pow pe_int pe_int) pe_int)) pe_int) (pv 1)) (pa_cons pe_int pa_nil)))))), ?_⟩
    refine ⟨fun σ' H' => H' = H ∧ ∃ cell : Int, 0 ≤ cell ∧ σ' = [some (.ref p), some (.int k), some (.int cell)], ?_, ?_⟩
    · refine ⟨_, rfl, _, rfl, p, _, rfl, .inl hs, _, _, rfl, rfl, _, rfl, ?_⟩
      rw [List.length_map]
      refine ite2 (fun hk => ?_) (fun hk => ?_)
      · have hk : k < (ns.length : Int) := by simpa using hk
        have hi : k.toNat < ns.length := by omega
        refine ⟨_, rfl, _, rfl, .inl ⟨p, _, k, .int ns[k.toNat], rfl, rfl, hs, ?_, _, rfl, rfl, _, ?_, rfl⟩⟩
        · have e : k = (k.toNat : Int) := by omega
          have z : atI (ns.map V.int) (k.toNat : Int) = some (.int ns[k.toNat]) := atI_nat (by rw [List.getElem?_map, List.getElem?_eq_getElem hi]; rfl)
          rw [← e] at z
          exact z
        · split <;> omega
      · exact ⟨rfl, 0, by decide, rfl⟩
    · rintro σ' H' ⟨rfl, cell, hc, rfl⟩
      refine ⟨_, rfl, _, _, rfl, rfl, ⟨by decide, by decide, by decide⟩, _, _, rfl, rfl, _, _, rfl, ?_⟩
      refine ⟨_, rfl, _, _, rfl, rfl, ⟨by decide, by decide, by decide⟩, _, _, rfl, rfl, _, _, rfl, rfl, (by decide : (0 : Int) < 10 ^ Int.toNat 39 + 3), _, _, rfl, rfl, .inr ⟨by decide, by decide⟩, _, rfl, _, _, rfl, rfl, ?_⟩
      refine ⟨(by decide : 3 ≤ sizeLine), fun t ht => q t _ ht ⟨_, _, _, upd_same, ?_, ?_, ?_, by decide, by decide⟩ But.put⟩
      · split <;> omega
      · show 0 ≤ cell % (10 ^ Int.toNat 39 + 3) * 64 + k
        have := Int.emod_nonneg cell (b := 10 ^ Int.toNat 39 + 3) (by decide)
        omega
      · show cell % (10 ^ Int.toNat 39 + 3) * 64 + k < 10 ^ 41
        have h1 := Int.emod_lt_of_pos cell (b := 10 ^ Int.toNat 39 + 3) (by decide)
        have e1 : (10 : Int) ^ Int.toNat 39 + 3 = 1000000000000000000000000000000000000003 := by decide
        have e2 : (10 : Int) ^ 41 = 100000000000000000000000000000000000000000 := by decide
        rw [e1] at h1 ⊢
        rw [e2]
        omega
end
end Ov

set_option Elab.async false
set_option linter.all false
set_option maxRecDepth 100000
set_option maxHeartbeats 4000000
namespace Ov
open PySem PySem.Spec PyProof.Rows L2 GxR
section
variable {P : Program} {w : World} {K : PySem.W.Frag} {mg : Str → Option Value} {base : Heap} {T : List Addr} {C D fLow fText fAre fTape fNext fInks fInit cLow PLow cAre PAre : Addr}
theorem scNext : FnScope ["vat", "size", "digit", "mixed"] ["vat", "size"] (defScope sNext) := ⟨rfl, rfl, rfl, by decide +kernel, rfl, by decide +kernel, by decide +kernel⟩
theorem pow3_bits {x : Int} (h0 : 0 ≤ x) (h : x < 2 ^ 140) : CPowW x 3 := by
  refine ⟨by decide, ?_⟩
  have e : (2 : Int) ^ 140 = 1393796574908163946345982392040522594123776 := by decide
  have e2 : (2 : Nat) ^ 140 = 1393796574908163946345982392040522594123776 := by decide
  have hb : Builtin.Int.intBits x ≤ 140 := bits_le (by rw [e2]; omega) (by decide)
  have e3 : (2 : Int) ^ 27 = 134217728 := by decide
  rw [e3]
  omega
theorem pow5_bits {x : Int} (h0 : 0 ≤ x) (h : x < 2 ^ 140) : CPowW x 5 := by
  refine ⟨by decide, ?_⟩
  have e : (2 : Int) ^ 140 = 1393796574908163946345982392040522594123776 := by decide
  have e2 : (2 : Nat) ^ 140 = 1393796574908163946345982392040522594123776 := by decide
  have hb : Builtin.Int.intBits x ≤ 140 := bits_le (by rw [e2]; omega) (by decide)
  have e3 : (2 : Int) ^ 27 = 134217728 := by decide
  rw [e3]
  omega
theorem ok_next {f : Addr} {fd : FuncData} (F : L2.Fun K "_law_sip" "_law_sip" sNext f fd) (X : Txt K mg C fLow fText fAre fTape fNext fInks) : FnOk P w K mg base CX0 1 f fd ["vat", "size"] spNext := by
  refine F.ok scNext (fun vs H Q E h => ?_) (fun cdv A outer s H vs Q E hr h => ?_)
  · obtain ⟨t, m, n, rfl, _⟩ := h
    rfl
  · obtain ⟨t, m, n, rfl, ⟨a, b, c, ht, ha, hb, hb2, hc, hcn⟩, hn, hm, hm2, q⟩ := h
    refine ⟨_, pss_cons (ps_if (pt_cmpR op_gt (pe_ix ix_seq (pv 0) pe_int fun _ _ => rfl) pe_int (by rfl))
        (pss_cons (ps_set (i := 2) scNext.nd rfl (.inl rfl) (pe_op op_mod (pe_ix ix_seq (pv 0) pe_int fun _ _ => rfl) (pv 1)))
          (pss_cons (ps_asg (pe_op op_fdiv (pe_ix ix_seq (pv 0) pe_int fun _ _ => rfl) (pv 1)) (pg_sub (pv 0) pe_int set_list)) (pss_one (ps_ret (pv 2))))) pss_nil)
      (pss_cons (ps_asg (pe_op op_add (pe_ix ix_seq (pv 0) pe_int fun _ _ => rfl) pe_int) (pg_sub (pv 0) pe_int set_list))
      (pss_cons (ps_set (i := 3) scNext.nd rfl (.inl rfl) (pe_op op_mod (pe_op op_powW (pe_op op_add (pe_ix ix_seq (pv 0) pe_int fun _ _ => rfl) (pe_op op_mul pe_int (pe_ix ix_seq (pv 0) pe_int fun _ _ => rfl))) pe_int) (pe_op op_add (pe_op op_pow pe_int pe_int) pe_int)))
      (pss_cons (ps_set (i := 3) scNext.nd rfl (.inl rfl) (pe_op op_mod (pe_op op_powW (pe_op op_add (pv 3) (pe_op op_mul pe_int (pe_ix ix_seq (pv 0) pe_int fun _ _ => rfl))) pe_int) (pe_op op_add (pe_op op_pow pe_int pe_int) pe_int)))
      (pss_one (ps_ret (pe_op op_mod (pe_op op_fdiv (pv 3) pe_int) (pv 1))))))), ?_⟩
    have at0 : ∀ {x y z : V}, atI [x, y, z] 0 = some x := fun {x y z} => by simp [atI, ixN]
    have at1 : ∀ {x y z : V}, atI [x, y, z] 1 = some y := fun {x y z} => by simp [atI, ixN]
    have at2 : ∀ {x y z : V}, atI [x, y, z] 2 = some z := fun {x y z} => by simp [atI, ixN]
    refine ⟨_, rfl, .inl ⟨t, _, 0, .int a, rfl, rfl, .inl (.inl ht), at0, _, _, rfl, rfl, _, rfl, ?_⟩⟩
    refine ite2 (fun hk => ?_) (fun hk => ?_)
    · refine ⟨_, rfl, .inl ⟨t, _, 0, .int a, rfl, rfl, .inl (.inl ht), at0, _, rfl, _, _, rfl, rfl, hm, ?_⟩⟩
      refine ⟨_, rfl, .inl ⟨t, _, 0, .int a, rfl, rfl, .inl (.inl ht), at0, _, rfl, _, _, rfl, rfl, ⟨hm, by omega⟩, ?_⟩⟩
      refine ⟨_, rfl, t, _, 0, 0, rfl, rfl, ht, by simp [ixN], _, rfl, ?_⟩
      exact q _ _ (Int.emod_nonneg _ (by omega)) (Int.emod_lt_of_pos _ hm) ⟨_, _, _, upd_same, Int.ediv_nonneg ha (by omega), hb, hb2, hc, by omega⟩ But.put
    · refine ⟨_, rfl, .inl ⟨t, _, 2, .int c, rfl, rfl, .inl (.inl ht), at2, _, _, rfl, rfl, ?_⟩⟩
      refine ⟨_, rfl, t, _, 2, 2, rfl, rfl, ht, by simp [ixN], ?_⟩
      have h2 : upd H t (.lst [.int a, .int b, .int (c + 1)]) t = some (.lst [.int a, .int b, .int (c + 1)]) := upd_same
      have e40 : (10 : Int) ^ 41 = 100000000000000000000000000000000000000000 := by decide
      have e140 : (2 : Int) ^ 140 = 1393796574908163946345982392040522594123776 := by decide
      have en : (2 : Nat) ^ 40 = 1099511627776 := by decide
      rw [en] at hn
      rw [e40] at hb2
      refine ⟨_, rfl, .inl ⟨t, _, 1, .int b, rfl, rfl, .inl (.inl h2), at1, _, rfl, .inl ⟨t, _, 2, .int (c + 1), rfl, rfl, .inl (.inl h2), at2, _, _, rfl, rfl, .inl ⟨by decide, by decide⟩, _, _, rfl, rfl, ?_⟩⟩⟩
      refine ⟨_, _, rfl, rfl, pow3_bits (by omega) (by rw [e140]; omega), _, _, rfl, rfl, ⟨by decide, by decide, by decide⟩, _, _, rfl, rfl, _, _, rfl, rfl, (by decide : (0 : Int) < 10 ^ Int.toNat 41 + 37), ?_⟩
      generalize hm1 : ((b + 49979693 * (c + 1)) ^ Int.toNat 3) % (10 ^ Int.toNat 41 + 37) = m1
      have m1a : 0 ≤ m1 := by rw [← hm1]; exact Int.emod_nonneg _ (by decide)
      have m1b : m1 < 100000000000000000000000000000000000000037 := by
        rw [← hm1]
        exact Int.emod_lt_of_pos _ (by decide)
      refine ⟨_, rfl, _, rfl, .inl ⟨t, _, 2, .int (c + 1), rfl, rfl, .inl (.inl h2), at2, _, _, rfl, rfl, .inl ⟨by decide, by decide⟩, _, _, rfl, rfl, ?_⟩⟩
      refine ⟨_, _, rfl, rfl, pow5_bits (by omega) (by rw [e140]; omega), _, _, rfl, rfl, ⟨by decide, by decide, by decide⟩, _, _, rfl, rfl, _, _, rfl, rfl, (by decide : (0 : Int) < 10 ^ Int.toNat 38 + 133), ?_⟩
      generalize ((m1 + 15485869 * (c + 1)) ^ Int.toNat 5) % (10 ^ Int.toNat 38 + 133) = m2
      refine ⟨_, rfl, _, _, rfl, rfl, ⟨by decide, by decide⟩, _, rfl, _, _, rfl, rfl, hm, ?_⟩
      exact q _ _ (Int.emod_nonneg _ (by omega)) (Int.emod_lt_of_pos _ hm) ⟨_, _, _, upd_same, ha, hb, by rw [e40]; exact hb2, by omega, by omega⟩ But.put
end
end Ov

set_option Elab.async false
set_option linter.all false
set_option maxRecDepth 100000
set_option maxHeartbeats 4000000
/-! == and != of instances of own classes without == of their own, of two classes -/
namespace Ov
open PySem PySem.Spec PyProof.Rows L2
section
variable {prog : Program} {w : World} {A : Around} {E : Value → Shared → Prop} {s : Shared} {K : PySem.W.Frag} {x y C D : Addr} {ox oy : Obj} {od od' : Option Obj}
/-- no == and no != of their own -/
structure NoEq2 (K : PySem.W.Frag) (C : Addr) : Prop where
  eq : PySem.W.findIn K (.ref C) "__eq__" = some (some (.builtin "object.__eq__"))
  ne : PySem.W.findIn K (.ref C) "__ne__" = some (some (.builtin "object.__ne__"))
  sub : PySem.W.subIn K (.ref C) (.type "object") = some true
theorem chk2 {id n : String} (hk : builtinKind id = some .slot) (hsp : splitId id = some ("object", n)) (ha : argsOk id ⟨[.ref x, .ref y], []⟩) {Q : Unit → Shared → Prop} (X : K.In s.heap) (I : PySem.W.InstAt s.heap x ox C od) (hsub : PySem.W.subIn K (.ref C) (.type "object") = some true) (fin : Q () s) :
    wpAny (model prog w) A (checkBuiltinCall id ⟨[.ref x, .ref y], []⟩) Q E s := by
  simp only [checkBuiltinCall, hk, hsp]
  refine wpAny_bind ?_
  unfold isInstance
  refine wpAny_bind (I.type.here ?_)
  refine (PySem.W.looks_subIn X hsub).here ?_
  cases hsig : Manifest.signature? id with
  | none => exact wpAny_pure fin
  | some sig =>
    simp only [argsOk, hsig] at ha
    have h2 : Bind.checkArgs id sig ⟨[.ref x, .ref y], []⟩ = pure () := ha
    show wpAny _ A (Bind.checkArgs id sig ⟨[.ref x, .ref y], []⟩) _ _ _
    rw [h2]; exact wpAny_pure fin
theorem call_objEq2 {Q : Value → Shared → Prop} (X : K.In s.heap) (I : PySem.W.InstAt s.heap x ox C od) (J : PySem.W.InstAt s.heap y oy D od') (n : NoEq2 K C)
    (h : Q (if x = y then .bool true else .notImplemented) s) : wpAny (model prog w) A (call (.builtin "object.__eq__") [.ref x, .ref y]) Q E s := by
  refine wpAny_call (codeAny_call_builtin F.cmp_object.eq.plain F.cmpEntry_eq (chk2 F.cmpKind_eq F.cmpSplit_eq (F.cmpArgs_eq _ _) X I n.sub ?_))
  by_cases hxy : x = y
  · subst hxy
    exact objEq_entry_same (by rw [if_pos rfl] at h; exact h)
  · refine objEq_entry_other hxy I.at_ J.at_ ?_ (by rw [if_neg hxy] at h; exact h)
    rw [I.cls]
    intro z; cases z
theorem special2 {f : String} {name : Str} (hs : PySem.W.findIn K (.ref C) name = some (some (.builtin f))) (hbind : ∀ self : Value, bindSpecial (.builtin f) self = pure (.builtin f, [self])) {Q : Option Value → Shared → Prop} (X : K.In s.heap) (I : PySem.W.InstAt s.heap x ox C od)
    (h : wpAny (model prog w) A (call (.builtin f) [.ref x, .ref y]) (fun v s' => Q (some v) s') E s) : wpAny (model prog w) A (callSpecialIfBound? (.ref x) name [.ref y]) Q E s := by
  simp only [callSpecialIfBound?, bindSpecialIfBound?]
  refine wpAny_holding (wpAny_bind (wpAny_bind (wpAny_bind (I.type.here ((PySem.W.looks_findIn X hs).here ?_)))))
  have fin : wpAny (model prog w) A (call (.builtin f) ([.ref x] ++ [.ref y]) >>= fun v => pure (some v)) Q E s := wpAny_bind (wpAny_mono h (fun v s' hq => wpAny_pure hq) fun _ _ e => e)
  simp only [hbind]
  refine wpAny_bind (wpAny_askSetting (wpAny_ite ?_))
  split
  · exact wpAny_bind (wpAny_pure (wpAny_pure fin))
  · exact wpAny_tryCatch (wpAny_bind (wpAny_pure (wpAny_pure fin)))
theorem try_eq2 {Q : Option Value → Shared → Prop} (X : K.In s.heap) (I : PySem.W.InstAt s.heap x ox C od) (J : PySem.W.InstAt s.heap y oy D od') (n : NoEq2 K C)
    (h : Q (if x = y then some (.bool true) else none) s) : wpAny (model prog w) A (tryCompare (.ref x) "__eq__" (.ref y)) Q E s := by
  unfold tryCompare
  refine wpAny_bind (special2 n.eq F.cmp_object.eq.bind X I (call_objEq2 X I J n ?_))
  by_cases hxy : x = y
  · rw [if_pos hxy] at h ⊢
    exact wpAny_pure h
  · rw [if_neg hxy] at h ⊢
    exact wpAny_pure h
theorem special_t {Q : Option Value → Shared → Prop} (hxy : x = y) (X : K.In s.heap) (I : PySem.W.InstAt s.heap x ox C od) (J : PySem.W.InstAt s.heap y oy D od') (n : NoEq2 K C) (h : Q (some (.bool true)) s) : wpAny (model prog w) A (callSpecialIfBound? (.ref x) "__eq__" [.ref y]) Q E s :=
  special2 n.eq F.cmp_object.eq.bind X I (call_objEq2 X I J n (by rw [if_pos hxy]; exact h))
theorem special_f {Q : Option Value → Shared → Prop} (hxy : x ≠ y) (X : K.In s.heap) (I : PySem.W.InstAt s.heap x ox C od) (J : PySem.W.InstAt s.heap y oy D od') (n : NoEq2 K C) (h : Q (some .notImplemented) s) : wpAny (model prog w) A (callSpecialIfBound? (.ref x) "__eq__" [.ref y]) Q E s :=
  special2 n.eq F.cmp_object.eq.bind X I (call_objEq2 X I J n (by rw [if_neg hxy]; exact h))
theorem objNe_entry2 {Q : Fin → Shared → Prop} (hu : A.units < cLine) (X : K.In s.heap) (I : PySem.W.InstAt s.heap x ox C od) (J : PySem.W.InstAt s.heap y oy D od') (n : NoEq2 K C)
    (h : Q (.done (.ret (if x = y then .bool false else .notImplemented))) s) : wpAny (model prog w) A (Builtin.«object.__ne__» ⟨[.ref x, .ref y], []⟩) Q E s := by
  unfold Builtin.«object.__ne__»
  by_cases hxy : x = y
  · rw [if_pos hxy] at h
    repeat (first | with_reducible refine wpAny_cRoomFor hu ?_ | with_reducible refine special_t hxy X I J n ?_ | wp_step)
    exact h
  · rw [if_neg hxy] at h
    repeat (first | with_reducible refine wpAny_cRoomFor hu ?_ | with_reducible refine special_f hxy X I J n ?_ | wp_step)
    exact h
theorem try_ne2 {Q : Option Value → Shared → Prop} (hu : A.units + 1 < cLine) (X : K.In s.heap) (I : PySem.W.InstAt s.heap x ox C od) (J : PySem.W.InstAt s.heap y oy D od') (n : NoEq2 K C)
    (h : Q (if x = y then some (.bool false) else none) s) : wpAny (model prog w) A (tryCompare (.ref x) "__ne__" (.ref y)) Q E s := by
  unfold tryCompare
  refine wpAny_bind (special2 n.ne F.cmp_object.ne.bind X I (wpAny_call (codeAny_call_builtin F.cmp_object.ne.plain F.cmpEntry_ne (chk2 F.cmpKind_ne F.cmpSplit_ne (F.cmpArgs_ne _ _) X I n.sub (objNe_entry2 (A := A.in1) hu X I J n ?_)))))
  by_cases hxy : x = y
  · rw [if_pos hxy] at h ⊢
    exact wpAny_pure h
  · rw [if_neg hxy] at h ⊢
    exact wpAny_pure h
theorem eq_id2 {Q : Value → Shared → Prop} {b : Bool} (hu : A.units < cLine) (X : K.In s.heap) (I : PySem.W.InstAt s.heap x ox C od) (J : PySem.W.InstAt s.heap y oy D od') (n : NoEq2 K C) (m : NoEq2 K D) (hsub : C ≠ D → PySem.W.subIn K (.ref D) (.ref C) = some b)
    (h : Q (.bool (decide (x = y))) s) : wpAny (model prog w) A (compareOp .Eq (.ref x) (.ref y)) Q E s := by
  show wpAny _ _ (richCompare .Eq (.ref x) (.ref y)) _ _ _
  unfold richCompare
  simp only [oneThing_ref, cmpInfo_Eq]
  refine wpAny_holding (wpAny_bind (wpAny_cRoomFor hu ?_))
  refine wpAny_bind (I.type.here (wpAny_bind (J.type.here ?_)))
  by_cases hCD : C = D
  · subst hCD
    rw [if_neg (by simp)]
    refine wpAny_bind (wpAny_pure ?_)
    simp only [Bool.false_eq_true, if_false]
    refine wpAny_bind (try_eq2 X I J n ?_)
    by_cases hxy : x = y
    · rw [if_pos hxy]
      subst hxy
      exact wpAny_pure (by simpa using h)
    · rw [if_neg hxy]
      have hyx : ¬ y = x := fun z => hxy z.symm
      simp only [Bool.not_false, if_true]
      refine wpAny_bind (try_eq2 X J I n ?_)
      rw [if_neg hyx]
      refine wpAny_bind (wpAny_rule ?_)
      refine wpAny_bind (wpAny_isSame_ref_other hxy I.at_ J.at_ (by rw [I.cls]; intro z; cases z) ?_)
      exact wpAny_pure (by simpa [hxy] using h)
  · have hxy : ¬ x = y := fun z => by
      subst z
      have e1 := I.at_.symm.trans J.at_
      cases e1
      have e2 := I.cls.symm.trans J.cls
      cases e2
      exact hCD rfl
    have hyx : ¬ y = x := fun z => hxy z.symm
    rw [if_pos (by simp [hCD])]
    refine wpAny_bind ((PySem.W.looks_subIn X (hsub hCD)).here ?_)
    cases b with
    | true =>
      simp only [if_true]
      refine wpAny_bind (try_eq2 X J I m ?_)
      rw [if_neg hyx]
      refine wpAny_bind (try_eq2 X I J n ?_)
      rw [if_neg hxy]
      simp only [Bool.not_true, Bool.false_eq_true, if_false]
      refine wpAny_bind (wpAny_rule ?_)
      refine wpAny_bind (wpAny_isSame_ref_other hxy I.at_ J.at_ (by rw [I.cls]; intro z; cases z) ?_)
      exact wpAny_pure (by simpa [hxy] using h)
    | false =>
      simp only [Bool.false_eq_true, if_false]
      refine wpAny_bind (try_eq2 X I J n ?_)
      rw [if_neg hxy]
      simp only [Bool.not_false, if_true]
      refine wpAny_bind (try_eq2 X J I m ?_)
      rw [if_neg hyx]
      refine wpAny_bind (wpAny_rule ?_)
      refine wpAny_bind (wpAny_isSame_ref_other hxy I.at_ J.at_ (by rw [I.cls]; intro z; cases z) ?_)
      exact wpAny_pure (by simpa [hxy] using h)
theorem ne_id2 {Q : Value → Shared → Prop} {b : Bool} (hu : A.units + 1 < cLine) (X : K.In s.heap) (I : PySem.W.InstAt s.heap x ox C od) (J : PySem.W.InstAt s.heap y oy D od') (n : NoEq2 K C) (m : NoEq2 K D) (hsub : C ≠ D → PySem.W.subIn K (.ref D) (.ref C) = some b)
    (h : Q (.bool (!decide (x = y))) s) : wpAny (model prog w) A (compareOp .NotEq (.ref x) (.ref y)) Q E s := by
  show wpAny _ _ (richCompare .NotEq (.ref x) (.ref y)) _ _ _
  unfold richCompare
  simp only [oneThing_ref, cmpInfo_NotEq]
  refine wpAny_holding (wpAny_bind (wpAny_cRoomFor (Nat.lt_of_succ_lt hu) ?_))
  refine wpAny_bind (I.type.here (wpAny_bind (J.type.here ?_)))
  by_cases hCD : C = D
  · subst hCD
    rw [if_neg (by simp)]
    refine wpAny_bind (wpAny_pure ?_)
    simp only [Bool.false_eq_true, if_false]
    refine wpAny_bind (try_ne2 hu X I J n ?_)
    by_cases hxy : x = y
    · rw [if_pos hxy]
      subst hxy
      exact wpAny_pure (by simpa using h)
    · rw [if_neg hxy]
      have hyx : ¬ y = x := fun z => hxy z.symm
      simp only [Bool.not_false, if_true]
      refine wpAny_bind (try_ne2 hu X J I n ?_)
      rw [if_neg hyx]
      refine wpAny_bind (wpAny_rule ?_)
      refine wpAny_bind (wpAny_isSame_ref_other hxy I.at_ J.at_ (by rw [I.cls]; intro z; cases z) ?_)
      exact wpAny_pure (by simpa [hxy] using h)
  · have hxy : ¬ x = y := fun z => by
      subst z
      have e1 := I.at_.symm.trans J.at_
      cases e1
      have e2 := I.cls.symm.trans J.cls
      cases e2
      exact hCD rfl
    have hyx : ¬ y = x := fun z => hxy z.symm
    rw [if_pos (by simp [hCD])]
    refine wpAny_bind ((PySem.W.looks_subIn X (hsub hCD)).here ?_)
    cases b with
    | true =>
      simp only [if_true]
      refine wpAny_bind (try_ne2 hu X J I m ?_)
      rw [if_neg hyx]
      refine wpAny_bind (try_ne2 hu X I J n ?_)
      rw [if_neg hxy]
      simp only [Bool.not_true, Bool.false_eq_true, if_false]
      refine wpAny_bind (wpAny_rule ?_)
      refine wpAny_bind (wpAny_isSame_ref_other hxy I.at_ J.at_ (by rw [I.cls]; intro z; cases z) ?_)
      exact wpAny_pure (by simpa [hxy] using h)
    | false =>
      simp only [Bool.false_eq_true, if_false]
      refine wpAny_bind (try_ne2 hu X I J n ?_)
      rw [if_neg hxy]
      simp only [Bool.not_false, if_true]
      refine wpAny_bind (try_ne2 hu X J I m ?_)
      rw [if_neg hyx]
      refine wpAny_bind (wpAny_rule ?_)
      refine wpAny_bind (wpAny_isSame_ref_other hxy I.at_ J.at_ (by rw [I.cls]; intro z; cases z) ?_)
      exact wpAny_pure (by simpa [hxy] using h)

end
/-! ### over the layer -/
section
variable {X : Cx}
/-- == of instances of two such classes -/
def rEqId (C D : Addr) (f : Bool → Bool) : R2 := fun x y H Q => ∃ a b dx dy fs gs, x = .ref a ∧ y = .ref b ∧ H a = some (.ins C dx fs) ∧ H b = some (.ins D dy gs) ∧ Q (.bl (f (decide (a = b)))) H
structure Pair2 (K : PySem.W.Frag) (C D : Addr) : Prop where
  l : NoEq2 K C
  r : NoEq2 K D
  sub : C ≠ D → ∃ b, PySem.W.subIn K (.ref D) (.ref C) = some b
/-- .. of classes that a test tells -/
def rEqS (K : PySem.W.Frag) (f : Bool → Bool) : R2 := fun x y H Q => ∃ C D, Pair2 K C D ∧ rEqId C D f x y H Q
theorem op_eqS (hu : X.A.units < cLine) : OpR X (compareOp .Eq) (rEqS X.K id) := by
  intro pins s σ H x y v u Q I rx ry h
  obtain ⟨C, D, p, a, b, dx, dy, fs, gs, rfl, rfl, ha, hb, q⟩ := h
  obtain rfl : v = Value.ref a := rx
  obtain rfl : u = Value.ref b := ry
  obtain ⟨mA, O, _⟩ := ins_get I.hok ha
  obtain ⟨od, J, _⟩ := O.look
  obtain ⟨mB, O', _⟩ := ins_get I.hok hb
  obtain ⟨od', J', _⟩ := O'.look
  by_cases hCD : C = D
  · exact eq_id2 (b := true) hu I.kIn J J' p.l p.r (fun z => absurd hCD z) ⟨.bl _, H, I, rfl, q⟩
  · obtain ⟨b, hb⟩ := p.sub hCD
    exact eq_id2 hu I.kIn J J' p.l p.r (fun _ => hb) ⟨.bl _, H, I, rfl, q⟩
theorem op_neS (hu : X.A.units + 1 < cLine) : OpR X (compareOp .NotEq) (rEqS X.K (!·)) := by
  intro pins s σ H x y v u Q I rx ry h
  obtain ⟨C, D, p, a, b, dx, dy, fs, gs, rfl, rfl, ha, hb, q⟩ := h
  obtain rfl : v = Value.ref a := rx
  obtain rfl : u = Value.ref b := ry
  obtain ⟨mA, O, _⟩ := ins_get I.hok ha
  obtain ⟨od, J, _⟩ := O.look
  obtain ⟨mB, O', _⟩ := ins_get I.hok hb
  obtain ⟨od', J', _⟩ := O'.look
  by_cases hCD : C = D
  · exact ne_id2 (b := true) hu I.kIn J J' p.l p.r (fun z => absurd hCD z) ⟨.bl _, H, I, rfl, q⟩
  · obtain ⟨b, hb⟩ := p.sub hCD
    exact ne_id2 hu I.kIn J J' p.l p.r (fun _ => hb) ⟨.bl _, H, I, rfl, q⟩
end
end Ov

set_option Elab.async false
set_option linter.all false
set_option maxRecDepth 100000
set_option maxHeartbeats 4000000
/-! calls with keywords alone: C(k = v), C.m(k = v) with a classmethod m -/
namespace Ov
open PySem PySem.Spec PyProof.Rows L2 GxR ClX
section
variable {X : Cx} {CX : CXT} {k n : Nat} {f C : Addr} {fd : FuncData} {ps ks : List Str} {sp : Sp} {E : XK} {x : Str} {p pos : Pos} {e : Expr} {es : List Expr} {kws : List Keyword} {t tk : TA} {g : List Value → List Value → List Value} {gV : List V → List V → List V}
def tMake0K (C : Addr) (m : Nat) (sp : Sp) (gV : List V → List V → List V) (E : XK) (tk : TA) : TE := fun σ H Q => tk σ H fun zs H2 => zs.length = m ∧
  ∀ x dx, H2 x = none → H2 dx = none → dx ≠ x → sp (gV [V.ref x] zs) (upd (upd H2 dx (.own x)) x (.ins C dx [])) (fun v H3 => v = .non ∧ Q (.ref x) H3) E
theorem pe_make0K (M : Mk X.K C f) (F : FnOk X.prog X.w X.K X.mg X.base CX k f fd ps sp) (hr : Room (k + 1) X.A) (hg : Gl X x) (hm : X.mg x = some (.ref C)) (hb : KBn X.K fd ps 1 ks g gV) (hx : Passes CX X E)
    (hkw : PK X kws tk) (hall : (backToKw pos (keywordEach kws X.env)).all (·.1.isSome) = true := by rfl) (hks : (backToKw pos (keywordEach kws X.env)).filterMap (·.1) = ks := by rfl)
    (hdb : (x == ("__debug__" : Str)) = false := by decide)
    (hpl : ((backTo pos (starEach [] X.env)).any (·.1) || (backToKw pos (keywordEach kws X.env)).any (·.1.isNone)) = false := by rfl) :
    PE X (.Call (.Name x p) [] kws pos) (tMake0K C ks.length sp gV E tk) := by
  refine ⟨fun pins s σ H Q I h => ?_⟩
  refine wpAny_Call_Name_kw (ld_glob I hg hm ?_ hdb)
  refine PySem.W.callWith_KW0 (h₀ := X.base) I.ok.mod.kin M.kp hall ?_ hpl
  refine thn (hkw.run pos pins s σ H _ I h) fun ws s2 ⟨zs, H2, I2, rz, l2, q2⟩ => ⟨I2.kIn, ?_⟩
  rw [hks]
  exact run_makeN M F hr hb hx I2 .nil rz rfl l2 q2
def tCMethK (C : Addr) (m : Nat) (sp : Sp) (gV : List V → List V → List V) (E : XK) (ta : TE) (tk : TA) : TE := fun σ H Q => ta σ H fun x H1 => x = .ref C ∧ tk σ H1 fun zs H2 => zs.length = m ∧ sp (gV [V.ref C] zs) H2 Q E
theorem run_cmK {pins : List (Addr × Obj)} {σ : L2.St} {H : Hp} {s : Shared} {q c : Addr} {Q : VK} {ws : List Value} {zs : List V} (F : FnOk X.prog X.w X.K X.mg X.base CX k c fd ps sp) (hr : Room k X.A) (hb : KBn X.K fd ps 1 ks g gV) (hx : Passes CX X E) (I : Inv X ((q, PySem.W.methodObj (.ref c) (.ref C)) :: pins) σ H s)
    (r : Vals zs ws) (l2 : zs.length = ks.length) (h : sp (gV [V.ref C] zs) H Q E) : wpAny (model X.prog X.w) X.A (call (.ref q) [] (ks.zip ws)) (EP X pins σ Q) X.xe s := by
  have z : wpAny (model X.prog X.w) X.A (call (.ref q) [] (ks.zip ws)) (EP X ((q, PySem.W.methodObj (.ref c) (.ref C)) :: pins) σ Q) X.xe s := by
    refine wpAny_call (PySem.W.method_call (pin_at I) (codeAny_mono (F.run X.A X.stack s H ⟨.ref C :: [], ks.zip ws⟩ (g [.ref C] ws) (gV [V.ref C] zs) Q E hr I.env0 (hb.to s [.ref C] ws I.kIn rfl (r.length.symm.trans l2)) (hb.rel (.cons rfl .nil) r) h) fun r s' hq => ?_))
    cases r with
    | error e => exact hx _ σ H s e s' I hq
    | ok fl =>
      cases fl with
      | ret u => exact I.after hq
      | next => exact False.elim hq
      | brk => exact False.elim hq
      | cont => exact False.elim hq
  exact thn z fun _ _ y => unpinE y
theorem pe_cmethK {mc : Value} {m : Str} {q c : Addr} {o : Expr} {apos : Pos} {ta : TE} {pl : Sem Bool} (he : PE X o ta) (r : CRead X.K C mc) (cm : CMet X.K C mc m q c) (F : FnOk X.prog X.w X.K X.mg X.base CX k c fd ps sp) (hr : Room k X.A) (hb : KBn X.K fd ps 1 ks g gV) (hx : Passes CX X E)
    (hkw : PK X kws tk) (hall : (backToKw pos (keywordEach kws X.env)).all (·.1.isSome) = true := by rfl) (hks : (backToKw pos (keywordEach kws X.env)).filterMap (·.1) = ks := by rfl)
    (hpl : ((backTo pos (starEach [] X.env)).any (·.1) || (backToKw pos (keywordEach kws X.env)).any (·.1.isNone)) = false := by rfl)
    (ht : eval (.Call (.Attribute o m apos) [] kws pos) X.env = (do
      let ov ← eval o X.env
      standAt apos.atName
      let (f, first) ← holding [ov] (getMethod ov m pl)
      callWith pos f first (backTo pos (starEach [] X.env)) (backToKw pos (keywordEach kws X.env))) := by rfl) :
    PE X (.Call (.Attribute o m apos) [] kws pos) (tCMethK C ks.length sp gV E ta tk) := by
  refine ⟨fun pins s σ H Q I h => ?_⟩
  refine PySem.W.methodCall_KW (pl := pl) (thn (he.run pins s σ H _ I h) fun u s1 ⟨x, H1, I1, rx, ex, q⟩ => ?_) ht
  subst ex
  obtain rfl : u = Value.ref C := rx
  refine getmethcm_ok I1 r cm fun s2 I2 => ?_
  refine PySem.W.callWith_of hpl (P := PySem.W.MethP X.K s1.heap.objs.size c (.ref C)) (PySem.W.keeps_M cm.fi) ?_
  refine evalArgs_kw2_nil hall ?_
  refine thn (hkw.run pos _ s2 σ H1 _ I2 q) fun ws s3 ⟨zs, H2, I3, rz, l2, q2⟩ => ⟨⟨pin_at I3, I3.kIn⟩, ?_⟩
  rw [hks]
  exact run_cmK F hr hb hx I3 rz l2 q2
end
/-! ### .. in the body of a try: what is wished of an error may speak of the slots -/
section
variable {X : Cx} {CX : CXT} {k n : Nat} {f C : Addr} {fd : FuncData} {ps ks : List Str} {sp : Sp} {E : L2.St → XK} {x : Str} {p pos : Pos} {e : Expr} {es : List Expr} {kws : List Keyword} {t tk : TA} {g : List Value → List Value → List Value} {gV : List V → List V → List V}
def tCMethS (C : Addr) (sp : Sp) (E : L2.St → XK) (ta : TE) (t : TA) : TE := fun σ H Q => ta σ H fun x H1 => x = .ref C ∧ t σ H1 fun vs H2 => sp (.ref C :: vs) H2 Q (E σ)
theorem pe_cmethS {mc : Value} {m : Str} {q c : Addr} {o : Expr} {apos : Pos} {ta : TE} {pl : Sem Bool} (he : PE X o ta) (r : CRead X.K C mc) (cm : CMet X.K C mc m q c) (F : FnR X.prog X.w X.K X.mg X.base CX k c sp) (hr : Room k X.A) (hx : ∀ σ, PassesAt CX X σ (E σ)) (ha : PA X (e :: es) t)
    (hst : starEach (e :: es) X.env = (false, eval e X.env) :: starEach es X.env := by rfl) (hpl : (backTo pos (starEach es X.env)).any (·.1) = false := by rfl)
    (ht : eval (.Call (.Attribute o m apos) (e :: es) [] pos) X.env = (do
      let ov ← eval o X.env
      standAt apos.atName
      let (f, first) ← holding [ov] (getMethod ov m pl)
      callWith pos f first (backTo pos (starEach (e :: es) X.env)) (backToKw pos (keywordEach [] X.env))) := by rfl) :
    PE X (.Call (.Attribute o m apos) (e :: es) [] pos) (tCMethS C sp E ta t) := by
  refine ⟨fun pins s σ H Q I h => ?_⟩
  refine PySem.W.methodCall_KW (pl := pl) (thn (he.run pins s σ H _ I h) fun u s1 ⟨x, H1, I1, rx, ex, q0⟩ => ?_) ht
  subst ex
  obtain rfl : u = Value.ref C := rx
  refine getmethcm_ok I1 r cm fun s2 I2 => ?_
  refine callwith_cm I2 (base_none I1 (Nat.le_refl _)) cm.fi (thn (ha.run pos _ s2 σ H1 _ I2 q0) fun us s3 ⟨vs, H2, I3, rv, q2⟩ => ⟨⟨pin_at I3, I3.kIn⟩, ?_⟩) hst hpl
  have z : wpAny (model X.prog X.w) X.A (call (.ref s1.heap.objs.size) ([] ++ us)) (EP X ((s1.heap.objs.size, PySem.W.methodObj (.ref c) (.ref C)) :: pins) σ Q) X.xe s3 := by
    refine wpAny_call (PySem.W.method_call (pin_at I3) (codeAny_mono (F X.A X.stack s3 H2 (.ref C :: us) (V.ref C :: vs) Q (E σ) hr I3.env0 (.cons rfl rv) q2) fun r s' hq => ?_))
    cases r with
    | error e => exact hx σ _ H2 s3 e s' I3 hq
    | ok fl =>
      cases fl with
      | ret u => exact I3.after hq
      | next => exact False.elim hq
      | brk => exact False.elim hq
      | cont => exact False.elim hq
  exact thn z fun _ _ y => unpinE y
def tCMethKS (C : Addr) (m : Nat) (sp : Sp) (gV : List V → List V → List V) (E : L2.St → XK) (ta : TE) (tk : TA) : TE := fun σ H Q => ta σ H fun x H1 => x = .ref C ∧ tk σ H1 fun zs H2 => zs.length = m ∧ sp (gV [V.ref C] zs) H2 Q (E σ)
theorem pe_cmethKS {mc : Value} {m : Str} {q c : Addr} {o : Expr} {apos : Pos} {ta : TE} {pl : Sem Bool} (he : PE X o ta) (r : CRead X.K C mc) (cm : CMet X.K C mc m q c) (F : FnOk X.prog X.w X.K X.mg X.base CX k c fd ps sp) (hr : Room k X.A) (hb : KBn X.K fd ps 1 ks g gV) (hx : ∀ σ, PassesAt CX X σ (E σ))
    (hkw : PK X kws tk) (hall : (backToKw pos (keywordEach kws X.env)).all (·.1.isSome) = true := by rfl) (hks : (backToKw pos (keywordEach kws X.env)).filterMap (·.1) = ks := by rfl)
    (hpl : ((backTo pos (starEach [] X.env)).any (·.1) || (backToKw pos (keywordEach kws X.env)).any (·.1.isNone)) = false := by rfl)
    (ht : eval (.Call (.Attribute o m apos) [] kws pos) X.env = (do
      let ov ← eval o X.env
      standAt apos.atName
      let (f, first) ← holding [ov] (getMethod ov m pl)
      callWith pos f first (backTo pos (starEach [] X.env)) (backToKw pos (keywordEach kws X.env))) := by rfl) :
    PE X (.Call (.Attribute o m apos) [] kws pos) (tCMethKS C ks.length sp gV E ta tk) := by
  refine ⟨fun pins s σ H Q I h => ?_⟩
  refine PySem.W.methodCall_KW (pl := pl) (thn (he.run pins s σ H _ I h) fun u s1 ⟨x, H1, I1, rx, ex, q0⟩ => ?_) ht
  subst ex
  obtain rfl : u = Value.ref C := rx
  refine getmethcm_ok I1 r cm fun s2 I2 => ?_
  refine PySem.W.callWith_of hpl (P := PySem.W.MethP X.K s1.heap.objs.size c (.ref C)) (PySem.W.keeps_M cm.fi) ?_
  refine evalArgs_kw2_nil hall ?_
  refine thn (hkw.run pos _ s2 σ H1 _ I2 q0) fun ws s3 ⟨zs, H2, I3, rz, l2, q2⟩ => ⟨⟨pin_at I3, I3.kIn⟩, ?_⟩
  rw [hks]
  have z : wpAny (model X.prog X.w) X.A (call (.ref s1.heap.objs.size) [] (ks.zip ws)) (EP X ((s1.heap.objs.size, PySem.W.methodObj (.ref c) (.ref C)) :: pins) σ Q) X.xe s3 := by
    refine wpAny_call (PySem.W.method_call (pin_at I3) (codeAny_mono (F.run X.A X.stack s3 H2 ⟨.ref C :: [], ks.zip ws⟩ (g [.ref C] ws) (gV [V.ref C] zs) Q (E σ) hr I3.env0 (hb.to s3 [.ref C] ws I3.kIn rfl (rz.length.symm.trans l2)) (hb.rel (.cons rfl .nil) rz) q2) fun r s' hq => ?_))
    cases r with
    | error e => exact hx σ _ H2 s3 e s' I3 hq
    | ok fl =>
      cases fl with
      | ret u => exact I3.after hq
      | next => exact False.elim hq
      | brk => exact False.elim hq
      | cont => exact False.elim hq
  exact thn z fun _ _ y => unpinE y
end
theorem valsGet : ∀ {vs : List V} {us : List Value} (_ : Vals vs us) (i : Nat), RelV (vs.getD i .non) (us.getD i .none)
  | _, _, .nil, i => by simp; rfl
  | _, _, .cons r t, 0 => by simpa using r
  | _, _, .cons r t, i + 1 => by simpa using valsGet t i
end Ov

set_option Elab.async false
set_option linter.all false
set_option maxRecDepth 100000
set_option maxHeartbeats 4000000
/-! a walk over enumerate; a property of an object whose class the reading tells; lists of bools -/
namespace Ov
open PySem PySem.Spec PyProof.Rows L2 GxR
theorem for_enumL {K : PySem.W.Frag} {a : Addr} {xs : List V} {g : TG} {tb : TS} {D : Ends} {σ : L2.St} {H : Hp} (Pv : Nat → L2.St → Hp → Prop) (h0 : Pv 0 σ H) (hl : ∀ i σ H, i ≤ xs.length → Pv i σ H → SqL K H a xs)
    (hs : ∀ i x σ H T, xs[i]? = some x → Pv i σ H → H T = none → g (.ref T) σ (upd H T (.tup [.int (i : Nat), x])) fun σ2 H2 => tb { D with nx := Pv (i + 1), ct := Pv (i + 1), bk := D.nx } σ2 H2) (hd : ∀ σ H, Pv xs.length σ H → D.nx σ H) :
    ∃ W : Nat → Nat → L2.St → Hp → Prop, (∃ m, W 0 m σ H) ∧ ∀ i m σ H, W i m σ H →
      ((Ite K a).stop i H ∧ D.nx σ H) ∨ ((Ite K a).go i H ∧ ∃ N : L2.St → Hp → Prop, (∀ σ' H', N σ' H' → ∃ m', m' < m ∧ W (i + 1) m' σ' H') ∧ ∀ x H', (Ite K a).yld i H x H' → g x σ H' fun σ2 H2 => tb { D with nx := N, ct := N, bk := D.nx } σ2 H2) := by
  refine ⟨fun i m σ H => m = xs.length - i ∧ i ≤ xs.length ∧ Pv i σ H, ⟨xs.length, by simp, Nat.zero_le _, h0⟩, ?_⟩
  rintro i m σ H ⟨rfl, hi, p⟩
  have q := hl i σ H hi p
  by_cases hlt : i < xs.length
  · refine .inr ⟨⟨xs, xs[i], q, by simp [hlt]⟩, Pv (i + 1), fun σ' H' p' => ⟨xs.length - (i + 1), by omega, rfl, hlt, p'⟩, fun x H' y => ?_⟩
    obtain ⟨T, x', e, hT, e2, y⟩ := y
    subst e e2
    exact hs i x' σ H T (y xs q) p hT
  · have e : i = xs.length := by omega
    subst e
    exact .inl ⟨⟨xs, q, Nat.le_refl _⟩, hd σ H p⟩
def tPropX (K : PySem.W.Frag) (f : Str) (p g : Addr) (sp : Sp) (dvs : List V) (E : XK) (ta : TE) : TE := fun σ H Q => ta σ H fun x H1 => ∃ a C dx fs, x = .ref a ∧ Cls K C ∧ PropOf K C f p g ∧ H1 a = some (.ins C dx fs) ∧ sp (.ref a :: dvs) H1 Q E
theorem pe_propX {X : Cx} {CX : CXT} {k : Nat} {p g : Addr} {f : Str} {fd : FuncData} {ps : List Str} {sp : Sp} {dvs : List V} {ds : List Value} {E : XK} {e : Expr} {pos : Pos} {ta : TE} (he : PE X e ta) (F : FnOk X.prog X.w X.K X.mg X.base CX k g fd ps sp) (hr : Room (k + 1) X.A) (hb : Binds X.K fd ps ds) (hd : Vals dvs ds) (hx : Passes CX X.nox E)
    (hab : attributeBase e f X.env (eval e X.env) = eval e X.env := by rfl) : PE X (.Attribute e f pos) (tPropX X.K f p g sp dvs E ta) := by
  refine ⟨fun pins s σ H Q I h => ?_⟩
  refine attr_of hab (thn (he.run pins s σ H _ I h) fun u s1 ⟨x, H1, I1, rx, a, C, dx, fs, ex, c, hp, ea, q⟩ => ?_)
  subst ex
  obtain rfl : u = Value.ref a := rx
  exact getprop_ok I1 ea c hp F hr hb hd hx q
/-- a list of bools as data -/
theorem dp_bools {K : PySem.W.Frag} {H : Hp} : ∀ bs : List Bool, DpAll K H (bs.map V.bl) (bs.map PyData.bool)
  | [] => .nil
  | b :: r => .cons (.bl b) (dp_bools r)
theorem eqv_4 (a b c d : Bool) : PyData.eqv (.list ([a, b, c, d].map PyData.bool)) (.list ([a, b, c, d].map PyData.bool)) = true := by
  cases a <;> cases b <;> cases c <;> cases d <;> decide
theorem shaped_4 (a b c d : Bool) : SeqAt.shaped (.list ([a, b, c, d].map PyData.bool)) = true := by
  cases a <;> cases b <;> cases c <;> cases d <;> decide
theorem same_new {H : Hp} {p : Addr} {o : HO} (e : H p = none) : L2.Same H (upd H p o) := fun b u hb => (upd_ne (ne_of_none hb e)).trans hb
end Ov

set_option Elab.async false
set_option linter.all false
set_option maxRecDepth 100000
set_option maxHeartbeats 4000000
namespace Ov
open PySem PySem.Spec PyProof.Rows L2 GxR
/-- what stood stands, but for the thing at t -/
def Bt (t : Addr) (H H' : Hp) : Prop := ∀ b o, b ≠ t → H b = some o → H' b = some o
theorem Bt.refl {t : Addr} {H : Hp} : Bt t H H := fun _ _ _ h => h
theorem Bt.trans {t : Addr} {H H1 H2 : Hp} (a : Bt t H H1) (b : Bt t H1 H2) : Bt t H H2 := fun c o hc e => b c o hc (a c o hc e)
theorem But.bt {t : Addr} {H H1 : Hp} (a : But t H H1) : Bt t H H1 := fun c o hc e => (a c hc).trans e
theorem Bt.new {t : Addr} {H : Hp} {p : Addr} {o : HO} (e : H p = none) : Bt t H (upd H p o) := fun b u _ hb => (upd_ne (ne_of_none hb e)).trans hb
theorem Bt.put {t : Addr} {H H1 : Hp} {p : Addr} {o : HO} (a : Bt t H H1) (e : H p = none) : Bt t H (upd H1 p o) := fun b u hb hu => (upd_ne (ne_of_none hu e)).trans (a b u hb hu)
theorem Tp.at {t : Addr} {H H' : Hp} {n : Nat} (h : Tp H t n) (e : H' t = H t) : Tp H' t n := by
  obtain ⟨a, b, c, h1, h2⟩ := h
  exact ⟨a, b, c, e.trans h1, h2⟩
theorem Tp.new {t : Addr} {H : Hp} {n : Nat} {p : Addr} {o : HO} (h : Tp H t n) (e : H p = none) : Tp (upd H p o) t n := h.at (by
  obtain ⟨a, b, c, h1, h2⟩ := h
  exact upd_ne (ne_of_none h1 e))
theorem Tp.ne {t : Addr} {H : Hp} {n : Nat} {p : Addr} (h : Tp H t n) (e : H p = none) : t ≠ p := by
  obtain ⟨a, b, c, h1, h2⟩ := h
  exact ne_of_none h1 e
theorem Tp.mono {t : Addr} {H : Hp} {n m : Nat} (h : Tp H t n) (e : n ≤ m) : Tp H t m := by
  obtain ⟨a, b, c, h1, h2, h3, h4, h5, h6⟩ := h
  exact ⟨a, b, c, h1, h2, h3, h4, h5, by omega⟩
theorem Bt.free {t : Addr} {H H1 : Hp} (a : Bt t H H1) {p : Addr} (hp : p ≠ t) (e : H1 p = none) : H p = none := by
  cases q : H p with
  | none => rfl
  | some o => rw [a p o hp q] at e; cases e
def lowL (l : List Nat) : Bool := l.all fun c => decide (97 ≤ c) && decide (c ≤ 122)
theorem join_nil : ∀ ls : List (List Nat), TL.joinL [] ls = ls.flatten
  | [] => rfl
  | [p] => by simp [TL.joinL]
  | p :: q :: r => by
    have := join_nil (q :: r)
    simp only [TL.joinL, List.nil_append, this, List.flatten_cons]
theorem join_cps (e : Str) (he : e.cps.toList = []) (ys : List Str) : (Txt.join e ys).cps.toList = (ys.map fun z => z.cps.toList).flatten := by
  show (Builtin.Str.glued e ys).cps.toList = _
  rw [StrLaws.glued_eq_join]
  have := TL.tl_join e ys
  unfold TL.tl at this
  rw [this, he, join_nil]
/-- one lowercase letter -/
def One (z : Str) : Prop := ∃ c, z.cps.toList = [c] ∧ 97 ≤ c ∧ c ≤ 122
theorem join_ones (e : Str) (he : e.cps.toList = []) : ∀ ys : List Str, (∀ z ∈ ys, One z) → (Txt.join e ys).length = ys.length ∧ lowB (Txt.join e ys) = true := by
  intro ys h
  have key : ((ys.map fun z => z.cps.toList).flatten).length = ys.length ∧ ((ys.map fun z => z.cps.toList).flatten).all (fun c => decide (97 ≤ c) && decide (c ≤ 122)) = true := by
    induction ys with
    | nil => exact ⟨rfl, rfl⟩
    | cons z r ih =>
      obtain ⟨i1, i2⟩ := ih fun y hy => h y (List.mem_cons_of_mem _ hy)
      obtain ⟨c, hc, h1, h2⟩ := h z List.mem_cons_self
      simp only [List.map_cons, List.flatten_cons, hc, List.length_append, List.all_append, i1, i2]
      refine ⟨by simp; omega, by simp [h1, h2]⟩
  rw [← join_cps e he] at key
  refine ⟨?_, key.2⟩
  rw [← key.1]
  simp [Str.length]
def spInks (K : PySem.W.Frag) : Sp := fun vs H Q _ => ∃ (t : Addr) (W : Nat) (most : Int) (n : Nat), vs = [.ref t, .int (W : Nat), .int most] ∧ Tp H t n ∧ n + 60 < 2 ^ 40 ∧ 1 ≤ W ∧ W ≤ 8 ∧ 1 ≤ most ∧ most ≤ 6 ∧
  ∀ (l : Addr) (ws : List Str) H', H l = none → H' l = some (.lst (ws.map V.str)) → stampsV (ws.map V.str) = true → (∀ z ∈ ws, z.length = W) → Tp H' t (n + 60) → Bt t H H' → Q (.ref l) H'
section
variable {P : Program} {w : World} {K : PySem.W.Frag} {mg : Str → Option Value} {base : Heap} {T : List Addr} {C D fLow fText fAre fTape fNext fInks fInit cLow PLow cAre PAre : Addr}
theorem pool_at (d : Int) (h0 : 0 ≤ d) (h4 : d < 3) : ∃ z : Str, atI [V.str "ab", V.str "abc", V.str "abcdefghijklmnopqrstuvwxyz"] d = some (.str z) ∧ 1 ≤ z.length ∧ z.length ≤ 26 ∧ lowB z = true := by
  have : d = 0 ∨ d = 1 ∨ d = 2 := by omega
  rcases this with rfl | rfl | rfl
  · exact ⟨"ab", by simp [atI, ixN], by decide +kernel, by decide +kernel, by decide +kernel⟩
  · exact ⟨"abc", by simp [atI, ixN], by decide +kernel, by decide +kernel, by decide +kernel⟩
  · exact ⟨"abcdefghijklmnopqrstuvwxyz", by simp [atI, ixN], by decide +kernel, by decide +kernel, by decide +kernel⟩
theorem pool_ch {z : Str} (hl : lowB z = true) {d : Int} (h0 : 0 ≤ d) (hd : d < z.length) : ∃ c, atI z.cps.toList d = some c ∧ One ⟨#[c]⟩ := by
  have hk : d.toNat < z.cps.toList.length := by
    have : z.cps.toList.length = z.length := by simp [Str.length]
    omega
  have e : d = (d.toNat : Int) := by omega
  have z1 : atI z.cps.toList (d.toNat : Int) = some z.cps.toList[d.toNat] := atI_nat (List.getElem?_eq_getElem hk)
  rw [← e] at z1
  have := List.all_eq_true.mp hl _ (List.getElem_mem hk)
  simp only [Bool.and_eq_true, decide_eq_true_eq] at this
  exact ⟨_, z1, _, rfl, this.1, this.2⟩
/-- the words made so far -/
structure Ws (W : Nat) (i : Nat) (ws : List Str) : Prop where
  len : ws.length ≤ i
  some : 0 < i → 0 < ws.length
  nd : ws.Nodup
  all : ∀ z ∈ ws, z.length = W ∧ lowB z = true
theorem Ws.ok {W i : Nat} {ws : List Str} (h : Ws W i ws) (h1 : 1 ≤ W) (h8 : W ≤ 8) (hi : 0 < i) (hi6 : i ≤ 6) (h36 : W * i ≤ 36) : stampsV (ws.map V.str) = true := by
  have hl := h.some hi
  have hli := h.len
  have e : (ws.map V.str).map strV = ws := by rw [List.map_map]; exact List.map_id ws
  have hd : (ws.headD Str.empty).length = W := by
    cases ws with
    | nil => simp at hl
    | cons z r => exact (h.all z List.mem_cons_self).1
  unfold stampsV
  rw [e, List.length_map, decide_eq_true (by omega : 1 ≤ ws.length), decide_eq_true (by omega : ws.length ≤ 6), Bool.true_and, Bool.true_and, Bool.and_eq_true]
  refine ⟨?_, ?_⟩
  · rw [List.all_eq_true]
    intro x hx
    obtain ⟨z, hz, rfl⟩ := List.mem_map.mp hx
    obtain ⟨q1, q2⟩ := h.all z hz
    show textB z 8 = true
    unfold textB
    rw [q2, q1]
    simp
    omega
  · unfold tailB
    rw [hd, Bool.and_eq_true, Bool.and_eq_true]
    refine ⟨?_, decide_eq_true ((once_nodup ws).mpr h.nd), decide_eq_true ?_⟩
    · rw [List.all_eq_true]
      intro z hz
      exact decide_eq_true (h.all z hz).1
    · exact Nat.le_trans (Nat.mul_le_mul_left W hli) h36
theorem inV_str (z : Str) (ws : List Str) : inV (.str z) (ws.map V.str) = true ↔ z ∈ ws := by
  unfold inV
  rw [List.any_map, List.any_eq_true]
  constructor
  · rintro ⟨y, hy, e⟩
    have : y = z := by simpa [eqV] using e
    exact this ▸ hy
  · intro h
    exact ⟨z, h, by simp [eqV]⟩
abbrev NInks : List Str := ["vat", "wide", "most", "signs", "found", "turn", "word", "spot"]
theorem scInks : FnScope NInks ["vat", "wide", "most"] (defScope sInks) := ⟨rfl, rfl, rfl, by decide +kernel, rfl, by decide +kernel, by decide +kernel⟩
theorem pe_next {X : Cx} {f : Addr} {fd : FuncData} (F : FnOk X.prog X.w X.K X.mg X.base CX0 1 f fd ["vat", "size"] spNext) (hb : Binds X.K fd ["vat", "size"] []) (hr : Room 1 X.A) (hg : Gl X "_law_sip") (hm : X.mg "_law_sip" = some (.ref f)) (hk : PySem.W.keepIn X.K (.ref f) = true)
    {e1 e2 : Expr} {p pos : Pos} {ta : TA} (ha : PA X [e1, e2] ta) (he : starEach [e1, e2] X.env = (false, eval e1 X.env) :: starEach [e2] X.env := by rfl) (hpl : (backTo pos (starEach [e2] X.env)).any (·.1) = false := by rfl) : PE X (.Call (.Name "_law_sip" p) [e1, e2] [] pos) (tCall spNext [] E0 ta) :=
  pe_call F hr hg hm hk hb .nil L2.pass0 ha (by decide) he hpl
theorem ok_inks {f : Addr} {fd fdN : FuncData} (F : L2.Fun K "_law_words" "_law_words" sInks f fd) (FN : L2.Fun K "_law_sip" "_law_sip" sNext fNext fdN) (X : Txt K mg C fLow fText fAre fTape fNext fInks) (hint : mg "int" = none) : FnOk P w K mg base CX0 2 f fd ["vat", "wide", "most"] (spInks K) := by
  have N1 : FnOk P w K mg base CX0 1 fNext fdN ["vat", "size"] spNext := ok_next FN X
  have bN : Binds K fdN ["vat", "size"] [] := FN.binds fun _ _ _ _ _ _ us hl => match us, hl with | [_, _], _ => rfl
  refine F.ok scInks (fun vs H Q E h => ?_) (fun cdv A outer s H vs Q E hr h => ?_)
  · obtain ⟨t, W, m, n, rfl, _⟩ := h
    rfl
  · obtain ⟨t, W, m, n, rfl, ht, hn, W1, W8, hm, hm6, q⟩ := h
    refine ⟨_, (pss_cons (ps_set (i := 3) scInks.nd rfl (.inr rfl) (pe_ix ix_seq (pe_lst (pa_cons pe_str (pa_cons pe_str (pa_cons pe_str pa_nil)))) (pe_next N1 bN hr (by rfl) X.gNext X.kNext (pa_cons (pv 0) (pa_cons pe_int pa_nil))) fun _ _ => rfl))
      (pss_cons (ps_set (i := 4) scInks.nd rfl (.inl rfl) (pe_lst pa_nil))
      (pss_cons (ps_for PassesOwn.never rfl (pi_range1 (by rfl) X.rng (pa_cons (pe_op op_add pe_int (pe_next N1 bN hr (by rfl) X.gNext X.kNext (pa_cons (pv 0) (pa_cons (pe_callB (call_min2 rfl) (by rfl) X.min boot_min (pa_cons (pv 2) (pa_cons (pe_op op_fdiv pe_int (pv 1)) pa_nil))) pa_nil)))) pa_nil)) (pg_name (i := 5) scInks.nd rfl (Or.inl rfl)) (pss_cons (ps_set (i := 6) scInks.nd rfl (.inl rfl) (pe_join pe_str (pe_lc (own := [("spot", 7)]) (g := gName 7) (tt := tYes) (by rfl) scInks.nd (pi_range1 (by rfl) X.rng (pa_cons (pv 1) pa_nil)) (blkOk_by (own := [("spot", 7)]) (N := NInks) (sc := defScope sInks) (by decide +kernel)) (fun _ _ _ _ _ => pg_name (i := 7) scInks.nd rfl (Or.inl rfl)) (fun _ _ _ _ _ => pts_nil) (fun s H C cl fp => pe_ix (show IxR _ (rIx K) from ix_seq) (pv 3) (pe_next N1 bN hr (by rfl) X.gNext X.kNext (pa_cons (pv 0) (pa_cons (pe_callB call_len_str (by rfl) X.len boot_len (pa_cons (pv 3) pa_nil)) pa_nil))) fun _ _ => rfl))))
      (pss_one (ps_set (i := 4) scInks.nd rfl (.inl rfl) (pe_op op_cat (pv 4) (pe_op op_rep (pe_lst (pa_cons (pv 6) pa_nil)) (pe_callTy call_int1 (by rfl) hint (by decide +kernel) (pa_cons (pe_cmpR op_notIn_seq (pv 6) (pv 4) (by rfl)) pa_nil))))))))
      (pss_one (ps_ret (pv 4)))))), ?_⟩
    refine ⟨(by decide : 3 ≤ sizeLine), fun pl hpl => ?_⟩
    refine ⟨_, rfl, t, 3, n, rfl, ht.new hpl, by omega, by decide, by decide, fun d2 H2 d20 d24 t2 b2 => ?_⟩
    obtain ⟨z, hz, z1, z26, zl⟩ := pool_at d2 d20 d24
    refine .inl ⟨pl, _, d2, .str z, rfl, rfl, .inl (.inl ((b2 pl (ht.ne hpl).symm).trans upd_same)), hz, ?_⟩
    refine ⟨(by decide : 0 ≤ sizeLine), fun fl hfl => ?_⟩
    have e36 : (36 : Int) / (W : Int) = ((36 / W : Nat) : Int) := by first | exact (Int.natCast_ediv 36 W).symm | exact (Int.ofNat_ediv 36 W).symm | rfl
    have w4 : 4 ≤ 36 / W := by
      have : W * 4 ≤ 36 := by omega
      exact (Nat.le_div_iff_mul_le (by omega)).mpr (by omega)
    have w36 : W * (36 / W) ≤ 36 := Nat.mul_div_le 36 W
    have M1 : (0 : Int) < (if (36 : Int) / (W : Int) < m then (36 : Int) / (W : Int) else m) := by rw [e36]; split <;> omega
    have M6 : (if (36 : Int) / (W : Int) < m then (36 : Int) / (W : Int) else m) ≤ 6 := by rw [e36]; split <;> omega
    have M36 : (if (36 : Int) / (W : Int) < m then (36 : Int) / (W : Int) else m) ≤ ((36 / W : Nat) : Int) := by rw [e36]; split <;> omega
    refine ⟨_, rfl, _, rfl, _, rfl, _, _, rfl, rfl, ⟨by omega, by omega⟩, _, _, rfl, t, _, n + 1, rfl, t2.new hfl, by omega, M1, by omega, fun d3 H3 d30 d3m t3 b3 => ?_⟩
    generalize (if (36 : Int) / (W : Int) < m then (36 : Int) / (W : Int) else m) = M at M1 M6 M36 d3m
    obtain ⟨R, hR⟩ : ∃ R : Nat, 1 + d3 = (R : Int) := ⟨(1 + d3).toNat, by omega⟩
    have R1 : 0 < R := by omega
    have R6 : R ≤ 6 := by omega
    have R36 : W * R ≤ 36 := Nat.le_trans (Nat.mul_le_mul_left W (by omega : R ≤ 36 / W)) w36
    refine ⟨_, _, rfl, rfl, _, rfl, by omega, by omega, ?_⟩
    have bt3 : Bt t H H3 := (Bt.new hpl).trans (b2.bt.trans ((Bt.new hfl).trans b3.bt))
    have flt : fl ≠ t := (t2.ne hfl).symm
    have hfl0 : H fl = none := ((Bt.new hpl).trans b2.bt).free flt hfl
    have zsz : z.length ≤ sizeLine := Nat.le_trans z26 (by decide)
    refine for_range (lo := 0) (n := (1 + d3).toNat) (fun i σ H' => ∃ v5 v6 fl ws, σ = [some (.ref t), some (.int (W : Nat)), some (.int m), some (.str z), some (.ref fl), v5, v6, none] ∧ H' fl = some (.lst (ws.map V.str)) ∧ fl ≠ t ∧ H fl = none ∧ Ws W i ws ∧ Tp H' t (n + 2 + i * W) ∧ Bt t H H')
      ⟨none, none, fl, [], rfl, (b3 fl flt).trans upd_same, flt, hfl0, ⟨Nat.le_refl _, fun z => absurd z (Nat.lt_irrefl _), List.nodup_nil, fun z hz => by simp at hz⟩, t3.mono (by omega), bt3⟩ (fun i σ H4 hi hp => ?_) (fun σ H' hp => ?_)
    · obtain ⟨v5, v6, fl, ws, rfl, hf4, flt, hfl0, hws, t4, bt4⟩ := hp
      have hiR : i < R := by omega
      have hiW : i * W ≤ 36 := Nat.le_trans (Nat.mul_le_mul_right W (by omega : i ≤ R)) (by rw [Nat.mul_comm]; exact R36)
      refine ⟨⟨_, rfl⟩, _, rfl, (W : Nat), rfl, by omega, by omega, fun D hD => ?_⟩
      have Dt : D ≠ t := (t4.ne hD).symm
      refine lc_range (lo := 0) (n := ((W : Nat) : Int).toNat) (fun j H5 => ∃ ys : List Str, H5 D = some (.lst (ys.map V.str)) ∧ ys.length = j ∧ (∀ y ∈ ys, One y) ∧ Tp H5 t (n + 2 + i * W + j) ∧ Bt t H4 H5)
        ⟨[], upd_same, rfl, fun y hy => by simp at hy, t4.new hD, Bt.new hD⟩ (fun j H5 hj hp => ?_) (fun H5 hp => ?_)
      · obtain ⟨ys, hD5, hyl, hy1, t5, bt5⟩ := hp
        refine ⟨rfl, ?_⟩
        unfold tYes
        refine iteT' (b := true) rfl ?_
        refine ⟨_, rfl, _, rfl, _, rfl, z, rfl, zsz, t, z.length, n + 2 + i * W + j, rfl, t5, by omega, by omega, by omega, fun d H6 hd0 hdz t6 b6 => ?_⟩
        obtain ⟨c, hc, hone⟩ := pool_ch zl hd0 hdz
        have e6 : H6 D = some (.lst (ys.map V.str)) := (b6 D Dt).trans hD5
        refine .inr (.inr ⟨z, d, c, rfl, rfl, zsz, hc, ys.map V.str, e6, by rw [List.length_map, hyl]; exact Nat.lt_of_lt_of_le (by omega : j < 9) (by decide), ys ++ [⟨#[c]⟩], ?_, by simp [hyl], fun y hy => ?_, ?_, ?_⟩)
        · rw [List.map_append]; exact upd_same
        · rcases List.mem_append.mp hy with h | h
          · exact hy1 y h
          · rw [List.mem_singleton.mp h]; exact hone
        · exact t6.at (upd_ne Dt.symm)
        · exact (bt5.trans b6.bt).put hD
      · obtain ⟨ys, hD5, hyl, hy1, t5, bt5⟩ := hp
        obtain ⟨j1, j2⟩ := join_ones "" rfl ys hy1
        have ysum : ∀ ys : List Str, (∀ y ∈ ys, One y) → (ys.map (·.length)).sum = ys.length := fun ys h => by
          induction ys with
          | nil => rfl
          | cons y r ih =>
            obtain ⟨c, hc, _⟩ := h y List.mem_cons_self
            have e1 : y.length = 1 := by
              have : y.cps.toList.length = 1 := by rw [hc]; rfl
              simpa [Str.length] using this
            rw [List.map_cons, List.sum_cons, ih fun z hz => h z (List.mem_cons_of_mem _ hz), List.length_cons, e1]
            omega
        refine ⟨"", D, ys, rfl, rfl, .inl (.inl (.inl hD5)), ?_, ?_⟩
        · rw [ysum ys hy1]
          show ys.length + ys.length * 0 ≤ 16777216
          omega
        generalize hk : Txt.join ("" : Str) ys = ink at j1 j2
        have ilen : ink.length = W := by omega
        have hf5 : H5 fl = some (.lst (ws.map V.str)) := bt5 fl _ flt hf4
        refine ⟨_, rfl, _, rfl, (by decide : 1 ≤ sizeLine), fun l1 hl1 => ?_⟩
        have n1 : fl ≠ l1 := ne_of_none hf5 hl1
        refine ⟨_, rfl, _, rfl, fl, _, rfl, .inl (.inl (.inl ((upd_ne n1).trans hf5))), rfl, ?_, .inr ⟨_, rfl, ?_⟩⟩
        · rw [List.all_map]; exact List.all_eq_true.mpr fun _ _ => rfl
        generalize hb : (if true = true then !inV (V.str ink) (ws.map V.str) else inV (V.str ink) (ws.map V.str)) = b
        have wl := hws.len
        refine ⟨l1, _, _, rfl, rfl, upd_same, by split <;> decide, by split <;> decide, ?_, fun l2 hl2 => ?_⟩
        · show 1 * _ ≤ sizeLine
          cases b <;> decide
        have s1 := same_new (o := .lst [V.str ink]) hl1
        have t6 := (t5.new (o := .lst [V.str ink]) hl1).new (o := .lst (List.replicate ((if b = true then (1 : Int) else 0)).toNat [V.str ink]).flatten) hl2
        have s2 := same_new (o := .lst (List.replicate ((if b = true then (1 : Int) else 0)).toNat [V.str ink]).flatten) hl2
        refine ⟨fl, l2, _, _, rfl, rfl, (s1.trans s2) _ _ hf5, upd_same, ?_, fun l3 hl3 => ?_⟩
        · have : ((List.replicate ((if b = true then (1 : Int) else 0)).toNat [V.str ink]).flatten).length ≤ 1 := by cases b <;> exact Nat.le_of_ble_eq_true rfl
          rw [List.length_map]
          exact Nat.le_trans (by omega : _ ≤ 8) (by decide)
        have l3t : l3 ≠ t := (t6.ne hl3).symm
        have l35 : H5 l3 = none := (s1.trans s2).free hl3
        have hl30 : H l3 = none := (bt4.trans bt5).free l3t l35
        have t7 := t6.new (o := .lst (ws.map V.str ++ (List.replicate ((if b = true then (1 : Int) else 0)).toNat [V.str ink]).flatten)) hl3
        have bt7 : Bt t H (upd (upd (upd H5 l1 (.lst [V.str ink])) l2 (.lst (List.replicate ((if b = true then (1 : Int) else 0)).toNat [V.str ink]).flatten)) l3 (.lst (ws.map V.str ++ (List.replicate ((if b = true then (1 : Int) else 0)).toNat [V.str ink]).flatten))) := fun c o hc e => (s1.trans (s2.trans (same_new hl3))) _ _ ((bt4.trans bt5) c o hc e)
        have tm : n + 2 + i * W + ((W : Nat) : Int).toNat ≤ n + 2 + (i + 1) * W := by rw [Nat.succ_mul]; omega
        by_cases hin : ink ∈ ws
        · have b0 : b = false := by rw [← hb, (inV_str ink ws).mpr hin]; rfl
          subst b0
          exact ⟨_, _, l3, ws, rfl, upd_same.trans (by simp), l3t, hl30, ⟨Nat.le_succ_of_le hws.len, fun _ => List.length_pos_of_mem hin, hws.nd, hws.all⟩, t7.mono tm, bt7⟩
        · have hnin : inV (.str ink) (ws.map V.str) = false := by
            cases h : inV (.str ink) (ws.map V.str) with
            | false => rfl
            | true => exact absurd ((inV_str ink ws).mp h) hin
          have b1 : b = true := by rw [← hb, hnin]; rfl
          subst b1
          refine ⟨_, _, l3, ws ++ [ink], rfl, upd_same.trans (by rw [List.map_append]; rfl), l3t, hl30, ⟨by rw [List.length_append, List.length_singleton]; omega, fun _ => by rw [List.length_append, List.length_singleton]; omega, ?_, fun y hy => ?_⟩, t7.mono tm, bt7⟩
          · rw [List.nodup_append]
            exact ⟨hws.nd, by simp, fun a ha b hb e => hin (by rw [List.mem_singleton.mp hb] at e; exact e ▸ ha)⟩
          · rcases List.mem_append.mp hy with h | h
            · exact hws.all y h
            · rw [List.mem_singleton.mp h]; exact ⟨ilen, j2⟩
    · obtain ⟨v5, v6, fl, ws, rfl, hf4, flt, hfl0, hws, t4, bt4⟩ := hp
      refine ⟨_, rfl, ?_⟩
      refine q fl ws H' hfl0 hf4 (hws.ok W1 W8 (by omega) (by omega) ?_) (fun z hz => (hws.all z hz).1) (t4.mono ?_) bt4
      · have : (1 + d3).toNat = R := by omega
        rw [this]; exact R36
      · have : (1 + d3).toNat = R := by omega
        rw [this, Nat.mul_comm]; omega
end
end Ov

set_option Elab.async false
set_option linter.all false
set_option maxRecDepth 100000
set_option maxHeartbeats 4000000
/-! enumerate over a text, list of a text, list of a range, text * int -/
namespace Ov
open PySem PySem.Spec PyProof.Rows L2 GxR
/-- a text of small signs, each one with its place in a new pair -/
def Ites (x : Str) : It :=
  ⟨fun i _ => i < x.cps.size, fun i H v H' => ∃ T c, v = .ref T ∧ H T = none ∧ H' = upd H T (.tup [.int (i : Nat), .str ⟨#[c]⟩]) ∧ x.cps[i]? = some c, fun i _ => i = x.cps.size⟩
theorem turn_enumS {P : Program} {w : World} {K : PySem.W.Frag} {es : List Expr} {j : Nat} {tp : Pos} (x : Str) (t : Tok) (e it : Addr) :
    Turn P w K (.Tuple es j tp) (Ites x) [e, it] e (fun i h => (∃ old, IsEnum h e it ((i : Nat) : Int) old) ∧ h.IsStrIter it "str_ascii_iterator" x t i ∧ e ≠ it) where
  mem := by simp
  obj := fun i h st b hb => by
    obtain ⟨⟨old, he⟩, ⟨o, ho, hc, hd⟩, _⟩ := st
    rcases (by simpa using hb : b = e ∨ b = it) with z | z
    · subst z; exact ⟨_, he, fun v q => nomatch q⟩
    · subst z; exact ⟨o, ho, fun v q => by rw [hd] at q; cases q⟩
  keep := fun i h h' st k => by
    obtain ⟨⟨old, he⟩, ⟨o, ho, hc, hd⟩, hne⟩ := st
    exact ⟨⟨old, k e (by simp) _ he⟩, ⟨o, k it (by simp) _ ho, hc, hd⟩, hne⟩
  item := by
    intro X hP hw hK hcalm i pins s σ H E I hf st hg
    subst hP; subst hw; subst hK
    obtain ⟨⟨old, he⟩, hit, hne⟩ := st
    have lt_e : e < s.heap.objs.size := Heap.lt_size he
    have lt_i : it < s.heap.objs.size := by
      obtain ⟨_, q, _⟩ := hit
      exact Heap.lt_size q
    have hand : X.A.in1.handled = none := I.ok.hd hcalm
    refine wpAny_pyNext_enum_itemD (Draws.strAscii hand it x t) he hit hg hne (by simpa using hne) fun y h' tk py out st' pair size kept => ?_
    obtain ⟨c, u, hcx, rfl⟩ := py
    refine ⟨_, rfl, wpAny_letOwnedTupleGo_enum (s := { s with heap := h', toks := tk + 1 }) out fun h2 he2 sb => ?_⟩
    have pair2 := (sb.2 _ (Nat.ne_of_gt lt_e)).trans pair
    have fresh : ObjOk X.prog X.w (upd H s.heap.objs.size (.tup [.int (i : Nat), .str ⟨#[c]⟩])) h2 s.heap.objs.size (.tup [.int (i : Nat), .str ⟨#[c]⟩]) :=
      ⟨(by decide : 2 ≤ sizeLine), [.int i _, .str ⟨#[c]⟩ u], .cons ⟨_, rfl⟩ (.cons ⟨_, rfl⟩ .nil), ⟨_, pair2, rfl, _, rfl⟩⟩
    have J : Inv X pins σ (upd H s.heap.objs.size (.tup [.int (i : Nat), .str ⟨#[c]⟩])) { s with heap := h2, toks := tk + 1 } :=
      I.turnedNew (ch := [e, it]) (fun b ob hb q => (sb.2 b fun z => hb (by simp [z])).trans (kept b ob (fun z => hb (by simp [z])) (fun z => hb (by simp [z])) q)) hf (Nat.le_refl _) fresh
    obtain ⟨o2, ho2, hc2, hd2⟩ := st'
    refine ⟨.ref s.heap.objs.size, _, J, rfl, ⟨_, c, rfl, I.hok.fresh (Nat.le_refl _), rfl, hcx⟩, ⟨⟨.str ⟨#[c]⟩ u, ?_⟩, ⟨o2, (sb.2 it (Ne.symm hne)).trans ho2, hc2, hd2⟩, hne⟩, fun b hb => ?_⟩
    · rw [show ((i + 1 : Nat) : Int) = (i : Int) + 1 by omega]; exact he2
    · have lt_b : b < s.heap.objs.size := by
        rcases (by simpa using hb : b = e ∨ b = it) with z | z
        · subst z; exact lt_e
        · subst z; exact lt_i
      exact (upd_ne (Nat.ne_of_lt lt_b)).trans (hf b hb).1
  done := by
    intro X hP hw hK hcalm i pins s σ H E I hf st hg
    subst hP; subst hw; subst hK
    obtain ⟨⟨old, he⟩, hit, hne⟩ := st
    obtain ⟨z0, z1, z2, z3, z4, z5⟩ := hf it (by simp)
    have hand : X.A.in1.handled = none := I.ok.hd hcalm
    have hit' : s.heap.IsStrIter it "str_ascii_iterator" x t x.cps.size := by
      have hg' : i = x.cps.size := hg
      rw [← hg']; exact hit
    exact wpAny_pyNext_enum_endD (Draws.strAscii hand it x t) he hit' fun h' eb => ⟨rfl, I.turned (t' := s.toks) (fun b o hb q => eb b o hb q) z0 z1 z3 z4 z5⟩
  self := fun A i s Q E st h => by
    obtain ⟨⟨_, he⟩, _⟩ := st
    exact wpAny_pyIter_enum he h
def iEnumS (ta : TA) : TI := fun σ H R => ta σ H fun vs H1 => ∃ x : Str, vs = [.str x] ∧ x.cps.all (· < 128) = true ∧ R (Ites x) H1
theorem pi_enumS {X : Cx} {e : Expr} {ta : TA} {p pos tp : Pos} {es : List Expr} {j : Nat} (hg : Gl X "enumerate") (hm : X.mg "enumerate" = none) (ha : PA X [e] ta) (hs : starEach [e] X.env = [(false, eval e X.env)] := by rfl) :
    PI X (.Tuple es j tp) (.Call (.Name "enumerate" p) [e] [] pos) (iEnumS ta) := by
  refine ⟨fun pins s σ H R I h => ?_⟩
  refine Call_ (ld_blt I hg hm boot_enumerate (PyProof.Rows.callWith_type1 (thn (ha.run pos pins s σ H _ I h) fun us s1 ⟨vs, H1, I1, r1, q1⟩ => ?_) hs rfl))
  obtain ⟨x, rfl, asc, q⟩ := q1
  obtain ⟨u, rfl, t, rfl⟩ := vals1 r1
  refine call_enumerate_str fun h' he hit size kept => wpAny_pyIter_enum he ?_
  have hit' : h'.IsStrIter s1.heap.objs.size "str_ascii_iterator" x t 0 := by simpa [strIterType, asc] using hit
  have J : Inv X pins σ H1 { s1 with heap := h' } := I1.kept (t' := s1.toks) kept
  refine ⟨s1.heap.objs.size + 1, [s1.heap.objs.size + 1, s1.heap.objs.size], _, _, H1, rfl, J, turn_enumS x t (s1.heap.objs.size + 1) s1.heap.objs.size, ⟨⟨.none, he⟩, hit', Nat.succ_ne_self _⟩, fun b hb => ?_, q⟩
  have le_b : s1.heap.objs.size ≤ b := by
    rcases (by simpa using hb : b = s1.heap.objs.size + 1 ∨ b = s1.heap.objs.size) with z | z
    · subst z; exact Nat.le_succ _
    · subst z; exact Nat.le_refl _
  exact I1.fpOk le_b (I1.hok.fresh le_b)
theorem for_enumS {x : Str} {g : TG} {tb : TS} {D : Ends} {σ : L2.St} {H : Hp} (Pv : Nat → L2.St → Hp → Prop) (h0 : Pv 0 σ H)
    (hs : ∀ i c σ H T, x.cps[i]? = some c → Pv i σ H → H T = none → g (.ref T) σ (upd H T (.tup [.int (i : Nat), .str ⟨#[c]⟩])) fun σ2 H2 => tb { D with nx := Pv (i + 1), ct := Pv (i + 1), bk := D.nx } σ2 H2) (hd : ∀ σ H, Pv x.cps.size σ H → D.nx σ H) :
    ∃ W : Nat → Nat → L2.St → Hp → Prop, (∃ m, W 0 m σ H) ∧ ∀ i m σ H, W i m σ H →
      ((Ites x).stop i H ∧ D.nx σ H) ∨ ((Ites x).go i H ∧ ∃ N : L2.St → Hp → Prop, (∀ σ' H', N σ' H' → ∃ m', m' < m ∧ W (i + 1) m' σ' H') ∧ ∀ x' H', (Ites x).yld i H x' H' → g x' σ H' fun σ2 H2 => tb { D with nx := N, ct := N, bk := D.nx } σ2 H2) := by
  refine ⟨fun i m σ H => m = x.cps.size - i ∧ i ≤ x.cps.size ∧ Pv i σ H, ⟨x.cps.size, by simp, Nat.zero_le _, h0⟩, ?_⟩
  rintro i m σ H ⟨rfl, hi, p⟩
  by_cases hlt : i < x.cps.size
  · refine .inr ⟨hlt, Pv (i + 1), fun σ' H' p' => ⟨x.cps.size - (i + 1), by omega, rfl, hlt, p'⟩, fun y H' yy => ?_⟩
    obtain ⟨T, c, rfl, hT, rfl, hc⟩ := yy
    exact hs i c σ H T hc p hT
  · have e : i = x.cps.size := by omega
    subst e
    exact .inl ⟨rfl, hd σ H p⟩
theorem vals_ext : ∀ {xs : List V} {us : List Value}, xs.length = us.length → (∀ (i : Nat) (x : V) (u : Value), xs[i]? = some x → us[i]? = some u → RelV x u) → Vals xs us
  | [], [], _, _ => .nil
  | x :: xs, u :: us, h, k => .cons (k 0 x u rfl rfl) (vals_ext (by simpa using h) fun i y w h1 h2 => k (i + 1) y w (by simpa using h1) (by simpa using h2))
/-- list(text) -/
theorem call_listS {X : Cx} (hc : X.calm = true) : CallR X (.type "list") (fun xs H Q => ∃ z : Str, xs = [.str z] ∧ z.length ≤ sizeLine ∧ ∀ l, H l = none → Q (.ref l) (upd H l (.lst (z.cps.toList.map fun c => V.str ⟨#[c]⟩)))) := by
  intro pins s σ H xs us Q I r h
  obtain ⟨z, rfl, hz, q⟩ := h
  obtain ⟨u, rfl, t, rfl⟩ := vals1 r
  refine call_list_str (I.ok.hd hc) z t (hn := hz) fun h' tk acc' c' hk hS' hacc => ?_
  have lz : z.cps.toList.length = z.length := by simp [Str.length]
  have rel : Vals (z.cps.toList.map fun c => V.str ⟨#[c]⟩) acc'.toList := by
    refine vals_ext (by rw [List.length_map, lz, Array.length_toList, hacc.1]; rfl) fun i y w h1 h2 => ?_
    obtain ⟨c, u, e1, rfl⟩ := hacc.2 i w (by simpa using h2)
    rw [List.getElem?_map, Array.getElem?_toList, e1] at h1
    cases h1
    exact ⟨_, rfl⟩
  refine ⟨.ref s.heap.objs.size, _, I.laid (t' := tk) hk (Nat.le_refl _) ?_, rfl, q _ (I.hok.fresh (Nat.le_refl _))⟩
  exact ⟨by rw [List.length_map, lz]; exact hz, acc'.toList, c', rel, by simpa using hS'⟩
/-- text * int -/
theorem op_mulS {X : Cx} : OpR X (binaryOp .Mult) (fun x y H Q => ∃ (z : Str) (n : Int), x = .str z ∧ y = .int n ∧ 0 ≤ n ∧ n ≤ 1000 ∧ z.length ≤ 1000 ∧ Q (.str ⟨(List.replicate n.toNat z.cps.toList).flatten.toArray⟩) H) := by
  intro pins s σ H x y v u Q I rx ry h
  obtain ⟨z, n, rfl, rfl, h0, h1', hz, q⟩ := h
  obtain ⟨t, rfl⟩ := rx
  obtain ⟨t', rfl⟩ := ry
  have hn : ¬ n < -(2 ^ 63 : Int) := by omega
  refine PySem.P.mul_str (by simp; omega) (fun h1 h2 => ?_) (fun h1 h2 => ?_) ?_
  · refine Int.not_lt.mpr (Int.le_ediv_of_mul_le (by omega) ?_)
    have : (z.length : Int) * n ≤ 1000 * 1000 := Int.mul_le_mul (by omega) h1' h0 (by decide)
    omega
  · unfold Builtin.Str.tooLong
    have : z.length * n.toNat ≤ 1000 * 1000 := Nat.mul_le_mul hz (by omega)
    exact decide_eq_false (by rw [sizeLine_eq]; omega)
  · have e1 : n < 1 → (⟨(List.replicate n.toNat z.cps.toList).flatten.toArray⟩ : Str) = Str.empty := fun h => by
      have : n.toNat = 0 := by omega
      rw [this]; rfl
    have e2 : (n == 1 || z.length == 0) = true → (⟨(List.replicate n.toNat z.cps.toList).flatten.toArray⟩ : Str) = z := fun h => by
      rw [Bool.or_eq_true, beq_iff_eq, beq_iff_eq] at h
      rcases h with rfl | h
      · simp
      · have e : z.cps = #[] := Array.eq_empty_of_size_eq_zero h
        rw [show z = ⟨#[]⟩ from by cases z; simp_all]
        simp
    have e3 : ∀ (k : Nat) (acc : Array Nat), (List.replicate k z.cps).foldl (· ++ ·) acc = acc ++ (List.replicate k z.cps.toList).flatten.toArray := fun k => by
      induction k with
      | zero => intro acc; simp
      | succ k ih =>
        intro acc
        rw [List.replicate_succ, List.foldl_cons, ih, List.replicate_succ, List.flatten_cons]
        apply Array.ext'
        simp
    split
    · rename_i hlt
      rw [e1 hlt] at q
      exact ⟨by decide, .str _, H, I.tok _, ⟨_, rfl⟩, q⟩
    · split
      · rename_i hb
        rw [e2 hb] at q
        exact ⟨.str z, H, I, ⟨_, rfl⟩, q⟩
      · rw [e3 n.toNat #[]]
        have hl : ∀ k : Nat, ((List.replicate k z.cps.toList).flatten).length = z.length * k := fun k => by
          simp [Str.length, Nat.mul_comm]
        refine ⟨?_, .str _, H, I.tok _, ⟨_, rfl⟩, by simpa using q⟩
        have : z.length * n.toNat ≤ 1000 * 1000 := Nat.mul_le_mul hz (by omega)
        show (#[] ++ (List.replicate n.toNat z.cps.toList).flatten.toArray : Array Nat).size ≤ sizeLine
        have e5 : (#[] ++ (List.replicate n.toNat z.cps.toList).flatten.toArray : Array Nat).size = z.length * n.toNat := by
          rw [← hl n.toNat, Array.size_append, List.size_toArray, List.size_toArray]
          simp
        rw [e5, sizeLine_eq]
        omega
/-- list(a range object) -/
def rListR : List V → Hp → VK → Prop := fun xs H Q => ∃ (r : Addr) (lo hi : Int), xs = [.ref r] ∧ H r = some (.rng lo hi) ∧ -(2 ^ 40) ≤ lo ∧ lo ≤ 2 ^ 40 ∧ -(2 ^ 40) ≤ hi ∧ hi ≤ 2 ^ 40 ∧ hi - lo ≤ 100000 ∧
  ∀ l, H l = none → Q (.ref l) (upd H l (.lst ((List.range (hi - lo).toNat).map fun i => V.int (lo + (i : Nat)))))
theorem call_listR {X : Cx} (hc : X.calm = true) : CallR X (.type "list") rListR := by
  intro pins s σ H xs us Q I r h
  obtain ⟨a, lo, hi, rfl, ha, l1, l2, l3, l4, l5, q⟩ := h
  obtain ⟨u0, rfl, ru⟩ := vals1 r
  obtain rfl : u0 = Value.ref a := ru
  obtain ⟨t, u, v, hr⟩ := (show ObjOk X.prog X.w H s.heap a (.rng lo hi) from I.hok a _ ha)
  have sz : Builtin.Range.rangeSize lo hi 1 = ((hi - lo).toNat : Int) := by
    rw [rangeSize_one]
    split <;> omega
  have sm : Builtin.Range.small lo hi 1 = true := by
    unfold Builtin.Range.small Builtin.Range.rangeFitsLong
    simp only [sz]
    simp
    omega
  refine call_list_range (I.ok.hd hc) hr sm sz (by omega) fun h' tk acc' c' hk hS' hacc => ?_
  have rel : Vals ((List.range (hi - lo).toNat).map fun i => V.int (lo + (i : Nat))) acc'.toList := by
    refine vals_ext (by rw [List.length_map, List.length_range, Array.length_toList, hacc.1]) fun i y w h1 h2 => ?_
    obtain ⟨tt, rfl⟩ := hacc.2 i w (by simpa using h2)
    obtain ⟨hj, e⟩ := List.getElem?_eq_some_iff.mp h1
    simp at e
    subst e
    exact ⟨tt, by simp⟩
  refine ⟨.ref s.heap.objs.size, _, I.laid (t' := tk) hk (Nat.le_refl _) ?_, rfl, q _ (I.hok.fresh (Nat.le_refl _))⟩
  exact ⟨by rw [List.length_map, List.length_range, sizeLine_eq]; omega, acc'.toList, c', rel, by simpa using hS'⟩
end Ov

set_option Elab.async false
set_option linter.all false
set_option maxRecDepth 100000
set_option maxHeartbeats 4000000
/-! calls of an instance: in a try's body, by keywords -/
namespace Ov
open PySem PySem.Spec PyProof.Rows L2 GxR
theorem callI_of {M : Model} {A : Around} {Ex : Value → Shared → Prop} {s : Shared} {x : Addr} {ps : Pos} {Q : Value → Shared → Prop} {as : List (Bool × Sem Value)} {ks : List (Option Str × Sem Value)} (no : (as.any (·.1) || ks.any (·.1.isNone)) = false)
    (h : wpAny M A (evalArgs (.ref x) true as ks) (fun z t => (∃ C o od, PySem.W.InstAt t.heap x o C od ∧ o.data = .plain) ∧ wpAny M A (call (.ref x) ([] ++ z.pos) z.kw) Q Ex t) Ex s) : wpAny M A (callWith ps (.ref x) [] as ks) Q Ex s := by
  unfold callWith
  refine wpAny_bind (wpAny_holding (wpAny_mono h (fun z t ht => ?_) fun _ _ y => y))
  obtain ⟨⟨C, o, od, J, plain⟩, hc⟩ := ht
  refine wpAny_bind (wpAny_standAt ?_)
  simp only [no]
  refine wpAny_bind ((PySem.W.kco_keeper (M := M) J plain).here ?_)
  exact wpAny_bind (wpAny_mono (wpAny_operateT hc) (fun r u hu => wpAny_bind (wpAny_holding (wpAny_point (wpAny_pure hu)))) fun _ _ y => y)
section
variable {X : Cx} {CX : CXT} {k : Nat} {C g : Addr} {fd : FuncData} {ps ks : List Str} {sp : Sp} {E : L2.St → XK} {fe e : Expr} {es : List Expr} {kws : List Keyword} {tf : TE} {t tk : TA} {pos : Pos} {gL : List Value → List Value → List Value} {gV : List V → List V → List V}
/-- f(e, ..), f an instance of C with __call__ -/
def tCallI (C : Addr) (sp : Sp) (E : L2.St → XK) (tf : TE) (t : TA) : TE := fun σ H Q => tf σ H fun y H1 => ∃ a, y = V.ref a ∧ t σ H1 fun vs H2 => (∃ dx fs, H2 a = some (.ins C dx fs)) ∧ sp (V.ref a :: vs) H2 Q (E σ)
theorem inst_at {pins : List (Addr × Obj)} {σ : L2.St} {H : Hp} {s : Shared} {a dx : Addr} {fs : List (Str × V)} (I : Inv X pins σ H s) (h : H a = some (.ins C dx fs)) : ∃ o od, PySem.W.InstAt s.heap a o C od ∧ o.data = .plain := by
  obtain ⟨m, O, _⟩ := ins_get I.hok h
  obtain ⟨od, J, _⟩ := O.look
  exact ⟨_, _, J, rfl⟩
theorem pe_callI (hf : PE X fe tf) (c : StX.CallO X.K C g) (F : FnR X.prog X.w X.K X.mg X.base CX k g sp) (hr : Room k X.A) (hx : ∀ σ, PassesAt CX X σ (E σ)) (ha : PA X (e :: es) t)
    (ht : eval (.Call fe (e :: es) [] pos) X.env = (do callWith pos (← eval fe X.env) [] (backTo pos (starEach (e :: es) X.env)) (backToKw pos (keywordEach [] X.env))) := by rfl)
    (he : starEach (e :: es) X.env = (false, eval e X.env) :: starEach es X.env := by rfl) (hpl : (backTo pos (starEach es X.env)).any (·.1) = false := by rfl) : PE X (.Call fe (e :: es) [] pos) (tCallI C sp E tf t) := by
  refine ⟨fun pins s σ H Q I h => ?_⟩
  refine Call_ (thn (hf.run pins s σ H _ I h) fun u s1 ⟨y, H1, I1, ry, a, ey, q⟩ => ?_) ht
  subst ey
  obtain rfl : u = Value.ref a := ry
  refine StX.callO_with (thn (ha.run pos pins s1 σ H1 _ I1 q) fun us s2 ⟨vs, H2, I2, r, ⟨dx, fs, hi⟩, q2⟩ => ?_) he hpl
  obtain ⟨o, od, J, plain⟩ := inst_at I2 hi
  refine ⟨⟨C, o, od, J, plain⟩, wpAny_call (PySem.W.kco_code I2.kIn J plain c.at_ c.fn c.fi (codeAny_mono (F X.A X.stack s2 H2 (.ref a :: us) (V.ref a :: vs) Q (E σ) hr I2.env0 (.cons rfl r) q2) fun r s' hq => ?_))⟩
  cases r with
  | error e => exact hx σ _ H2 s2 e s' I2 hq
  | ok fl =>
    cases fl with
    | ret u => exact I2.after hq
    | next => exact False.elim hq
    | brk => exact False.elim hq
    | cont => exact False.elim hq
def tCallIK (C : Addr) (m : Nat) (sp : Sp) (gV : List V → List V → List V) (E : L2.St → XK) (tf : TE) (tk : TA) : TE := fun σ H Q => tf σ H fun y H1 => ∃ a, y = V.ref a ∧ tk σ H1 fun zs H2 => (∃ dx fs, H2 a = some (.ins C dx fs)) ∧ zs.length = m ∧ sp (gV [V.ref a] zs) H2 Q (E σ)
theorem pe_callIK (hf : PE X fe tf) (c : StX.CallO X.K C g) (F : FnOk X.prog X.w X.K X.mg X.base CX k g fd ps sp) (hr : Room k X.A) (hb : KBn X.K fd ps 1 ks gL gV) (hx : ∀ σ, PassesAt CX X σ (E σ)) (hkw : PK X kws tk)
    (hall : (backToKw pos (keywordEach kws X.env)).all (·.1.isSome) = true := by rfl) (hks : (backToKw pos (keywordEach kws X.env)).filterMap (·.1) = ks := by rfl)
    (hpl : ((backTo pos (starEach [] X.env)).any (·.1) || (backToKw pos (keywordEach kws X.env)).any (·.1.isNone)) = false := by rfl)
    (ht : eval (.Call fe [] kws pos) X.env = (do callWith pos (← eval fe X.env) [] (backTo pos (starEach [] X.env)) (backToKw pos (keywordEach kws X.env))) := by rfl) : PE X (.Call fe [] kws pos) (tCallIK C ks.length sp gV E tf tk) := by
  refine ⟨fun pins s σ H Q I h => ?_⟩
  show wpAny _ _ (eval (.Call fe [] kws pos) X.env) _ _ _
  rw [ht]
  refine wpAny_bind (thn (hf.run pins s σ H _ I h) fun u s1 ⟨y, H1, I1, ry, a, ey, q⟩ => ?_)
  subst ey
  obtain rfl : u = Value.ref a := ry
  refine callI_of hpl (evalArgs_kw2_nil hall ?_)
  refine thn (hkw.run pos pins s1 σ H1 _ I1 q) fun ws s2 ⟨zs, H2, I2, rz, ⟨dx, fs, hi⟩, l2, q2⟩ => ?_
  rw [hks]
  obtain ⟨o, od, J, plain⟩ := inst_at I2 hi
  refine ⟨⟨C, o, od, J, plain⟩, wpAny_call (PySem.W.kco_code I2.kIn J plain c.at_ c.fn c.fi (codeAny_mono (F.run X.A X.stack s2 H2 ⟨[.ref a], ks.zip ws⟩ (gL [.ref a] ws) (gV [V.ref a] zs) Q (E σ) hr I2.env0 (hb.to s2 [.ref a] ws I2.kIn rfl (rz.length.symm.trans l2)) (hb.rel (.cons rfl .nil) rz) q2) fun r s' hq => ?_))⟩
  cases r with
  | error e => exact hx σ _ H2 s2 e s' I2 hq
  | ok fl =>
    cases fl with
    | ret u => exact I2.after hq
    | next => exact False.elim hq
    | brk => exact False.elim hq
    | cont => exact False.elim hq
end
end Ov

set_option Elab.async false
set_option linter.all false
set_option maxRecDepth 100000
set_option maxHeartbeats 4000000
/-! x.replace('.', '') in a def's last test -/
namespace Ov
open PySem PySem.Spec PyProof.Rows L2 GxR CwR
section
variable {X : Cx} {a b e : Expr} {rest : List Expr} {ta tb te : TE} {pos p : Pos}
theorem pet_one {op : BoolOp} (h : PET X e te) : PET X (.BoolOp op [e] pos) te := fun pins s σ H Q h0 I q => BoolOp_one (h pins s σ H Q h0 I q)
theorem pet_and (ha : PE X a ta) (hb : PET X (.BoolOp .And (b :: rest) pos) tb) : PET X (.BoolOp .And (a :: b :: rest) pos) (tAndV ta tb) := by
  intro pins s σ H Q h0 I h
  refine BoolOp_and (wpAny_mono (PySem.wpAny_toks (ha.run pins s σ H _ I h)) (fun v s1 z => ?_) fun _ _ z => z.2)
  obtain ⟨hk, x, H1, I1, r1, c, rfl, q1⟩ := z
  cases r1
  refine wpAny_truthy_bool ?_
  cases c with
  | false => exact ⟨.bl false, H1, I1, rfl, q1⟩
  | true => exact hb pins s1 σ H1 Q (Nat.le_trans h0 hk) I1 q1
theorem pet_call1 {CX : CXT} {k : Nat} {f : Addr} {fd : FuncData} {ps : List Str} {sp : Sp} {E : XK} {x : Str} (F : FnOk X.prog X.w X.K X.mg X.base CX k f fd ps sp) (hr : Room k X.A) (hg : Gl X x) (hm : X.mg x = some (.ref f)) (hk : PySem.W.keepIn X.K (.ref f) = true) (hb : Binds X.K fd ps []) (hx : Passes CX X E) (he : PET X e te)
    (hdb : (x == ("__debug__" : Str)) = false := by decide) (hst : starEach [e] X.env = [(false, eval e X.env)] := by rfl) : PET X (.Call (.Name x p) [e] [] pos) (tCall sp [] E (tCons te tNil)) := by
  intro pins s σ H Q h0 I h
  refine wpAny_Call_Name_kw (ld_glob I hg hm ?_ hdb)
  have hst' : starEach [e] X.env = (false, eval e X.env) :: starEach [] X.env := hst
  refine PySem.W.callWith_K (h₀ := X.base) I.ok.mod.kin hk ?_ hst' (by rfl)
  refine PyProof.Rows.args_cons (thn (he pins s σ H _ h0 I h) fun v s1 ⟨y, H1, I1, r1, q1⟩ => PyProof.Rows.args_nil ?_) hst'
  exact ⟨I1.kIn, run_fn F hr hb .nil hx I1 (.cons r1 .nil) q1⟩
end
end Ov

set_option Elab.async false
set_option linter.all false
set_option maxRecDepth 100000
set_option maxHeartbeats 4000000
namespace Ov
open PySem PySem.Spec PyProof.Rows L2 GxR
def dotsB (z : Str) : Bool := z.cps.toList.all fun c => c == 46 || (decide (97 ≤ c) && decide (c ≤ 122))
def stripB (z : Str) (m : Int) : Bool := decide (1 ≤ (z.length : Int)) && decide ((z.length : Int) ≤ m) && dotsB z
theorem low_dots (z : Str) : lowB (Txt.replace z "." "") = dotsB z := by
  have e := replace_strikes z 46
  have e2 : (("." : Str), ("" : Str)) = (⟨#[46]⟩, ⟨#[]⟩) := by decide +kernel
  rw [(Prod.mk.inj e2).1, (Prod.mk.inj e2).2]
  unfold lowB dotsB
  rw [e, List.all_filter]
  congr 1
  funext c
  by_cases h : c = 46
  · subst h; rfl
  · have h1 : (c != 46) = true := by simp [h]
    have h2 : (c == 46) = false := by simp [h]
    rw [h1, h2]; simp
/-- the names that these defs read at the top -/
structure Txt2 (K : PySem.W.Frag) (mg : Str → Option Value) (fStrip fOver : Addr) : Prop where
  gStrip : mg "is_strip" = some (.ref fStrip)
  kStrip : PySem.W.keepIn K (.ref fStrip) = true
  gOver : mg "over" = some (.ref fOver)
  kOver : PySem.W.keepIn K (.ref fOver) = true
  cells : ∃ t, mg "MOST_CELLS" = some (.int 120 t)
section
variable {P : Program} {w : World} {K : PySem.W.Frag} {mg : Str → Option Value} {base : Heap} {T : List Addr} {C D fLow fText fAre fTape fNext fInks fInit cLow PLow cAre PAre fStrip fOver pWi fWi DSp DSg : Addr}
def spStrip (K : PySem.W.Frag) (T : List Addr) : Sp := fun vs H Q _ => ∃ (x : V) (m : Int), vs = [x, .int m] ∧ (∀ p ∈ T, TabG H p) ∧
  ((∃ z : Str, x = .str z ∧ z.length ≤ 4000 ∧ ∀ H2, Tbs T H H2 → Q (.bl (stripB z m)) H2) ∨ (∃ t, TyX K H x t ∧ PySem.W.kitOne K t (.type "str") = some false ∧ Q (.bl false) H))
theorem scStrip : FnScope ["thing", "most"] ["thing", "most"] (defScope sStrip) := ⟨rfl, rfl, rfl, by decide +kernel, rfl, by decide +kernel, by decide +kernel⟩
theorem ok_strip {f : Addr} {fd fdL : FuncData} (F : L2.Fun K "is_strip" "is_strip" sStrip f fd) (FL : FunC K "is_lowercase" "is_lowercase" sLow fLow fdL cLow) (X : Txt K mg C fLow fText fAre fTape fNext fInks) (B : Tab base mg T cLow PLow cAre PAre) : FnOk P w K mg base CX0 3 f fd ["thing", "most"] (spStrip K T) := by
  obtain ⟨oc, od, kV, doc, pm, an, cdv, ct, osl, rfl, lk, hcd⟩ := F.ex
  refine fn_ofT lk hcd scStrip (by decide +kernel) (by decide) (fun vs H Q E h => ?_) (fun A outer s H vs Q E hr h => ?_)
  · obtain ⟨x, m, rfl, _⟩ := h
    rfl
  · obtain ⟨x, m, rfl, hT, k⟩ := h
    refine ⟨_, CwR.psst_one (CwR.pst_ret (pet_and (pe_callB call_isi (by rfl) X.isi boot_isinstance (pa_cons (pv 0) (pa_cons (pe_bltn (v := .ty "str") (by rfl) X.str PySem.Pv.boot_str rfl) pa_nil)))
      (pet_and (pe_chain op_le op_le pe_int (pe_callB call_len_str (by rfl) X.len boot_len (pa_cons (pv 0) pa_nil)) (pv 1))
        (pet_one (pet_call1 (ok_low FL X B) hr (by rfl) X.gLow X.kLow (FL.toFun.binds fun _ _ _ _ _ _ us hl => match us, hl with | [_], _ => rfl) L2.pass0 (CwR.pet_replC (y := ".") (z := "") (pv 0))))))), ?_⟩
    rcases k with ⟨z, rfl, hz, k⟩ | ⟨t, ht, hk, k⟩
    · have hzs : z.length ≤ sizeLine := Nat.le_trans hz (by decide)
      refine ⟨_, rfl, _, _, _, _, _, rfl, .ty _, .base (.str _), kit_ty (r := true) (by decide +kernel), true, rfl, ?_⟩
      refine iteT ?_
      refine ⟨_, rfl, z, rfl, hzs, _, _, rfl, rfl, _, rfl, ?_⟩
      by_cases h1 : 1 ≤ (z.length : Int)
      · refine iteT' (by simpa using h1) ?_
        refine ⟨_, rfl, _, _, rfl, rfl, _, rfl, ?_⟩
        by_cases h2 : (z.length : Int) ≤ m
        · refine iteT' (by simpa using h2) ?_
          refine ⟨_, rfl, z, rfl, ?_, Txt.replace z "." "", rfl, hT, fun H2 q => ?_⟩
          · have : (("" : Str)).length = 0 := rfl
            rw [this]
            omega
          · have := k H2 q
            unfold stripB at this
            rw [low_dots]
            simpa [h1, h2] using this
        · refine iteF' (by simpa using h2) ?_
          have := k H (.refl hT)
          unfold stripB at this
          simpa [h1, h2] using this
      · refine iteF' (by simpa using h1) ?_
        refine ⟨_, rfl, ?_⟩
        refine iteF ?_
        have := k H (.refl hT)
        unfold stripB at this
        simpa [h1] using this
    · refine ⟨_, rfl, _, _, _, _, _, rfl, .ty _, ht, hk, false, rfl, ?_⟩
      exact iteF k
/-- the strip after a stamping at p -/
def overS (z w : Str) (p : Nat) : Str := ⟨(z.cps.toList.take p ++ w.cps.toList ++ z.cps.toList.drop (p + w.length)).toArray⟩
theorem tl_len (z : Str) : z.cps.toList.length = z.length := by simp [Str.length]
theorem over_cut (z w : Str) (p : Nat) (h : p + w.length ≤ z.length) : (cutS z none (some (p : Int)) ++ w) ++ cutS z (some ((p : Int) + w.length)) none = overS z w p := by
  have e1 : cutS z none (some (p : Int)) = ⟨(z.cps.toList.take p).toArray⟩ := by
    unfold cutS
    rw [HT.sIx_none, HT.sIx_nat, Nat.min_eq_left (by omega : p ≤ z.length), List.drop_zero, Nat.sub_zero]
  have e2 : cutS z (some ((p : Int) + w.length)) none = ⟨(z.cps.toList.drop (p + w.length)).toArray⟩ := by
    unfold cutS
    have : ((p : Int) + w.length) = ((p + w.length : Nat) : Int) := by omega
    rw [this, HT.sIx_none, HT.sIx_nat, Nat.min_eq_left h, List.take_of_length_le (by rw [List.length_drop, tl_len]; omega)]
  rw [e1, e2]
  show (⟨((z.cps.toList.take p).toArray ++ w.cps) ++ (z.cps.toList.drop (p + w.length)).toArray⟩ : Str) = overS z w p
  unfold overS
  congr 1
  apply Array.ext'
  simp
theorem overS_len (z w : Str) (p : Nat) (h : p + w.length ≤ z.length) : (overS z w p).length = z.length := by
  show ((z.cps.toList.take p ++ w.cps.toList ++ z.cps.toList.drop (p + w.length)).toArray).size = z.length
  rw [List.size_toArray, List.length_append, List.length_append, List.length_take, List.length_drop, tl_len, tl_len]
  omega
def spOver : Sp := fun vs H Q _ => ∃ (z u : Str) (p : Nat), vs = [.str z, .str u, .int (p : Nat)] ∧ p + u.length ≤ z.length ∧ z.length ≤ 4000 ∧ Q (.str (overS z u p)) H
theorem scOver : FnScope ["strip", "letters", "place"] ["strip", "letters", "place"] (defScope sOver) := ⟨rfl, rfl, rfl, by decide +kernel, rfl, by decide +kernel, by decide +kernel⟩
theorem ok_over {f : Addr} {fd : FuncData} (F : L2.Fun K "over" "over" sOver f fd) (X : Txt K mg C fLow fText fAre fTape fNext fInks) : FnOk P w K mg base CX0 1 f fd ["strip", "letters", "place"] spOver := by
  refine F.ok scOver (fun vs H Q E h => ?_) (fun cdv A outer s H vs Q E hr h => ?_)
  · obtain ⟨z, u, p, rfl, _⟩ := h
    rfl
  · obtain ⟨z, u, p, rfl, hp, hz, q⟩ := h
    have hzs : z.length ≤ sizeLine := Nat.le_trans hz (by decide)
    have hus : u.length ≤ sizeLine := Nat.le_trans (by omega : u.length ≤ z.length) hzs
    refine ⟨_, pss_one (ps_ret (pe_op op_add_str (pe_op op_add_str (pe_slice sl_str (pv 0) po_none (po_some (pv 2))) (pv 1)) (pe_slice sl_str (pv 0) (po_some (pe_op op_add (pv 2) (pe_callB call_len_str (by rfl) X.len boot_len (pa_cons (pv 1) pa_nil)))) po_none))), ?_⟩
    refine ⟨_, rfl, _, rfl, _, rfl, z, rfl, hzs, _, rfl, _, _, rfl, rfl, ?_, _, rfl, _, rfl, _, rfl, u, rfl, hus, _, _, rfl, rfl, _, rfl, z, rfl, hzs, _, _, rfl, rfl, ?_, ?_⟩
    · have := cutS_length z none (some (p : Int))
      rw [sizeLine_eq]; omega
    · have h1 := cutS_length z none (some (p : Int))
      have h2 := cutS_length z (some ((p : Int) + u.length)) none
      have h3 : (cutS z none (some (p : Int)) ++ u).length = (cutS z none (some (p : Int))).length + u.length := by
        show ((cutS z none (some (p : Int))).cps ++ u.cps).size = _
        rw [Array.size_append]; rfl
      rw [sizeLine_eq, h3]
      omega
    · have := over_cut z u p hp
      rw [this]
      exact q
end
end Ov

set_option Elab.async false
set_option linter.all false
set_option maxRecDepth 100000
set_option maxHeartbeats 4000000
namespace Ov
open PySem PySem.Spec PyProof.Rows L2 GxR
/-- words of stamps, their width -/
structure Good (ws : List Str) (W : Nat) : Prop where
  n1 : 1 ≤ ws.length
  n6 : ws.length ≤ 6
  w1 : 1 ≤ W
  w8 : W ≤ 8
  all : ∀ z ∈ ws, z.length = W ∧ lowB z = true
theorem good_of {ws : List Str} (h : stampsV (ws.map V.str) = true) : ∃ W, Good ws W := by
  have e : (ws.map V.str).map strV = ws := by rw [List.map_map]; exact List.map_id ws
  unfold stampsV at h
  rw [e] at h
  simp only [Bool.and_eq_true, decide_eq_true_eq, List.length_map] at h
  obtain ⟨h1, h2, h3, h4⟩ := h
  unfold tailB at h4
  simp only [Bool.and_eq_true] at h4
  have ta : ∀ z ∈ ws, textB z 8 = true := fun z hz => List.all_eq_true.mp h3 (.str z) (List.mem_map.mpr ⟨z, hz, rfl⟩)
  have la := List.all_eq_true.mp h4.1
  have hd : ∃ z, z ∈ ws ∧ ws.headD Str.empty = z := by
    cases ws with
    | nil => simp at h1
    | cons z r => exact ⟨z, List.mem_cons_self, rfl⟩
  obtain ⟨z0, hz0, e0⟩ := hd
  have t0 := ta z0 hz0
  unfold textB at t0
  simp only [Bool.and_eq_true, decide_eq_true_eq] at t0
  refine ⟨z0.length, h1, h2, by omega, by omega, fun z hz => ?_⟩
  have e1 := of_decide_eq_true (la z hz)
  rw [e0] at e1
  have t1 := ta z hz
  unfold textB at t1
  simp only [Bool.and_eq_true, decide_eq_true_eq] at t1
  exact ⟨e1, t1.2⟩
theorem Good.at {ws : List Str} {W : Nat} (g : Good ws W) {i : Nat} (hi : i < ws.length) : ws[i].length = W := (g.all _ (List.getElem_mem hi)).1
section
variable {P : Program} {w : World} {K : PySem.W.Frag} {mg : Str → Option Value} {base : Heap} {T : List Addr} {C D fLow fText fAre fTape fNext fInks fInit cLow PLow cAre PAre fStrip fOver pWi fWi pWo fWo fCl DSp DSg : Addr}
def spWidth (C : Addr) : Sp := fun vs H Q _ => ∃ (a l dx : Addr) (ws : List Str) (W : Nat), vs = [.ref a] ∧ Stp H C a l dx (ws.map V.str) ∧ Good ws W ∧ Q (.int (W : Nat)) H
theorem scSelf1 : FnScope ["self"] ["self"] (defScope sWidth) := ⟨rfl, rfl, rfl, by decide +kernel, rfl, by decide +kernel, by decide +kernel⟩
theorem scSelf2 : FnScope ["self"] ["self"] (defScope sWords) := ⟨rfl, rfl, rfl, by decide +kernel, rfl, by decide +kernel, by decide +kernel⟩
theorem at_0 {ws : List Str} (h : 1 ≤ ws.length) : atI (ws.map V.str) 0 = some (.str ws[0]) := by
  have h0 : (ws.map V.str)[0]? = some (.str ws[0]) := by rw [List.getElem?_map, List.getElem?_eq_getElem (by omega)]; rfl
  exact atI_nat (j := 0) h0
theorem at_i {ws : List Str} {i : Int} (h0 : 0 ≤ i) (h : i < ws.length) : atI (ws.map V.str) i = some (.str (ws.getD i.toNat Str.empty)) := by
  have hi : i.toNat < ws.length := by omega
  have h1 : (ws.map V.str)[i.toNat]? = some (.str (ws.getD i.toNat Str.empty)) := by
    rw [List.getElem?_map, List.getElem?_eq_getElem hi]
    simp [List.getD, hi]
  have e : i = (i.toNat : Int) := by omega
  have := atI_nat (j := i.toNat) h1
  rw [← e] at this
  exact this
theorem Good.get {ws : List Str} {W : Nat} (g : Good ws W) {i : Nat} (hi : i < ws.length) : (ws.getD i Str.empty).length = W ∧ lowB (ws.getD i Str.empty) = true := by
  have e : ws.getD i Str.empty = ws[i] := by simp [List.getD, hi]
  rw [e]
  exact g.all _ (List.getElem_mem hi)
theorem ok_width {f : Addr} {fd : FuncData} (F : L2.Fun K "width" "Stamps.width" sWidth f fd) (X : Txt K mg C fLow fText fAre fTape fNext fInks) (O : Own K C) : FnOk P w K mg base CX0 1 f fd ["self"] (spWidth C) := by
  refine F.ok scSelf1 (fun vs H Q E h => ?_) (fun cdv A outer s H vs Q E hr h => ?_)
  · obtain ⟨a, l, dx, ws, W, rfl, _⟩ := h
    rfl
  · obtain ⟨a, l, dx, ws, W, rfl, st, g, q⟩ := h
    refine ⟨_, pss_one (ps_ret (pe_callB call_len_str (by rfl) X.len boot_len (pa_cons (pe_ix ix_seq (pe_fld (pv 0) (by rfl)) pe_int fun _ _ => rfl) pa_nil))), ?_⟩
    have hl : 0 < ws.length := g.n1
    refine ⟨_, rfl, a, C, dx, _, _, rfl, st.1, O.cls, O.noW, rfl, .inl ⟨l, _, 0, .str ws[0], rfl, rfl, .inl (.inl st.2), at_0 g.n1, ws[0], rfl, ?_, ?_⟩⟩
    · rw [g.at hl]; exact Nat.le_trans g.w8 (by decide)
    · rw [g.at hl]; exact q
def spWords (C : Addr) : Sp := fun vs H Q _ => ∃ (a l dx : Addr) (xs : List V), vs = [.ref a] ∧ Stp H C a l dx xs ∧ ∀ p, H p = none → Q (.ref p) (upd H p (.lst xs))
theorem ok_words {f : Addr} {fd : FuncData} (F : L2.Fun K "words" "Stamps.words" sWords f fd) (X : Txt K mg C fLow fText fAre fTape fNext fInks) (O : Own K C) : FnOk P w K mg base CX0 1 f fd ["self"] (spWords C) := by
  refine F.ok scSelf2 (fun vs H Q E h => ?_) (fun cdv A outer s H vs Q E hr h => ?_)
  · obtain ⟨a, l, dx, xs, rfl, _⟩ := h
    rfl
  · obtain ⟨a, l, dx, xs, rfl, st, q⟩ := h
    refine ⟨_, pss_one (ps_ret (pe_callTy call_list_of (by rfl) X.lst (by decide +kernel) (pa_cons (pe_fld (pv 0) (by rfl)) pa_nil))), ?_⟩
    exact ⟨_, rfl, a, C, dx, _, _, rfl, st.1, O.cls, O.noW, rfl, l, xs, rfl, .inl (.inl (.inl st.2)), q⟩
/-- what a call of stamps gives: a strip, or the class of the error -/
inductive Called where
  | row (z : Str)
  | noStrip
  | noStamping
def calledS (ws : List Str) (W : Nat) (z : Str) (i at_ : Int) : Called :=
  if stripB z 120 = false then .noStrip else if 0 ≤ i ∧ i < ws.length ∧ 0 ≤ at_ ∧ at_ + W ≤ z.length then .row (overS z (ws.getD i.toNat Str.empty) at_.toNat) else .noStamping
def ans (c : Called) (DSp DSg : Addr) (H : Hp) (Q : VK) (E : XK) : Prop := match c with
  | .row z => Q (.str z) H
  | .noStrip => E (.ref DSp) none H
  | .noStamping => E (.ref DSg) none H
def spCall (K : PySem.W.Frag) (T : List Addr) (C DSp DSg : Addr) : Sp := fun vs H Q E => ∃ (a l dx : Addr) (ws : List Str) (W : Nat) (x : V) (i at_ : Int), vs = [.ref a, x, .int i, .int at_] ∧ Stp H C a l dx (ws.map V.str) ∧ Good ws W ∧ (∀ p ∈ T, TabG H p) ∧
  ((∃ z : Str, x = .str z ∧ z.length ≤ 4000 ∧ ∀ H2, Tbs T H H2 → ans (calledS ws W z i at_) DSp DSg H2 Q E) ∨ (∃ t, TyX K H x t ∧ PySem.W.kitOne K t (.type "str") = some false ∧ E (.ref DSp) none H))
theorem scCall : FnScope ["self", "strip", "word", "place"] ["self", "strip", "word", "place"] (defScope sCall) := ⟨rfl, rfl, rfl, by decide +kernel, rfl, by decide +kernel, by decide +kernel⟩
theorem ok_call {f : Addr} {fd fdS fdL fdO fdW : FuncData} (F : L2.Fun K "__call__" "Stamps.__call__" sCall f fd) (FS : L2.Fun K "is_strip" "is_strip" sStrip fStrip fdS) (FL : FunC K "is_lowercase" "is_lowercase" sLow fLow fdL cLow) (FO : L2.Fun K "over" "over" sOver fOver fdO) (FW : L2.Fun K "width" "Stamps.width" sWidth fWi fdW)
    (X : Txt K mg C fLow fText fAre fTape fNext fInks) (X2 : Txt2 K mg fStrip fOver) (B : Tab base mg T cLow PLow cAre PAre) (O : Own K C) (hp : PropOf K C "width" pWi fWi) (E1 : ErrC K mg "InvalidStrip" DSp) (E2 : ErrC K mg "InvalidStamping" DSg) :
    FnOk P w K mg base (L2.CX P w) 4 f fd ["self", "strip", "word", "place"] (spCall K T C DSp DSg) := by
  have SS : FnOk P w K mg base CX0 3 fStrip fdS ["thing", "most"] (spStrip K T) := ok_strip FS FL X B
  have bS : Binds K fdS ["thing", "most"] [] := FS.binds fun _ _ _ _ _ _ us hl => match us, hl with | [_, _], _ => rfl
  have OO : FnOk P w K mg base CX0 1 fOver fdO ["strip", "letters", "place"] spOver := ok_over FO X
  have bO : Binds K fdO ["strip", "letters", "place"] [] := FO.binds fun _ _ _ _ _ _ us hl => match us, hl with | [_, _, _], _ => rfl
  have WW : FnOk P w K mg base CX0 1 fWi fdW ["self"] (spWidth C) := ok_width FW X O
  have bW : Binds K fdW ["self"] [] := FW.binds fun _ _ _ _ _ _ us hl => match us, hl with | [_], _ => rfl
  obtain ⟨t120, g120⟩ := X2.cells
  refine F.okX scCall (fun vs H Q E h => ?_) (fun cdv A outer s H vs Q E hr h => ?_)
  · obtain ⟨a, l, dx, ws, W, x, i, at_, rfl, _⟩ := h
    rfl
  · obtain ⟨a, l, dx, ws, W, x, i, at_, rfl, st, g, hT, k⟩ := h
    refine ⟨_, pss_cons (ps_if (pt_not (pt_val (pe_call SS hr (by rfl) X2.gStrip X2.kStrip bS .nil L2.pass0 (pa_cons (pv 1) (pa_cons (pe_glob (v := .int 120) (by rfl) g120 ⟨_, rfl⟩) pa_nil))))) (pss_one (ps_raise rfl (takes_of rfl rfl rfl rfl) (pmk_own PySem.F.excBase_ValueError E1.e E1.g E1.k (raises_own E1.b E1.t) (by rfl)))) pss_nil)
      (pss_cons (ps_if (pt_not (pt_chain op_le op_lt pe_int (pv 2) (pe_callB call_len_seq (by rfl) X.len boot_len (pa_cons (pe_fld (pv 0) (by rfl)) pa_nil)))) (pss_one (ps_raise rfl (takes_of rfl rfl rfl rfl) (pmk_own PySem.F.excBase_ValueError E2.e E2.g E2.k (raises_own E2.b E2.t) (by rfl)))) pss_nil)
      (pss_cons (ps_if (pt_not (pt_chain op_le op_le pe_int (pv 3) (pe_op op_sub (pe_callB call_len_str (by rfl) X.len boot_len (pa_cons (pv 1) pa_nil)) (pe_propX (p := pWi) (pv 0) WW (hr.mono (by decide)) bW .nil L2.pass0)))) (pss_one (ps_raise rfl (takes_of rfl rfl rfl rfl) (pmk_own PySem.F.excBase_ValueError E2.e E2.g E2.k (raises_own E2.b E2.t) (by rfl)))) pss_nil)
      (pss_one (ps_ret (pe_call OO (hr.mono (by decide)) (by rfl) X2.gOver X2.kOver bO .nil L2.pass0 (pa_cons (pv 1) (pa_cons (pe_ix ix_seq (pe_fld (pv 0) (by rfl)) (pv 2) fun _ _ => rfl) (pa_cons (pv 3) pa_nil)))))))), ?_⟩
    rcases k with ⟨z, rfl, hz, k⟩ | ⟨t, ht, hk, k⟩
    · refine ⟨_, rfl, _, _, rfl, hT, .inl ⟨z, rfl, hz, fun H2 h2 => ⟨_, rfl, ?_⟩⟩⟩
      have kk := k H2 h2
      have st2 : Stp H2 C a l dx (ws.map V.str) := ⟨h2.kep.at hT st.1 fun _ z => (by cases z), h2.kep.at hT st.2 fun _ z => (by cases z)⟩
      unfold calledS at kk
      cases hs : stripB z 120 with
      | false =>
        rw [hs, if_pos rfl] at kk
        exact iteT kk
      | true =>
        rw [hs, if_neg (by decide)] at kk
        refine iteF ?_
        have hzs : z.length ≤ sizeLine := Nat.le_trans hz (by decide)
        have lws : (ws.map V.str).length = ws.length := List.length_map ..
        have no : ∀ {X : Prop}, ¬ (0 ≤ i ∧ i < ws.length ∧ 0 ≤ at_ ∧ at_ + W ≤ z.length) → (E (.ref DSg) none H2 → X) → X := fun h f => by
          rw [if_neg h] at kk
          exact f kk
        refine ⟨_, rfl, _, _, rfl, rfl, _, rfl, ?_⟩
        by_cases c1 : 0 ≤ i
        case neg =>
          refine iteF' (by simpa using c1) ⟨_, rfl, iteT ?_⟩
          exact no (fun h => c1 h.1) id
        refine iteT' (by simpa using c1) ⟨_, rfl, a, C, dx, _, _, rfl, st2.1, O.cls, O.noW, rfl, l, _, rfl, .inl (.inl (.inl st2.2)), _, _, rfl, rfl, _, rfl, ?_⟩
        by_cases c2 : i < ws.length
        case neg =>
          refine iteT' (by rw [lws]; simpa using c2) ?_
          exact no (fun h => c2 h.2.1) id
        refine iteF' (by rw [lws]; simpa using c2) ?_
        refine ⟨_, rfl, _, _, rfl, rfl, _, rfl, ?_⟩
        by_cases c3 : 0 ≤ at_
        case neg =>
          refine iteF' (by simpa using c3) ⟨_, rfl, iteT ?_⟩
          exact no (fun h => c3 h.2.2.1) id
        refine iteT' (by simpa using c3) ⟨_, rfl, z, rfl, hzs, _, rfl, a, C, dx, _, rfl, O.cls, hp, st2.1, ⟨a, l, dx, ws, W, rfl, st2, g, ?_⟩⟩
        refine ⟨_, _, rfl, rfl, _, _, rfl, rfl, _, rfl, ?_⟩
        by_cases c4 : at_ + W ≤ z.length
        case neg =>
          refine iteT' (by simp; omega) ?_
          exact no (fun h => c4 h.2.2.2) id
        refine iteF' (by simp; omega) ?_
        rw [if_pos ⟨c1, c2, c3, c4⟩] at kk
        obtain ⟨gl, _⟩ := g.get (i := i.toNat) (by omega)
        have ea : at_ = (at_.toNat : Int) := by omega
        refine ⟨_, rfl, _, rfl, a, C, dx, _, _, rfl, st2.1, O.cls, O.noW, rfl, _, rfl, .inl ⟨l, _, i, _, rfl, rfl, .inl (.inl st2.2), at_i c1 c2, _, rfl, ?_⟩⟩
        refine ⟨z, _, at_.toNat, by rw [← ea]; rfl, ?_, hz, kk⟩
        rw [gl]; omega
    · refine ⟨_, rfl, _, _, rfl, hT, .inr ⟨t, ht, hk, _, rfl, iteT k⟩⟩
end
end Ov

set_option Elab.async false
set_option linter.all false
set_option maxRecDepth 100000
set_option maxHeartbeats 4000000
/-! the pieces of words: what the program's dicts of them hold -/
namespace Ov
open PySem PySem.Spec PyProof.Rows L2 GxR
abbrev Sp4 := List (Str × List (Nat × Nat))
def addP (M : Sp4) (p : Str) (x : Nat × Nat) : Sp4 := if (M.any fun e => decide (e.1 = p)) = true then M.map (fun e => if e.1 = p then (e.1, e.2 ++ [x]) else e) else M ++ [(p, [x])]
def sub (z : Str) (o e : Nat) : Str := cutS z (some (o : Int)) (some (e : Int))
def foldK (z : Str) (w o : Nat) (M : Sp4) (k : Nat) : Sp4 := (List.range k).foldl (fun M k => addP M (sub z o (o + 1 + k)) (w, o)) M
def foldO (z : Str) (w : Nat) (M : Sp4) (j : Nat) : Sp4 := (List.range j).foldl (fun M o => foldK z w o M (z.length - o)) M
def foldW (ws : List Str) (i : Nat) : Sp4 := (List.range i).foldl (fun M w => foldO (ws.getD w Str.empty) w M (ws.getD w Str.empty).length) []
/-- the pieces of the words, each with its places, in the order in which they are met -/
def spotsF (ws : List Str) : Sp4 := foldW ws ws.length
theorem foldK_succ {z : Str} {w o k : Nat} {M : Sp4} : foldK z w o M (k + 1) = addP (foldK z w o M k) (sub z o (o + 1 + k)) (w, o) := by
  unfold foldK; rw [List.range_succ, List.foldl_append]; rfl
theorem foldO_succ {z : Str} {w j : Nat} {M : Sp4} : foldO z w M (j + 1) = foldK z w j (foldO z w M j) (z.length - j) := by
  unfold foldO; rw [List.range_succ, List.foldl_append]; rfl
theorem foldW_succ {ws : List Str} {i : Nat} : foldW ws (i + 1) = foldO (ws.getD i Str.empty) i (foldW ws i) (ws.getD i Str.empty).length := by
  unfold foldW; rw [List.range_succ, List.foldl_append]; rfl
/-- at most n pieces, at most n places each -/
def Bd (n : Nat) (M : Sp4) : Prop := M.length ≤ n ∧ ∀ e ∈ M, e.2.length ≤ n
theorem Bd.add {n : Nat} {M : Sp4} {p : Str} {x : Nat × Nat} (h : Bd n M) : Bd (n + 1) (addP M p x) := by
  obtain ⟨h1, h2⟩ := h
  unfold addP
  split
  · refine ⟨by rw [List.length_map]; omega, fun e he => ?_⟩
    obtain ⟨e', he', rfl⟩ := List.mem_map.mp he
    have := h2 e' he'
    split
    · rw [List.length_append, List.length_singleton]; omega
    · omega
  · refine ⟨by rw [List.length_append, List.length_singleton]; omega, fun e he => ?_⟩
    rcases List.mem_append.mp he with h | h
    · have := h2 e h; omega
    · rw [List.mem_singleton.mp h]
      show 1 ≤ n + 1
      omega
theorem Bd.mono {n m : Nat} {M : Sp4} (h : Bd n M) (e : n ≤ m) : Bd m M := ⟨by have := h.1; omega, fun x hx => by have := h.2 x hx; omega⟩
theorem Bd.K {n : Nat} {z : Str} {w o : Nat} {M : Sp4} (h : Bd n M) : ∀ k, Bd (n + k) (foldK z w o M k)
  | 0 => h
  | k + 1 => by rw [foldK_succ]; exact (Bd.K h k).add
theorem Bd.O {n : Nat} {z : Str} {w : Nat} {M : Sp4} (h : Bd n M) (hz : z.length ≤ 8) : ∀ j, Bd (n + 8 * j) (foldO z w M j)
  | 0 => h
  | j + 1 => by rw [foldO_succ]; exact (Bd.K (Bd.O h hz j) _).mono (by omega)
theorem Bd.W {ws : List Str} (hz : ∀ z ∈ ws, z.length ≤ 8) : ∀ i, Bd (64 * i) (foldW ws i)
  | 0 => ⟨Nat.le_refl 0, fun e he => by cases he⟩
  | i + 1 => by
    rw [foldW_succ]
    have h8 : (ws.getD i Str.empty).length ≤ 8 := by
      by_cases c : i < ws.length
      · have e : ws.getD i Str.empty = ws[i] := by simp [List.getD, c]
        rw [e]; exact hz _ (List.getElem_mem c)
      · have e : ws.getD i Str.empty = Str.empty := by simp [List.getD, c]
        rw [e]; decide
    exact (Bd.O (Bd.W hz i) h8 _).mono (by omega)
/-! ### the heap -/
/-- a pair (word, offset), a tuple that is new -/
def Tu (H0 H : Hp) (v : V) (x : Nat × Nat) : Prop := ∃ q, v = .ref q ∧ H0 q = none ∧ H q = some (.tup [.int (x.1 : Nat), .int (x.2 : Nat)])
def SpE (H0 H : Hp) (kv : Key × V) (e : Str × List (Nat × Nat)) : Prop := kv.1 = .inr e.1 ∧ ∃ l vs, kv.2 = .ref l ∧ H0 l = none ∧ H l = some (.lst vs) ∧ Paired (Tu H0 H) vs e.2
/-- the dict of the pieces' places -/
structure SpI (H0 H : Hp) (d : Addr) (kvs : List (Key × V)) (M : Sp4) : Prop where
  at_ : H d = some (.dK kvs)
  new : H0 d = none
  pr : Paired (SpE H0 H) kvs M
  vd : (kvs.map (·.2)).Nodup
  nd : (M.map (·.1)).Nodup
/-- what was made since H0 stays -/
def NK (H0 H H2 : Hp) : Prop := ∀ b o, H0 b = none → (∀ ps, o ≠ HO.tbl ps) → H b = some o → H2 b = some o
theorem NK.refl {H0 H : Hp} : NK H0 H H := fun _ _ _ _ e => e
theorem NK.trans {H0 H1 H2 H3 : Hp} (a : NK H0 H1 H2) (b : NK H0 H2 H3) : NK H0 H1 H3 := fun c o h n e => b c o h n (a c o h n e)
theorem Tu.keep {H0 H H2 : Hp} {v : V} {x : Nat × Nat} (k : NK H0 H H2) (h : Tu H0 H v x) : Tu H0 H2 v x := by
  obtain ⟨q, e, n, a⟩ := h
  exact ⟨q, e, n, k q _ n (fun _ z => by cases z) a⟩
theorem pairedMono {α β : Type} {F G : α → β → Prop} (h : ∀ a b, F a b → G a b) : ∀ {l : List α} {m : List β}, Paired F l m → Paired G l m
  | _, _, .nil => .nil
  | _, _, .cons a t => .cons (h _ _ a) (pairedMono h t)
theorem SpE.keep {H0 H H2 : Hp} {kv : Key × V} {e : Str × List (Nat × Nat)} (k : NK H0 H H2) (h : SpE H0 H kv e) : SpE H0 H2 kv e := by
  obtain ⟨e1, l, vs, e2, n, a, p⟩ := h
  exact ⟨e1, l, vs, e2, n, k l _ n (fun _ z => by cases z) a, pairedMono (fun _ _ => Tu.keep k) p⟩
theorem SpI.keep {H0 H H2 : Hp} {d : Addr} {kvs : List (Key × V)} {M : Sp4} (k : NK H0 H H2) (h : SpI H0 H d kvs M) : SpI H0 H2 d kvs M :=
  ⟨k d _ h.new (fun _ z => by cases z) h.at_, h.new, pairedMono (fun _ _ => SpE.keep k) h.pr, h.vd, h.nd⟩
theorem pairedAppend {α β : Type} {F : α → β → Prop} : ∀ {l l2 : List α} {m m2 : List β}, Paired F l m → Paired F l2 m2 → Paired F (l ++ l2) (m ++ m2)
  | _, _, _, _, .nil, h => h
  | _, _, _, _, .cons a t, h => .cons a (pairedAppend t h)
theorem pairedLen {α β : Type} {F : α → β → Prop} : ∀ {l : List α} {m : List β}, Paired F l m → l.length = m.length
  | _, _, .nil => rfl
  | _, _, .cons _ t => congrArg (· + 1) (pairedLen t)
/-- no piece p: no key -/
theorem SpI.none_iff {H0 H : Hp} {p : Str} : ∀ {kvs : List (Key × V)} {M : Sp4}, Paired (SpE H0 H) kvs M → (valV kvs (.inr p) = none ↔ (M.any fun e => decide (e.1 = p)) = false)
  | _, _, .nil => by simp [valV]
  | _, _, .cons (a := kv) (b := e) h t => by
    have ih := none_iff (p := p) t
    obtain ⟨e1, _⟩ := h
    by_cases c : e.1 = p
    · rw [valV_pos (by rw [e1, c])]
      simp [c]
    · rw [valV_neg (by rw [e1]; intro z; exact c (Sum.inr.inj z)), ih]
      simp [c]
/-- a piece that is there: its list -/
theorem SpI.some_of {H0 H : Hp} {p : Str} {v : V} : ∀ {kvs : List (Key × V)} {M : Sp4}, Paired (SpE H0 H) kvs M → valV kvs (.inr p) = some v → ∃ l vs e, e ∈ M ∧ e.1 = p ∧ v = .ref l ∧ H0 l = none ∧ H l = some (.lst vs) ∧ Paired (Tu H0 H) vs e.2
  | _, _, .nil, h => by simp [valV] at h
  | _, _, .cons (a := kv) (b := e) h t, hv => by
    have h' := h
    obtain ⟨e1, l, vs, e2, n, a, pr⟩ := h'
    by_cases c : e.1 = p
    · rw [valV_pos (by rw [e1, c])] at hv
      have : kv.2 = v := Option.some.inj hv
      exact ⟨l, vs, e, List.mem_cons_self, c, by rw [← this, e2], n, a, pr⟩
    · rw [valV_neg (by rw [e1]; intro z; exact c (Sum.inr.inj z))] at hv
      obtain ⟨l, vs, e', m, q⟩ := some_of t hv
      exact ⟨l, vs, e', List.mem_cons_of_mem _ m, q⟩
theorem tu_but {H0 H H2 : Hp} {l : Addr} {vs : List V} (hl : H l = some (.lst vs)) (oth : ∀ b o, b ≠ l → H b = some o → H2 b = some o) {v : V} {x : Nat × Nat} (h : Tu H0 H v x) : Tu H0 H2 v x := by
  obtain ⟨q, e, n, a⟩ := h
  refine ⟨q, e, n, oth q _ (fun z => ?_) a⟩
  rw [z, hl] at a
  cases a
theorem spE_but {H0 H H2 : Hp} {l : Addr} {vs : List V} (hl : H l = some (.lst vs)) (oth : ∀ b o, b ≠ l → H b = some o → H2 b = some o) {kv : Key × V} {e : Str × List (Nat × Nat)} (n : kv.2 ≠ .ref l) (h : SpE H0 H kv e) : SpE H0 H2 kv e := by
  obtain ⟨e1, l', vs', e2, n', a, p⟩ := h
  exact ⟨e1, l', vs', e2, n', oth l' _ (fun z => n (by rw [e2, z])) a, pairedMono (fun _ _ => tu_but hl oth) p⟩
theorem valV_mem {kvs : List (Key × V)} {k : Key} {v : V} (h : valV kvs k = some v) : v ∈ kvs.map (·.2) := by
  unfold valV at h
  cases q : kvs.find? fun kv => decide (kv.1 = k) with
  | none => rw [q] at h; cases h
  | some kv =>
    rw [q] at h
    have : kv.2 = v := Option.some.inj h
    exact List.mem_map.mpr ⟨kv, List.mem_of_find?_eq_some q, this⟩
theorem step_old_pr {H0 H H2 : Hp} {p : Str} {x : Nat × Nat} {l : Addr} {vs : List V} {v2 : V} (hl : H l = some (.lst vs)) (oth : ∀ b o, b ≠ l → H b = some o → H2 b = some o) (hl2 : H2 l = some (.lst (vs ++ [v2]))) (hx : Tu H0 H2 v2 x) :
    ∀ {kvs : List (Key × V)} {M : Sp4}, Paired (SpE H0 H) kvs M → (kvs.map (·.2)).Nodup → (M.map (·.1)).Nodup → valV kvs (.inr p) = some (.ref l) → Paired (SpE H0 H2) kvs (M.map fun e => if e.1 = p then (e.1, e.2 ++ [x]) else e)
  | _, _, .nil, _, _, h => by simp [valV] at h
  | _, _, .cons (a := kv) (b := e) (l₁ := ks) (l₂ := Ms) h t, vd, nd, hv => by
    rw [List.map_cons, List.nodup_cons] at vd nd
    by_cases c : e.1 = p
    · rw [valV_pos (by rw [h.1, c])] at hv
      have ev : kv.2 = .ref l := Option.some.inj hv
      have rest : Paired (SpE H0 H2) ks (Ms.map fun e => if e.1 = p then (e.1, e.2 ++ [x]) else e) := by
        have e1 : (Ms.map fun e => if e.1 = p then (e.1, e.2 ++ [x]) else e) = Ms := by
          conv => rhs; rw [← List.map_id Ms]
          refine List.map_congr_left fun e' he' => if_neg fun z => nd.1 ?_
          rw [c, ← z]
          exact List.mem_map.mpr ⟨e', he', rfl⟩
        rw [e1]
        have go : ∀ {ks : List (Key × V)} {Ms : Sp4}, (∀ kv' ∈ ks, kv'.2 ≠ .ref l) → Paired (SpE H0 H) ks Ms → Paired (SpE H0 H2) ks Ms := fun {ks Ms} hn pr => by
          induction pr with
          | nil => exact .nil
          | cons a _ ih => exact .cons (spE_but hl oth (hn _ List.mem_cons_self) a) (ih fun y hy => hn y (List.mem_cons_of_mem _ hy))
        exact go (fun kv' hk z => vd.1 (by rw [ev, ← z]; exact List.mem_map.mpr ⟨kv', hk, rfl⟩)) t
      rw [List.map_cons, if_pos c]
      obtain ⟨e1, l', vs', e2, n', a, pr⟩ := h
      have el : l' = l := V.ref.inj (e2.symm.trans ev)
      subst el
      rw [hl] at a
      cases a
      exact .cons ⟨e1, l', vs ++ [v2], e2, n', hl2, (pairedMono (fun _ _ => tu_but hl oth) pr).snoc hx⟩ rest
    · have ih := hv
      rw [valV_neg (by rw [h.1]; intro z; exact c (Sum.inr.inj z))] at ih
      rw [List.map_cons, if_neg c]
      have nk : kv.2 ≠ .ref l := fun z => vd.1 (by rw [z]; exact valV_mem ih)
      exact .cons (spE_but hl oth nk h) (step_old_pr hl oth hl2 hx t vd.2 nd.2 ih)
theorem addP_old {M : Sp4} {p : Str} {x : Nat × Nat} (h : (M.any fun e => decide (e.1 = p)) = true) : addP M p x = M.map fun e => if e.1 = p then (e.1, e.2 ++ [x]) else e := if_pos h
theorem addP_new {M : Sp4} {p : Str} {x : Nat × Nat} (h : (M.any fun e => decide (e.1 = p)) = false) : addP M p x = M ++ [(p, [x])] := if_neg (by rw [h]; decide)
theorem addP_nd {M : Sp4} {p : Str} {x : Nat × Nat} (h : (M.map (·.1)).Nodup) : ((addP M p x).map (·.1)).Nodup := by
  cases c : M.any fun e => decide (e.1 = p) with
  | true =>
    rw [addP_old c, List.map_map]
    have e1 : ((fun e : Str × List (Nat × Nat) => e.1) ∘ fun e => if e.1 = p then (e.1, e.2 ++ [x]) else e) = fun e => e.1 := by
      funext e
      show (if e.1 = p then (e.1, e.2 ++ [x]) else e).1 = e.1
      split <;> rfl
    rw [e1]; exact h
  | false =>
    rw [addP_new c, List.map_append, List.nodup_append]
    refine ⟨h, by simp, fun a ha b hb => ?_⟩
    have hb : b = p := by simpa using hb
    subst hb
    obtain ⟨e, he, rfl⟩ := List.mem_map.mp ha
    intro z
    have := List.any_eq_false.mp c e he
    simp at this
    exact this z
/-- a place more of a piece that is there -/
theorem SpI.old {H0 H H2 : Hp} {d l q : Addr} {kvs : List (Key × V)} {M : Sp4} {p : Str} {x : Nat × Nat} {vs : List V} (I : SpI H0 H d kvs M) (hv : valV kvs (.inr p) = some (.ref l)) (hl : H l = some (.lst vs)) (q0 : H0 q = none) (hq : H2 q = some (.tup [.int (x.1 : Nat), .int (x.2 : Nat)]))
    (hl2 : H2 l = some (.lst (vs ++ [.ref q]))) (oth : ∀ b o, b ≠ l → H b = some o → H2 b = some o) : SpI H0 H2 d kvs (addP M p x) := by
  have c : (M.any fun e => decide (e.1 = p)) = true := by
    cases q : M.any fun e => decide (e.1 = p) with
    | true => rfl
    | false => rw [(SpI.none_iff I.pr).mpr q] at hv; cases hv
  refine ⟨oth d _ (fun z => ?_) I.at_, I.new, ?_, I.vd, addP_nd I.nd⟩
  · have := I.at_
    rw [z, hl] at this
    cases this
  · rw [addP_old c]
    exact step_old_pr hl oth hl2 ⟨q, rfl, q0, hq⟩ I.pr I.vd I.nd hv
/-- a piece more -/
theorem SpI.add {H0 H H2 : Hp} {d l q : Addr} {kvs : List (Key × V)} {M : Sp4} {p : Str} {x : Nat × Nat} (I : SpI H0 H d kvs M) (hv : valV kvs (.inr p) = none) (hl : H l = none) (l0 : H0 l = none) (q0 : H0 q = none) (hq : H2 q = some (.tup [.int (x.1 : Nat), .int (x.2 : Nat)]))
    (hl2 : H2 l = some (.lst [.ref q])) (hd : H2 d = some (.dK (kvs ++ [(.inr p, .ref l)]))) (oth : ∀ b o, b ≠ d → H b = some o → H2 b = some o) : SpI H0 H2 d (kvs ++ [(.inr p, .ref l)]) (addP M p x) := by
  have c := (SpI.none_iff I.pr).mp hv
  have keep : ∀ {ks : List (Key × V)} {Ms : Sp4}, Paired (SpE H0 H) ks Ms → Paired (SpE H0 H2) ks Ms := fun {ks Ms} pr => pairedMono (fun kv e h => by
    obtain ⟨e1, l', vs', e2, n', a, pr⟩ := h
    refine ⟨e1, l', vs', e2, n', oth l' _ (fun z => ?_) a, pairedMono (fun v x h => ?_) pr⟩
    · rw [z, I.at_] at a; cases a
    · obtain ⟨q', e, n, a'⟩ := h
      refine ⟨q', e, n, oth q' _ (fun z => ?_) a'⟩
      rw [z, I.at_] at a'; cases a') pr
  refine ⟨hd, I.new, ?_, ?_, addP_nd I.nd⟩
  · rw [addP_new c]
    exact (keep I.pr).snoc ⟨rfl, l, [.ref q], rfl, l0, hl2, .cons ⟨q, rfl, q0, hq⟩ .nil⟩
  · rw [List.map_append, List.nodup_append]
    refine ⟨I.vd, by simp, fun a ha b hb => ?_⟩
    have hb : b = .ref l := by simpa using hb
    subst hb
    intro z
    subst z
    obtain ⟨kv, hk, e⟩ := List.mem_map.mp ha
    have go : ∀ {ks : List (Key × V)} {Ms : Sp4}, Paired (SpE H0 H) ks Ms → kv ∈ ks → False := fun {ks Ms} pr hk => by
      induction pr with
      | nil => cases hk
      | cons a _ ih =>
        rcases List.mem_cons.mp hk with rfl | hk
        · obtain ⟨_, l', vs', e2, _, a', _⟩ := a
          have : l' = l := V.ref.inj (e2.symm.trans e)
          rw [this, hl] at a'
          cases a'
        · exact ih hk
    exact go I.pr hk
theorem pairedGet {α β : Type} {F : α → β → Prop} : ∀ {l : List α} {m : List β} {i : Nat} {a : α}, Paired F l m → l[i]? = some a → ∃ b, m[i]? = some b ∧ F a b
  | _, _, _, _, .nil, h => by cases h
  | _, _, 0, _, .cons h t, e => by cases e; exact ⟨_, rfl, h⟩
  | _, _, i + 1, _, .cons h t, e => by
    obtain ⟨b, h1, h2⟩ := pairedGet (i := i) t (by simpa using e)
    exact ⟨b, by simpa using h1, h2⟩
/-! ### the kinds of a piece's parts: 0 begins only, 1 neither, 2 ends only, 3 whole -/
def kindOf (n W o : Nat) : Nat := if n = W then 3 else if o = 0 then 0 else if o + n = W then 2 else 1
def kindC (n W c : Nat) (ps : List (Nat × Nat)) : Nat := ps.countP fun x => decide (kindOf n W x.2 = c)
def kindT (n W : Nat) (ps : List (Nat × Nat)) : List V := [.int (n : Nat), .int (kindC n W 0 ps : Nat), .int (kindC n W 1 ps : Nat), .int (kindC n W 2 ps : Nat), .int (kindC n W 3 ps : Nat)]
def KiE (H0 H : Hp) (W : Nat) (kv : Key × V) (e : Str × List (Nat × Nat)) : Prop := kv.1 = .inr e.1 ∧ ∃ q, kv.2 = .ref q ∧ H0 q = none ∧ H q = some (.tup (kindT e.1.length W e.2))
/-- the dict of the pieces' kinds -/
structure KiI (H0 H : Hp) (d : Addr) (kk : List (Key × V)) (M : Sp4) (W : Nat) : Prop where
  at_ : H d = some (.dK kk)
  new : H0 d = none
  pr : Paired (KiE H0 H W) kk M
theorem KiE.keep {H0 H H2 : Hp} {W : Nat} {kv : Key × V} {e : Str × List (Nat × Nat)} (k : NK H0 H H2) (h : KiE H0 H W kv e) : KiE H0 H2 W kv e := by
  obtain ⟨e1, q, e2, n, a⟩ := h
  exact ⟨e1, q, e2, n, k q _ n (fun _ z => by cases z) a⟩
theorem KiI.keep {H0 H H2 : Hp} {d : Addr} {kk : List (Key × V)} {M : Sp4} {W : Nat} (k : NK H0 H H2) (h : KiI H0 H d kk M W) : KiI H0 H2 d kk M W :=
  ⟨k d _ h.new (fun _ z => by cases z) h.at_, h.new, pairedMono (fun _ _ => KiE.keep k) h.pr⟩
/-- a dict comprehension over what is walked -/
theorem dc_it {J : It} {n : Nat} {G : Hp → Prop} {Y : Nat → Hp → V → Hp → Prop} (w : Walk J n G Y) {g : TG} {tt : TT} {tk tv : TE} {vs : List Nat} {σ : L2.St} {H1 : Hp} {D : Addr} {Qd : Hp → Prop} (Pv : Nat → Hp → Prop) (h0 : Pv 0 (upd H1 D (.dK []))) (hG : ∀ i H, i ≤ n → Pv i H → G H)
    (hs : ∀ i x H H', i < n → Pv i H → Y i H x H' → g x (wipe σ vs) H' fun σ2 H2 => wipe σ2 vs = wipe σ vs ∧ tt σ2 H2 fun b H3 =>
      if b = true then tk σ2 H3 fun y H4 => tv σ2 H4 fun z H5 => ∃ kvs k, y = kV k ∧ H5 D = some (.dK kvs) ∧ kvs.length < sizeLine ∧ Pv (i + 1) (upd H5 D (.dK (putK kvs k z))) else Pv (i + 1) H3) (hd : ∀ H, Pv n H → Qd H) :
    ∃ W : Nat → Nat → Hp → Prop, (∃ m, W 0 m (upd H1 D (.dK []))) ∧ ∀ i m H, W i m H →
      (J.stop i H ∧ Qd H) ∨ (J.go i H ∧ ∃ Nx : Hp → Prop, (∀ H', Nx H' → ∃ m', m' < m ∧ W (i + 1) m' H') ∧ ∀ x H', J.yld i H x H' → g x (wipe σ vs) H' fun σ2 H2 => wipe σ2 vs = wipe σ vs ∧ tt σ2 H2 fun b H3 =>
        if b = true then tk σ2 H3 fun y H4 => tv σ2 H4 fun z H5 => ∃ kvs k, y = kV k ∧ H5 D = some (.dK kvs) ∧ kvs.length < sizeLine ∧ Nx (upd H5 D (.dK (putK kvs k z))) else Nx H3) := by
  refine ⟨fun i m H => m = n - i ∧ i ≤ n ∧ Pv i H, ⟨n, by simp, Nat.zero_le _, h0⟩, ?_⟩
  rintro i m H ⟨rfl, hi, p⟩
  have q := hG i H hi p
  by_cases c : i < n
  · exact .inr ⟨w.goes i H c q, Pv (i + 1), fun H' p' => ⟨n - (i + 1), by omega, rfl, c, p'⟩, fun x H' y => hs i x H H' c p (w.yields i H x H' c q y)⟩
  · have e : i = n := by omega
    subst e
    exact .inl ⟨w.stops H q, hd H p⟩
theorem SpI.base {H0 H1 H : Hp} {d : Addr} {kvs : List (Key × V)} {M : Sp4} (h : ∀ b, H1 b = none → H0 b = none) (I : SpI H1 H d kvs M) : SpI H0 H d kvs M :=
  ⟨I.at_, h _ I.new, pairedMono (fun _ _ e => by
    obtain ⟨e1, l, vs, e2, n, a, p⟩ := e
    exact ⟨e1, l, vs, e2, h _ n, a, pairedMono (fun _ _ t => by
      obtain ⟨q, t1, t2, t3⟩ := t
      exact ⟨q, t1, h _ t2, t3⟩) p⟩) I.pr, I.vd, I.nd⟩
theorem KiI.base {H0 H1 H : Hp} {d : Addr} {kk : List (Key × V)} {M : Sp4} {W : Nat} (h : ∀ b, H1 b = none → H0 b = none) (I : KiI H1 H d kk M W) : KiI H0 H d kk M W :=
  ⟨I.at_, h _ I.new, pairedMono (fun _ _ e => by
    obtain ⟨e1, q, e2, n, a⟩ := e
    exact ⟨e1, q, e2, h _ n, a⟩) I.pr⟩
theorem ki_none {H0 H : Hp} {W : Nat} {p : Str} : ∀ {kk : List (Key × V)} {Ms : Sp4}, Paired (KiE H0 H W) kk Ms → (∀ e ∈ Ms, e.1 ≠ p) → valV kk (.inr p) = none
  | _, _, .nil, _ => rfl
  | _, _, .cons h t, n => by
    rw [valV_neg (by rw [h.1]; intro z; exact n _ List.mem_cons_self (Sum.inr.inj z))]
    exact ki_none t fun e he => n e (List.mem_cons_of_mem _ he)
/-- pieces of at most n letters -/
def Ks (n : Nat) (M : Sp4) : Prop := ∀ e ∈ M, e.1.length ≤ n
theorem Ks.add {n : Nat} {M : Sp4} {p : Str} {x : Nat × Nat} (h : Ks n M) (hp : p.length ≤ n) : Ks n (addP M p x) := by
  intro e he
  unfold addP at he
  split at he
  · obtain ⟨e', he', rfl⟩ := List.mem_map.mp he
    have := h e' he'
    split <;> exact this
  · rcases List.mem_append.mp he with q | q
    · exact h e q
    · rw [List.mem_singleton.mp q]; exact hp
theorem sub_len (z : Str) (o e : Nat) : (sub z o e).length ≤ z.length := by
  unfold sub cutS
  show (List.take _ (List.drop _ z.cps.toList)).toArray.size ≤ z.cps.size
  rw [List.size_toArray, List.length_take, List.length_drop]
  have : z.cps.toList.length = z.cps.size := rfl
  omega
theorem Ks.K {n : Nat} {z : Str} {w o : Nat} {M : Sp4} (h : Ks n M) (hz : z.length ≤ n) : ∀ k, Ks n (foldK z w o M k)
  | 0 => h
  | k + 1 => by rw [foldK_succ]; exact (Ks.K h hz k).add (Nat.le_trans (sub_len _ _ _) hz)
theorem Ks.O {n : Nat} {z : Str} {w : Nat} {M : Sp4} (h : Ks n M) (hz : z.length ≤ n) : ∀ j, Ks n (foldO z w M j)
  | 0 => h
  | j + 1 => by rw [foldO_succ]; exact Ks.K (Ks.O h hz j) hz _
theorem Ks.W {ws : List Str} {n : Nat} (hz : ∀ z ∈ ws, z.length ≤ n) : ∀ i, Ks n (foldW ws i)
  | 0 => fun e he => by cases he
  | i + 1 => by
    rw [foldW_succ]
    refine Ks.O (Ks.W hz i) ?_ _
    by_cases c : i < ws.length
    · have e : ws.getD i Str.empty = ws[i] := by simp [List.getD, c]
      rw [e]; exact hz _ (List.getElem_mem c)
    · have e : ws.getD i Str.empty = Str.empty := by simp [List.getD, c]
      rw [e]; exact Nat.zero_le n
theorem valV_nd {k : Key} {v : V} : ∀ {kvs : List (Key × V)}, (kvs.map (·.1)).Nodup → (k, v) ∈ kvs → valV kvs k = some v
  | [], _, h => by cases h
  | kv :: r, nd, h => by
    rw [List.map_cons, List.nodup_cons] at nd
    rcases List.mem_cons.mp h with e | e
    · rw [← e, valV_pos rfl]
    · have : kv.1 ≠ k := fun z => nd.1 (by rw [z]; exact List.mem_map.mpr ⟨_, e, rfl⟩)
      rw [valV_neg this]
      exact valV_nd nd.2 e
end Ov

set_option Elab.async false
set_option linter.all false
set_option maxRecDepth 100000
set_option maxHeartbeats 4000000
/-! rules whose reading names the written part, with that part told (for blocks: comprehensions, a try's body) -/
namespace Ov
open PySem PySem.Spec PyProof.Rows L2 GxR
section
variable {X : Cx} {K : PySem.W.Frag}
theorem ix_K (h : X.K = K) : IxR X (rIx K) := by subst h; exact ix_seq
def rLenS (K : PySem.W.Frag) : List V → Hp → VK → Prop := fun xs H Q => ∃ p ys, xs = [.ref p] ∧ (SqL K H p ys ∨ SqT K H p ys) ∧ Q (.int ys.length) H
theorem len_K (h : X.K = K) : CallR X (.builtin "len") (rLenS K) := by subst h; exact call_len_seq
theorem isi_K (h : X.K = K) : CallR X (.builtin "isinstance") (rIsi K) := by subst h; exact call_isi
theorem in_K (h : X.K = K) : OpR X (compareOp .In) (rIn K false) := by subst h; exact op_in_seq
theorem notIn_K (h : X.K = K) : OpR X (compareOp .NotIn) (rIn K true) := by subst h; exact op_notIn_seq
theorem sl_K (h : X.K = K) : SlR X (rSlL K) := by subst h; exact sl_list
theorem eqD_K (h : X.K = K) (hu : X.A.units + 64 < cLine) : OpR X (compareOp .Eq) (rEqD K) := by subst h; exact op_eqD hu
theorem neD_K (h : X.K = K) (hu : X.A.units + 64 < cLine) : OpR X (compareOp .NotEq) (rNeD K) := by subst h; exact op_neD hu
end
end Ov

set_option Elab.async false
set_option linter.all false
set_option maxRecDepth 100000
set_option maxHeartbeats 4000000
namespace Ov
open PySem PySem.Spec PyProof.Rows L2 GxR
section
variable {X : Cx} {e : Expr} {te : TE} {pos : Pos}
theorem pe_fldKp {X : Cx} {K : PySem.W.Frag} (hK : X.K = K) {e : Expr} {f : Str} {ta : TE} {pos : Pos} (he : PE X e ta) (hb : attributeBase e f X.env (eval e X.env) = eval e X.env) : PE X (.Attribute e f pos) (tFld K ta f) := by subst hK; exact pe_fld he hb
theorem ps_asg4 {t1 t2 t3 t4 : Expr} {g1 g2 g3 g4 : TG} (he : PE X e te) (h1 : PG X t1 g1) (h2 : PG X t2 g2) (h3 : PG X t3 g3) (h4 : PG X t4 g4)
    (ha : (assignEach [t1, t2, t3, t4] X.env).map (·.2) = [assign t1 X.env, assign t2 X.env, assign t3 X.env, assign t4 X.env] := by rfl) (hw : swappedStores [t1, t2, t3, t4] e X.env = pure none := by rfl) :
    PS X (.Assign [t1, t2, t3, t4] e pos) (fun D σ H => te σ H fun x K1 => g1 x σ K1 fun σ1 K2 => g2 x σ1 K2 fun σ2 K3 => g3 x σ2 K3 fun σ3 K4 => g4 x σ3 K4 D.nx) := by
  refine ⟨fun pins s σ H D I h => ?_⟩
  have go : wpAny (model X.prog X.w) X.A (eval e X.env) (fun v s₁ => wpAny (model X.prog X.w) X.A (assign t1 X.env v) (fun _ s₂ => wpAny (model X.prog X.w) X.A (assign t2 X.env v) (fun _ s₃ => wpAny (model X.prog X.w) X.A (assign t3 X.env v) (fun _ s₄ => wpAny (model X.prog X.w) X.A (assign t4 X.env v) (fun _ => SP X pins D .next) X.xe s₄) X.xe s₃) X.xe s₂) X.xe s₁) X.xe s := by
    refine thn (he.run pins s σ H _ I h) fun v s1 ⟨x, K1, J1, r1, q1⟩ => ?_
    refine thn (h1.run pins s1 σ K1 x v _ J1 r1 q1) fun _ s2 ⟨σ2, K2, J2, q2⟩ => ?_
    refine thn (h2.run pins s2 σ2 K2 x v _ J2 r1 q2) fun _ s3 ⟨σ3, K3, J3, q3⟩ => ?_
    refine thn (h3.run pins s3 σ3 K3 x v _ J3 r1 q3) fun _ s4 ⟨σ4, K4, J4, q4⟩ => ?_
    exact thn (h4.run pins s4 σ4 K4 x v _ J4 r1 q4) fun _ s5 q => q
  refine wpAny_Assign_stores (wpAny_mono go (fun v s₁ h₁ => ?_) fun _ _ x => x) rfl hw
  rw [ha]
  exact wpAny_bind (wpAny_holding (wpAny_mono h₁ (fun _ s₂ h₂ => wpAny_bind (wpAny_holding (wpAny_mono h₂ (fun _ s₃ h₃ => wpAny_bind (wpAny_holding h₃)) fun _ _ x => x))) fun _ _ x => x))
end
section
variable {P : Program} {w : World} {K : PySem.W.Frag} {mg : Str → Option Value} {base : Heap} {T : List Addr} {C D fLow fText fAre fTape fNext fInks fInit cLow PLow cAre PAre : Addr}
/-! ### spots_of -/
def spSpots : Sp := fun vs H Q _ => ∃ (l : Addr) (ws : List Str), vs = [.ref l] ∧ H l = some (.lst (ws.map V.str)) ∧ ws.length ≤ 6 ∧ (∀ z ∈ ws, z.length ≤ 8) ∧ ∀ d kvs H3, SpI H H3 d kvs (spotsF ws) → L2.Same H H3 → Q (.ref d) H3
theorem scSpots : FnScope ["words", "spots", "word", "stamp", "offset", "stop"] ["words"] (defScope sSpots) := ⟨rfl, rfl, rfl, by decide +kernel, rfl, by decide +kernel, by decide +kernel⟩
theorem ok_spots {f : Addr} {fd : FuncData} (F : L2.Fun K "spots_of" "spots_of" sSpots f fd) (X : Txt K mg C fLow fText fAre fTape fNext fInks) (enu : mg "enumerate" = none) : FnOk P w K mg base CX0 1 f fd ["words"] spSpots := by
  refine F.ok scSpots (fun vs H Q E h => ?_) (fun cdv A outer s H vs Q E hr h => ?_)
  · obtain ⟨l, ws, rfl, _⟩ := h
    rfl
  · obtain ⟨l, ws, rfl, hl, hn, h8, k⟩ := h
    refine ⟨_, (pss_cons (ps_set (i := 1) scSpots.nd rfl (.inl rfl) pe_dnewK)
      (pss_cons (ps_for PassesOwn.never rfl (pi_enum (by rfl) enu (pa_cons (pv 0) pa_nil)) (pg_tup rfl (pgs_cons (pg_name (i := 2) scSpots.nd rfl (Or.inl rfl)) (pgs_cons (pg_name (i := 3) scSpots.nd rfl (Or.inl rfl)) pgs_nil))) (pss_one (ps_for PassesOwn.never rfl (pi_range1 (by rfl) X.rng (pa_cons (pe_callB call_len_str (by rfl) X.len boot_len (pa_cons (pv 3) pa_nil)) pa_nil)) (pg_name (i := 4) scSpots.nd rfl (Or.inl rfl)) (pss_one (ps_for PassesOwn.never rfl (pi_range2 (by rfl) X.rng (pa_cons (pe_op op_add (pv 4) pe_int) (pa_cons (pe_op op_add (pe_callB call_len_str (by rfl) X.len boot_len (pa_cons (pv 3) pa_nil)) pe_int) pa_nil))) (pg_name (i := 5) scSpots.nd rfl (Or.inl rfl)) (pss_one (ps_expr (pe_bm PySem.F.plainAttrs_list PySem.F.slot_list_append PySem.F.type_list_append mt_append (pe_dsetd (pv 1) (pe_slice sl_str (pv 3) (po_some (pv 4)) (po_some (pv 5))) (pe_lst pa_nil) ⟨rfl, rfl, rfl, rfl⟩) (pa_cons (pe_tup (pa_cons (pv 2) (pa_cons (pv 4) pa_nil))) pa_nil)))))))))
      (pss_one (ps_ret (pv 1))))), ?_⟩
    intro d hd
    have nkS : ∀ {G G2 : Hp}, L2.Same G G2 → NK H G G2 := fun h b o _ _ e => h b o e
    have s0 : L2.Same H (upd H d (.dK [])) := same_new hd
    have I0 : SpI H (upd H d (.dK [])) d [] [] := ⟨upd_same, hd, .nil, List.nodup_nil, List.nodup_nil⟩
    generalize upd H d (.dK []) = H1 at s0 I0 ⊢
    refine ⟨_, rfl, l, _, rfl, .inl (.inl (s0 l _ hl)), for_it (walk_enum (xs := ws.map V.str)) (fun i σ Hx => (∃ v2 v3 v4 v5, σ = [some (.ref l), some (.ref d), v2, v3, v4, v5]) ∧ L2.Same H Hx ∧ ∃ kvs, SpI H Hx d kvs (foldW ws i)) ⟨⟨_, _, _, _, rfl⟩, s0, _, I0⟩ (fun i σ Hx _ p => .inl (.inl (p.2.1 l _ hl))) (fun i x σ Hx Hy hi p y => ?_) (fun σ Hx p => ?_)⟩
    · obtain ⟨⟨v2, v3, v4, v5, rfl⟩, sx, kvs, I⟩ := p
      obtain ⟨tp, x', y', rfl, htp, rfl, e1, e2⟩ := y
      cases e1
      have e2 : (ws.map V.str)[i]? = some y' := e2
      rw [List.getElem?_map] at e2
      obtain ⟨z, hz, rfl⟩ := Option.map_eq_some_iff.mp e2
      have z8 := h8 z (List.mem_of_getElem? hz)
      have zl : z.length ≤ sizeLine := Nat.le_trans z8 (by decide)
      have iw : i < ws.length := (List.getElem?_eq_some_iff.mp hz).1
      have gd : ws.getD i Str.empty = z := by simp [List.getD, hz]
      have tn : L2.Same Hx (upd Hx tp (.tup [.int (i : Nat), .str z])) := same_new htp
      have st := sx.trans tn
      have It := I.keep (nkS tn)
      refine ⟨tp, _, rfl, .inl (.inl upd_same), rfl, _, _, rfl, _, _, rfl, rfl, ?_⟩
      generalize upd Hx tp (.tup [.int (i : Nat), .str z]) = Ht at st It ⊢
      refine ⟨_, rfl, z, rfl, zl, _, rfl, by omega, by omega, for_range (lo := 0) (n := ((z.length : Nat) : Int).toNat) (fun o σ Hx => (∃ v4 v5, σ = [some (.ref l), some (.ref d), some (.int (i : Nat)), some (.str z), v4, v5]) ∧ L2.Same H Hx ∧ ∃ kvs, SpI H Hx d kvs (foldO z i (foldW ws i) o))
        ⟨⟨_, _, rfl⟩, st, _, It⟩ (fun o σ Ho ho p => ?_) (fun σ Ho p => ?_)⟩
      · obtain ⟨⟨v4, v5, rfl⟩, so, kvs, I⟩ := p
        have ho' : o < z.length := by omega
        have en : (((z.length : Nat) : Int) + 1 - (0 + (o : Int) + 1)).toNat = z.length - o := by omega
        refine ⟨_, rfl, _, _, rfl, rfl, _, rfl, z, rfl, zl, _, _, rfl, rfl, _, _, rfl, ⟨by omega, by omega, by omega, by omega⟩, for_range (lo := 0 + (o : Int) + 1) (n := (((z.length : Nat) : Int) + 1 - (0 + (o : Int) + 1)).toNat) (fun k σ Hx => (∃ v5, σ = [some (.ref l), some (.ref d), some (.int (i : Nat)), some (.str z), some (.int (0 + (o : Nat))), v5]) ∧ L2.Same H Hx ∧ ∃ kvs, SpI H Hx d kvs (foldK z i o (foldO z i (foldW ws i) o) k))
          ⟨⟨_, rfl⟩, so, _, I⟩ (fun j σ Hj hj p => ?_) (fun σ Hj p => ?_)⟩
        · obtain ⟨⟨v5, rfl⟩, sj, kvs, I⟩ := p
          rw [en] at hj
          have bd : Bd 600 (foldK z i o (foldO z i (foldW ws i) o) j) := (Bd.K (Bd.O (Bd.W h8 i) z8 o) j).mono (by omega)
          have kl : kvs.length ≤ 600 := by rw [pairedLen I.pr]; exact bd.1
          have o0 : (0 : Int) + (o : Int) = (o : Int) := by omega
          have ek : cutS z (some (0 + (o : Int))) (some (0 + (o : Int) + 1 + (j : Nat))) = sub z o (o + 1 + j) := by
            unfold sub
            rw [o0, show (o : Int) + 1 + (j : Int) = ((o + 1 + j : Nat) : Int) by omega]
          refine ⟨_, rfl, d, rfl, .inl ⟨kvs, .inl I.at_⟩, _, rfl, _, rfl, _, rfl, _, rfl, _, rfl, z, rfl, zl, (by decide : 0 ≤ sizeLine), fun nl hnl => ?_⟩
          have sl : L2.Same Hj (upd Hj nl (.lst [])) := same_new hnl
          have Il := I.keep (nkS sl)
          have hn1 : upd Hj nl (.lst []) nl = some (.lst []) := upd_same
          have nl0 : H nl = none := sj.free hnl
          refine ⟨kvs, .inr (sub z o (o + 1 + j)), Il.at_, by rw [ek]; rfl, Nat.lt_of_le_of_lt kl (by decide), fun v hv => ?_, fun hv => ?_⟩
          · obtain ⟨l', vs, e, me, _, rfl, l0, hl', pr⟩ := SpI.some_of Il.pr hv
            refine ⟨.inl ⟨rfl, _, .inl (.inl hl')⟩, _, rfl, _, rfl, (by decide : 2 ≤ sizeLine), fun q hq => ?_⟩
            rw [o0]
            have sq : L2.Same (upd Hj nl (.lst [])) (upd (upd Hj nl (.lst [])) q (.tup [.int (i : Nat), .int (o : Nat)])) := same_new hq
            have Iq := Il.keep (nkS sq)
            have hlq := sq l' _ hl'
            have hqq : upd (upd Hj nl (.lst [])) q (.tup [.int (i : Nat), .int (o : Nat)]) q = some (.tup [.int (i : Nat), .int (o : Nat)]) := upd_same
            have q0 : H q = none := (sj.trans sl).free hq
            have S3 := (sj.trans sl).trans sq
            generalize upd (upd Hj nl (.lst [])) q (.tup [.int (i : Nat), .int (o : Nat)]) = H3 at sq Iq hlq hqq S3 ⊢
            have vl : vs.length ≤ 600 := by rw [pairedLen pr]; exact bd.2 e me
            refine ⟨l', vs, _, rfl, rfl, hlq, Nat.lt_of_le_of_lt vl (by decide), ⟨_, rfl⟩, fun b ob e => ?_, kvs, ?_⟩
            · have nb : b ≠ l' := fun z => by rw [z, l0] at e; cases e
              exact (upd_ne nb).trans (S3 b ob e)
            · rw [foldK_succ]
              have nq : q ≠ l' := fun z => by rw [z, hlq] at hqq; cases hqq
              exact Iq.old hv hlq q0 ((upd_ne nq).trans hqq) upd_same fun b ob nb e => (upd_ne nb).trans e
          · have nld : nl ≠ d := (ne_of_none I.at_ hnl).symm
            rw [putK_new _ hv]
            generalize upd Hj nl (.lst []) = G1 at sl Il hn1 ⊢
            have hn2 : upd G1 d (.dK (kvs ++ [(.inr (sub z o (o + 1 + j)), .ref nl)])) nl = some (.lst []) := (upd_ne nld).trans hn1
            refine ⟨.inl ⟨rfl, _, .inl (.inl hn2)⟩, _, rfl, _, rfl, (by decide : 2 ≤ sizeLine), fun q hq => ?_⟩
            rw [o0]
            have hd2 : upd G1 d (.dK (kvs ++ [(.inr (sub z o (o + 1 + j)), .ref nl)])) d = some (.dK (kvs ++ [(.inr (sub z o (o + 1 + j)), .ref nl)])) := upd_same
            have nqd : q ≠ d := (ne_of_none hd2 hq).symm
            have nqn : q ≠ nl := (ne_of_none hn2 hq).symm
            have hq1 : Hj q = none := by
              have : G1 q = none := (upd_ne nqd).symm.trans hq
              exact sl.free this
            have q0 : H q = none := sj.free hq1
            refine ⟨nl, [], _, rfl, rfl, (upd_ne nqn.symm).trans hn2, by decide, ⟨_, rfl⟩, fun b ob e => ?_, kvs ++ [(.inr (sub z o (o + 1 + j)), .ref nl)], ?_⟩
            · have n1 : b ≠ nl := fun z => by rw [z, nl0] at e; cases e
              have n2 : b ≠ q := fun z => by rw [z, q0] at e; cases e
              have n3 : b ≠ d := fun z => by rw [z, I.new] at e; cases e
              exact (upd_ne n1).trans ((upd_ne n2).trans ((upd_ne n3).trans (sl b ob (sj b ob e))))
            · rw [foldK_succ]
              refine SpI.add (q := q) I hv hnl nl0 q0 ?_ upd_same ?_ fun b ob nb e => ?_
              · exact (upd_ne nqn).trans upd_same
              · exact (upd_ne nld.symm).trans ((upd_ne nqd.symm).trans hd2)
              · have n1 : b ≠ nl := ne_of_none e hnl
                have n2 : b ≠ q := ne_of_none e hq1
                exact (upd_ne n1).trans ((upd_ne n2).trans ((upd_ne nb).trans (sl b ob e)))
        · obtain ⟨⟨v5, rfl⟩, sj, kvs, I⟩ := p
          rw [en] at I
          refine ⟨⟨_, _, rfl⟩, sj, kvs, ?_⟩
          rw [foldO_succ]
          exact I
      · obtain ⟨⟨v4, v5, rfl⟩, so, kvs, I⟩ := p
        refine ⟨⟨_, _, _, _, rfl⟩, so, kvs, ?_⟩
        rw [foldW_succ, gd]
        exact I
    · obtain ⟨⟨v2, v3, v4, v5, rfl⟩, sx, kvs, I⟩ := p
      rw [List.length_map] at I
      exact ⟨_, rfl, k d kvs Hx I sx⟩
/-! ### kinds_of -/
def spKinds : Sp := fun vs H Q _ => ∃ (l : Addr) (xs : List V) (ps : List (Nat × Nat)) (n W : Nat) (H0 : Hp), vs = [.ref l, .int (n : Nat), .int (W : Nat)] ∧ H l = some (.lst xs) ∧ Paired (Tu H0 H) xs ps ∧
  ∀ q H3, H q = none → H3 q = some (.tup (kindT n W ps)) → L2.Same H H3 → Q (.ref q) H3
theorem scKinds : FnScope ["spots", "length", "width", "firsts", "inners", "lasts", "wholes", "_", "offset"] ["spots", "length", "width"] (defScope sKinds) := ⟨rfl, rfl, rfl, by decide +kernel, rfl, by decide +kernel, by decide +kernel⟩
theorem ok_kinds {f : Addr} {fd : FuncData} (F : L2.Fun K "kinds_of" "kinds_of" sKinds f fd) : FnOk P w K mg base CX0 1 f fd ["spots", "length", "width"] spKinds := by
  refine F.ok scKinds (fun vs H Q E h => ?_) (fun cdv A outer s H vs Q E hr h => ?_)
  · obtain ⟨l, xs, ps, n, W, H0, rfl, _⟩ := h
    rfl
  · obtain ⟨l, xs, ps, n, W, H0, rfl, hl, pr, k⟩ := h
    refine ⟨_, (pss_cons (ps_asg4 pe_int (pg_name (i := 3) scKinds.nd rfl (Or.inl rfl)) (pg_name (i := 4) scKinds.nd rfl (Or.inl rfl)) (pg_name (i := 5) scKinds.nd rfl (Or.inl rfl)) (pg_name (i := 6) scKinds.nd rfl (Or.inl rfl)))
      (pss_cons (ps_for PassesOwn.never rfl (pi_list (pv 0)) (pg_tup rfl (pgs_cons (pg_name (i := 7) scKinds.nd rfl (Or.inl rfl)) (pgs_cons (pg_name (i := 8) scKinds.nd rfl (Or.inl rfl)) pgs_nil))) (pss_one (ps_if (pt_cmpR op_eq (pv 1) (pv 2) (by rfl)) (pss_one (ps_aug (i := 6) scKinds.nd rfl (.inl rfl) pe_int ip_add)) (pss_one (ps_if (pt_cmpR op_eq (pv 8) pe_int (by rfl)) (pss_one (ps_aug (i := 3) scKinds.nd rfl (.inl rfl) pe_int ip_add)) (pss_one (ps_if (pt_cmpR op_eq (pe_op op_add (pv 8) (pv 1)) (pv 2) (by rfl)) (pss_one (ps_aug (i := 5) scKinds.nd rfl (.inl rfl) pe_int ip_add)) (pss_one (ps_aug (i := 4) scKinds.nd rfl (.inl rfl) pe_int ip_add)))))))))
      (pss_one (ps_ret (pe_tup (pa_cons (pv 1) (pa_cons (pv 3) (pa_cons (pv 4) (pa_cons (pv 5) (pa_cons (pv 6) pa_nil)))))))))), ?_⟩
    have len := pairedLen pr
    refine ⟨_, rfl, l, rfl, ⟨_, .inl (.inl hl)⟩, for_list (xs := xs) (fun i σ Hx => Hx = H ∧ ∃ v7 v8, σ = [some (.ref l), some (.int (n : Nat)), some (.int (W : Nat)), some (.int (kindC n W 0 (ps.take i) : Nat)), some (.int (kindC n W 1 (ps.take i) : Nat)), some (.int (kindC n W 2 (ps.take i) : Nat)), some (.int (kindC n W 3 (ps.take i) : Nat)), v7, v8])
      ⟨rfl, _, _, rfl⟩ (fun i σ Hx _ p => by rw [p.1]; exact .inl (.inl hl)) (fun i x σ Hx hx p => ?_) (fun σ Hx p => ?_)⟩
    · obtain ⟨rfl, v7, v8, rfl⟩ := p
      obtain ⟨y, hy, q, rfl, _, hq⟩ := pairedGet pr hx
      have st : ∀ c, kindC n W c (ps.take (i + 1)) = kindC n W c (ps.take i) + (if kindOf n W y.2 = c then 1 else 0) := fun c => by
        unfold kindC
        rw [List.take_add_one, hy, List.countP_append]
        congr 1
        show [y].countP _ = _
        by_cases e : kindOf n W y.2 = c <;> simp [e]
      refine ⟨q, _, rfl, .inl (.inl hq), rfl, _, _, rfl, _, _, rfl, rfl, ?_⟩
      refine ⟨_, rfl, _, rfl, rfl, _, rfl, ?_⟩
      by_cases c3 : n = W
      · have e := st
        simp only [show kindOf n W y.2 = 3 by unfold kindOf; rw [if_pos c3]] at e
        refine iteT' (decide_eq_true (by rw [c3])) ⟨_, rfl, _, _, rfl, rfl, rfl, some (.int (y.1 : Nat)), some (.int (y.2 : Nat)), ?_⟩
        rw [e 0, e 1, e 2, e 3]
        rfl
      refine iteF' (decide_eq_false fun z => c3 (by have := V.int.inj z; omega)) ⟨_, rfl, rfl, _, rfl, ?_⟩
      by_cases c0 : y.2 = 0
      · have e := st
        simp only [show kindOf n W y.2 = 0 by unfold kindOf; rw [if_neg c3, if_pos c0]] at e
        refine iteT' (decide_eq_true (by rw [c0]; rfl)) ⟨_, rfl, _, _, rfl, rfl, rfl, some (.int (y.1 : Nat)), some (.int (y.2 : Nat)), ?_⟩
        rw [e 0, e 1, e 2, e 3]
        rfl
      refine iteF' (decide_eq_false fun z => c0 (by have := V.int.inj z; omega)) ⟨_, rfl, _, rfl, _, _, rfl, rfl, _, rfl, rfl, _, rfl, ?_⟩
      by_cases c2 : y.2 + n = W
      · have e := st
        simp only [show kindOf n W y.2 = 2 by unfold kindOf; rw [if_neg c3, if_neg c0, if_pos c2]] at e
        refine iteT' (decide_eq_true (by rw [← c2]; rfl)) ⟨_, rfl, _, _, rfl, rfl, rfl, some (.int (y.1 : Nat)), some (.int (y.2 : Nat)), ?_⟩
        rw [e 0, e 1, e 2, e 3]
        rfl
      · have e := st
        simp only [show kindOf n W y.2 = 1 by unfold kindOf; rw [if_neg c3, if_neg c0, if_neg c2]] at e
        refine iteF' (decide_eq_false fun z => c2 (by have := V.int.inj z; omega)) ⟨_, rfl, _, _, rfl, rfl, rfl, some (.int (y.1 : Nat)), some (.int (y.2 : Nat)), ?_⟩
        rw [e 0, e 1, e 2, e 3]
        rfl
    · obtain ⟨rfl, v7, v8, rfl⟩ := p
      rw [len, List.take_length]
      refine ⟨_, rfl, _, rfl, _, rfl, _, rfl, _, rfl, (by decide : 5 ≤ sizeLine), fun q hq => ?_⟩
      exact k q _ hq upd_same (same_new hq)
/-! ### Pieces -/
structure TopP (K : PySem.W.Frag) (mg : Str → Option Value) (fSp fKi : Addr) : Prop where
  gS : mg "spots_of" = some (.ref fSp)
  kS : PySem.W.keepIn K (.ref fSp) = true
  gK : mg "kinds_of" = some (.ref fKi)
  kK : PySem.W.keepIn K (.ref fKi) = true
  enu : mg "enumerate" = none
/-- what the class Pieces says of its fields -/
structure OwnP (K : PySem.W.Frag) (CP : Addr) : Prop where
  cls : Cls K CP
  n1 : NoAttr K CP "span"
  n2 : NoAttr K CP "spots"
  n3 : NoAttr K CP "kinds"
def spPInit (K : PySem.W.Frag) (CP : Addr) : Sp := fun vs H Q _ => ∃ (a l dx : Addr) (ws : List Str) (W : Nat), vs = [.ref a, .ref l] ∧ H a = some (.ins CP dx []) ∧ H l = some (.lst (ws.map V.str)) ∧ Good ws W ∧
  ∀ d dk kvs kk H3, H3 a = some (.ins CP dx [("span", .int (W : Nat)), ("spots", .ref d), ("kinds", .ref dk)]) → SpI H H3 d kvs (spotsF ws) → KiI H H3 dk kk (spotsF ws) W → (∀ b o, b ≠ a → H b = some o → H3 b = some o) → Q .non H3
abbrev NPInit : List Str := ["self", "words", "piece"]
theorem scPInit : FnScope NPInit ["self", "words"] (defScope sPInit) := ⟨rfl, rfl, rfl, by decide +kernel, rfl, by decide +kernel, by decide +kernel⟩
theorem ok_pinit {CP fSp fKi : Addr} {f : Addr} {fd fdS fdK : FuncData} (F : L2.Fun K "__init__" "Pieces.__init__" sPInit f fd) (FS : L2.Fun K "spots_of" "spots_of" sSpots fSp fdS) (FK : L2.Fun K "kinds_of" "kinds_of" sKinds fKi fdK) (X : Txt K mg C fLow fText fAre fTape fNext fInks) (XP : TopP K mg fSp fKi) (O : OwnP K CP) :
    FnOk P w K mg base CX0 2 f fd ["self", "words"] (spPInit K CP) := by
  have SS : FnOk P w K mg base CX0 1 fSp fdS ["words"] spSpots := ok_spots FS X XP.enu
  have bS : Binds K fdS ["words"] [] := FS.binds fun _ _ _ _ _ _ us hl => match us, hl with | [_], _ => rfl
  have KI : FnOk P w K mg base CX0 1 fKi fdK ["spots", "length", "width"] spKinds := ok_kinds FK
  have bK : Binds K fdK ["spots", "length", "width"] [] := FK.binds fun _ _ _ _ _ _ us hl => match us, hl with | [_, _, _], _ => rfl
  refine F.ok scPInit (fun vs H Q E h => ?_) (fun cdv A outer s H vs Q E hr h => ?_)
  · obtain ⟨a, l, dx, ws, W, rfl, _⟩ := h
    rfl
  · obtain ⟨a, l, dx, ws, W, rfl, ha, hl, g, k⟩ := h
    refine ⟨_, (pss_cons (ps_fld (pv 0) (pe_callB call_len_str (by rfl) X.len boot_len (pa_cons (pe_ix ix_seq (pv 1) pe_int fun _ _ => rfl) pa_nil)) (by rfl))
      (pss_cons (ps_fld (pv 0) (pe_call SS hr (by rfl) XP.gS XP.kS bS .nil L2.pass0 (pa_cons (pv 1) pa_nil)) (by rfl))
      (pss_one (ps_fld (pv 0) (pe_lock (pe_dc (own := [("piece", 2)]) (g := gName 2) (tt := tYes) (by rfl) scPInit.nd (pi_keys (pe_fld (pv 0) (by rfl))) (blkOk_by (own := [("piece", 2)]) (N := NPInit) (sc := defScope sPInit) (by decide +kernel)) (fun _ _ _ _ _ => pg_name (i := 2) scPInit.nd rfl (Or.inl rfl)) (fun _ _ _ _ _ => pts_nil) (fun _ _ _ _ _ => pv 2) (fun _ _ _ _ _ => pe_call KI hr (by rfl) XP.gK XP.kK bK .nil L2.pass0 (pa_cons (pe_dget (hu_of hr) (pe_fldKp (K := K) rfl (pv 0) (by rfl)) (pv 2) (fun _ _ => rfl)) (pa_cons (pe_callB call_len_str (by rfl) X.len boot_len (pa_cons (pv 2) pa_nil)) (pa_cons (pe_fldKp (K := K) rfl (pv 0) (by rfl)) pa_nil)))))) (by rfl))))), ?_⟩
    have n1 := g.n1
    have w8 := g.w8
    have wl : ws[0].length ≤ sizeLine := by rw [g.at n1]; exact Nat.le_trans w8 (by decide)
    have len8 : ∀ z ∈ ws, z.length ≤ 8 := fun z hz => by rw [(g.all z hz).1]; exact w8
    have la : l ≠ a := fun z => by rw [z, ha] at hl; cases hl
    refine ⟨_, rfl, .inl ⟨l, _, 0, .str ws[0], rfl, rfl, .inl (.inl hl), at_0 n1, ws[0], rfl, wl, _, rfl, a, CP, dx, [], rfl, ha, O.cls, O.n1, by decide, ?_⟩⟩
    rw [g.at n1]
    have hl1 : upd H a (.ins CP dx [("span", .int (W : Nat))]) l = some (.lst (ws.map V.str)) := (upd_ne la).trans hl
    refine ⟨_, rfl, l, ws, rfl, hl1, g.n6, len8, fun d kvs H2 I0 s2 => ?_⟩
    have b1 : ∀ b, upd H a (.ins CP dx [("span", .int (W : Nat))]) b = none → H b = none := fun b e => by
      by_cases c : b = a
      · rw [c, upd_same] at e; cases e
      · exact (upd_ne c).symm.trans e
    have I2 := I0.base b1
    have ha2 : H2 a = some (.ins CP dx [("span", .int (W : Nat))]) := s2 a _ upd_same
    have da : d ≠ a := fun z => by have := I2.new; rw [z, ha] at this; cases this
    have keep2 : ∀ b o, b ≠ a → H b = some o → H2 b = some o := fun b o nb e => s2 b o ((upd_ne nb).trans e)
    refine ⟨_, rfl, a, CP, dx, _, rfl, ha2, O.cls, O.n2, (show 1 < 1000 by decide), ?_⟩
    have nk3 : NK H H2 (upd H2 a (.ins CP dx [("span", .int (W : Nat)), ("spots", .ref d)])) := fun b o nb _ e => (upd_ne (fun z => by rw [z, ha] at nb; cases nb)).trans e
    have I3 := I2.keep nk3
    have ha3 : upd H2 a (.ins CP dx [("span", .int (W : Nat)), ("spots", .ref d)]) a = some (.ins CP dx [("span", .int (W : Nat)), ("spots", .ref d)]) := upd_same
    have keep3 : ∀ b o, b ≠ a → H b = some o → upd H2 a (.ins CP dx [("span", .int (W : Nat)), ("spots", .ref d)]) b = some o := fun b o nb e => (upd_ne nb).trans (keep2 b o nb e)
    have pf : putF ("spots" : Str) (V.ref d) [(("span" : Str), V.int (W : Nat))] = [(("span" : Str), V.int (W : Nat)), (("spots" : Str), V.ref d)] := rfl
    rw [pf]
    generalize upd H2 a (.ins CP dx [("span", .int (W : Nat)), ("spots", .ref d)]) = H3 at I3 ha3 keep3 ⊢
    refine ⟨d, .dK kvs, I3.at_, trivial, fun od => ?_⟩
    have haL : upd H3 d (.frz od (.dK kvs)) a = some (.ins CP dx [("span", .int (W : Nat)), ("spots", .ref d)]) := (upd_ne da.symm).trans ha3
    have hdL : upd H3 d (.frz od (.dK kvs)) d = some (.frz od (.dK kvs)) := upd_same
    refine ⟨_, rfl, a, CP, dx, _, _, rfl, haL, O.cls, O.n2, rfl, d, od, rfl, .inl ⟨kvs, hdL, fun D hD => ?_⟩⟩
    have nd := I3.nd
    have lenM := pairedLen I3.pr
    have bdM : Bd 600 (spotsF ws) := (Bd.W len8 ws.length).mono (by have := g.n6; omega)
    have ksM : Ks 8 (spotsF ws) := Ks.W len8 ws.length
    have D3 : H3 D = none := by
      by_cases c : D = d
      · rw [c, hdL] at hD; cases hD
      · exact (upd_ne c).symm.trans hD
    have D0 : H D = none := by
      cases q : H D with
      | none => rfl
      | some o =>
        have na : D ≠ a := fun z => by rw [z, ha3] at D3; cases D3
        rw [keep3 D o na q] at D3; cases D3
    have free3 : ∀ b, H3 b = none → H b = none := fun b e => by
      cases q : H b with
      | none => rfl
      | some o =>
        have na : b ≠ a := fun z => by rw [z, ha3] at e; cases e
        rw [keep3 b o na q] at e; cases e
    have freeL : ∀ b, upd H3 d (.frz od (.dK kvs)) b = none → H b = none := fun b e => by
      refine free3 b ?_
      by_cases c : b = d
      · rw [c, hdL] at e; cases e
      · exact (upd_ne c).symm.trans e
    -- what stands of the dict's lists while it is locked
    have prL : Paired (fun (kv : Key × V) (e : Str × List (Nat × Nat)) => kv.1 = .inr e.1 ∧ ∃ l' vs', kv.2 = .ref l' ∧ upd H3 d (.frz od (.dK kvs)) l' = some (.lst vs') ∧ Paired (Tu H (upd H3 d (.frz od (.dK kvs)))) vs' e.2) kvs (spotsF ws) := pairedMono (fun kv e h => by
      obtain ⟨e1, l', vs', e2, _, a', pr⟩ := h
      refine ⟨e1, l', vs', e2, (upd_ne (fun z => by rw [z, I3.at_] at a'; cases a')).trans a', pairedMono (fun v x t => ?_) pr⟩
      obtain ⟨q, t1, t2, t3⟩ := t
      exact ⟨q, t1, t2, (upd_ne (fun z => by rw [z, I3.at_] at t3; cases t3)).trans t3⟩) I3.pr
    have keepL : ∀ b o, b ≠ d → H3 b = some o → upd H3 d (.frz od (.dK kvs)) b = some o := fun b o nb e => (upd_ne nb).trans e
    generalize upd H3 d (.frz od (.dK kvs)) = HL at haL hdL hD freeL prL keepL ⊢
    have Dd : D ≠ d := fun z => by rw [z, hdL] at hD; cases hD
    have Da : D ≠ a := fun z => by rw [z, haL] at hD; cases hD
    refine dc_it (walk_keys (kvs := kvs)) (fun i Hx => ∃ kk, Hx D = some (.dK kk) ∧ Paired (KiE H Hx W) kk ((spotsF ws).take i) ∧ L2.Same HL Hx) ⟨[], upd_same, .nil, same_new hD⟩ (fun i Hx _ p => by
      obtain ⟨kk, _, _, sx⟩ := p
      exact sx d _ hdL) (fun i x Hx Hy hi p y => ?_) (fun Hx p => ?_)
    · obtain ⟨kk, hk, pk, sx⟩ := p
      obtain ⟨rfl, key, v, hkv, rfl⟩ := y
      obtain ⟨e, he, e1, l', vs', e2, hl', pr⟩ := pairedGet prL hkv
      have e1 : key = .inr e.1 := e1
      have e2 : v = .ref l' := e2
      subst e1 e2
      have me : e ∈ spotsF ws := List.mem_of_getElem? he
      have el : e.1.length ≤ sizeLine := Nat.le_trans (ksM e me) (by decide)
      have haX := sx a _ haL
      have hv : valV kvs (.inr e.1) = some (.ref l') := by
        have kn : (kvs.map (·.1)).Nodup := by
          have ek : kvs.map (·.1) = (spotsF ws).map fun e => Sum.inr e.1 := by
            have go : ∀ {ks : List (Key × V)} {Ms : Sp4}, Paired (SpE H H3) ks Ms → ks.map (·.1) = Ms.map fun e => Sum.inr e.1 := fun {ks Ms} pr => by
              induction pr with
              | nil => rfl
              | cons h _ ih => rw [List.map_cons, List.map_cons, ih, h.1]
            exact go I3.pr
          rw [ek]
          have e3 : ((spotsF ws).map fun e => (Sum.inr e.1 : Key)) = ((spotsF ws).map (·.1)).map Sum.inr := by rw [List.map_map]; rfl
          rw [e3]
          exact List.Pairwise.map _ (fun a b h z => h (Sum.inr.inj z)) nd
        exact valV_nd kn (List.mem_of_getElem? hkv)
      refine ⟨rfl, ?_⟩
      unfold tYes
      refine iteT' (b := true) rfl ?_
      refine ⟨_, rfl, _, rfl, a, CP, dx, _, _, rfl, haX, O.cls, O.n2, rfl, _, rfl, d, .ref l', rfl, .inl ⟨kvs, .inr e.1, .inr ⟨od, sx d _ hdL⟩, rfl, hv.symm⟩, _, rfl, e.1, rfl, el, _, rfl, a, CP, dx, _, _, rfl, haX, O.cls, O.n1, rfl, ?_⟩
      refine ⟨l', vs', e.2, e.1.length, W, H, rfl, sx l' _ hl', pairedMono (fun v x t => by
        obtain ⟨q, t1, t2, t3⟩ := t
        exact ⟨q, t1, t2, sx q _ t3⟩) pr, fun q H5 hq0 hq s5 => ?_⟩
      have q0 : H q = none := freeL q (sx.free hq0)
      have hk5 := s5 D _ hk
      have kl : kk.length ≤ 600 := by
        rw [pairedLen pk, List.length_take]
        have := bdM.1
        omega
      have no : valV kk (.inr e.1) = none := ki_none pk fun e' he' z => by
        obtain ⟨j, hj, ej⟩ := List.mem_iff_getElem.mp he'
        rw [List.length_take] at hj
        have ej' : (spotsF ws)[j]'(by omega) = e' := by rw [← ej, List.getElem_take]
        have ei : (spotsF ws)[i]? = some e := he
        have hi' : i < (spotsF ws).length := (List.getElem?_eq_some_iff.mp ei).1
        have ei' : (spotsF ws)[i] = e := (List.getElem?_eq_some_iff.mp ei).2
        have ne : j ≠ i := by omega
        have mj : ((spotsF ws).map (·.1))[j]? = some e.1 := by
          rw [List.getElem?_map, List.getElem?_eq_getElem (by omega : j < (spotsF ws).length), ej']
          exact congrArg some z
        have mi : ((spotsF ws).map (·.1))[i]? = some e.1 := by rw [List.getElem?_map, ei]; rfl
        exact ne ((List.getElem?_inj (by rw [List.length_map]; omega) nd).mp (mj.trans mi.symm))
      refine ⟨kk, .inr e.1, rfl, hk5, Nat.lt_of_le_of_lt kl (by decide), kk ++ [(.inr e.1, .ref q)], by rw [putK_new _ no]; exact upd_same, ?_, fun b o eb => (upd_ne (ne_of_none eb hD)).trans (s5 b o (sx b o eb))⟩
      rw [List.take_add_one, he]
      have qD : q ≠ D := fun z => by rw [z, hk] at hq0; cases hq0
      refine (pairedMono (fun kv e h => ?_) pk).snoc ⟨rfl, q, rfl, q0, (upd_ne qD).trans hq⟩
      obtain ⟨e1, q', e2, n', a'⟩ := h
      have q'D : q' ≠ D := fun z => by rw [z, hk] at a'; cases a'
      exact ⟨e1, q', e2, n', (upd_ne q'D).trans (s5 q' _ a')⟩
    · obtain ⟨kk, hk, pk, sx⟩ := p
      rw [lenM, List.take_length] at pk
      refine ⟨sx d _ hdL, _, rfl, a, CP, dx, _, rfl, (upd_ne da.symm).trans (sx a _ haL), O.cls, O.n3, (show 2 < 1000 by decide), ?_⟩
      have nk : NK H H3 (upd (upd Hx d (.dK kvs)) a (.ins CP dx [("span", .int (W : Nat)), ("spots", .ref d), ("kinds", .ref D)])) := fun b o nb _ e => by
        have na : b ≠ a := fun z => by rw [z, ha] at nb; cases nb
        by_cases c : b = d
        · subst c
          rw [I3.at_] at e
          cases e
          exact (upd_ne na).trans upd_same
        · exact (upd_ne na).trans ((upd_ne c).trans (sx b o (keepL b o c e)))
      refine k d D kvs kk _ upd_same (I3.keep nk) ⟨(upd_ne Da).trans ((upd_ne Dd).trans hk), D0, pairedMono (fun kv e h => ?_) pk⟩ fun b o nb e => ?_
      · obtain ⟨e1, q', e2, n', a'⟩ := h
        have q1 : q' ≠ d := fun z => by rw [z, sx d _ hdL] at a'; cases a'
        have q2 : q' ≠ a := fun z => by rw [z, ha] at n'; cases n'
        exact ⟨e1, q', e2, n', (upd_ne q2).trans ((upd_ne q1).trans a')⟩
      · have nd' : b ≠ d := fun z => by rw [z, I3.new] at e; cases e
        exact (upd_ne nb).trans ((upd_ne nd').trans (sx b o (keepL b o nd' (keep3 b o nb e))))
end
end Ov

set_option Elab.async false
set_option linter.all false
set_option maxRecDepth 100000
set_option maxHeartbeats 4000000
namespace Ov
open PySem PySem.Spec PyProof.Rows L2 GxR
section
variable {P : Program} {w : World} {K : PySem.W.Frag} {mg : Str → Option Value} {base : Heap} {T : List Addr} {C D fLow fText fAre fTape fNext fInks fInit cLow PLow cAre PAre fStrip fOver pWi fWi pWo fWo fCl DSp DSg DS DNum DTx fInked fRow fCalled fRight pO gO : Addr}
theorem KepX.trans {a : Addr} {H H1 H2 : Hp} (x : KepX T a H H1) (y : KepX T a H1 H2) : KepX T a H H2 := ⟨y.1, fun b o hb hn e => y.2 b o hb hn (x.2 b o hb hn e)⟩
theorem Kep.kx {a : Addr} {H H1 : Hp} (x : Kep T H H1) : KepX T a H H1 := ⟨x.1, fun b o hb _ e => x.2 b o hb e⟩
theorem Bt.kx {a : Addr} {H H1 : Hp} (x : Bt a H H1) (hT : ∀ p ∈ T, TabG H p) (na : a ∉ T) : KepX T a H H1 := ⟨fun p hp => by
  obtain ⟨ps, h1, h2⟩ := hT p hp
  exact ⟨ps, x p _ (fun z => na (z ▸ hp)) h1, h2⟩, fun b o _ hn e => x b o hn e⟩
theorem KepX.new {a : Addr} {H H1 : Hp} {p : Addr} {o : HO} (x : KepX T a H H1) (e : H1 p = none) : KepX T a H (upd H1 p o) := ⟨(Kep.new x.1 e).1, fun b u hb hn q => (Kep.new x.1 e).2 b u hb (x.2 b u hb hn q)⟩
theorem KepX.free {a : Addr} {H H1 : Hp} {p : Addr} (x : KepX T a H H1) (hT : ∀ p ∈ T, TabG H p) (hp : p ≠ a) (e : H1 p = none) : H p = none := by
  cases q : H p with
  | none => rfl
  | some o =>
    by_cases hb : p ∈ T
    · obtain ⟨ps, h1, _⟩ := x.1 p hb
      rw [h1] at e; cases e
    · rw [x.2 p o hb hp q] at e; cases e
theorem KepX.put {a : Addr} {H H1 : Hp} {p : Addr} {o : HO} (x : KepX T a H H1) (e : H p = none) (n : p ∉ T) : KepX T a H (upd H1 p o) := by
  refine ⟨fun q hq => ?_, fun b u hb hn hu => ?_⟩
  · obtain ⟨ps, h1, h2⟩ := x.1 q hq
    exact ⟨ps, (upd_ne fun z => n (by rw [← z]; exact hq)).trans h1, h2⟩
  · exact (upd_ne (ne_of_none hu e)).trans (x.2 b u hb hn hu)
theorem KepX.at {a b : Addr} {H H1 : Hp} {o : HO} (x : KepX T a H H1) (hT : ∀ p ∈ T, TabG H p) (hb : b ≠ a) (e : H b = some o) (n : ∀ ps, o ≠ .tbl ps) : H1 b = some o := x.2 b o (not_tab hT e n) hb e
theorem KepX.refl {a : Addr} {H : Hp} (h : ∀ p ∈ T, TabG H p) : KepX T a H H := ⟨h, fun _ _ _ _ e => e⟩
theorem Bt.kxt {a : Addr} {H H1 H2 : Hp} (k : KepX T a H H1) (na : a ∉ T) (x : Bt a H1 H2) : KepX T a H H2 := k.trans (x.kx k.1 na)
theorem Tp.kx {H H' : Hp} {t : Addr} {n : Nat} (h : Tp H t n) (hT : ∀ p ∈ T, TabG H p) (k : Kep T H H') : Tp H' t n := by
  have nt : t ∉ T := by
    obtain ⟨a, b, c, h1, _⟩ := h
    exact not_tab hT h1 fun _ z => by cases z
  obtain ⟨a, b, c, h1, h2⟩ := h
  exact ⟨a, b, c, k.2 t _ nt h1, h2⟩
theorem Tp.nT {H : Hp} {t : Addr} {n : Nat} (h : Tp H t n) (hT : ∀ p ∈ T, TabG H p) : t ∉ T := by
  obtain ⟨a, b, c, h1, _⟩ := h
  exact not_tab hT h1 fun _ z => by cases z
theorem Kep.btX {t : Addr} {H H1 H2 : Hp} (hT : ∀ p ∈ T, TabG H p) (k : Kep T H H1) (ht : H t = none) (b : Bt t H1 H2) : Kep T H H2 := by
  refine ⟨fun p hp => ?_, fun a o ha e => b a o (ne_of_none e ht) (k.2 a o ha e)⟩
  obtain ⟨ps, h1, h2⟩ := k.1 p hp
  obtain ⟨ps', h1', _⟩ := hT p hp
  exact ⟨ps, b p _ (ne_of_none h1' ht) h1, h2⟩
end
end Ov

set_option Elab.async false
set_option linter.all false
set_option maxRecDepth 100000
set_option maxHeartbeats 4000000
namespace Ov
open PySem PySem.Spec PyProof.Rows L2 GxR
/-! ### the bands -/
def lab (z : Str) : Option Nat := if z = "line" then some 0 else if z = "window" then some 1 else if z = "ring" then some 2 else none
def labN : Nat → Str
  | 0 => "line"
  | 1 => "window"
  | 2 => "ring"
  | _ => ""
def clsN : Nat → Str
  | 0 => "Line"
  | 1 => "Window"
  | 2 => "Ring"
  | _ => "Band"
def cellsN (i : Nat) : Nat := if i = 2 then 60 else 120
/-- where the bands' classes and defs stand -/
structure BA where
  c : Nat → Addr
  ff : Nat → Addr
  fs : Nat → Addr
  fB : Addr
  pN : Addr
  gN : Addr
  pS : Addr
  gS : Addr
  fKn : Addr
  fCk : Addr
  CP : Addr
  fP : Addr
  fSp : Addr
  fKi : Addr
  fCs : Addr
structure Kls (K : PySem.W.Frag) (mg : Str → Option Value) (B : BA) (i : Nat) (C : Addr) : Prop where
  g : mg (clsN i) = some (.ref C)
  mak : Mk K C B.fB
  cls : Cls K C
  eq : NoEq2 K C
  noS : NoAttr K C "_stamps"
  noP : NoAttr K C "pieces"
  rd : ClX.CRead K C (.type "type")
  name : ∃ t, ClX.CVal K C (.type "type") "NAME" (.str (labN i)) (.str (labN i) t)
  con : ∃ t, Con K C "NAME" (.str (labN i)) (.str (labN i) t)
  cells : ∃ t, Con K C "CELLS" (.int (cellsN i : Nat)) (.int (cellsN i : Nat) t)
  nmd : ClX.CMet K C (.type "type") "named" B.pN B.gN
  prop : PropOf K C "stamps" B.pS B.gS
  ha : PySem.W.findIn K (.ref C) "__class__" = some (some (.builtin "object.__class__"))
  hm : PySem.W.mroIn K C (.type "object") = some true
  kn : Meth K C "_knows" B.fKn
  ck : Meth K C "_check_stamping" B.fCk
  cs : Meth K C "check_strip" B.fCs
/-- the four classes, and Pieces -/
structure Bds (K : PySem.W.Frag) (mg : Str → Option Value) (B : BA) : Prop where
  k : ∀ i, i < 4 → Kls K mg B i (B.c i)
  kit : ∀ i j, i < 4 → j < 4 → PySem.W.kitOne K (.ref (B.c i)) (.ref (B.c j)) = some (decide (i = j ∨ j = 3))
  sub : ∀ i j, i < 4 → j < 4 → PySem.W.subIn K (.ref (B.c i)) (.ref (B.c j)) = some (decide (i = j ∨ j = 3))
  hn : PySem.W.specialIn K (.builtin "object.__class__") "__get__" = some (some (.builtin "getset_descriptor.__get__"))
  htk : PySem.W.takesIn K (.builtin "object.__class__") = some true
  fits : ∀ i, i < 3 → Meth K (B.c i) "fits" (B.ff i)
  stm : ∀ i, i < 3 → Meth K (B.c i) "stamped" (B.fs i)
  gP : mg "Pieces" = some (.ref B.CP)
  mP : Mk K B.CP B.fP
  oP : OwnP K B.CP
  tP : TopP K mg B.fSp B.fKi
/-- pieces of words at pc, made since H0 -/
def Pcs (H0 H : Hp) (CP pc : Addr) (ws : List Str) (W : Nat) : Prop := ∃ dx d dk kvs kk, H pc = some (.ins CP dx [("span", .int (W : Nat)), ("spots", .ref d), ("kinds", .ref dk)]) ∧ H0 pc = none ∧ SpI H0 H d kvs (spotsF ws) ∧ KiI H0 H dk kk (spotsF ws) W
theorem Pcs.keep {H0 H H2 : Hp} {CP pc : Addr} {ws : List Str} {W : Nat} (k : NK H0 H H2) (h : Pcs H0 H CP pc ws W) : Pcs H0 H2 CP pc ws W := by
  obtain ⟨dx, d, dk, kvs, kk, e, n, s, i⟩ := h
  exact ⟨dx, d, dk, kvs, kk, k pc _ n (fun _ z => by cases z) e, n, s.keep k, i.keep k⟩
theorem Pcs.base {H0 H1 H : Hp} {CP pc : Addr} {ws : List Str} {W : Nat} (h : ∀ b, H1 b = none → H0 b = none) (p : Pcs H1 H CP pc ws W) : Pcs H0 H CP pc ws W := by
  obtain ⟨dx, d, dk, kvs, kk, e, n, s, i⟩ := p
  exact ⟨dx, d, dk, kvs, kk, e, h _ n, s.base h, i.base h⟩
/-- a band of the i-th class over the stamps at m stands at a -/
def BdAt (B : BA) (H0 H : Hp) (a : Addr) (i : Nat) (m : Addr) (ws : List Str) (W : Nat) : Prop := ∃ dx pc, H a = some (.ins (B.c i) dx [("_stamps", .ref m), ("pieces", .ref pc)]) ∧ H0 a = none ∧ Pcs H0 H B.CP pc ws W
theorem BdAt.keep {B : BA} {H0 H H2 : Hp} {a m : Addr} {i : Nat} {ws : List Str} {W : Nat} (k : NK H0 H H2) (h : BdAt B H0 H a i m ws W) : BdAt B H0 H2 a i m ws W := by
  obtain ⟨dx, pc, e, n, p⟩ := h
  exact ⟨dx, pc, k a _ n (fun _ z => by cases z) e, n, p.keep k⟩
section
variable {P : Program} {w : World} {K : PySem.W.Frag} {mg : Str → Option Value} {base : Heap} {T : List Addr} {C D fLow fText fAre fTape fNext fInks fInit cLow PLow cAre PAre pWo fWo : Addr} {B : BA}
def spBInit (K : PySem.W.Frag) (C : Addr) (B : BA) : Sp := fun vs H Q _ => ∃ (a CB dx m l dm : Addr) (ws : List Str) (W : Nat), vs = [.ref a, .ref m] ∧ H a = some (.ins CB dx []) ∧ Cls K CB ∧ NoAttr K CB "_stamps" ∧ NoAttr K CB "pieces" ∧ Stp H C m l dm (ws.map V.str) ∧ Good ws W ∧
  ∀ pc H3, H3 a = some (.ins CB dx [("_stamps", .ref m), ("pieces", .ref pc)]) → Pcs H H3 B.CP pc ws W → (∀ b o, b ≠ a → H b = some o → H3 b = some o) → Q .non H3
theorem scBInit : FnScope ["self", "stamps"] ["self", "stamps"] (defScope sBInit) := ⟨rfl, rfl, rfl, by decide +kernel, rfl, by decide +kernel, by decide +kernel⟩
theorem ok_binit {f : Addr} {fd fdW fdP fdS fdK : FuncData} (F : L2.Fun K "__init__" "Band.__init__" sBInit f fd) (FW : L2.Fun K "words" "Stamps.words" sWords fWo fdW) (FP : L2.Fun K "__init__" "Pieces.__init__" sPInit B.fP fdP) (FS : L2.Fun K "spots_of" "spots_of" sSpots B.fSp fdS) (FK : L2.Fun K "kinds_of" "kinds_of" sKinds B.fKi fdK)
    (X : Txt K mg C fLow fText fAre fTape fNext fInks) (O : Own K C) (hp : PropOf K C "words" pWo fWo) (BB : Bds K mg B) : FnOk P w K mg base CX0 4 f fd ["self", "stamps"] (spBInit K C B) := by
  have PI : FnOk P w K mg base CX0 2 B.fP fdP ["self", "words"] (spPInit K B.CP) := ok_pinit FP FS FK X BB.tP BB.oP
  have bP : Binds K fdP ["self", "words"] [] := FP.binds fun _ _ _ _ _ _ us hl => match us, hl with | [_, _], _ => rfl
  have WW : FnOk P w K mg base CX0 1 fWo fdW ["self"] (spWords C) := ok_words FW X O
  have bW : Binds K fdW ["self"] [] := FW.binds fun _ _ _ _ _ _ us hl => match us, hl with | [_], _ => rfl
  refine F.ok scBInit (fun vs H Q E h => ?_) (fun cdv A outer s H vs Q E hr h => ?_)
  · obtain ⟨a, CB, dx, m, l, dm, ws, W, rfl, _⟩ := h
    rfl
  · obtain ⟨a, CB, dx, m, l, dm, ws, W, rfl, ha, hc, n1, n2, st, g, k⟩ := h
    refine ⟨_, pss_cons (ps_fld (pv 0) (pv 1) (by rfl)) (pss_one (ps_fld (pv 0) (pe_make BB.mP PI hr (by rfl) BB.gP bP .nil L2.pass0 (pa_cons (pe_propX (p := pWo) (pv 1) WW (hr.mono (by decide)) bW .nil L2.pass0) pa_nil)) (by rfl))), ?_⟩
    refine ⟨_, rfl, _, rfl, a, CB, dx, [], rfl, ha, hc, n1, by decide, ?_⟩
    have ma : m ≠ a := fun z => by
      have := st.1
      rw [z, ha] at this
      cases this
    have la : l ≠ a := fun z => by
      have := st.2
      rw [z, ha] at this
      cases this
    have h1a : upd H a (.ins CB dx [("_stamps", .ref m)]) a = some (.ins CB dx [("_stamps", .ref m)]) := upd_same
    have s1 : ∀ b o, b ≠ a → H b = some o → upd H a (.ins CB dx [("_stamps", .ref m)]) b = some o := fun b o nb e => (upd_ne nb).trans e
    have f1 : ∀ b, upd H a (.ins CB dx [("_stamps", .ref m)]) b = none → H b = none := fun b e => by
      by_cases c : b = a
      · rw [c, upd_same] at e; cases e
      · exact (upd_ne c).symm.trans e
    have pf : putF ("_stamps" : Str) (V.ref m) [] = [(("_stamps" : Str), V.ref m)] := rfl
    rw [pf]
    generalize upd H a (.ins CB dx [("_stamps", .ref m)]) = H1 at h1a s1 f1 ⊢
    refine ⟨_, rfl, m, C, dm, _, rfl, O.cls, hp, s1 m _ ma st.1, m, l, dm, _, rfl, ⟨s1 m _ ma st.1, s1 l _ la st.2⟩, fun wl hwl => ?_⟩
    have s2 : L2.Same H1 (upd H1 wl (.lst (ws.map V.str))) := same_new hwl
    have hw2 : upd H1 wl (.lst (ws.map V.str)) wl = some (.lst (ws.map V.str)) := upd_same
    have f2 : ∀ b, upd H1 wl (.lst (ws.map V.str)) b = none → H1 b = none := fun b e => s2.free e
    generalize upd H1 wl (.lst (ws.map V.str)) = H2 at s2 hw2 f2 ⊢
    intro x dp hx hdp hne
    have sx : L2.Same H2 (upd (upd H2 dp (.own x)) x (.ins B.CP dp [])) := fun b o e => (upd_ne (ne_of_none e hx)).trans ((upd_ne (ne_of_none e hdp)).trans e)
    refine ⟨x, wl, dp, ws, W, rfl, upd_same, sx wl _ hw2, g, fun d dk kvs kk H3 e3 sp ki kp => ⟨rfl, ?_⟩⟩
    have b0 : ∀ b, upd (upd H2 dp (.own x)) x (.ins B.CP dp []) b = none → H b = none := fun b e => f1 b (f2 b (sx.free e))
    have xa : x ≠ a := fun z => by
      have := s2 a _ h1a
      rw [← z, hx] at this
      cases this
    have s3 : ∀ b o, H2 b = some o → H3 b = some o := fun b o e => kp b o (ne_of_none e hx) (sx b o e)
    have ha3 : H3 a = some (.ins CB dx [("_stamps", .ref m)]) := s3 a _ (s2 a _ h1a)
    refine ⟨_, rfl, a, CB, dx, _, rfl, ha3, hc, n2, (show 1 < 1000 by decide), ?_⟩
    have nk : NK H H3 (upd H3 a (.ins CB dx [("_stamps", .ref m), ("pieces", .ref x)])) := fun b o nb _ e => (upd_ne (fun z => by rw [z, ha] at nb; cases nb)).trans e
    refine k x _ upd_same (Pcs.keep nk ⟨dp, d, dk, kvs, kk, e3, f1 x (f2 x hx), sp.base b0, ki.base b0⟩) fun b o nb e => (upd_ne nb).trans (s3 b o (s2 b o (s1 b o nb e)))
def spGet (K : PySem.W.Frag) : Sp := fun vs H Q _ => ∃ (a CB dx : Addr) (fs : List (Str × V)) (v : V), vs = [.ref a] ∧ H a = some (.ins CB dx fs) ∧ fs.lookup ("_stamps" : Str) = some v ∧ Cls K CB ∧ NoAttr K CB "_stamps" ∧ Q v H
theorem scGet : FnScope ["self"] ["self"] (defScope sStamps) := ⟨rfl, rfl, rfl, by decide +kernel, rfl, by decide +kernel, by decide +kernel⟩
theorem ok_get {f : Addr} {fd : FuncData} (F : L2.Fun K "stamps" "Band.stamps" sStamps f fd) : FnOk P w K mg base CX0 1 f fd ["self"] (spGet K) := by
  refine F.ok scGet (fun vs H Q E h => ?_) (fun cdv A outer s H vs Q E hr h => ?_)
  · obtain ⟨a, C, dx, fs, v, rfl, _⟩ := h
    rfl
  · obtain ⟨a, C, dx, fs, v, rfl, ha, hl, hc, hn, q⟩ := h
    exact ⟨_, pss_one (ps_ret (pe_fld (pv 0) (by rfl))), ⟨_, rfl, a, C, dx, _, _, rfl, ha, hc, hn, hl, q⟩⟩
/-- what making a band of the i-th class gives -/
def Mades (B : BA) (H : Hp) (i : Nat) (m : Addr) (ws : List Str) (W : Nat) (Q : VK) : Prop := ∀ a H3, BdAt B H H3 a i m ws W → L2.Same H H3 → Q (.ref a) H3
theorem Mades.make {H : Hp} {i : Nat} {m l dm : Addr} {ws : List Str} {W : Nat} {Q : VK} (BB : Bds K mg B) (hi : i < 4) (st : Stp H C m l dm (ws.map V.str)) (g : Good ws W) (mm : Mades B H i m ws W Q) {x dx : Addr} (hx : H x = none) (hdx : H dx = none) (hne : dx ≠ x) :
    spBInit K C B [V.ref x, .ref m] (upd (upd H dx (.own x)) x (.ins (B.c i) dx [])) (fun v H2 => v = .non ∧ Q (.ref x) H2) E0 := by
  have sx : L2.Same H (upd (upd H dx (.own x)) x (.ins (B.c i) dx [])) := fun b o e => (upd_ne (ne_of_none e hx)).trans ((upd_ne (ne_of_none e hdx)).trans e)
  refine ⟨x, B.c i, dx, m, l, dm, ws, W, rfl, upd_same, (BB.k i hi).cls, (BB.k i hi).noS, (BB.k i hi).noP, ⟨sx m _ st.1, sx l _ st.2⟩, g, fun pc H3 e3 p kp => ⟨rfl, ?_⟩⟩
  exact mm x H3 ⟨dx, pc, e3, hx, p.base fun b e => sx.free e⟩ fun b o e => kp b o (ne_of_none e hx) (sx b o e)
def spNamed (C : Addr) (B : BA) (DN : Addr) : Sp := fun vs H Q E => ∃ (x : V) (z : Str) (m l dm : Addr) (ws : List Str) (W : Nat), vs = [x, .str z, .ref m] ∧ Stp H C m l dm (ws.map V.str) ∧ Good ws W ∧ (∀ i, lab z = some i → Mades B H i m ws W Q) ∧ (lab z = none → E (.ref DN) none H)
theorem scNamed : FnScope ["cls", "name", "stamps"] ["cls", "name", "stamps"] (defScope sNamed) := ⟨rfl, rfl, rfl, by decide +kernel, rfl, by decide +kernel, by decide +kernel⟩
theorem ok_named {f DN : Addr} {fd fdB : FuncData} (F : L2.Fun K "named" "Band.named" sNamed f fd) (FB : L2.Fun K "__init__" "Band.__init__" sBInit B.fB fdB) (FI : FnOk P w K mg base CX0 4 B.fB fdB ["self", "stamps"] (spBInit K C B)) (BB : Bds K mg B) (Er : ErrC K mg "InvalidName" DN) :
    FnOk P w K mg base (L2.CX P w) 6 f fd ["cls", "name", "stamps"] (spNamed C B DN) := by
  have bI : Binds K fdB ["self", "stamps"] [] := FB.binds fun _ _ _ _ _ _ us hl => match us, hl with | [_, _], _ => rfl
  have k0 := BB.k 0 (by decide)
  have k1 := BB.k 1 (by decide)
  have k2 := BB.k 2 (by decide)
  refine F.okX scNamed (fun vs H Q E h => ?_) (fun cdv A outer s H vs Q E hr h => ?_)
  · obtain ⟨x, z, m, l, dm, ws, W, rfl, _⟩ := h
    rfl
  · obtain ⟨x, z, m, l, dm, ws, W, rfl, st, g, h1, h2⟩ := h
    obtain ⟨t0, n0⟩ := k0.name
    obtain ⟨t1, n1⟩ := k1.name
    obtain ⟨t2, n2⟩ := k2.name
    refine ⟨_, pss_cons (ps_if (pt_cmpR op_eq (pv 1) (ClX.pe_cval (pe_glob (v := .ref (B.c 0)) (by rfl) k0.g rfl)) (by rfl)) (pss_one (ps_ret (pe_make k0.mak FI hr (by rfl) k0.g bI .nil L2.pass0 (pa_cons (pv 2) pa_nil)))) pss_nil)
      (pss_cons (ps_if (pt_cmpR op_eq (pv 1) (ClX.pe_cval (pe_glob (v := .ref (B.c 1)) (by rfl) k1.g rfl)) (by rfl)) (pss_one (ps_ret (pe_make k1.mak FI hr (by rfl) k1.g bI .nil L2.pass0 (pa_cons (pv 2) pa_nil)))) pss_nil)
      (pss_cons (ps_if (pt_cmpR op_eq (pv 1) (ClX.pe_cval (pe_glob (v := .ref (B.c 2)) (by rfl) k2.g rfl)) (by rfl)) (pss_one (ps_ret (pe_make k2.mak FI hr (by rfl) k2.g bI .nil L2.pass0 (pa_cons (pv 2) pa_nil)))) pss_nil)
      (pss_one (ps_raise rfl (takes_of rfl rfl rfl rfl) (pmk_own PySem.F.excBase_ValueError Er.e Er.g Er.k (raises_own Er.b Er.t) (by rfl)))))), ?_⟩
    have dec : ∀ y : Str, decide (V.str z = V.str y) = decide (z = y) := fun y => by rw [Bool.eq_iff_iff]; simp
    refine ⟨_, rfl, B.c 0, _, _, _, rfl, k0.rd, n0, rfl, _, rfl, ?_⟩
    rw [dec]
    by_cases z0 : z = "line"
    · refine iteT' (by rw [decide_eq_true_eq]; exact z0) ⟨_, rfl, fun x dx hx hdx hne => ?_⟩
      exact (h1 0 (by unfold lab; rw [if_pos z0])).make BB (by decide) st g hx hdx hne
    refine iteF' (by rw [decide_eq_false_iff_not]; exact z0) ⟨_, rfl, B.c 1, _, _, _, rfl, k1.rd, n1, rfl, _, rfl, ?_⟩
    rw [dec]
    by_cases z1 : z = "window"
    · refine iteT' (by rw [decide_eq_true_eq]; exact z1) ⟨_, rfl, fun x dx hx hdx hne => ?_⟩
      exact (h1 1 (by unfold lab; rw [if_neg z0, if_pos z1])).make BB (by decide) st g hx hdx hne
    refine iteF' (by rw [decide_eq_false_iff_not]; exact z1) ⟨_, rfl, B.c 2, _, _, _, rfl, k2.rd, n2, rfl, _, rfl, ?_⟩
    rw [dec]
    by_cases z2 : z = "ring"
    · refine iteT' (by rw [decide_eq_true_eq]; exact z2) ⟨_, rfl, fun x dx hx hdx hne => ?_⟩
      exact (h1 2 (by unfold lab; rw [if_neg z0, if_neg z1, if_pos z2])).make BB (by decide) st g hx hdx hne
    refine iteF' (by rw [decide_eq_false_iff_not]; exact z2) ?_
    exact h2 (by unfold lab; rw [if_neg z0, if_neg z1, if_neg z2])
end
end Ov

set_option Elab.async false
set_option linter.all false
set_option maxRecDepth 100000
set_option maxHeartbeats 4000000
/-! dicts whose keys are tuples: items walked, sorted, made by a comprehension -/
namespace Ov
open PySem PySem.Spec PyProof.Rows L2 GxR
section
variable {X : Cx} {pins : List (Addr × Obj)} {σ : L2.St} {H : Hp} {s : Shared} {d : Addr} {o : Obj}
/-- a locked dict with tuple keys: its entries, keys and values -/
theorem frzTV {kvs : List (List Key × V)} (I : Inv X pins σ H s) (h : H d = some (.frz o (.dT kvs))) : (d == sysModules) = false ∧ s.heap.get? d = some o ∧ o.ExactDict ∧ ∃ (es : Array DictEntry) (ep : Nat), o.data = .dict es ep ∧ es.size = kvs.length ∧
    ∀ (i : Nat) (k : List Key) (v : V), kvs[i]? = some (k, v) → ∃ (en : DictEntry) (q : Addr), es[i]? = some en ∧ en.key = .ref q ∧ H q = some (.tup (k.map kV)) ∧ RelV v en.val := by
  obtain ⟨hd, z, hs, xs, pr, o', es, ep, ho, hx, hdt, he, _⟩ := I.hok d _ h
  cases (hd.symm.trans ho)
  refine ⟨hs, hd, hx, es, ep, hdt, ?_, fun i k v e => ?_⟩
  · have l1 : es.size = xs.length := size_of_entries he
    have l2 : kvs.length = xs.length := Paired.length pr
    omega
  · obtain ⟨b, hb, e1, e2, e3⟩ := paired_get pr e
    refine ⟨entryOfKey (tupleKind (mixKind X.prog X.w)) b, b.2.1, ?_, rfl, e2, e3⟩
    rw [entry_at he i, hb]
    rfl
end
/-- the pairs of a locked dict with tuple keys: the key's own tuple and the value, each pair a new tuple -/
def ItiT (d : Addr) (o : Obj) (kvs : List (List Key × V)) : It :=
  ⟨fun i H => H d = some (.frz o (.dT kvs)) ∧ i < kvs.length, fun i H x H' => ∃ T k v q, kvs[i]? = some (k, v) ∧ x = .ref T ∧ H T = none ∧ H q = some (.tup (k.map kV)) ∧ H' = upd H T (.tup [.ref q, v]), fun i H => H d = some (.frz o (.dT kvs)) ∧ kvs.length ≤ i⟩
theorem walk_itemsT {d : Addr} {o : Obj} {kvs : List (List Key × V)} : Walk (ItiT d o kvs) kvs.length (fun H => H d = some (.frz o (.dT kvs))) (fun i H x H' => ∃ T k v q, kvs[i]? = some (k, v) ∧ x = .ref T ∧ H T = none ∧ H q = some (.tup (k.map kV)) ∧ H' = upd H T (.tup [.ref q, v])) :=
  ⟨fun _ _ hi q => ⟨q, hi⟩, fun _ q => ⟨q, Nat.le_refl _⟩, fun _ _ _ _ _ _ y => y⟩
theorem turn_itemsT {P : Program} {w : World} {K : PySem.W.Frag} {d : Addr} {o : Obj} {es : Array DictEntry} {ep : Nat} {kvs : List (List Key × V)} {elts : List Expr} {kk : Nat} {tpos : Pos} (it : Addr) (hod : o.data = .dict es ep) :
    L2.Turn P w K (.Tuple elts kk tpos) (ItiT d o kvs) [it] it (fun i h => ∃ ok ov, IsItemIter h it d i kvs.length ep ok ov) where
  mem := by simp
  obj := fun i h st b hb => by
    obtain rfl : b = it := by simpa using hb
    obtain ⟨ok, ov, e⟩ := st
    exact ⟨_, e, fun v z => nomatch z⟩
  keep := fun i h h' st k => let ⟨ok, ov, e⟩ := st; ⟨ok, ov, k it (by simp) _ e⟩
  item := by
    intro X hP hw hK hc i pins s σ H E I hf st hg
    subst hP hw hK
    obtain ⟨hd, hi⟩ := hg
    obtain ⟨hs, hgd, hx, es', ep', hdt, hsz, ent⟩ := frzTV I hd
    obtain ⟨rfl, rfl⟩ := dict_ep hod hdt
    obtain ⟨⟨k, v⟩, hkv⟩ : ∃ p, kvs[i]? = some p := ⟨kvs[i], List.getElem?_eq_getElem hi⟩
    obtain ⟨en, q, hen, ekey, hq, rv⟩ := ent i k v hkv
    obtain ⟨ok, ov, he⟩ := st
    rw [← hsz] at he
    have il : i < es'.size := by omega
    have een : es'[i] = en := by rw [Array.getElem?_eq_getElem il] at hen; exact Option.some.inj hen
    have hlt : it < s.heap.objs.size := Heap.lt_size he
    refine DT.nextI he ⟨o, hgd, hx, hdt⟩ il fun h1 ho hT hz hk => ?_
    rw [een, ekey] at ho hT
    refine ⟨_, rfl, wpAny_letOwnedTupleGo_items (s := { s with heap := h1 }) ho fun h2 he' sb => ?_⟩
    have hT2 := (sb.2 _ (Nat.ne_of_gt hlt)).trans hT
    have new : ObjOk X.prog X.w (upd H s.heap.objs.size (.tup [.ref q, v])) h2 s.heap.objs.size (.tup [.ref q, v]) := ⟨by show 2 ≤ sizeLine; decide, [.ref q, en.val], .cons rfl (.cons rv .nil), ⟨_, hT2, rfl, _, rfl⟩⟩
    have I1 : Inv X pins σ (upd H s.heap.objs.size (.tup [.ref q, v])) { s with heap := h2 } := I.turnedNew (t' := s.toks) (ch := [it]) (fun b ob hb e => (sb.2 b (by simpa using hb)).trans (hk b ob (by simpa using hb) e)) hf (Nat.le_refl _) new
    refine ⟨.ref s.heap.objs.size, _, I1, rfl, ⟨_, k, v, q, hkv, rfl, I.hok.fresh (Nat.le_refl _), hq, rfl⟩, ⟨.ref q, en.val, ?_⟩, fun b hb => ?_⟩
    · rw [← hsz]; exact he'
    · obtain rfl : b = it := by simpa using hb
      rw [upd_ne (Nat.ne_of_lt hlt)]
      exact (hf b (by simp)).1
  done := by
    intro X hP hw hK hc i pins s σ H E I hf st hg
    subst hP hw hK
    obtain ⟨hd, hi⟩ := hg
    obtain ⟨f0, f1, f2, f3, f4, f5⟩ := hf it (by simp)
    obtain ⟨hs, hgd, hx, es', ep', hdt, hsz, ent⟩ := frzTV I hd
    obtain ⟨rfl, rfl⟩ := dict_ep hod hdt
    obtain ⟨ok, ov, he⟩ := st
    rw [← hsz] at he
    exact DT.endI (I.ok.hd hc) he ⟨o, hgd, hx, hdt⟩ (by omega) fun h' eb => ⟨rfl, I.turned (t' := s.toks) (fun b ob hb e => eb b ob hb e) f0 f1 f3 f4 f5⟩
  self := fun A i s Q E st h => let ⟨_, _, e⟩ := st; PySem.W.kcp_self e h
def iItemsT (td : TE) : TI := fun σ H R => td σ H fun x H1 => ∃ d o kvs, x = .ref d ∧ H1 d = some (.frz o (.dT kvs)) ∧ R (ItiT d o kvs) H1
/-- for k, v in d.items(), d locked, its keys tuples -/
theorem pi_itemsT {X : Cx} {e : Expr} {td : TE} {apos cpos tpos : Pos} {elts : List Expr} {kk : Nat} (he : PE X e td) (hbase : attributeBase e "items" X.env (eval e X.env) = eval e X.env := by rfl) (hline : (apos.endLine == cpos.line) = true := by rfl) :
    PI X (.Tuple elts kk tpos) (.Call (.Attribute e "items" apos) [] [] cpos) (iItemsT td) := by
  refine ⟨fun pins s σ H R I h => ?_⟩
  refine wpAny_Call_method (T := "dict") (id := "dict.items") hbase rfl hline F.plainAttrs_dict F.slot_dict_items F.type_dict_items (thn (he.run pins s σ H _ I h) fun u s1 ⟨x, H1, I1, rx, d, o, kvs, ex, hd, q⟩ => ?_)
  subst ex
  obtain rfl : u = Value.ref d := rx
  obtain ⟨hs, hgd, hx, es, ep, hdt, hsz, ent⟩ := frzTV I1 hd
  have raw : DT.Raw s1.heap d es ep := ⟨o, hgd, hx, hdt⟩
  refine ⟨raw.typeIs, fun b e => ?_, ?_⟩
  · cases e
    exact ⟨o, hgd, hx.2.1⟩
  have I2 : Inv X pins σ H1 { s1 with heap := s1.heap.push { cls := .type "dict_items", data := .fields #[.ref d] } } := I1.kept (t' := s1.toks) fun b ob q => Heap.get?_push_of_some _ q
  have fin : wpAny (model X.prog X.w) X.A (pyIter (.ref s1.heap.objs.size)) (PIE X pins σ (.Tuple elts kk tpos) R) X.xe { s1 with heap := s1.heap.push { cls := .type "dict_items", data := .fields #[.ref d] } } := by
    refine DT.iterI (d := d) (es := es) (ep := ep) ⟨_, Heap.get?_push_size _ rfl, rfl, rfl⟩ (raw.push _) (pi_one (tk := s1.toks) I2 _ (turn_itemsT _ hdt) ⟨.none, .none, ?_⟩ q)
    rw [← hsz]
    exact Heap.get?_push_size _ rfl
  show wpAny _ _ (callWith cpos (.builtin "dict.items") [.ref d] [] []) _ X.xe s1
  exact method_meetsIn F.slot_dict_items F.entry_dict_items rfl (PySem.evalArgs_none ⟨rfl, raw.typeIs, F.args_dict_items_1 _, _, DT.meetsItems (es := es) (ep := ep) hs, raw, fin⟩)
/-! ### sorted(d), its keys pairs of whole numbers that ascend -/
abbrev pkey (p : Int × Int) : List Key := [Sum.inl p.1, Sum.inl p.2]
/-- sorted(d), d's keys pairs of whole numbers, in ascending order already: a new list of the keys' tuples in their order -/
def rSortT : List V → Hp → VK → Prop := fun vs H Q => ∃ (a : Addr) (kvs : List (List Key × V)) (ks : List (Int × Int)), vs = [V.ref a] ∧ Rd H a (.dT kvs) ∧ kvs.map Prod.fst = ks.map pkey ∧ ks.Pairwise (fun p q => SrtO.lexB q p = false) ∧
  ∀ p bs, H p = none → IsKeys H kvs bs → Q (.ref p) (upd H p (.lst (bs.map V.ref)))
theorem cr_sortT {X : Cx} (hc : X.calm = true) : CallR X (.builtin "sorted") rSortT := by
  intro pins s σ H vs us Q I r h
  obtain ⟨d, kvs, ks, rfl, hd, ek, hs, q⟩ := h
  obtain rfl := Vals.ref1 r
  obtain ⟨z, lo, xs, pr, o, es, ep, ho, hx, hdt, he, hn⟩ := (show ObjOk X.prog X.w H s.heap d (.dT kvs) from hd.ok I.hok)
  have l1 : es.size = xs.length := size_of_entries he
  have l2 : kvs.length = xs.length := Paired.length pr
  have l3 : kvs.length = ks.length := by have := congrArg List.length ek; rwa [List.length_map, List.length_map] at this
  refine Calls.call_function_entry PyProof.Rows.kind_sorted PyProof.Rows.plain_sorted PyProof.Rows.entry_sorted (PyProof.Rows.args_sorted1 _) ?_
  unfold Builtin.«sorted»
  refine wpAny_bind (m := checkCount "sorted" 1 1 _) (wpAny_pure ?_)
  refine wpAny_bind (PySem.W.kdu_collect (A := X.A.in1) (kdl_raw lo hx hdt) (I.ok.hd hc) ho (by omega) fun h1 tk acc hk hacc => ?_)
  have ea : acc.toList = (xs.map fun x => x.2.1).map Value.ref := by
    rw [List.map_map]
    refine List.ext_getElem? fun j => ?_
    rw [List.getElem?_map]
    have jj := entry_at he j
    by_cases hj : j < acc.size
    · obtain ⟨en, hen, hv⟩ := hacc.2 j acc[j] (Array.getElem?_eq_getElem hj)
      rw [Array.getElem?_toList, Array.getElem?_eq_getElem hj, hv]
      rw [hen] at jj
      rcases hb : xs[j]? with _ | b
      · rw [hb] at jj; exact nomatch jj
      · rw [hb] at jj
        cases jj
        rfl
    · rw [Array.getElem?_toList, Array.getElem?_eq_none (by omega), List.getElem?_eq_none (by rw [← l1, ← hacc.1]; omega)]
      rfl
  generalize hbs : (xs.map fun x => x.2.1) = bs at ea
  have kb : IsKeys H kvs bs := by rw [← hbs]; exact isKeys_of pr
  have lb : bs.length = kvs.length := by rw [← hbs, List.length_map]; omega
  have hz : acc.toList.length ≤ sizeLine := by rw [ea, List.length_map]; omega
  have I1 : Inv X pins σ H { s with heap := h1, toks := tk } := I.kept hk
  refine wpAny_bind (wpAny_newList ?_ hz)
  have hoL : (h1.push (seqObj "list" acc.toList.toArray 0)).get? h1.objs.size = some (seqObj "list" acc.toList.toArray 0) := Heap.get?_push_size _ rfl
  show wpAny _ _ _ _ _ { s with heap := h1.push (seqObj "list" acc.toList.toArray 0), toks := tk }
  -- each key's pair
  have at_ : ∀ j b, bs[j]? = some b → ∃ p : Int × Int, ks[j]? = some p ∧ H b = some (.tup [.int p.1, .int p.2]) := fun j b hb => by
    have hj : j < kvs.length := by rw [← lb]; exact (List.getElem?_eq_some_iff.mp hb).1
    obtain ⟨b', hb', e2⟩ := paired_get kb (List.getElem?_eq_getElem hj)
    cases hb.symm.trans hb'
    have ej := congrArg (fun l => l[j]?) ek
    simp only [List.getElem?_map, List.getElem?_eq_getElem hj] at ej
    rcases hp : ks[j]? with _ | p
    · rw [hp] at ej; exact nomatch ej
    · rw [hp] at ej
      have : kvs[j].1 = pkey p := Option.some.inj ej
      rw [this] at e2
      exact ⟨p, hp, e2⟩
  -- the order's key
  let kf : Value → Int × Int := fun v => match v with
    | .ref b => match H b with
      | some (.tup [.int i, .int j]) => (i, j)
      | _ => (0, 0)
    | _ => (0, 0)
  have kfe : ∀ {b : Addr} {p : Int × Int}, H b = some (.tup [.int p.1, .int p.2]) → kf (.ref b) = p := fun {b p} e => by show (match H b with | some (.tup [.int i, .int j]) => (i, j) | _ => (0, 0)) = p; rw [e]
  have isp : ∀ v ∈ acc.toList, Srt.IsPair (h1.push (seqObj "list" acc.toList.toArray 0)) v (kf v).1 (kf v).2 := fun v hv => by
    rw [ea] at hv
    obtain ⟨b, hb, rfl⟩ := List.mem_map.mp hv
    obtain ⟨j, hj⟩ := List.mem_iff_getElem?.mp hb
    obtain ⟨p, _, e⟩ := at_ j b hj
    rw [kfe e]
    obtain ⟨_, its, rv, ob, hob, hcl, n, hdat⟩ := I1.hok _ _ e
    obtain ⟨u1, u2, rfl, ⟨t1, rfl⟩, ⟨t2, rfl⟩⟩ := vals2 rv
    exact ⟨b, ob, t1, t2, n, rfl, Heap.get?_push_of_some _ hob, hcl, hdat⟩
  have srt : SrtO.Srtd (fun v u => SrtO.lexB (kf v) (kf u)) acc.toList := by
    rw [ea]
    have key : ∀ (bs : List Addr) (ks : List (Int × Int)), bs.length = ks.length → (∀ (j : Nat) (b : Addr), bs[j]? = some b → ∃ p : Int × Int, ks[j]? = some p ∧ H b = some (.tup [.int p.1, .int p.2])) → ks.Pairwise (fun p q => SrtO.lexB q p = false) → (bs.map Value.ref).Pairwise fun v u => SrtO.lexB (kf u) (kf v) = false := by
      intro bs
      induction bs with
      | nil => intro _ _ _ _; exact List.Pairwise.nil
      | cons b r ih =>
        intro ks hl ha hp
        cases ks with
        | nil => simp at hl
        | cons p ks =>
          rw [List.pairwise_cons] at hp
          rw [List.map_cons, List.pairwise_cons]
          refine ⟨fun u hu => ?_, ih ks (by simpa using hl) (fun j c hj => ha (j + 1) c (by simpa using hj)) hp.2⟩
          obtain ⟨c, hc, rfl⟩ := List.mem_map.mp hu
          obtain ⟨j, hj⟩ := List.mem_iff_getElem?.mp hc
          obtain ⟨p', hp', e'⟩ := ha (j + 1) c (by simpa using hj)
          obtain ⟨p0, hp0, e0⟩ := ha 0 b rfl
          cases (show some p = some p0 from hp0)
          rw [kfe e0, kfe e']
          exact hp.1 p' (List.mem_of_getElem? (show ks[j]? = some p' by simpa using hp'))
    exact key bs ks (by omega) at_ hs
  refine wpAny_bind (wpAny_holding (wpAny_call_entry PyProof.Rows.slot_list_sort ⟨_, hoL, rfl⟩ PyProof.Rows.entry_list_sort
    (SrtO.list_sort_ord (s := { s with heap := h1.push (seqObj "list" acc.toList.toArray 0), toks := tk }) (SrtO.swo_lex kf) hoL hz (fun h2 => SrtO.pairs_sortableO (by omega) isp fun ob e c => ?_) fun out o1 o2 => ⟨_, rfl, ?_⟩) (PyProof.Rows.args_list_sort _)))
  · cases (hoL.symm.trans e)
    exact absurd (Value.type.inj c) (by decide)
  have eo : out = acc.toList := SrtO.stb_uniq (SrtO.swo_lex kf) o1 srt o2
  subst eo
  obtain ⟨e', he'⟩ := PyProof.Rows.sortedHeap_at (vs := acc.toList) (out := acc.toList.toArray) hoL
  refine wpAny_pure ⟨_, rfl, .ref h1.objs.size, upd H h1.objs.size (.lst (bs.map V.ref)), I1.laid (t' := tk) (fun b u e => ?_) (Nat.le_refl _) ⟨by rw [List.length_map]; omega, acc.toList, e', by rw [ea]; exact vals_refs bs, he'⟩, rfl, q _ bs (I1.hok.fresh (Nat.le_refl _)) kb⟩
  have hb : b < h1.objs.size := Heap.lt_size e
  rw [PyProof.Rows.sortedHeap_old (Nat.ne_of_lt hb) (by rw [size_push']; exact Nat.lt_succ_of_lt hb)]
  exact Heap.get?_push_of_some _ e
end Ov

set_option Elab.async false
set_option linter.all false
set_option maxRecDepth 100000
set_option maxHeartbeats 4000000
/-! dict comprehensions, the dict of any kind of keys (DPut tells the store) -/
namespace Ov
open PySem PySem.Spec PyProof.Rows L2 GxR
section
variable {X : Cx} {pins : List (Addr × Obj)} {σ : L2.St} {H H' : Hp} {s : Shared} {E : Value → Shared → Prop}
theorem putAny {D : Addr} {y v : V} {u r : Value} {Q : Unit → Shared → Prop} (hu : X.A.units + 1 < cLine) (I : Inv X pins σ H s) (g : DPut H D y v H') (ry : RelV y u) (rv : RelV v r) (h : ∀ s', Inv X pins σ H' s' → Q () s') :
    wpAny (model X.prog X.w) X.A (dictSet D u r) Q E s := by
  rcases g with ⟨kvs, k, e, rfl, l, rfl⟩ | ⟨kvs, k, b, e, rfl, eb, l, rfl⟩
  · exact L2.d_dictSet I e l ry rv h
  · obtain rfl : u = Value.ref b := ry
    obtain ⟨z, lo, xs, rel, dd⟩ := dt_of I.hok e
    have lz : xs.length ≤ sizeLine := by rw [← Paired.length rel]; exact z
    have lp := length_putK kvs k v
    refine wpAny_dictSet_heap (hsz := lz) (show X.A.units < cLine by omega) (key_of I.hok eb) dd fun h1 d1 sb => h _ ?_
    obtain ⟨ob, es, ep, q1, q2, q3, q4, _, q5⟩ := d1
    refine d_write I (by rw [e]; exact True.intro) sb ⟨ob, q1⟩ ⟨by omega, lo, _, (rel.put k eb rv).keeps fun c ys ec => ?_, ob, es, ep, q1, q2, q3, q4, q5⟩
    exact (upd_ne (ne_of ec e fun z => nomatch z)).trans ec
end
/-- a new dict, of either kind -/
def Empty0 (o : HO) : Prop := o = .dK [] ∨ o = .dT []
theorem Empty0.ok {o : HO} (e : Empty0 o) {P : Program} {w : World} {H : Hp} (h : Heap) (hb : sysModules < h.objs.size) : ObjOk P w H (h.push { cls := .type "dict", data := .dict #[] }) h.objs.size o := by
  rcases e with rfl | rfl
  · exact dk_empty h hb
  · exact dt_empty h hb
/-- {k: v for target in iter if ..}: D the new dict -/
def tDcG (o0 : HO) (wi : TI) (g : TG) (tt : TT) (tk tv : TE) (vs : List Nat) : TE := fun σ H Q => wi σ H fun J H1 => ∀ D, H1 D = none → ∃ W : Nat → Nat → Hp → Prop, (∃ m, W 0 m (upd H1 D o0)) ∧ ∀ i m H, W i m H →
  (J.stop i H ∧ Q (.ref D) H) ∨ (J.go i H ∧ ∃ Nx : Hp → Prop, (∀ H', Nx H' → ∃ m', m' < m ∧ W (i + 1) m' H') ∧ ∀ x H', J.yld i H x H' → g x (wipe σ vs) H' fun σ2 H2 => wipe σ2 vs = wipe σ vs ∧ tt σ2 H2 fun b H3 =>
    if b = true then tk σ2 H3 fun y H4 => tv σ2 H4 fun z H5 => ∃ H6, DPut H5 D y z H6 ∧ Nx H6 else Nx H3)
section
variable {X : Cx} {kx vx tg iter : Expr} {ifs : List Expr} {scope : Scope} {own : List (Str × Nat)} {wi : TI} {g : TG} {tt : TT} {tk tv : TE} {o0 : HO}
/-- the parts of a dict comprehension, each read in the block -/
structure DcP (X : Cx) (kx vx tg iter : Expr) (ifs : List Expr) (scope : Scope) (own : List (Str × Nat)) (wi : TI) (g : TG) (tt : TT) (tk tv : TE) : Prop where
  calm : X.calm = true
  un : X.A.units + 1 < cLine
  nd : X.N.Nodup
  it : PI X tg iter wi
  blk : BlkOk X.N X.env.scope scope own
  tgt : ∀ (s : Shared) (H : Hp) (C : Addr) (cl : List (Str × Addr)) (fp : List Addr), PG (X.blk s H scope (compEnvC scope cl C X.env) fp) tg g
  tst : ∀ (s : Shared) (H : Hp) (C : Addr) (cl : List (Str × Addr)) (fp : List Addr), PTs (X.blk s H scope (compEnvC scope cl C X.env) fp) ifs tt
  key : ∀ (s : Shared) (H : Hp) (C : Addr) (cl : List (Str × Addr)) (fp : List Addr), PE (X.blk s H scope (compEnvC scope cl C X.env) fp) kx tk
  val : ∀ (s : Shared) (H : Hp) (C : Addr) (cl : List (Str × Addr)) (fp : List Addr), PE (X.blk s H scope (compEnvC scope cl C X.env) fp) vx tv
  fold : ∀ x, foldedSetIterable iter X.env x = pure x
/-- the loop of the block, turn by turn -/
theorem dcLoop {pins : List (Addr × Obj)} {sc sd : Shared} {σ : L2.St} {Hc : Hp} {ce : Env} {fp : List Addr} {it D : Addr} {tn : Nat → Heap → Prop} {J : It} {Q : VK} {pos : Pos} {W : Nat → Nat → Hp → Prop} {m0 : Nat} {R : Result → Shared → Prop} (calm : X.calm = true) (un : X.A.units + 1 < cLine)
    (T : L2.Turn X.prog X.w X.K tg J fp it tn) (Ic : Inv X pins σ Hc sc) (Id : Inv (X.blk sc Hc scope ce fp) [] (wipe σ (own.map (·.2))) Hc sd) (cL : ce.locals = sc.heap.objs.size) (fc : ∀ b ∈ fp, FpOk X pins Hc b ∧ b < sc.heap.objs.size) (std : tn 0 sd.heap) (w0 : W 0 m0 Hc)
    (rg : PG (X.blk sc Hc scope ce fp) tg g) (rt : PTs (X.blk sc Hc scope ce fp) ifs tt) (rk : PE (X.blk sc Hc scope ce fp) kx tk) (rv : PE (X.blk sc Hc scope ce fp) vx tv)
    (turn : ∀ i m H, W i m H → (J.stop i H ∧ Q (.ref D) H) ∨ (J.go i H ∧ ∃ Nx : Hp → Prop, (∀ H', Nx H' → ∃ m', m' < m ∧ W (i + 1) m' H') ∧ ∀ x H', J.yld i H x H' → g x (wipe σ (own.map (·.2))) H' fun σ2 H2 => wipe σ2 (own.map (·.2)) = wipe σ (own.map (·.2)) ∧ tt σ2 H2 fun b H3 =>
      if b = true then tk σ2 H3 fun y H4 => tv σ2 H4 fun z H5 => ∃ H6, DPut H5 D y z H6 ∧ Nx H6 else Nx H3))
    (after : ∀ s' m H', Inv X pins σ H' s' → Q (.ref D) H' → s'.heap.Ns sc.heap.objs.size m → FpOk X pins H' sc.heap.objs.size → R (.ok .next) s') :
    codeAny (model X.prog X.w) X.A (.compLoop (.DictComp kx vx [⟨tg, iter, ifs, 0⟩] scope pos) 0 (.ref it) (.ref D) ce) R sd := by
  have own_ : ∀ {σ' : L2.St} {H' : Hp} {s' : Shared}, Inv (X.blk sc Hc scope ce fp) [] σ' H' s' → (∀ b ∈ fp, H' b = none) → ∀ b ∈ fp, FpOk (X.blk sc Hc scope ce fp) [] H' b := fun I n b hb => ⟨n b hb, (I.ok.exf b hb).1, I.ok.exfs b hb, .inl hb, fun x c e => (I.ok.exf b hb).2 x c e, fun p hp => nomatch hp⟩
  refine L2.compLoop_anyD (fun n s' => ∃ i H', Inv (X.blk sc Hc scope ce fp) [] (wipe σ (own.map (·.2))) H' s' ∧ tn i s'.heap ∧ (∀ b ∈ fp, H' b = none) ∧ W i n H') ?_ m0 ⟨0, Hc, Id, std, fun b hb => (fc b hb).1.1, w0⟩
  rintro n se ⟨i, He, Ie, ste, ne, we⟩
  rcases turn i n He we with ⟨stop, fine⟩ | ⟨go, Nx, down, step⟩
  · -- no item is left: back in the def
    refine thnF (T.done (X.blk sc Hc scope ce fp) rfl rfl rfl calm i [] se _ He (fun _ _ => False) Ie (own_ Ie ne) ste stop) fun r sf ⟨er, If⟩ => ?_
    subst er
    have Ig : Inv X pins σ He sf := Ic.call' (ch := fp) If.os If.base If.hok If.bare fun b hb => let f := (fc b hb).1.2; ⟨f.2.2.1, f.1, f.2.2.2.1, f.2.2.2.2⟩
    have nC : He sc.heap.objs.size = none := cL ▸ (show He ce.locals = none from If.free)
    obtain ⟨m, hn, _⟩ := If.loc
    exact after sf m He Ig fine (cL ▸ (show sf.heap.Ns ce.locals m from hn)) (Ic.fpOk (Nat.le_refl _) nC)
  · refine thnF (T.item (X.blk sc Hc scope ce fp) rfl rfl rfl calm i [] se _ He (fun _ _ => False) Ie (own_ Ie ne) ste go) fun r sf ⟨u, er, hu⟩ => ?_
    subst er
    refine thnF hu fun _ sg ⟨x, Hg, Ig, rx, yx, stg, ng⟩ => ?_
    refine thnF (rg.run _ sg _ Hg x u _ (Ig.pinned (own_ Ig ng) (T.obj _ _ stg)) rx (step x Hg yx)) fun _ sh ⟨σh, Hh, Ih, ew, qh⟩ => ?_
    refine thnF (rt.run _ sh σh Hh _ Ih qh) fun b si ⟨Hi, Ii, qi⟩ => ?_
    -- the turn's end: the footprint stands, the block's names are forgotten
    have next : ∀ {s' : Shared} {H' : Hp}, Inv (X.blk sc Hc scope ce fp) ([] ++ pinsAt fp sg.heap) σh H' s' → Nx H' → ∃ m, m < n ∧ ∃ i H', Inv (X.blk sc Hc scope ce fp) [] (wipe σ (own.map (·.2))) H' s' ∧ tn i s'.heap ∧ (∀ b ∈ fp, H' b = none) ∧ W i m H' := fun {s' H'} I nx => by
      obtain ⟨m', hm, w'⟩ := down H' nx
      have pin : ∀ b ∈ fp, ∀ o, sg.heap.get? b = some o → s'.heap.get? b = some o ∧ H' b = none := fun b hb o e => let z := I.pin (b, o) (List.mem_append_right _ (List.mem_append_right _ (mem_pinsAt hb e))); ⟨z.1, z.2.1⟩
      refine ⟨m', hm, i + 1, H', (I.unpinned (pins := [])).weak (by rw [← ew, wipe_length]) fun j v e => (wipe_some (ew ▸ e)).1, T.keep _ _ _ stg fun b hb o e => (pin b hb o e).1, fun b hb => ?_, w'⟩
      obtain ⟨o, e, _⟩ := T.obj _ _ stg b hb
      exact (pin b hb o e).2
    cases b with
    | false => exact next Ii (by simpa using qi)
    | true =>
      simp only [if_true] at qi ⊢
      refine thnF (rk.run _ si σh Hi _ Ii qi) fun uk sj ⟨yk, Hj, Ij, rj, qj⟩ => ?_
      refine thnF (rv.run _ sj σh Hj _ Ij qj) fun uv sk ⟨yv, Hk, Ik, rk', Hl, put, nx⟩ => ?_
      exact putAny (X := X.blk sc Hc scope ce fp) un Ik put rj rk' fun sl Il => next Il nx
theorem dcRun {pins : List (Addr × Obj)} {s : Shared} {σ : L2.St} {H : Hp} {Q : VK} {pos pos' : Pos} {use : Option (Value → Sem Unit)} {Qf : Value → Shared → Prop} (c : DcP X kx vx tg iter ifs scope own wi g tt tk tv) (e0 : Empty0 o0) (I : Inv X pins σ H s) (h : tDcG o0 wi g tt tk tv (own.map (·.2)) σ H Q)
    (after : ∀ D C s' m H', Inv X pins σ H' s' → Q (.ref D) H' → s'.heap.Ns C m → FpOk X pins H' C → compPost (model X.prog X.w) X.A X.xe use Qf (.ref D) C (.ok .next) s') :
    wpAny (model X.prog X.w) X.A (comprehension (.DictComp kx vx [⟨tg, iter, ifs, 0⟩] scope pos) scope X.env pos' newDict false (eval iter X.env) use) Qf X.xe s := by
  have cells : ∀ y ∈ scope.names, y.2 = .free → ∃ c, X.env.cells.lookup y.1 = some c := fun y hy e => I.ok.has _ (c.blk.free y hy e)
  refine wpAny_comprehension_free (use := use) rfl c.fold (closure_ok cells) c.blk.kind (fun y hy e => by rw [c.blk.uniq y hy, e]) (thn (c.it.run pins s σ H _ I h) fun xv sa ha => thn ha fun iv sb hb => ?_)
  obtain ⟨it, fp, tn, J, Hb, rfl, Ib, T, stb, fb, q⟩ := hb
  refine wpAny_newObj_type (newEnv_comp ?_)
  -- the new dict, at D
  have Dn : Hb sb.heap.objs.size = none := Ib.hok.fresh (Nat.le_refl _)
  obtain ⟨W, ⟨m0, w0⟩, turn⟩ := q sb.heap.objs.size Dn
  have Ic : Inv X pins σ (upd Hb sb.heap.objs.size o0) { sb with heap := sb.heap.push { cls := .type "dict", data := .dict #[] } } := Ib.laid (t' := sb.toks) (fun _ _ z => Heap.get?_push_of_some _ z) (Nat.le_refl _) (e0.ok _ Ib.big)
  have lt : ∀ b ∈ fp, b < sb.heap.objs.size := fun b hb => let ⟨_, e, _⟩ := T.obj _ _ stb b hb; Heap.lt_size e
  generalize hD : sb.heap.objs.size = D at Dn turn Ic lt w0 ⊢
  have fc : ∀ b ∈ fp, FpOk X pins (upd Hb D o0) b ∧ b < (sb.heap.push { cls := .type "dict", data := .dict #[] }).objs.size := fun b hb => ⟨⟨(upd_ne (Nat.ne_of_lt (lt b hb))).trans (fb b hb).1, (fb b hb).2⟩, by rw [Heap.size_push, hD]; exact Nat.lt_succ_of_lt (lt b hb)⟩
  have stc : tn 0 (sb.heap.push { cls := .type "dict", data := .dict #[] }) := T.keep _ _ _ stb fun b _ o e => Heap.get?_push_of_some _ e
  generalize hsc : ({ sb with heap := sb.heap.push { cls := .type "dict", data := .dict #[] } } : Shared) = sc at Ic
  have hsc' : sc.heap = sb.heap.push { cls := .type "dict", data := .dict #[] } := by rw [← hsc]
  rw [← hsc'] at fc stc
  have Id := block_start Ic c.blk c.nd fc
  have rg := c.tgt sc (upd Hb D o0) sc.heap.objs.size (cellsFrom (sc.heap.objs.size + 1) scope.names (cloFrom X.env.cells scope.names [])) fp
  have rt := c.tst sc (upd Hb D o0) sc.heap.objs.size (cellsFrom (sc.heap.objs.size + 1) scope.names (cloFrom X.env.cells scope.names [])) fp
  have rk := c.key sc (upd Hb D o0) sc.heap.objs.size (cellsFrom (sc.heap.objs.size + 1) scope.names (cloFrom X.env.cells scope.names [])) fp
  have rv := c.val sc (upd Hb D o0) sc.heap.objs.size (cellsFrom (sc.heap.objs.size + 1) scope.names (cloFrom X.env.cells scope.names [])) fp
  have goal : codeAny (model X.prog X.w) X.A (.compStart (.DictComp kx vx [⟨tg, iter, ifs, 0⟩] scope pos) 0 (.ref it) (.ref D) (compEnvC scope (cellsFrom (sc.heap.objs.size + 1) scope.names (cloFrom X.env.cells scope.names [])) sc.heap.objs.size X.env)) (compPost (model X.prog X.w) X.A X.xe use Qf (.ref D) sc.heap.objs.size)
      { sc with heap := pushCells (sc.heap.push { cls := .type "dict", data := .dict #[] }) scope.names } := by
    have std : tn 0 (pushCells (sc.heap.push { cls := .type "dict", data := .dict #[] }) scope.names) := T.keep _ _ _ stc fun b _ o e => pushCells_keeps _ _ _ _ (Heap.get?_push_of_some _ e)
    have loop := dcLoop (iter := iter) (pos := pos) (R := compPost (model X.prog X.w) X.A X.xe use Qf (.ref D) sc.heap.objs.size) c.calm c.un T Ic Id rfl fc std w0 rg rt rk rv turn fun s' m H' I' fine hn f => after D _ s' m H' I' fine hn f
    exact codeAny_compStart_dict loop (T.self X.A 0 _ _ _ std loop)
  exact goal
/-- as a value -/
theorem pe_dcG {pos : Pos} (c : DcP X kx vx tg iter ifs scope own wi g tt tk tv) (e0 : Empty0 o0) : PE X (.DictComp kx vx [⟨tg, iter, ifs, 0⟩] scope pos) (tDcG o0 wi g tt tk tv (own.map (·.2))) := by
  refine ⟨fun pins s σ H Q I h => ?_⟩
  rw [arm_eval_DictComp]
  refine dcRun c e0 I h fun D C s' m H' I' q hn f => ⟨m, hn, fun h2 sb => ⟨.ref D, H', ?_, rfl, q⟩⟩
  obtain ⟨f0, f1, f2, f3, f4, f5⟩ := f
  exact I'.turned (t' := s'.toks) (fun b o hb e => (sb.2 b hb).trans e) f0 f1 f3 f4 f5
/-- name = {k: v for ..} on one line, the name a local -/
theorem ps_setDcG {i : Nat} {y : Str} {py pos spos : Pos} (c : DcP X kx vx tg iter ifs scope own wi g tt tk tv) (e0 : Empty0 o0) (hy : X.N[i]? = some y) (hyl : X.env.scope.names.lookup y = some .local) (hsw : swapsWith (.DictComp kx vx [⟨tg, iter, ifs, 0⟩] scope pos) (some (.Name y py)) spos.line X.env = pure true) :
    PS X (.Assign [.Name y py] (.DictComp kx vx [⟨tg, iter, ifs, 0⟩] scope pos) spos) (tAsg (tDcG o0 wi g tt tk tv (own.map (·.2))) (gName i)) := by
  refine ⟨fun pins s σ H D I h => ?_⟩
  rw [exec_Assign_Name_used _ _ _ _ hsw]
  refine wpAny_bind (wpAny_standAt (wpAny_bind ?_))
  have h : tDcG o0 wi g tt tk tv (own.map (·.2)) σ H (fun x H1 => gName i x σ H1 D.nx) := h
  refine wpAny_bind (thn (dcRun (Qf := fun _ s' => SP X pins D .next s') c e0 I h fun L C s' m H' I' q hn f => ?_) fun _ s' hq => wpAny_pure (wpAny_pure hq))
  refine wpAny_assign_Name (store_ok2 (v := V.ref L) I' c.nd hy (.inl hyl) rfl (fun s2 I2 ⟨a, sb, ha⟩ => ?_) (.inr hyl))
  obtain ⟨f0, f1, f2, f3, f4, f5⟩ := f
  refine ⟨m, hn.sameBut sb ?_, fun h3 sb3 => ⟨_, H', I2.turned (t' := s2.toks) (fun b o hb e => (sb3.2 b hb).trans e) f0 f1 f3 f4 f5, q⟩⟩
  rcases ha with z | z
  · exact z ▸ f1
  · exact fun e => f4 y a z e.symm
theorem swD {kx vx : Expr} {gs : List Comprehension} {scope : Scope} {pos py : Pos} {y : Str} {l : Nat} {env : Env} (hk : env.scope.kind = .function) (hy : env.scope.names.lookup y = some .local) (hl : (py.line == pos.line) = true)
    (ha : (scope.names.any fun (n, k) => n == y && (k == .local || k == .cell)) = false) : swapsWith (.DictComp kx vx gs scope pos) (some (.Name y py)) l env = pure true := by
  have ky : env.kindOf y = some .local := hy
  have hb : env.blockKind = .function := by unfold Env.blockKind; rw [hk]; rfl
  unfold swapsWith
  simp only [hb, ky, ha, Expr.pos, hl]
  rfl
/-- a comprehension over what is walked, with tuple keys -/
theorem dcG_it {J : It} {n : Nat} {G : Hp → Prop} {Y : Nat → Hp → V → Hp → Prop} (w : Walk J n G Y) {vs : List Nat} {σ : L2.St} {H1 : Hp} {D : Addr} {Qd : Hp → Prop} (Pv : Nat → Hp → Prop) (h0 : Pv 0 (upd H1 D o0)) (hG : ∀ i H, i ≤ n → Pv i H → G H)
    (hs : ∀ i x H H', i < n → Pv i H → Y i H x H' → g x (wipe σ vs) H' fun σ2 H2 => wipe σ2 vs = wipe σ vs ∧ tt σ2 H2 fun b H3 => if b = true then tk σ2 H3 fun y H4 => tv σ2 H4 fun z H5 => ∃ H6, DPut H5 D y z H6 ∧ Pv (i + 1) H6 else Pv (i + 1) H3) (hd : ∀ H, Pv n H → Qd H) :
    ∃ W : Nat → Nat → Hp → Prop, (∃ m, W 0 m (upd H1 D o0)) ∧ ∀ i m H, W i m H → (J.stop i H ∧ Qd H) ∨ (J.go i H ∧ ∃ Nx : Hp → Prop, (∀ H', Nx H' → ∃ m', m' < m ∧ W (i + 1) m' H') ∧ ∀ x H', J.yld i H x H' → g x (wipe σ vs) H' fun σ2 H2 => wipe σ2 vs = wipe σ vs ∧ tt σ2 H2 fun b H3 =>
      if b = true then tk σ2 H3 fun y H4 => tv σ2 H4 fun z H5 => ∃ H6, DPut H5 D y z H6 ∧ Nx H6 else Nx H3) := by
  refine ⟨fun i m H => m = n - i ∧ i ≤ n ∧ Pv i H, ⟨n, by simp, Nat.zero_le _, h0⟩, ?_⟩
  rintro i m H ⟨rfl, hi, p⟩
  by_cases c : i < n
  · exact .inr ⟨w.goes i H c (hG i H hi p), Pv (i + 1), fun H' p' => ⟨n - (i + 1), by omega, rfl, c, p'⟩, fun x H' y => hs i x H H' c p (w.yields i H x H' c (hG i H hi p) y)⟩
  · obtain rfl : i = n := by omega
    exact .inl ⟨w.stops H (hG i H hi p), hd H p⟩
end
end Ov

set_option Elab.async false
set_option linter.all false
set_option maxRecDepth 100000
set_option maxHeartbeats 4000000
/-! min(xs, default=d), xs a list of whole numbers -/
namespace Md
open PySem PyProof.Rows PySem.Spec
abbrev dk (d : Value) : List (Str × Value) := [(Str.ofString "default", d)]
theorem argsMd (a v : Value) : argsOk "min" ⟨[a], dk v⟩ := by unfold argsOk; kernel_rfl
section
variable {prog : Program} {w : World} {A : Around} {R : Result → Shared → Prop} {I : Addr} {fp wr : List Addr} {n : Nat} {P : Nat → Value → Prop} {St : Nat → Heap → Prop} {dv : Value}
theorem nm : (toString "min" ++ toString ".loop" : String) = "min.loop" := by decide
/-- the turns behind the first one -/
theorem loopMd (W : Walks prog w A.in1 I fp wr n P St) (bt : Nat → Nat → Bool) (cmp : CmpOf prog w A.in1 .Lt P bt) (S : Addr) (nS : S ∉ fp) : ∀ (k j : Nat) (s : Shared) (vb : Value) (c : Nat), n - (j + 1) = k → j + 1 ≤ n → St (j + 1) s.heap → P (argBest bt j) vb →
    s.heap.get? S = some (seqObj "list" #[vb, vb] c) → (∀ v h' tk, P (argBest bt (n - 1)) v → (∀ b o, b ∉ wr → b ≠ S → s.heap.get? b = some o → h'.get? b = some o) → R (.ok (.ret v)) { s with heap := h', toks := tk }) →
    codeAny (model prog w) A (.builtin "min.loop" ⟨[.ref I, .none, .ref S], dk dv⟩) R s := by
  have nW : S ∉ wr := fun h => nS (W.sub _ h)
  intro k
  induction k with
  | zero =>
    intro j s vb c hk hj st pb eS fin
    have jn : n = j + 1 := by omega
    subst jn
    refine codeAny_builtin PySem.F.entry_min_loop ?_
    rw [Around.under_plainId PySem.F.plain_min_loop _]
    refine wpAny_bind (m := seqItems? (.ref S)) (wpAny_seqItems eS rfl ?_)
    refine wpAny_bind (m := tryCatch (pyNext (.ref I)) _) (wpAny_tryCatch (W.done s _ _ st fun h1 tk k1 => ?_))
    refine wpAny_bind (m := updateSeq S fun _ => #[]) (wpAny_updateSeq (k1 S _ nW eS) rfl (wpAny_bind (wpAny_letGo (wpAny_pure ?_))))
    exact fin vb _ tk pb fun b o hb hS e => (Heap.get?_update_other _ _ (Ne.symm hS)).trans (k1 b o hb e)
  | succ k ih =>
    intro j s vb c hk hj st pb eS fin
    refine codeAny_builtin PySem.F.entry_min_loop ?_
    rw [Around.under_plainId PySem.F.plain_min_loop _]
    refine wpAny_bind (m := seqItems? (.ref S)) (wpAny_seqItems eS rfl ?_)
    refine wpAny_bind (m := tryCatch (pyNext (.ref I)) _) (wpAny_tryCatch (W.item (j + 1) s _ _ (by omega) st fun v h1 tk pv st1 k1 => ?_))
    have eS1 := k1 S _ nW eS
    refine wpAny_bind (m := tryCatch (holding [v, v] (richCompare .Lt v vb >>= _)) _) (wpAny_tryCatch (wpAny_holding (wpAny_bind (cmp (j + 1) (argBest bt j) v vb _ _ _ pv pb ?_))))
    refine wpAny_bind (wpAny_holding (wpAny_truthy_bool (wpAny_bind (wpAny_letGo (wpAny_pure ?_)))))
    rcases hb : bt (j + 1) (argBest bt j) with _ | _
    · simp only [Bool.false_eq_true, if_false]
      refine wpAny_bind (wpAny_letGo ?_)
      rw [nm]
      refine wpAny_pure ⟨plainId_quiet PySem.F.plain_min_loop _, ih (j + 1) _ vb c (by omega) (by omega) st1 (by unfold argBest; rw [hb]; exact pb) eS1 fun v' h2 tk2 p2 k2 => ?_⟩
      exact fin v' h2 tk2 p2 fun b o hw hS e => k2 b o hw hS (k1 b o hw e)
    · simp only [if_true]
      refine wpAny_bind ?_
      refine wpAny_updateSeq eS1 rfl (wpAny_bind (wpAny_letGo ?_))
      rw [nm]
      refine wpAny_pure ⟨plainId_quiet PySem.F.plain_min_loop _, ih (j + 1) _ v _ (by omega) (by omega) (W.frame _ _ _ st1 fun b hf o e => (Heap.get?_update_other _ _ fun z : S = b => nS (z ▸ hf)).trans e) (by unfold argBest; rw [hb]; exact pv) (Heap.get?_update_self _ eS1 rfl) fun v' h2 tk2 p2 k2 => ?_⟩
      exact fin v' h2 tk2 p2 fun b o hw hS e => k2 b o hw hS ((Heap.get?_update_other _ _ (Ne.symm hS)).trans (k1 b o hw e))
/-- from the empty best on -/
theorem startMd (W : Walks prog w A.in1 I fp wr n P St) (bt : Nat → Nat → Bool) (cmp : CmpOf prog w A.in1 .Lt P bt) (S : Addr) (nS : S ∉ fp) {s : Shared} {c : Nat} (st : St 0 s.heap) (eS : s.heap.get? S = some (seqObj "list" #[] c))
    (some_ : 0 < n → ∀ v h' tk, P (argBest bt (n - 1)) v → (∀ b o, b ∉ wr → b ≠ S → s.heap.get? b = some o → h'.get? b = some o) → R (.ok (.ret v)) { s with heap := h', toks := tk })
    (none_ : n = 0 → ∀ h' tk, (∀ b o, b ∉ wr → b ≠ S → s.heap.get? b = some o → h'.get? b = some o) → R (.ok (.ret dv)) { s with heap := h', toks := tk }) :
    codeAny (model prog w) A (.builtin "min.loop" ⟨[.ref I, .none, .ref S], dk dv⟩) R s := by
  have nW : S ∉ wr := fun h => nS (W.sub _ h)
  refine codeAny_builtin PySem.F.entry_min_loop ?_
  rw [Around.under_plainId PySem.F.plain_min_loop _]
  refine wpAny_bind (m := seqItems? (.ref S)) (wpAny_seqItems eS rfl ?_)
  by_cases n0 : n = 0
  · subst n0
    refine wpAny_bind (m := tryCatch (pyNext (.ref I)) _) (wpAny_tryCatch (W.done s _ _ st fun h1 tk k1 => ?_))
    refine wpAny_bind (wpAny_rule (wpAny_pure ?_))
    exact none_ rfl h1 tk fun b o hb _ e => k1 b o hb e
  · have pos : 0 < n := by omega
    refine wpAny_bind (m := tryCatch (pyNext (.ref I)) _) (wpAny_tryCatch (W.item 0 s _ _ pos st fun v h1 tk pv st1 k1 => ?_))
    have eS1 := k1 S _ nW eS
    refine wpAny_bind (m := updateSeq S fun _ => #[v, v]) ?_
    refine wpAny_updateSeq eS1 rfl ?_
    rw [nm]
    refine wpAny_pure ⟨plainId_quiet PySem.F.plain_min_loop _, loopMd W bt cmp S nS _ 0 _ v _ rfl pos (W.frame _ _ _ st1 fun b hf o e => (Heap.get?_update_other _ _ fun z : S = b => nS (z ▸ hf)).trans e) pv (Heap.get?_update_self _ eS1 rfl) fun v' h2 tk2 p2 k2 => ?_⟩
    exact some_ pos v' h2 tk2 p2 fun b o hw hS e => k2 b o hw hS ((Heap.get?_update_other _ _ (Ne.symm hS)).trans (k1 b o hw e))
end
section
variable {prog : Program} {w : World} {A : Around} {E : Value → Shared → Prop} {s : Shared} {l : Addr} {xs : Array (Int × Tok)} {dv : Value}
theorem callMd {Q : Value → Shared → Prop} (hh : A.handled = none) (hl : s.heap.IsList l (intItems xs))
    (h1 : 0 < xs.size → ∀ v h' tk, (intItems xs)[argBest (fun i j => decide (numAt xs i < numAt xs j)) (xs.size - 1)]? = some v → (∀ b o, s.heap.get? b = some o → h'.get? b = some o) → Q v { s with heap := h', toks := tk })
    (h0 : xs.size = 0 → ∀ h' tk, (∀ b o, s.heap.get? b = some o → h'.get? b = some o) → Q dv { s with heap := h', toks := tk }) :
    wpAny (model prog w) A (call (.builtin "min") [.ref l] (dk dv)) Q E s := by
  refine kmk_tree PySem.F.kind_min PySem.F.plain_min PySem.F.entry_min (argsMd _ _) ?_
  refine wpAny_bind (m := Builtin.Builtins.bindParams "min" ["key", "default"] 0 ⟨[], dk dv⟩) (wpAny_of_eq (show Builtin.Builtins.bindParams "min" ["key", "default"] 0 ⟨[], dk dv⟩ = pure [none, some dv] from rfl) ?_)
  refine wpAny_bind (wpAny_pure ?_)
  refine wpAny_bind (iter_intList hl fun s2 e st hfp hI => ?_)
  subst e
  refine wpAny_bind (wpAny_newObj_type ?_)
  rw [nm]
  have W := Walks.list (prog := prog) (w := w) (A := A.in1) hh s.heap.objs.size l hI (intItems xs)
  have hz : (intItems xs).size = xs.size := by simp [intItems]
  generalize hs2 : ({ s with heap := s.heap.push { cls := .type "list_iterator", data := .fields #[.ref l, .int 0 0] } } : Shared) = s2 at st hfp ⊢
  have nS : s2.heap.objs.size ∉ [s.heap.objs.size, l] := fun z => Nat.lt_irrefl _ (hfp _ z)
  have old : ∀ {h' : Heap}, (∀ b o, b ∉ [s.heap.objs.size] → b ≠ s2.heap.objs.size → (s2.heap.push { cls := .type "list", data := .seq #[] }).get? b = some o → h'.get? b = some o) → ∀ b o, s.heap.get? b = some o → h'.get? b = some o := fun k b o e => by
    have e2 : s2.heap.get? b = some o := by rw [← hs2]; exact Heap.get?_push_of_some _ e
    exact k b o (fun z => Nat.lt_irrefl _ ((List.mem_singleton.mp z) ▸ Heap.lt_size e)) (Nat.ne_of_lt (Heap.lt_size e2)) (Heap.get?_push_of_some _ e2)
  refine wpAny_pure ⟨plainId_quiet PySem.F.plain_min_loop _, startMd W _ (CmpOf.ints_lt (numAt xs) fun _ _ => intItems_at) s2.heap.objs.size nS (W.frame _ _ _ st fun b _ o e => Heap.get?_push_of_some _ e) (Heap.get?_push_size _ rfl) (fun hn v h' tk hP hk => ?_) fun hn h' tk hk => ?_⟩
  · rw [← hs2]
    exact h1 (by omega) v h' tk (by rw [hz] at hP; exact hP) (old hk)
  · rw [← hs2]
    exact h0 (by omega) h' tk (old hk)
end
end Md
namespace Ov
open PySem PySem.Spec PyProof.Rows L2 GxR
/-- min(xs, default=d): xs a list of whole numbers -/
def rMinD (K : PySem.W.Frag) : List V → List V → Hp → VK → Prop := fun vs zs H Q => ∃ (a : Addr) (ns : List Int) (d : V), vs = [V.ref a] ∧ zs = [d] ∧ SqL K H a (ns.map V.int) ∧ (∀ m, m ∈ ns → (∀ y, y ∈ ns → m ≤ y) → Q (.int m) H) ∧ (ns = [] → Q d H)
theorem cr_minD {X : Cx} (hc : X.calm = true) : CallRK X (.builtin "min") [Str.ofString "default"] (rMinD X.K) := by
  intro pins s σ H vs zs us ws Q I r r2 h
  obtain ⟨a, ns, d, rfl, rfl, hs, q, q0⟩ := h
  obtain ⟨its, rv, hl, _⟩ := I.list hs
  rw [Vals.ref1 r]
  obtain ⟨dv, rfl, rd⟩ := vals1 r2
  obtain ⟨xs, e⟩ := rv.ints.allInts.items
  have hn : numsOf (intItems xs).toList = ns := by rw [← e]; exact rv.ints.numsOf
  rw [nums_intItems] at hn
  have hL := hl.isList
  rw [e] at hL
  refine Md.callMd (I.ok.hd hc) hL (fun hp v h' tk hv hk => ?_) fun hp h' tk hk => ?_
  · obtain ⟨t, rfl⟩ := intItems_at hv
    obtain ⟨_, h2⟩ := argBest_lt (numAt xs) (xs.size - 1)
    refine ⟨.int _, H, I.kept hk, ⟨_, rfl⟩, q _ ?_ fun y hy => ?_⟩
    · rw [← hn, numAt_eq]
      exact PySem.getD_mem (by rw [List.length_map, Array.length_toList]; omega)
    · rw [← hn] at hy
      obtain ⟨j, hj, rfl⟩ := mem_getD hy
      rw [List.length_map, Array.length_toList] at hj
      rw [← numAt_eq]
      exact h2 j (by omega)
  · refine ⟨d, H, I.kept hk, rd, q0 ?_⟩
    rw [← hn, Array.toList_eq_nil_iff.mpr (Array.size_eq_zero_iff.mp hp)]
    rfl
end Ov

set_option Elab.async false
set_option linter.all false
set_option maxRecDepth 100000
set_option maxHeartbeats 4000000
/-! tables: the numbers -/
namespace Ov
open PySem PySem.Spec PyProof.Rows L2 GxR
/-- an entry: word, offset, bound -/
abbrev En := Nat × Nat × Int
def chr (z : Str) (o : Nat) : Nat := z.cps.toList.getD o 0
def agrB (z : Str) (c o : Nat) : Bool := decide (chr z o = c) || decide (c = 63)
/-- the places of one word that agree with the sign c, the first n of them looked at -/
def agr1 (c w : Nat) (z : Str) (n : Nat) : List (Nat × Nat) := ((List.range n).filter (agrB z c)).map fun o => (w, o)
/-- .. of the first n words -/
def agrN (ws : List Str) (c n : Nat) : List (Nat × Nat) := (List.range n).flatMap fun w => agr1 c w (ws.getD w Str.empty) (ws.getD w Str.empty).length
def agr (ws : List Str) (c : Nat) : List (Nat × Nat) := agrN ws c ws.length
theorem agr1_succ {c w n : Nat} {z : Str} : agr1 c w z (n + 1) = agr1 c w z n ++ (if agrB z c n = true then [(w, n)] else []) := by
  unfold agr1
  rw [List.range_succ, List.filter_append, List.map_append]
  by_cases h : agrB z c n = true
  · rw [if_pos h, List.filter_cons_of_pos h]; rfl
  · rw [if_neg h, List.filter_cons_of_neg h]; rfl
theorem agrN_succ {ws : List Str} {c n : Nat} : agrN ws c (n + 1) = agrN ws c n ++ agr1 c n (ws.getD n Str.empty) (ws.getD n Str.empty).length := by
  unfold agrN
  rw [List.range_succ, List.flatMap_append]
  simp
theorem agr1_len {c w n : Nat} {z : Str} : (agr1 c w z n).length ≤ n := by
  unfold agr1
  rw [List.length_map]
  exact Nat.le_trans (List.length_filter_le ..) (by rw [List.length_range]; exact Nat.le_refl _)
theorem agrN_len {ws : List Str} {c W : Nat} (h : ∀ z ∈ ws, z.length = W) : ∀ n, n ≤ ws.length → (agrN ws c n).length ≤ n * W
  | 0, _ => by simp [agrN]
  | n + 1, hn => by
    rw [agrN_succ, List.length_append]
    have h1 := agrN_len (c := c) h n (by omega)
    have e : ws.getD n Str.empty = ws[n] := by simp [List.getD, show n < ws.length by omega]
    have h2 := agr1_len (c := c) (w := n) (z := ws.getD n Str.empty) (n := (ws.getD n Str.empty).length)
    rw [e, h _ (List.getElem_mem (by omega))] at h2
    rw [e, h _ (List.getElem_mem (by omega)), Nat.succ_mul]
    omega
theorem mem_agr1 {c w n : Nat} {z : Str} {p : Nat × Nat} : p ∈ agr1 c w z n ↔ p.1 = w ∧ p.2 < n ∧ agrB z c p.2 = true := by
  unfold agr1
  rw [List.mem_map]
  constructor
  · rintro ⟨o, ho, rfl⟩
    rw [List.mem_filter, List.mem_range] at ho
    exact ⟨rfl, ho.1, ho.2⟩
  · rintro ⟨rfl, h1, h2⟩
    exact ⟨p.2, List.mem_filter.mpr ⟨List.mem_range.mpr h1, h2⟩, rfl⟩
theorem mem_agrN {ws : List Str} {c n : Nat} {p : Nat × Nat} : p ∈ agrN ws c n ↔ p.1 < n ∧ p.2 < (ws.getD p.1 Str.empty).length ∧ agrB (ws.getD p.1 Str.empty) c p.2 = true := by
  unfold agrN
  rw [List.mem_flatMap]
  constructor
  · rintro ⟨w, hw, h⟩
    obtain ⟨rfl, h1, h2⟩ := mem_agr1.mp h
    exact ⟨List.mem_range.mp hw, h1, h2⟩
  · rintro ⟨h0, h1, h2⟩
    exact ⟨p.1, List.mem_range.mpr h0, mem_agr1.mpr ⟨rfl, h1, h2⟩⟩
/-- ascending -/
def lexN (p q : Nat × Nat) : Prop := p.1 < q.1 ∨ (p.1 = q.1 ∧ p.2 < q.2)
theorem agrN_asc {ws : List Str} {c : Nat} : ∀ n, (agrN ws c n).Pairwise lexN
  | 0 => by simp [agrN]
  | n + 1 => by
    rw [agrN_succ, List.pairwise_append]
    refine ⟨agrN_asc n, ?_, fun p hp q hq => .inl ?_⟩
    · unfold agr1
      rw [List.pairwise_map]
      exact (List.Pairwise.filter _ List.pairwise_lt_range).imp fun h => .inr ⟨rfl, h⟩
    · have h1 := (mem_agrN.mp hp).1
      have h2 := (mem_agr1.mp hq).1
      omega
/-! ### least numbers -/
def mn : List Int → Option Int
  | [] => none
  | a :: r => some (r.foldl min a)
theorem foldl_min : ∀ (r : List Int) (a : Int), (r.foldl min a = a ∨ r.foldl min a ∈ r) ∧ r.foldl min a ≤ a ∧ ∀ y ∈ r, r.foldl min a ≤ y
  | [], a => ⟨.inl rfl, Int.le_refl _, fun y hy => by cases hy⟩
  | b :: r, a => by
    obtain ⟨h1, h2, h3⟩ := foldl_min r (min a b)
    rw [List.foldl_cons]
    refine ⟨?_, by omega, fun y hy => ?_⟩
    · rcases h1 with e | e
      · rw [e]
        by_cases c : a ≤ b
        · left; omega
        · right; rw [show min a b = b by omega]; exact List.mem_cons_self
      · exact .inr (List.mem_cons_of_mem _ e)
    · rcases List.mem_cons.mp hy with rfl | hy
      · omega
      · exact h3 y hy
theorem mn_spec {l : List Int} {m : Int} : mn l = some m ↔ m ∈ l ∧ ∀ y ∈ l, m ≤ y := by
  cases l with
  | nil => simp [mn]
  | cons a r =>
    obtain ⟨h1, h2, h3⟩ := foldl_min r a
    have hin : r.foldl min a ∈ a :: r := by
      rcases h1 with e | e
      · rw [e]; exact List.mem_cons_self
      · exact List.mem_cons_of_mem _ e
    have hle : ∀ y ∈ a :: r, r.foldl min a ≤ y := fun y hy => by
      rcases List.mem_cons.mp hy with rfl | hy
      · exact h2
      · exact h3 y hy
    unfold mn
    constructor
    · intro e
      cases e
      exact ⟨hin, hle⟩
    · rintro ⟨e1, e2⟩
      have a1 := hle m e1
      have a2 := e2 _ hin
      exact congrArg some (Int.le_antisymm a1 a2)
theorem mn_none {l : List Int} : mn l = none ↔ l = [] := by
  cases l <;> simp [mn]
/-! ### the entries behind some entries -/
/-- the bound of the entry (w, o - 1), if it is there -/
def lkE (es : List En) (w o : Nat) : Option Int := (es.find? fun e => decide (e.1 = w) && decide (e.2.1 + 1 = o)).map (·.2.2)
def seamE (W : Nat) (es : List En) (o : Nat) : Option Int := if o = 0 then mn (es.map (·.2.2 + 1)) else mn ((es.filter fun e => decide (e.2.1 + 1 = W)).map (·.2.2 + 1))
/-- the bound that (w, o) must have -/
def nxtE (W : Nat) (es : List En) (w o : Nat) : Option Int := match lkE es w o, seamE W es o with
  | none, s => s
  | some b, none => some b
  | some b, some s => some (if s < b then s else b)
def nextF (W : Nat) (ws : List Str) (es : List En) (c : Nat) : List En := (agr ws c).filterMap fun p => (nxtE W es p.1 p.2).map fun b => (p.1, p.2, b)
def firstF (cl : Bool) (ws : List Str) (c : Nat) : List En := ((agr ws c).filter fun p => decide (p.2 = 0) || !cl).map fun p => (p.1, p.2, (1 : Int))
/-- the rows of the table, one by one -/
def rowF (W : Nat) (cl : Bool) (ws : List Str) (cs : List Nat) : Nat → List En
  | 0 => firstF cl ws (cs.getD 0 0)
  | k + 1 => nextF W ws (rowF W cl ws cs k) (cs.getD (k + 1) 0)
def tabF (W : Nat) (cl : Bool) (ws : List Str) (cs : List Nat) (n : Nat) : List (List En) := (List.range n).map (rowF W cl ws cs)
theorem tabF_succ {W : Nat} {cl : Bool} {ws : List Str} {cs : List Nat} {n : Nat} : tabF W cl ws cs (n + 1) = tabF W cl ws cs n ++ [rowF W cl ws cs n] := by
  unfold tabF; rw [List.range_succ, List.map_append]; rfl
theorem tabF_len {W : Nat} {cl : Bool} {ws : List Str} {cs : List Nat} {n : Nat} : (tabF W cl ws cs n).length = n := by unfold tabF; rw [List.length_map, List.length_range]
/-- entries as a row has them: ascending, of the words -/
structure RowOk (ws : List Str) (W : Nat) (es : List En) : Prop where
  asc : es.Pairwise fun e f => lexN (e.1, e.2.1) (f.1, f.2.1)
  mem : ∀ e ∈ es, e.1 < ws.length ∧ e.2.1 < W
  len : es.length ≤ 48
theorem lexN.ne {p q : Nat × Nat} (h : lexN p q) : p ≠ q := by rintro rfl; unfold lexN at h; omega
theorem RowOk.uniq {ws : List Str} {W : Nat} {es : List En} (h : RowOk ws W es) {e f : En} (he : e ∈ es) (hf : f ∈ es) (h1 : e.1 = f.1) (h2 : e.2.1 = f.2.1) : e = f := by
  have := h.asc
  clear h
  induction es with
  | nil => cases he
  | cons a r ih =>
    rw [List.pairwise_cons] at this
    rcases List.mem_cons.mp he with rfl | he
    · rcases List.mem_cons.mp hf with rfl | hf
      · rfl
      · exact absurd (by rw [h1, h2] : ((e.1, e.2.1) : Nat × Nat) = (f.1, f.2.1)) (this.1 f hf).ne
    · rcases List.mem_cons.mp hf with rfl | hf
      · exact absurd (by rw [h1, h2] : ((f.1, f.2.1) : Nat × Nat) = (e.1, e.2.1)) (this.1 e (by assumption)).ne
      · exact ih he hf this.2
theorem agr_ok {ws : List Str} {W c : Nat} (hw : ∀ z ∈ ws, z.length = W) {p : Nat × Nat} (hp : p ∈ agr ws c) : p.1 < ws.length ∧ p.2 < W := by
  obtain ⟨h1, h2, _⟩ := mem_agrN.mp hp
  have e : ws.getD p.1 Str.empty = ws[p.1] := by simp [List.getD, h1]
  rw [e, hw _ (List.getElem_mem h1)] at h2
  exact ⟨h1, h2⟩
theorem agr_len {ws : List Str} {W c : Nat} (hw : ∀ z ∈ ws, z.length = W) (h6 : ws.length ≤ 6) (h8 : W ≤ 8) : (agr ws c).length ≤ 48 := by
  have h := agrN_len (c := c) hw ws.length (Nat.le_refl _)
  have : ws.length * W ≤ 6 * 8 := Nat.mul_le_mul h6 h8
  unfold agr
  omega
/-- made from the agreeing places one by one -/
theorem RowOk.made {ws : List Str} {W c : Nat} {es : List En} (hw : ∀ z ∈ ws, z.length = W) (h6 : ws.length ≤ 6) (h8 : W ≤ 8) (f : Nat × Nat → Option En) (hf : ∀ p e, f p = some e → e.1 = p.1 ∧ e.2.1 = p.2) (he : es = (agr ws c).filterMap f) : RowOk ws W es := by
  subst he
  refine ⟨?_, fun e hm => ?_, ?_⟩
  · rw [List.pairwise_filterMap]
    exact (agrN_asc ws.length).imp fun h b hb b' hb' => by
      obtain ⟨e1, e2⟩ := hf _ _ hb
      obtain ⟨e3, e4⟩ := hf _ _ hb'
      rw [e1, e2, e3, e4]
      exact h
  · obtain ⟨p, hp, hpe⟩ := List.mem_filterMap.mp hm
    obtain ⟨e1, e2⟩ := hf _ _ hpe
    rw [e1, e2]
    exact agr_ok hw hp
  · exact Nat.le_trans (List.length_filterMap_le ..) (agr_len hw h6 h8)
theorem firstF_fm {cl : Bool} {ws : List Str} {c : Nat} : firstF cl ws c = (agr ws c).filterMap fun p => if (decide (p.2 = 0) || !cl) = true then some (p.1, p.2, (1 : Int)) else none := by
  unfold firstF
  generalize agr ws c = l
  induction l with
  | nil => rfl
  | cons p r ih =>
    by_cases h : (decide (p.2 = 0) || !cl) = true
    · rw [List.filter_cons_of_pos (p := fun p : Nat × Nat => decide (p.2 = 0) || !cl) h, List.map_cons, ih, List.filterMap_cons_some (b := (p.1, p.2, (1 : Int))) (by rw [if_pos h])]
    · rw [List.filter_cons_of_neg (p := fun p : Nat × Nat => decide (p.2 = 0) || !cl) h, ih, List.filterMap_cons_none (by rw [if_neg h])]
theorem row_ok {ws : List Str} {W : Nat} {cl : Bool} {cs : List Nat} (hw : ∀ z ∈ ws, z.length = W) (h6 : ws.length ≤ 6) (h8 : W ≤ 8) : ∀ k, RowOk ws W (rowF W cl ws cs k)
  | 0 => RowOk.made hw h6 h8 _ (fun p e h => by
      split at h
      · cases h; exact ⟨rfl, rfl⟩
      · cases h) firstF_fm
  | k + 1 => RowOk.made hw h6 h8 _ (fun p e h => by
      obtain ⟨b, _, rfl⟩ := Option.map_eq_some_iff.mp h
      exact ⟨rfl, rfl⟩) rfl
end Ov

set_option Elab.async false
set_option linter.all false
set_option maxRecDepth 100000
set_option maxHeartbeats 4000000
/-! tables: the rows in the heap -/
namespace Ov
open PySem PySem.Spec PyProof.Rows L2 GxR
theorem walk_enumS {z : Str} : Walk (Ites z) z.cps.size (fun _ => True) (fun i H v H' => ∃ T c, z.cps[i]? = some c ∧ v = .ref T ∧ H T = none ∧ H' = upd H T (.tup [.int (i : Nat), .str ⟨#[c]⟩])) := by
  refine ⟨fun i H hi _ => hi, fun H _ => rfl, fun i H x H' hi _ y => ?_⟩
  obtain ⟨T, c, h1, h2, h3, h4⟩ := y
  exact ⟨T, c, h4, h1, h2, h3⟩
/-- what is walked by an invariant: a comprehension's walks of any kind (F tells what is asked of a turn) -/
theorem walk_by {J : It} {n : Nat} {G : Hp → Prop} {Y : Nat → Hp → V → Hp → Prop} {F : (Hp → Prop) → V → Hp → Prop} (w : Walk J n G Y) {H0 : Hp} {Qd : Hp → Prop} (Pv : Nat → Hp → Prop) (h0 : Pv 0 H0) (hG : ∀ i H, i ≤ n → Pv i H → G H)
    (hs : ∀ i x H H', i < n → Pv i H → Y i H x H' → F (Pv (i + 1)) x H') (hd : ∀ H, Pv n H → Qd H) :
    ∃ W : Nat → Nat → Hp → Prop, (∃ m, W 0 m H0) ∧ ∀ i m H, W i m H → (J.stop i H ∧ Qd H) ∨ (J.go i H ∧ ∃ Nx : Hp → Prop, (∀ H', Nx H' → ∃ m', m' < m ∧ W (i + 1) m' H') ∧ ∀ x H', J.yld i H x H' → F Nx x H') := by
  refine ⟨fun i m H => m = n - i ∧ i ≤ n ∧ Pv i H, ⟨n, by simp, Nat.zero_le _, h0⟩, ?_⟩
  rintro i m H ⟨rfl, hi, p⟩
  by_cases c : i < n
  · exact .inr ⟨w.goes i H c (hG i H hi p), Pv (i + 1), fun H' p' => ⟨n - (i + 1), by omega, rfl, c, p'⟩, fun x H' y => hs i x H H' c p (w.yields i H x H' c (hG i H hi p) y)⟩
  · obtain rfl : i = n := by omega
    exact .inl ⟨w.stops H (hG i H hi p), hd H p⟩
theorem samePut {H H1 : Hp} {p : Addr} {o : HO} (s : L2.Same H H1) (e : H p = none) : L2.Same H (upd H1 p o) := fun b u h => (upd_ne (ne_of_none h e)).trans (s b u h)
/-- the tuples stay -/
def Tst (H H' : Hp) : Prop := ∀ q xs, H q = some (.tup xs) → H' q = some (.tup xs)
theorem Tst.refl {H : Hp} : Tst H H := fun _ _ e => e
theorem Tst.trans {H H1 H2 : Hp} (a : Tst H H1) (b : Tst H1 H2) : Tst H H2 := fun q xs e => b q xs (a q xs e)
theorem Tst.same {H H' : Hp} (s : L2.Same H H') : Tst H H' := fun q xs e => s _ _ e
theorem Tst.new {H : Hp} {p : Addr} {o : HO} (e : H p = none) : Tst H (upd H p o) := .same (same_new e)
theorem Tst.lst {H : Hp} {l : Addr} {vs : List V} {o : HO} (e : H l = some (.lst vs)) : Tst H (upd H l o) := fun q xs eq => (upd_ne (ne_of eq e (fun z => nomatch z))).trans eq
def T2 (H : Hp) (v : V) (p : Nat × Nat) : Prop := ∃ q, v = .ref q ∧ H q = some (.tup [.int (p.1 : Nat), .int (p.2 : Nat)])
def T3 (H : Hp) (v : V) (e : En) : Prop := ∃ q, v = .ref q ∧ H q = some (.tup [.int (e.1 : Nat), .int (e.2.1 : Nat), .int e.2.2])
theorem T2.st {H H' : Hp} {v : V} {p : Nat × Nat} (k : Tst H H') (h : T2 H v p) : T2 H' v p := let ⟨q, e, a⟩ := h; ⟨q, e, k _ _ a⟩
theorem T3.st {H H' : Hp} {v : V} {p : En} (k : Tst H H') (h : T3 H v p) : T3 H' v p := let ⟨q, e, a⟩ := h; ⟨q, e, k _ _ a⟩
abbrev P2 (H : Hp) (vs : List V) (l : List (Nat × Nat)) : Prop := Paired (T2 H) vs l
abbrev P3 (H : Hp) (vs : List V) (l : List En) : Prop := Paired (T3 H) vs l
theorem p2_st {H H' : Hp} {vs : List V} {l : List (Nat × Nat)} (k : Tst H H') (h : P2 H vs l) : P2 H' vs l := pairedMono (fun _ _ => T2.st k) h
theorem p3_st {H H' : Hp} {vs : List V} {l : List En} (k : Tst H H') (h : P3 H vs l) : P3 H' vs l := pairedMono (fun _ _ => T3.st k) h
theorem p_snoc {α β : Type} {F : α → β → Prop} {l : List α} {m : List β} {a : α} {b : β} (h : Paired F l m) (e : F a b) : Paired F (l ++ [a]) (m ++ [b]) := pairedAppend h (.cons e .nil)
theorem p_at {α β : Type} {F : α → β → Prop} : ∀ {l : List α} {m : List β}, Paired F l m → ∀ {i : Nat} {a : α}, l[i]? = some a → ∃ b, m[i]? = some b ∧ F a b
  | _, _, .nil, i, a, h => by simp at h
  | _, _, .cons (a := a0) (b := b0) e t, i, a, h => by
    cases i with
    | zero => cases (show some a0 = some a from h); exact ⟨b0, rfl, e⟩
    | succ i => exact p_at t (by simpa using h)
theorem paired_in {α β : Type} {F G : α → β → Prop} : ∀ {l : List α} {m : List β}, Paired F l m → (∀ a ∈ l, ∀ b, F a b → G a b) → Paired G l m
  | _, _, .nil, _ => .nil
  | _, _, .cons e t, h => .cons (h _ List.mem_cons_self _ e) (paired_in t fun a ha => h a (List.mem_cons_of_mem _ ha))
/-- a row of entries at a -/
def Row3 (H : Hp) (a : Addr) (es : List En) : Prop := ∃ vs, H a = some (.lst vs) ∧ P3 H vs es
theorem Row3.same {H H' : Hp} {a : Addr} {es : List En} (s : L2.Same H H') (h : Row3 H a es) : Row3 H' a es := let ⟨vs, e, p⟩ := h; ⟨vs, s _ _ e, p3_st (.same s) p⟩
/-- .. where all but the thing at t, a list, stands -/
theorem Row3.but {H H' : Hp} {a t : Addr} {ts : List V} {es : List En} (ht : H t = some (.lst ts)) (s : ∀ b o, b ≠ t → H b = some o → H' b = some o) (n : a ≠ t) (h : Row3 H a es) : Row3 H' a es := by
  obtain ⟨vs, e, p⟩ := h
  exact ⟨vs, s _ _ n e, p3_st (fun q xs eq => s _ _ (ne_of eq ht fun z => nomatch z) eq) p⟩
/-- a table at a -/
def Tab3 (H : Hp) (a : Addr) (rows : List (List En)) : Prop := ∃ as, H a = some (.lst (as.map V.ref)) ∧ Paired (Row3 H) as rows
theorem Tab3.same {H H' : Hp} {a : Addr} {rows : List (List En)} (s : L2.Same H H') (h : Tab3 H a rows) : Tab3 H' a rows := let ⟨vs, e, p⟩ := h; ⟨vs, s _ _ e, pairedMono (fun _ _ => Row3.same s) p⟩
theorem len_p {α β : Type} {F : α → β → Prop} {l : List α} {m : List β} (h : Paired F l m) : l.length = m.length := pairedLen h
/-! ### the dict of the bounds -/
def entK (e : En) : List Key × V := ([Sum.inl (e.1 : Int), Sum.inl ((e.2.1 : Int) + 1)], .int e.2.2)
theorem valV_ent {w o : Nat} : ∀ es : List En, valV (es.map entK) [Sum.inl (w : Int), Sum.inl (o : Int)] = (lkE es w o).map V.int
  | [] => rfl
  | e :: r => by
    have ih := valV_ent (w := w) (o := o) r
    rw [List.map_cons]
    by_cases h : e.1 = w ∧ e.2.1 + 1 = o
    · obtain ⟨rfl, rfl⟩ := h
      rw [valV_pos (by unfold entK; simp)]
      unfold lkE
      rw [List.find?_cons_of_pos (by simp)]
      rfl
    · rw [valV_neg (fun z => h ?_), ih]
      · unfold lkE
        rw [List.find?_cons_of_neg (by simpa using h)]
      · have z' : ([Sum.inl (e.1 : Int), Sum.inl ((e.2.1 : Int) + 1)] : List Key) = [Sum.inl (w : Int), Sum.inl (o : Int)] := z
        injection z' with z1 z2
        injection z2 with z2 _
        have a1 := Sum.inl.inj z1
        have a2 := Sum.inl.inj z2
        omega
theorem RowOk.fresh {ws : List Str} {W : Nat} {es : List En} (h : RowOk ws W es) {i : Nat} (hi : i < es.length) : valV ((es.take i).map entK) (entK es[i]).1 = none := by
  have e := valV_ent (w := es[i].1) (o := es[i].2.1 + 1) (es.take i)
  have e2 : (entK es[i]).1 = [Sum.inl ((es[i].1 : Nat) : Int), Sum.inl ((es[i].2.1 + 1 : Nat) : Int)] := by unfold entK; simp
  rw [e2, e]
  unfold lkE
  rw [List.find?_eq_none.mpr]
  · rfl
  · intro f hf hx
    simp only [Bool.and_eq_true, decide_eq_true_eq] at hx
    obtain ⟨j, hj, rfl⟩ := List.mem_iff_getElem.mp hf
    rw [List.getElem_take] at hx
    have lj : j < i := by rw [List.length_take] at hj; omega
    have := List.pairwise_iff_getElem.mp h.asc j i (by omega) hi lj
    exact this.ne (by rw [hx.1, show es[j].2.1 = es[i].2.1 by omega])
/-- a number, or None -/
def optV : Option Int → V
  | none => .non
  | some m => .int m
theorem minD_two {Q : VK} {H : Hp} {ns : List Int} (h : Q (optV (mn ns)) H) : (∀ m, m ∈ ns → (∀ y, y ∈ ns → m ≤ y) → Q (.int m) H) ∧ (ns = [] → Q .non H) := by
  refine ⟨fun m h1 h2 => ?_, fun e => ?_⟩
  · rw [mn_spec.mpr ⟨h1, h2⟩] at h
    exact h
  · rw [e] at h
    exact h
end Ov

set_option Elab.async false
set_option linter.all false
set_option maxRecDepth 100000
set_option maxHeartbeats 4000000
/-! isinstance of a caught error: one class, a tuple of classes; its class is told where the reading is -/
namespace Ov
open PySem PySem.Spec PyProof.Rows L2 GxR
def rIsEX (K : PySem.W.Frag) (cls : Value) (d : Option Addr) (a : Addr) : List V → Hp → VK → Prop := fun xs H Q => ∃ D, cls = .ref D ∧ d = none ∧ ExcC K D ∧
  ((∃ (c : V) (cv : Value) (b : Bool), xs = [.ref a, c] ∧ ClsV c cv ∧ PySem.W.kitOne K (.ref D) cv = some b ∧ Q (.bl b) H) ∨
   (∃ (tp : Addr) (cs : List V) (us : List Value) (b : Bool), xs = [.ref a, .ref tp] ∧ H tp = some (.tup cs) ∧ Paired ClsV cs us ∧ PySem.W.kitAny K (.ref D) us = some b ∧ Q (.bl b) H))
theorem call_isEX {X : Cx} {a : Addr} {cls : Value} {d : Option Addr} {oe : Obj} {pn : List (Addr × Obj)} (hz : Zc cls d oe) (hf : ∃ vs, oe.data = .fields vs) : CallR (X.suite a ((a, oe) :: pn)) (.builtin "isinstance") (rIsEX X.K cls d a) := by
  intro pins s σ H xs us Q I r h
  obtain ⟨D, rfl, rfl, C, h⟩ := h
  obtain ⟨hget, _⟩ := I.pin (a, oe) (List.mem_append.mpr (.inl List.mem_cons_self))
  obtain ⟨vs, hv⟩ := hf
  have J : PySem.W.InstAt s.heap a oe D none := by
    obtain ⟨oc, od, oda, osl⟩ := oe
    obtain ⟨h1, h2⟩ := hz
    dsimp only at h1 h2 hv
    subst h1 h2 hv
    exact ⟨hget, rfl, rfl, trivial⟩
  have Z : PySem.W.KitX X.K (.ref a) (.ref D) (fun h => PySem.W.InstAt h a oe D none) := PySem.W.handS_kitx_exc C.hg C.hk C.hs C.hd C.ha C.hn C.ht C.hm
  rcases h with ⟨c, cv, b, rfl, hcv, e, q⟩ | ⟨tp, cs, ts, b, rfl, hT, k, e, q⟩
  · obtain ⟨u1, u2, rfl, r1, r2⟩ := vals2 r
    obtain rfl : u1 = Value.ref a := r1
    have ec := hcv.eq r2
    subst ec
    exact PySem.W.kia_one Z I.kIn J e (fun z => nomatch z) fun tk => ⟨.bl b, H, I.kept (t' := tk) fun _ _ z => z, rfl, q⟩
  · obtain ⟨u1, u2, rfl, r1, r2⟩ := vals2 r
    obtain rfl : u1 = Value.ref a := r1
    cases (show u2 = Value.ref tp from r2)
    obtain ⟨_, its, rv, o, h1, h2, n, h3⟩ := (show ObjOk X.prog X.w H s.heap tp (.tup cs) from I.hok tp _ hT)
    have e3 := ClsV.all k rv
    subst e3
    obtain ⟨oc, od, dt, sl⟩ := o
    simp only at h2 h3
    subst h2 h3
    exact PySem.W.kia_tup Z I.kIn J h1 e (fun z => nomatch z) fun tk => ⟨.bl b, H, I.kept (t' := tk) fun _ _ z => z, rfl, q⟩
end Ov

set_option Elab.async false
set_option linter.all false
set_option maxRecDepth 100000
set_option maxHeartbeats 4000000
/-! agreeing -/
namespace Ov
open PySem PySem.Spec PyProof.Rows L2 GxR
abbrev NAg : List Str := ["words", "sign", "word", "stamp", "offset", "letter"]
theorem scAg : FnScope NAg ["words", "sign"] (defScope sAg) := ⟨rfl, rfl, rfl, by decide +kernel, rfl, by decide +kernel, by decide +kernel⟩
theorem low_asc2 {u : Str} (h : lowB u = true) : u.cps.all (· < 128) = true := by
  rw [← Array.all_toList, List.all_eq_true]
  intro c hc
  have := List.all_eq_true.mp h c hc
  simp only [Bool.and_eq_true, decide_eq_true_eq] at this
  simp
  omega
structure TopT (K : PySem.W.Frag) (mg : Str → Option Value) (fAg : Addr) : Prop where
  enu : mg "enumerate" = none
  un : ∃ t, mg "UNREADABLE" = some (.str "?" t)
  gAg : mg "agreeing" = some (.ref fAg)
  kAg : PySem.W.keepIn K (.ref fAg) = true
def spAg : Sp := fun vs H Q _ => ∃ (wl : Addr) (ws : List Str) (W c : Nat), vs = [.ref wl, .str ⟨#[c]⟩] ∧ H wl = some (.lst (ws.map V.str)) ∧ Good ws W ∧ ∀ l ps H', H l = none → L2.Same H H' → H' l = some (.lst ps) → P2 H' ps (agr ws c) → Q (.ref l) H'
section
variable {P : Program} {w : World} {K : PySem.W.Frag} {mg : Str → Option Value} {base : Heap} {T : List Addr} {C D fLow fText fAre fTape fNext fInks fInit cLow PLow cAre PAre fAg : Addr} {B : BA}
theorem ok_ag {f : Addr} {fd : FuncData} (F : L2.Fun K "agreeing" "agreeing" sAg f fd) (X : Txt K mg C fLow fText fAre fTape fNext fInks) (XT : TopT K mg fAg) : FnOk P w K mg base CX0 1 f fd ["words", "sign"] spAg := by
  obtain ⟨tu, hun⟩ := XT.un
  refine F.ok scAg (fun vs H Q E h => ?_) (fun cdv A outer s H vs Q E hr h => ?_)
  · obtain ⟨wl, ws, W, c, rfl, _⟩ := h
    rfl
  · obtain ⟨wl, ws, W, c, rfl, ew, g, q⟩ := h
    refine ⟨_, (pss_one (ps_ret (pe_lc2 (own := [("word", 2), ("stamp", 3), ("offset", 4), ("letter", 5)]) (vs1 := [4, 5]) (g := gTup K 2 (gCons (gName 2) (gCons (gName 3) gNil))) (tt := tYes) (g1 := gTup K 2 (gCons (gName 4) (gCons (gName 5) gNil))) (by rfl) scAg.nd (pi_enum (by rfl) XT.enu (pa_cons (pv 0) pa_nil)) (blkOk_by (own := [("word", 2), ("stamp", 3), ("offset", 4), ("letter", 5)]) (N := NAg) (sc := defScope sAg) (by decide +kernel)) (by decide) (fun _ _ _ _ _ => pg_tup rfl (pgs_cons (pg_name (i := 2) scAg.nd rfl (Or.inl rfl)) (pgs_cons (pg_name (i := 3) scAg.nd rfl (Or.inl rfl)) pgs_nil))) (fun _ _ _ _ _ => pts_nil) (fun _ _ _ _ _ => pi_enumS (by rfl) XT.enu (pa_cons (pv 3) pa_nil)) (fun _ _ _ _ _ => pg_tup rfl (pgs_cons (pg_name (i := 4) scAg.nd rfl (Or.inl rfl)) (pgs_cons (pg_name (i := 5) scAg.nd rfl (Or.inl rfl)) pgs_nil))) (fun _ _ _ _ _ => pts_one ((pw_or (pt_cmpR op_eq (pv 5) (pv 1) (by rfl)) (pw_or1 (pt_cmpR op_eq (pv 1) (pe_glob (v := .str "?") (by rfl) hun ⟨_, rfl⟩) (by rfl)))).pt)) (fun _ _ _ _ _ => pe_tup (pa_cons (pv 2) (pa_cons (pv 4) pa_nil)))))), ?_⟩
    have hw : ∀ z ∈ ws, z.length = W := fun z hz => (g.all z hz).1
    refine ⟨_, rfl, wl, _, rfl, .inl (.inl ew), fun D hD => ?_⟩
    refine walk_by (walk_enum (xs := ws.map V.str)) (fun i H' => ∃ ps, L2.Same H H' ∧ H' D = some (.lst ps) ∧ P2 H' ps (agrN ws c i)) ⟨[], same_new hD, upd_same, .nil⟩ (fun i H' hi p => ?_) (fun i x H' H'' hi p y => ?_) (fun H' p => ?_)
    · obtain ⟨ps, s, e, p⟩ := p
      exact .inl (.inl (s _ _ ew))
    · obtain ⟨ps, s, e, p⟩ := p
      obtain ⟨Tp, v1, v2, rfl, hT, rfl, e1, e2⟩ := y
      cases e1
      have il : i < ws.length := by rw [List.length_map] at hi; exact hi
      replace e2 : (ws.map V.str)[i]? = some v2 := e2
      rw [List.getElem?_map, List.getElem?_eq_getElem il] at e2
      cases e2
      have ez : ws.getD i Str.empty = ws[i] := by simp [List.getD, il]
      have zl := g.all _ (List.getElem_mem il)
      generalize ws[i] = z at ez zl
      have nl : agrN ws c (i + 1) = agrN ws c i ++ agr1 c i z z.length := by rw [agrN_succ, ez]
      have pl : ps.length ≤ 48 := by
        rw [len_p p]
        exact Nat.le_trans (agrN_len hw i (Nat.le_of_lt il)) (Nat.le_trans (Nat.mul_le_mul (by have := g.n6; omega) g.w8) (by decide : 6 * 8 ≤ 48))
      refine ⟨Tp, _, rfl, .inl (.inl upd_same), rfl, _, _, rfl, _, _, rfl, rfl, rfl, ?_⟩
      unfold tYes
      refine iteT' (b := true) rfl ⟨_, rfl, z, rfl, low_asc2 zl.2, ?_⟩
      have sT := same_new (o := .tup [.int (i : Nat), .str z]) hT
      refine walk_by walk_enumS (fun j Hx => ∃ ps', L2.Same H Hx ∧ Hx D = some (.lst ps') ∧ P2 Hx ps' (agrN ws c i ++ agr1 c i z j)) ⟨ps, s.trans sT, sT _ _ e, by rw [show agr1 c i z 0 = [] from rfl, List.append_nil]; exact p2_st (.same sT) p⟩ (fun _ _ _ _ => trivial) (fun j x Hx Hy hj p y => ?_) (fun Hx p => ?_)
      · obtain ⟨ps', s', e', p'⟩ := p
        obtain ⟨T', c', hc, rfl, hT', rfl⟩ := y
        have ec : chr z j = c' := by
          unfold chr
          rw [List.getD_eq_getElem?_getD, Array.getElem?_toList, hc]
          rfl
        have s2 := same_new (o := .tup [.int (j : Nat), .str ⟨#[c']⟩]) hT'
        have pl' : ps'.length ≤ 56 := by
          rw [len_p p', List.length_append]
          have h1 := agr1_len (c := c) (w := i) (z := z) (n := j)
          have h2 : z.cps.size = z.length := rfl
          have h3 := g.w8
          rw [len_p ‹P2 H' ps (agrN ws c i)›] at pl
          omega
        have e2 := s2 _ _ e'
        have st2 : L2.Same H (upd Hx T' (.tup [.int (j : Nat), .str ⟨#[c']⟩])) := s'.trans s2
        have p2 := p2_st (.same s2) p'
        refine ⟨T', _, rfl, .inl (.inl upd_same), rfl, _, _, rfl, _, _, rfl, rfl, rfl, ?_⟩
        generalize upd Hx T' (.tup [.int (j : Nat), .str ⟨#[c']⟩]) = Hz at e2 st2 p2 ⊢
        have yes : agrB z c j = true → ∃ acc, Hz D = some (.lst acc) ∧ acc = ps' := fun _ => ⟨ps', e2, rfl⟩
        have keep : agrB z c j = true → ∀ Tn, Hz Tn = none → ∃ acc, upd Hz Tn (.tup [.int (i : Nat), .int (j : Nat)]) D = some (.lst acc) ∧ acc.length < sizeLine ∧ ∃ ps', L2.Same H (upd (upd Hz Tn (.tup [.int (i : Nat), .int (j : Nat)])) D (.lst (acc ++ [.ref Tn]))) ∧ upd (upd Hz Tn (.tup [.int (i : Nat), .int (j : Nat)])) D (.lst (acc ++ [.ref Tn])) D = some (.lst ps') ∧ P2 (upd (upd Hz Tn (.tup [.int (i : Nat), .int (j : Nat)])) D (.lst (acc ++ [.ref Tn]))) ps' (agrN ws c i ++ agr1 c i z (j + 1)) := fun hb Tn hTn => by
          have s3 := same_new (o := .tup [.int (i : Nat), .int (j : Nat)]) hTn
          have e3 := s3 _ _ e2
          refine ⟨ps', e3, by rw [sizeLine_eq]; omega, _, samePut (st2.trans s3) hD, upd_same, ?_⟩
          rw [agr1_succ, if_pos hb, ← List.append_assoc]
          refine p_snoc (p2_st ((Tst.same s3).trans (.lst e3)) p2) ⟨Tn, rfl, ?_⟩
          exact (Tst.lst e3) _ _ upd_same
        have dec : ∀ a b : Nat, decide (V.str ⟨#[a]⟩ = V.str ⟨#[b]⟩) = decide (a = b) := fun a b => by
          rw [Bool.eq_iff_iff]; simp
        refine ⟨_, rfl, _, rfl, rfl, _, rfl, ?_⟩
        rw [dec]
        by_cases c1 : c' = c
        · have hb : agrB z c j = true := by unfold agrB; rw [ec, decide_eq_true c1]; rfl
          refine iteT' (decide_eq_true c1) (iteT' (b := true) rfl ⟨_, rfl, _, rfl, Nat.le_of_ble_eq_true rfl, fun Tn hTn => keep hb Tn hTn⟩)
        · refine iteF' (decide_eq_false c1) ⟨_, rfl, rfl, _, rfl, ?_⟩
          rw [show (V.str (Str.ofString "?") : V) = V.str ⟨#[63]⟩ by rfl, dec]
          by_cases c2 : c = 63
          · have hb : agrB z c j = true := by unfold agrB; rw [decide_eq_true c2, Bool.or_true]
            refine iteT' (decide_eq_true c2) ⟨_, rfl, _, rfl, Nat.le_of_ble_eq_true rfl, fun Tn hTn => keep hb Tn hTn⟩
          · have hb : agrB z c j = false := by unfold agrB; rw [ec, decide_eq_false c1, decide_eq_false c2]; rfl
            refine iteF' (decide_eq_false c2) ⟨ps', st2, e2, ?_⟩
            rw [agr1_succ, if_neg (by rw [hb]; decide), List.append_nil]
            exact p2
      · obtain ⟨ps', s', e', p'⟩ := p
        exact ⟨ps', s', e', by rw [nl]; exact p'⟩
    · obtain ⟨ps, s, e, p⟩ := p
      rw [List.length_map] at p
      exact q D ps H' hD s e p
end
end Ov

set_option Elab.async false
set_option linter.all false
set_option maxRecDepth 100000
set_option maxHeartbeats 4000000
/-! first_entries, next_entries -/
namespace Ov
open PySem PySem.Spec PyProof.Rows L2 GxR
abbrev NFe : List Str := ["band", "sign", "closed", "word", "offset"]
abbrev NNe : List Str := ["band", "entries", "sign", "width", "word", "offset", "bound", "bounds", "behind_any", "behind_end", "found", "behind_seam"]
theorem scFe : FnScope NFe ["band", "sign"] (defScope sFe) := ⟨rfl, rfl, rfl, by decide +kernel, rfl, by decide +kernel, by decide +kernel⟩
theorem scNe : FnScope NNe ["band", "entries", "sign"] (defScope sNe) := ⟨rfl, rfl, rfl, by decide +kernel, rfl, by decide +kernel, by decide +kernel⟩
/-- a band over stamps over words -/
structure Bnd (C : Addr) (B : BA) (H : Hp) (a : Addr) (i : Nat) (ws : List Str) (W : Nat) (m l dm : Addr) : Prop where
  at_ : ∃ dx pc, H a = some (.ins (B.c i) dx [("_stamps", .ref m), ("pieces", .ref pc)])
  st : Stp H C m l dm (ws.map V.str)
  g : Good ws W
  i3 : i < 3
def spFe (C : Addr) (B : BA) : Sp := fun vs H Q _ => ∃ (a m l dm : Addr) (i W c : Nat) (ws : List Str), vs = [.ref a, .str ⟨#[c]⟩] ∧ Bnd C B H a i ws W m l dm ∧ ∀ r es H', H r = none → L2.Same H H' → H' r = some (.lst es) → P3 H' es (firstF (decide (i = 0)) ws c) → Q (.ref r) H'
def spNe (C : Addr) (B : BA) : Sp := fun vs H Q _ => ∃ (a el m l dm : Addr) (i W c : Nat) (ws : List Str) (es : List En), vs = [.ref a, .ref el, .str ⟨#[c]⟩] ∧ Bnd C B H a i ws W m l dm ∧ Row3 H el es ∧ RowOk ws W es ∧ ∀ r vs' H', H r = none → L2.Same H H' → H' r = some (.lst vs') → P3 H' vs' (nextF W ws es c) → Q (.ref r) H'
theorem labN_line {i : Nat} (h : i < 3) : decide (V.str (labN i) = V.str (labN 0)) = decide (i = 0) := by
  match i, h with
  | 0, _ => decide
  | 1, _ => decide +kernel
  | 2, _ => decide +kernel
section
variable {P : Program} {w : World} {K : PySem.W.Frag} {mg : Str → Option Value} {base : Heap} {T : List Addr} {C D fLow fText fAre fTape fNext fInks fInit cLow PLow cAre PAre fAg pWo fWo pWi fWi : Addr} {B : BA}
theorem ok_fe {f : Addr} {fd fdA fdG fdW : FuncData} (F : L2.Fun K "first_entries" "first_entries" sFe f fd) (FA : L2.Fun K "agreeing" "agreeing" sAg fAg fdA) (FG : L2.Fun K "stamps" "Band.stamps" sStamps B.gS fdG) (FW : L2.Fun K "words" "Stamps.words" sWords fWo fdW)
    (X : Txt K mg C fLow fText fAre fTape fNext fInks) (XT : TopT K mg fAg) (O : Own K C) (hpo : PropOf K C "words" pWo fWo) (BB : Bds K mg B) : FnOk P w K mg base CX0 3 f fd ["band", "sign"] (spFe C B) := by
  have AG : FnOk P w K mg base CX0 1 fAg fdA ["words", "sign"] spAg := ok_ag FA X XT
  have bAg : Binds K fdA ["words", "sign"] [] := FA.binds fun _ _ _ _ _ _ us hl => match us, hl with | [_, _], _ => rfl
  have GG : FnOk P w K mg base CX0 1 B.gS fdG ["self"] (spGet K) := ok_get FG
  have bG : Binds K fdG ["self"] [] := FG.binds fun _ _ _ _ _ _ us hl => match us, hl with | [_], _ => rfl
  have WW : FnOk P w K mg base CX0 1 fWo fdW ["self"] (spWords C) := ok_words FW X O
  have bWo : Binds K fdW ["self"] [] := FW.binds fun _ _ _ _ _ _ us hl => match us, hl with | [_], _ => rfl
  have k0 := BB.k 0 (by decide)
  obtain ⟨t0, n0⟩ := k0.name
  refine F.ok scFe (fun vs H Q E h => ?_) (fun cdv A outer s H vs Q E hr h => ?_)
  · obtain ⟨a, m, l, dm, i, W, c, ws, rfl, _⟩ := h
    rfl
  · obtain ⟨a, m, l, dm, i, W, c, ws, rfl, bn, q⟩ := h
    have k := BB.k i (by have := bn.i3; omega)
    obtain ⟨tc, hc⟩ := k.con
    obtain ⟨dx, pc, ha⟩ := bn.at_
    have st := bn.st
    have g := bn.g
    refine ⟨_, (pss_cons (ps_set (i := 2) scFe.nd rfl (.inr rfl) (pe_cmpR op_eq (pe_con (pv 0) (by rfl)) (ClX.pe_cval (pe_glob (v := .ref (B.c 0)) (by rfl) k0.g rfl)) (by rfl)))
      (pss_one (ps_ret (pe_lc (own := [("word", 3), ("offset", 4)]) (g := gTup K 2 (gCons (gName 3) (gCons (gName 4) gNil))) (by rfl) scFe.nd (pi_list (pe_call AG (hr.mono (by decide)) (by rfl) XT.gAg XT.kAg bAg .nil L2.pass0 (pa_cons (pe_propX (p := pWo) (pe_propX (p := B.pS) (pv 0) GG (hr.mono (by decide)) bG .nil L2.pass0) WW (hr.mono (by decide)) bWo .nil L2.pass0) (pa_cons (pv 1) pa_nil)))) (blkOk_by (own := [("word", 3), ("offset", 4)]) (N := NFe) (sc := defScope sFe) (by decide +kernel)) (fun _ _ _ _ _ => pg_tup rfl (pgs_cons (pg_name (i := 3) scFe.nd rfl (Or.inl rfl)) (pgs_cons (pg_name (i := 4) scFe.nd rfl (Or.inl rfl)) pgs_nil))) (fun _ _ _ _ _ => pts_one ((pw_or (pt_cmpR op_eq (pv 4) pe_int (by rfl)) (pw_or1 (pt_not (pt_val (pv 2))))).pt)) (fun _ _ _ _ _ => pe_tup (pa_cons (pv 3) (pa_cons (pv 4) (pa_cons pe_int pa_nil)))))))), ?_⟩
    refine ⟨_, rfl, a, _, dx, _, _, _, rfl, ha, k.cls, hc, rfl, B.c 0, _, _, _, rfl, k0.rd, n0, rfl, ?_⟩
    rw [labN_line bn.i3]
    refine ⟨_, rfl, a, B.c i, dx, _, rfl, k.cls, k.prop, ha, a, B.c i, dx, _, _, rfl, ha, rfl, k.cls, k.noS, m, C, dm, _, rfl, O.cls, hpo, st.1, m, l, dm, _, rfl, st, fun wl hwl => ?_⟩
    have sw := same_new (o := .lst (ws.map V.str)) hwl
    refine ⟨_, rfl, wl, ws, W, c, rfl, upd_same, g, fun r ps H1 hr0 s1 e1 p1 => ?_⟩
    have sH := sw.trans s1
    refine ⟨r, rfl, ⟨_, .inl (.inl e1)⟩, fun D hD => ?_⟩
    have al := agr_len (c := c) (fun z hz => (g.all z hz).1) g.n6 g.w8
    have pl := len_p p1
    let fp : Nat → List En := fun j => (((agr ws c).take j).filter fun p => decide (p.2 = 0) || !decide (i = 0)).map fun p => (p.1, p.2, (1 : Int))
    refine walk_by (walk_list (xs := ps)) (fun j H' => ∃ es, L2.Same H1 H' ∧ H' D = some (.lst es) ∧ P3 H' es (fp j)) ⟨[], same_new hD, upd_same, .nil⟩ (fun j H' hj p => ?_) (fun j x H' H'' hj p y => ?_) (fun H' p => ?_)
    · obtain ⟨es, s, e, p⟩ := p
      exact .inl (.inl (s _ _ e1))
    · obtain ⟨es, s, e, p⟩ := p
      obtain ⟨eH, hx⟩ := y
      obtain rfl : H' = H'' := eH.symm
      obtain ⟨pr, hpr, q0, rfl, eq0⟩ := p_at p1 hx
      have eqs := s _ _ eq0
      have lj : j < (agr ws c).length := by omega
      have epr : (agr ws c)[j] = pr := by rw [List.getElem?_eq_getElem lj] at hpr; exact Option.some.inj hpr
      have fs : fp (j + 1) = fp j ++ (if (decide (pr.2 = 0) || !decide (i = 0)) = true then [(pr.1, pr.2, (1 : Int))] else []) := by
        show ((((agr ws c).take (j + 1)).filter _).map _) = _
        rw [List.take_succ_eq_append_getElem lj, List.filter_append, List.map_append, epr]
        by_cases hh : (decide (pr.2 = 0) || !decide (i = 0)) = true
        · rw [if_pos hh, List.filter_cons_of_pos (p := fun p : Nat × Nat => decide (p.2 = 0) || !decide (i = 0)) hh]; rfl
        · rw [if_neg hh, List.filter_cons_of_neg (p := fun p : Nat × Nat => decide (p.2 = 0) || !decide (i = 0)) hh]; rfl
      have le : es.length ≤ 48 := by
        rw [len_p p]
        show ((((agr ws c).take j).filter _).map _).length ≤ 48
        rw [List.length_map]
        exact Nat.le_trans (List.length_filter_le ..) (by rw [List.length_take]; omega)
      refine ⟨q0, _, rfl, .inl (.inl eqs), rfl, _, _, rfl, _, _, rfl, rfl, rfl, ?_⟩
      have keep : (decide (pr.2 = 0) || !decide (i = 0)) = true → ∀ Tn, H' Tn = none → ∃ acc, upd H' Tn (.tup [.int (pr.1 : Nat), .int (pr.2 : Nat), .int 1]) D = some (.lst acc) ∧ acc.length < sizeLine ∧ ∃ es', L2.Same H1 (upd (upd H' Tn (.tup [.int (pr.1 : Nat), .int (pr.2 : Nat), .int 1])) D (.lst (acc ++ [.ref Tn]))) ∧ upd (upd H' Tn (.tup [.int (pr.1 : Nat), .int (pr.2 : Nat), .int 1])) D (.lst (acc ++ [.ref Tn])) D = some (.lst es') ∧ P3 (upd (upd H' Tn (.tup [.int (pr.1 : Nat), .int (pr.2 : Nat), .int 1])) D (.lst (acc ++ [.ref Tn]))) es' (fp (j + 1)) := fun hb Tn hTn => by
        have s3 := same_new (o := .tup [.int (pr.1 : Nat), .int (pr.2 : Nat), .int 1]) hTn
        have e3 := s3 _ _ e
        refine ⟨es, e3, by rw [sizeLine_eq]; omega, _, samePut (s.trans s3) hD, upd_same, ?_⟩
        rw [fs, if_pos hb]
        exact p_snoc (p3_st ((Tst.same s3).trans (.lst e3)) p) ⟨Tn, rfl, (Tst.lst e3) _ _ upd_same⟩
      have d0 : decide (V.int (pr.2 : Nat) = V.int 0) = decide (pr.2 = 0) := by rw [Bool.eq_iff_iff]; simp
      refine ⟨_, rfl, rfl, _, rfl, ?_⟩
      rw [d0]
      by_cases c1 : pr.2 = 0
      · have hb : (decide (pr.2 = 0) || !decide (i = 0)) = true := by rw [decide_eq_true c1]; rfl
        refine iteT' (decide_eq_true c1) (iteT' (b := true) rfl ⟨_, rfl, _, rfl, Nat.le_of_ble_eq_true rfl, fun Tn hTn => keep hb Tn hTn⟩)
      · refine iteF' (decide_eq_false c1) ⟨_, rfl, _, rfl, ?_⟩
        by_cases c2 : i = 0
        · have hb : ¬ (decide (pr.2 = 0) || !decide (i = 0)) = true := by rw [decide_eq_false c1, decide_eq_true c2]; decide
          rw [decide_eq_true c2]
          refine iteF' (b := !true) rfl ⟨es, s, e, ?_⟩
          rw [fs, if_neg hb, List.append_nil]
          exact p
        · have hb : (decide (pr.2 = 0) || !decide (i = 0)) = true := by rw [decide_eq_false c2, Bool.not_false, Bool.or_true]
          have kp := keep hb
          rw [decide_eq_false c2]
          exact iteT' (b := !false) rfl ⟨_, rfl, _, rfl, Nat.le_of_ble_eq_true rfl, fun Tn hTn => kp Tn hTn⟩
    · obtain ⟨es, s, e, p⟩ := p
      refine q D es H' (sH.free hD) (sH.trans s) e ?_
      have : fp ps.length = firstF (decide (i = 0)) ws c := by
        show ((((agr ws c).take ps.length).filter _).map _) = _
        rw [pl, List.take_length]
        rfl
      rw [← this]
      exact p
theorem ok_ne {f : Addr} {fd fdA fdG fdW fdWi : FuncData} (F : L2.Fun K "next_entries" "next_entries" sNe f fd) (FA : L2.Fun K "agreeing" "agreeing" sAg fAg fdA) (FG : L2.Fun K "stamps" "Band.stamps" sStamps B.gS fdG) (FW : L2.Fun K "words" "Stamps.words" sWords fWo fdW) (FWi : L2.Fun K "width" "Stamps.width" sWidth fWi fdWi)
    (X : Txt K mg C fLow fText fAre fTape fNext fInks) (XT : TopT K mg fAg) (O : Own K C) (hpo : PropOf K C "words" pWo fWo) (hpi : PropOf K C "width" pWi fWi) (BB : Bds K mg B) : FnOk P w K mg base CX0 3 f fd ["band", "entries", "sign"] (spNe C B) := by
  have AG : FnOk P w K mg base CX0 1 fAg fdA ["words", "sign"] spAg := ok_ag FA X XT
  have bAg : Binds K fdA ["words", "sign"] [] := FA.binds fun _ _ _ _ _ _ us hl => match us, hl with | [_, _], _ => rfl
  have GG : FnOk P w K mg base CX0 1 B.gS fdG ["self"] (spGet K) := ok_get FG
  have bG : Binds K fdG ["self"] [] := FG.binds fun _ _ _ _ _ _ us hl => match us, hl with | [_], _ => rfl
  have WW : FnOk P w K mg base CX0 1 fWo fdW ["self"] (spWords C) := ok_words FW X O
  have bWo : Binds K fdW ["self"] [] := FW.binds fun _ _ _ _ _ _ us hl => match us, hl with | [_], _ => rfl
  have WI : FnOk P w K mg base CX0 1 fWi fdWi ["self"] (spWidth C) := ok_width FWi X O
  have bWi : Binds K fdWi ["self"] [] := FWi.binds fun _ _ _ _ _ _ us hl => match us, hl with | [_], _ => rfl
  refine F.ok scNe (fun vs H Q E h => ?_) (fun cdv A outer s H vs Q E hr h => ?_)
  · obtain ⟨a, el, m, l, dm, i, W, c, ws, es, rfl, _⟩ := h
    rfl
  · obtain ⟨a, el, m, l, dm, i, W, c, ws, es, rfl, bn, rw3, rok, q⟩ := h
    have hu1 : (A.deeper (envOfC "next_entries" (defScope sNe) s.heap.objs.size f cdv)).units + 1 < cLine := by have := hr.un; omega
    have k := BB.k i (by have := bn.i3; omega)
    obtain ⟨dx, pc, ha⟩ := bn.at_
    have st := bn.st
    have g := bn.g
    have les := rok.len
    refine ⟨_, (pss_cons (ps_set (i := 3) scNe.nd rfl (.inr rfl) (pe_propX (p := pWi) (pe_propX (p := B.pS) (pv 0) GG (hr.mono (by decide)) bG .nil L2.pass0) WI (hr.mono (by decide)) bWi .nil L2.pass0))
      (pss_cons (ps_setDcG (i := 7) (o0 := .dT []) (⟨rfl, hu1, scNe.nd, pi_list (pv 1), blkOk_by (own := [("word", 4), ("offset", 5), ("bound", 6)]) (N := NNe) (sc := defScope sNe) (by decide +kernel), fun _ _ _ _ _ => pg_tup rfl (pgs_cons (pg_name (i := 4) scNe.nd rfl (Or.inl rfl)) (pgs_cons (pg_name (i := 5) scNe.nd rfl (Or.inl rfl)) (pgs_cons (pg_name (i := 6) scNe.nd rfl (Or.inl rfl)) pgs_nil))), fun _ _ _ _ _ => pts_nil, fun _ _ _ _ _ => pe_tup (pa_cons (pv 4) (pa_cons (pe_op op_add (pv 5) pe_int) pa_nil)), fun _ _ _ _ _ => pv 6, fun _ => rfl⟩ : DcP _ _ _ _ _ _ _ [("word", 4), ("offset", 5), ("bound", 6)] _ (gTup K 3 (gCons (gName 4) (gCons (gName 5) (gCons (gName 6) gNil)))) tYes _ _) (.inr rfl) rfl rfl (swD rfl rfl rfl (by decide +kernel)))
      (C8.pss_cut (ps_set (i := 8) scNe.nd rfl (.inl rfl) (pe_callBK (cr_minD rfl) (by rfl) X.min boot_min (pa_cons (pe_lc (own := [("word", 4), ("offset", 5), ("bound", 6)]) (g := gTup K 3 (gCons (gName 4) (gCons (gName 5) (gCons (gName 6) gNil)))) (tt := tYes) (by rfl) scNe.nd (pi_list (pv 1)) (blkOk_by (own := [("word", 4), ("offset", 5), ("bound", 6)]) (N := NNe) (sc := defScope sNe) (by decide +kernel)) (fun _ _ _ _ _ => pg_tup rfl (pgs_cons (pg_name (i := 4) scNe.nd rfl (Or.inl rfl)) (pgs_cons (pg_name (i := 5) scNe.nd rfl (Or.inl rfl)) (pgs_cons (pg_name (i := 6) scNe.nd rfl (Or.inl rfl)) pgs_nil)))) (fun _ _ _ _ _ => pts_nil) (fun _ _ _ _ _ => pe_op op_add (pv 6) pe_int)) pa_nil) (pk_cons pe_non pk_nil)))
      (C8.pss_cut (ps_set (i := 9) scNe.nd rfl (.inl rfl) (pe_callBK (cr_minD rfl) (by rfl) X.min boot_min (pa_cons (pe_lc (own := [("word", 4), ("offset", 5), ("bound", 6)]) (g := gTup K 3 (gCons (gName 4) (gCons (gName 5) (gCons (gName 6) gNil)))) (by rfl) scNe.nd (pi_list (pv 1)) (blkOk_by (own := [("word", 4), ("offset", 5), ("bound", 6)]) (N := NNe) (sc := defScope sNe) (by decide +kernel)) (fun _ _ _ _ _ => pg_tup rfl (pgs_cons (pg_name (i := 4) scNe.nd rfl (Or.inl rfl)) (pgs_cons (pg_name (i := 5) scNe.nd rfl (Or.inl rfl)) (pgs_cons (pg_name (i := 6) scNe.nd rfl (Or.inl rfl)) pgs_nil)))) (fun _ _ _ _ _ => pts_one (pt_cmpR op_eq (pe_op op_add (pv 5) pe_int) (pv 3) (by rfl))) (fun _ _ _ _ _ => pe_op op_add (pv 6) pe_int)) pa_nil) (pk_cons pe_non pk_nil)))
      (pss_cons (ps_set (i := 10) scNe.nd rfl (.inl rfl) (pe_lst pa_nil))
      (pss_cons (ps_for PassesOwn.never rfl (pi_list (pe_call AG (hr.mono (by decide)) (by rfl) XT.gAg XT.kAg bAg .nil L2.pass0 (pa_cons (pe_propX (p := pWo) (pe_propX (p := B.pS) (pv 0) GG (hr.mono (by decide)) bG .nil L2.pass0) WW (hr.mono (by decide)) bWo .nil L2.pass0) (pa_cons (pv 2) pa_nil)))) (pg_tup rfl (pgs_cons (pg_name (i := 4) scNe.nd rfl (Or.inl rfl)) (pgs_cons (pg_name (i := 5) scNe.nd rfl (Or.inl rfl)) pgs_nil))) (C8.pss_cut (ps_set (i := 11) scNe.nd rfl (.inl rfl) (pe_ifExp (pt_cmpR op_eq (pv 5) pe_int (by rfl)) (pv 8) (pv 9)))
      (pss_cons (ps_set (i := 6) scNe.nd rfl (.inl rfl) (pe_dget2 hu1 (pv 7) (pe_tup (pa_cons (pv 4) (pa_cons (pv 5) pa_nil))) (pv 11) ⟨rfl, rfl, rfl, rfl⟩))
      (C8.pss_cut (ps_if ((pw_and (pt_cmpR op_notN (pv 11) pe_non (by rfl)) (pw_and1 (pt_cmpR op_lt (pv 11) (pv 6) (by rfl)))).pt) (pss_one (ps_set (i := 6) scNe.nd rfl (.inl rfl) (pv 11))) pss_nil)
      (pss_one (ps_if (pt_cmpR op_notN (pv 6) pe_non (by rfl)) (pss_one (ps_expr (pe_bm PySem.F.plainAttrs_list PySem.F.slot_list_append PySem.F.type_list_append mt_append (pv 10) (pa_cons (pe_tup (pa_cons (pv 4) (pa_cons (pv 5) (pa_cons (pv 6) pa_nil)))) pa_nil)))) pss_nil))))))
      (pss_one (ps_ret (pv 10))))))))), ?_⟩
    obtain ⟨vs, eel, p3⟩ := rw3
    have vl := len_p p3
    refine ⟨_, rfl, a, B.c i, dx, _, rfl, k.cls, k.prop, ha, a, B.c i, dx, _, _, rfl, ha, rfl, k.cls, k.noS, m, C, dm, _, rfl, O.cls, hpi, st.1, m, l, dm, ws, W, rfl, st, g, ?_⟩
    -- what an item of the entries is
    have item : ∀ {Hx : Hp} {j : Nat} {x : V}, L2.Same H Hx → vs[j]? = some x → ∃ (e : En) (q0 : Addr), es[j]? = some e ∧ x = .ref q0 ∧ Hx q0 = some (.tup [.int (e.1 : Nat), .int (e.2.1 : Nat), .int e.2.2]) := fun {Hx j x} s hx => by
      obtain ⟨e, he, q0, e1, e2⟩ := p_at p3 hx
      exact ⟨e, q0, he, e1, s _ _ e2⟩
    refine ⟨_, rfl, el, rfl, ⟨_, .inl (.inl eel)⟩, fun D hD => ?_⟩
    refine walk_by (walk_list (xs := vs)) (fun j Hx => L2.Same H Hx ∧ Hx D = some (.dT ((es.take j).map entK))) ⟨same_new hD, upd_same⟩ (fun j Hx hj p => .inl (.inl (p.1 _ _ eel))) (fun j x Hx Hy hj p y => ?_) (fun H1 p => ?_)
    · obtain ⟨eH, hx⟩ := y
      obtain rfl : Hx = Hy := eH.symm
      obtain ⟨e, q0, he, rfl, eq0⟩ := item p.1 hx
      have lj : j < es.length := by omega
      have ee : es[j] = e := by rw [List.getElem?_eq_getElem lj] at he; exact Option.some.inj he
      refine ⟨q0, _, rfl, .inl (.inl eq0), rfl, _, _, rfl, _, _, rfl, _, _, rfl, rfl, rfl, ?_⟩
      unfold tYes
      refine iteT' (b := true) rfl ⟨_, rfl, _, rfl, _, _, rfl, rfl, Nat.le_of_ble_eq_true rfl, fun Tn hTn => ⟨_, rfl, ?_⟩⟩
      have s3 := same_new (o := .tup [.int (e.1 : Nat), .int ((e.2.1 : Nat) + 1)]) hTn
      have e3 := s3 _ _ p.2
      refine ⟨_, DPut.t (k := (entK e).1) e3 upd_same (by rw [List.length_map, List.length_take, sizeLine_eq]; omega), samePut (p.1.trans s3) hD, ?_⟩
      rw [← ee, putK_new _ (rok.fresh lj), List.take_succ_eq_append_getElem lj, List.map_append, upd_same]
      rfl
    have h1 : L2.Same H H1 := p.1
    have eD : H1 D = some (.dT (es.map entK)) := by
      have := p.2
      rw [List.take_of_length_le (by omega)] at this
      exact this
    clear p
    -- a list of the bounds behind the entries
    have lists : ∀ {Hx : Hp}, L2.Same H Hx → ∀ {j : Nat} {x : V}, vs[j]? = some x → ∃ (e : En) (q0 : Addr), ∃ lj : j < es.length, es[j] = e ∧ x = .ref q0 ∧ Hx q0 = some (.tup [.int (e.1 : Nat), .int (e.2.1 : Nat), .int e.2.2]) := fun {Hx} s {j x} hx => by
      obtain ⟨e, q0, he, ex, eq0⟩ := item s hx
      have lj : j < es.length := (List.getElem?_eq_some_iff.mp he).1
      exact ⟨e, q0, lj, (List.getElem?_eq_some_iff.mp he).2, ex, eq0⟩
    refine ⟨fun σ Hx => σ = [some (.ref a), some (.ref el), some (.str ⟨#[c]⟩), some (.int (W : Nat)), none, none, none, some (.ref D), some (optV (mn (es.map (·.2.2 + 1)))), none, none, none] ∧ L2.Same H1 Hx, ?_, ?_⟩
    · refine ⟨_, rfl, el, rfl, ⟨_, .inl (.inl (h1 _ _ eel))⟩, fun L hL => ?_⟩
      refine walk_by (walk_list (xs := vs)) (fun j Hx => L2.Same H1 Hx ∧ Hx L = some (.lst (((es.take j).map (·.2.2 + 1)).map V.int))) ⟨same_new hL, upd_same⟩ (fun j Hx hj p => .inl (.inl (p.1 _ _ (h1 _ _ eel)))) (fun j x Hx Hy hj p y => ?_) (fun Hx p => ?_)
      · obtain ⟨eH, hx⟩ := y
        obtain rfl : Hx = Hy := eH.symm
        obtain ⟨e, q0, lj, ee, rfl, eq0⟩ := lists (h1.trans p.1) hx
        refine ⟨q0, _, rfl, .inl (.inl eq0), rfl, _, _, rfl, _, _, rfl, _, _, rfl, rfl, rfl, ?_⟩
        unfold tYes
        refine iteT' (b := true) rfl ⟨_, rfl, _, _, rfl, rfl, _, p.2, by rw [List.length_map, List.length_map, List.length_take, sizeLine_eq]; omega, samePut p.1 hL, ?_⟩
        rw [upd_same, List.take_succ_eq_append_getElem lj, List.map_append, List.map_append, ee]
        rfl
      · have pe := p.2
        rw [List.take_of_length_le (by omega)] at pe
        exact ⟨L, es.map (·.2.2 + 1), .non, rfl, rfl, .inl (.inl pe), fun m m1 m2 => ⟨by rw [mn_spec.mpr ⟨m1, m2⟩]; rfl, p.1⟩, fun e0 => ⟨by rw [mn_none.mpr e0]; rfl, p.1⟩⟩
    rintro σ H2 ⟨rfl, s12⟩
    have h2 : L2.Same H H2 := h1.trans s12
    refine ⟨fun σ Hx => σ = [some (.ref a), some (.ref el), some (.str ⟨#[c]⟩), some (.int (W : Nat)), none, none, none, some (.ref D), some (optV (mn (es.map (·.2.2 + 1)))), some (optV (mn ((es.filter fun e => decide (e.2.1 + 1 = W)).map (·.2.2 + 1)))), none, none] ∧ L2.Same H2 Hx, ?_, ?_⟩
    · refine ⟨_, rfl, el, rfl, ⟨_, .inl (.inl (h2 _ _ eel))⟩, fun L hL => ?_⟩
      refine walk_by (walk_list (xs := vs)) (fun j Hx => L2.Same H2 Hx ∧ Hx L = some (.lst ((((es.take j).filter fun e => decide (e.2.1 + 1 = W)).map (·.2.2 + 1)).map V.int))) ⟨same_new hL, upd_same⟩ (fun j Hx hj p => .inl (.inl (p.1 _ _ (h2 _ _ eel)))) (fun j x Hx Hy hj p y => ?_) (fun Hx p => ?_)
      · obtain ⟨eH, hx⟩ := y
        obtain rfl : Hx = Hy := eH.symm
        obtain ⟨e, q0, lj, ee, rfl, eq0⟩ := lists (h2.trans p.1) hx
        refine ⟨q0, _, rfl, .inl (.inl eq0), rfl, _, _, rfl, _, _, rfl, _, _, rfl, rfl, rfl, ?_⟩
        have dw : decide (V.int ((e.2.1 : Nat) + 1) = V.int (W : Nat)) = decide (e.2.1 + 1 = W) := by
          rw [Bool.eq_iff_iff]
          simp only [decide_eq_true_eq]
          constructor
          · intro z
            have := V.int.inj z
            omega
          · intro z
            rw [← z]
            rfl
        refine ⟨_, rfl, _, _, rfl, rfl, _, rfl, rfl, _, rfl, ?_⟩
        rw [dw]
        have tk := List.take_succ_eq_append_getElem lj
        by_cases hh : decide (e.2.1 + 1 = W) = true
        · refine iteT' hh ⟨_, rfl, _, _, rfl, rfl, _, p.2, ?_, samePut p.1 hL, ?_⟩
          · rw [List.length_map, List.length_map]
            refine Nat.lt_of_le_of_lt (List.length_filter_le ..) ?_
            rw [List.length_take, sizeLine_eq]; omega
          · rw [upd_same, tk, List.filter_append, ee, List.filter_cons_of_pos (p := fun e : En => decide (e.2.1 + 1 = W)) hh, List.map_append, List.map_append]
            rfl
        · refine iteF' (by simpa using hh) ⟨p.1, ?_⟩
          rw [tk, List.filter_append, ee, List.filter_cons_of_neg (p := fun e : En => decide (e.2.1 + 1 = W)) hh, List.filter_nil, List.append_nil]
          exact p.2
      · have pe := p.2
        rw [List.take_of_length_le (by omega)] at pe
        exact ⟨L, (es.filter fun e => decide (e.2.1 + 1 = W)).map (·.2.2 + 1), .non, rfl, rfl, .inl (.inl pe), fun m m1 m2 => ⟨by rw [mn_spec.mpr ⟨m1, m2⟩]; rfl, p.1⟩, fun e0 => ⟨by rw [mn_none.mpr e0]; rfl, p.1⟩⟩
    rintro σ H3 ⟨rfl, s23⟩
    have h3 : L2.Same H H3 := h2.trans s23
    have eD3 : H3 D = some (.dT (es.map entK)) := s23 _ _ (s12 _ _ eD)
    refine ⟨Nat.zero_le _, fun fl hfl => ?_⟩
    have s4 := same_new (o := .lst []) hfl
    have efl : upd H3 fl (.lst []) fl = some (.lst []) := upd_same
    generalize upd H3 fl (.lst []) = H4 at s4 efl ⊢
    have h4 : L2.Same H H4 := h3.trans s4
    have hfl0 : H fl = none := h3.free hfl
    have bn4 : H4 a = some _ := h4 _ _ ha
    refine ⟨_, rfl, a, B.c i, dx, _, rfl, k.cls, k.prop, h4 _ _ ha, a, B.c i, dx, _, _, rfl, h4 _ _ ha, rfl, k.cls, k.noS, m, C, dm, _, rfl, O.cls, hpo, h4 _ _ st.1, m, l, dm, _, rfl, ⟨h4 _ _ st.1, h4 _ _ st.2⟩, fun wl hwl => ?_⟩
    have s5 := same_new (o := .lst (ws.map V.str)) hwl
    refine ⟨_, rfl, wl, ws, W, c, rfl, upd_same, g, fun r ps H6 hr0 s6 e6 p6 => ?_⟩
    have s46 : L2.Same H4 H6 := s5.trans s6
    have efl6 := s46 _ _ efl
    have eD6 := s46 _ _ (s4 _ _ eD3)
    have h6 : L2.Same H H6 := h4.trans s46
    have al := agr_len (c := c) (fun z hz => (g.all z hz).1) g.n6 g.w8
    have pl := len_p p6
    have rfl_ : r ≠ fl := fun z => by have e5 := s5 _ _ efl; rw [z, e5] at hr0; cases hr0
    let fp : Nat → List En := fun j => ((agr ws c).take j).filterMap fun p => (nxtE W es p.1 p.2).map fun b => (p.1, p.2, b)
    refine ⟨r, rfl, ⟨_, .inl (.inl e6)⟩, for_list (xs := ps) (fun j σ Hx => ∃ v4 v5 v6 v11 vs', σ = [some (.ref a), some (.ref el), some (.str ⟨#[c]⟩), some (.int (W : Nat)), v4, v5, v6, some (.ref D), some (optV (mn (es.map (·.2.2 + 1)))), some (optV (mn ((es.filter fun e => decide (e.2.1 + 1 = W)).map (·.2.2 + 1)))), some (.ref fl), v11] ∧ (∀ b o, b ≠ fl → H6 b = some o → Hx b = some o) ∧ Hx fl = some (.lst vs') ∧ P3 Hx vs' (fp j)) ⟨_, _, _, _, _, rfl, fun b o _ e => e, efl6, .nil⟩ (fun j σ Hx hj p => ?_) (fun j x σ Hx hx p => ?_) (fun σ Hx p => ?_)⟩
    · obtain ⟨v4, v5, v6, v11, vs', rfl, st6, _⟩ := p
      exact .inl (.inl (st6 _ _ rfl_ e6))
    · obtain ⟨v4, v5, v6, v11, vs', rfl, st6, ef, pf⟩ := p
      obtain ⟨pr, hpr, q0, rfl, eq0⟩ := p_at p6 hx
      have eqx := st6 _ _ (ne_of eq0 efl6 fun z => nomatch z) eq0
      have lj : j < (agr ws c).length := (List.getElem?_eq_some_iff.mp hpr).1
      have epr : (agr ws c)[j] = pr := (List.getElem?_eq_some_iff.mp hpr).2
      have eDx := st6 _ _ (ne_of eD6 efl6 fun z => nomatch z) eD6
      have lv : vs'.length ≤ 48 := by
        rw [len_p pf]
        exact Nat.le_trans (List.length_filterMap_le ..) (by rw [List.length_take]; omega)
      have fs : fp (j + 1) = fp j ++ ((nxtE W es pr.1 pr.2).map fun b => (pr.1, pr.2, b)).toList := by
        show (((agr ws c).take (j + 1)).filterMap _) = _
        rw [List.take_succ_eq_append_getElem lj, List.filterMap_append, epr]
        cases hn : nxtE W es pr.1 pr.2 with
        | none => simp [hn, fp]
        | some b => simp [hn, fp]
      refine ⟨q0, _, rfl, .inl (.inl eqx), rfl, _, _, rfl, _, _, rfl, rfl, ?_⟩
      refine ⟨fun σ Hy => Hy = Hx ∧ σ = [some (.ref a), some (.ref el), some (.str ⟨#[c]⟩), some (.int (W : Nat)), some (.int (pr.1 : Nat)), some (.int (pr.2 : Nat)), v6, some (.ref D), some (optV (mn (es.map (·.2.2 + 1)))), some (optV (mn ((es.filter fun e => decide (e.2.1 + 1 = W)).map (·.2.2 + 1)))), some (.ref fl), some (optV (seamE W es pr.2))], ?_, ?_⟩
      · have d0 : decide (V.int (pr.2 : Nat) = V.int 0) = decide (pr.2 = 0) := by rw [Bool.eq_iff_iff]; simp
        refine ⟨_, rfl, rfl, _, rfl, ?_⟩
        rw [d0]
        unfold seamE
        by_cases c1 : pr.2 = 0
        · rw [if_pos c1]
          exact iteT' (decide_eq_true c1) ⟨_, rfl, rfl, rfl⟩
        · rw [if_neg c1]
          exact iteF' (decide_eq_false c1) ⟨_, rfl, rfl, rfl⟩
      rintro σ Hy ⟨rfl, rfl⟩
      refine ⟨_, rfl, D, rfl, .inr ⟨_, .inl eDx⟩, _, rfl, _, rfl, Nat.le_of_ble_eq_true rfl, fun Tn hTn => ?_⟩
      have s7 := same_new (o := .tup [.int (pr.1 : Nat), .int (pr.2 : Nat)]) hTn
      have eD7 := s7 _ _ eDx
      have ef7 := s7 _ _ ef
      have pf7 := p3_st (.same s7) pf
      have st7 : ∀ b o, b ≠ fl → H6 b = some o → upd Hy Tn (.tup [.int (pr.1 : Nat), .int (pr.2 : Nat)]) b = some o := fun b o nb e => s7 _ _ (st6 b o nb e)
      refine ⟨_, rfl, _, DGet.t (k := [Sum.inl (pr.1 : Int), Sum.inl (pr.2 : Int)]) eD7 upd_same, ?_⟩
      rw [valV_ent]
      generalize upd Hy Tn (.tup [.int (pr.1 : Nat), .int (pr.2 : Nat)]) = H7 at ef7 pf7 st7 ⊢
      refine ⟨fun σ Hy => Hy = H7 ∧ σ = [some (.ref a), some (.ref el), some (.str ⟨#[c]⟩), some (.int (W : Nat)), some (.int (pr.1 : Nat)), some (.int (pr.2 : Nat)), some (optV (nxtE W es pr.1 pr.2)), some (.ref D), some (optV (mn (es.map (·.2.2 + 1)))), some (optV (mn ((es.filter fun e => decide (e.2.1 + 1 = W)).map (·.2.2 + 1)))), some (.ref fl), some (optV (seamE W es pr.2))], ?_, ?_⟩
      · unfold nxtE
        cases hs : seamE W es pr.2 with
        | none =>
          refine ⟨_, rfl, rfl, _, rfl, iteF' rfl ⟨rfl, ?_⟩⟩
          cases hl : lkE es pr.1 pr.2 with
          | none => rfl
          | some b => rfl
        | some z =>
          refine ⟨_, rfl, rfl, _, rfl, iteT' rfl ?_⟩
          cases hl : lkE es pr.1 pr.2 with
          | none => exact ⟨_, rfl, _, rfl, _, _, rfl, rfl, _, rfl, iteF' (decide_eq_false (Int.lt_irrefl z)) ⟨rfl, rfl⟩⟩
          | some b =>
            refine ⟨_, rfl, _, rfl, _, _, rfl, rfl, _, rfl, ?_⟩
            by_cases cz : z < b
            · refine iteT' (decide_eq_true cz) ⟨_, rfl, rfl, ?_⟩
              simp only [if_pos cz]
              rfl
            · refine iteF' (decide_eq_false cz) ⟨rfl, ?_⟩
              simp only [if_neg cz]
              rfl
      rintro σ Hy2 ⟨rfl, rfl⟩
      cases hn : nxtE W es pr.1 pr.2 with
      | none =>
        refine ⟨_, rfl, rfl, _, rfl, iteF' rfl ⟨_, _, _, _, vs', rfl, st7, ef7, ?_⟩⟩
        rw [fs, hn]
        simpa using pf7
      | some b =>
        refine ⟨_, rfl, rfl, _, rfl, iteT' rfl ⟨_, rfl, .inl ⟨rfl, _, .inl (.inl ef7)⟩, _, rfl, _, rfl, _, rfl, Nat.le_of_ble_eq_true rfl, fun Tm hTm => ?_⟩⟩
        have s8 := same_new (o := .tup [.int (pr.1 : Nat), .int (pr.2 : Nat), .int b]) hTm
        have ef8 := s8 _ _ ef7
        refine ⟨fl, vs', _, rfl, rfl, ef8, by rw [sizeLine_eq]; omega, _, _, _, _, _, rfl, fun b' o nb e => (upd_ne nb).trans (s8 _ _ (st7 b' o nb e)), upd_same, ?_⟩
        rw [fs, hn]
        exact p_snoc (p3_st ((Tst.same s8).trans (.lst ef8)) pf7) ⟨Tm, rfl, (Tst.lst ef8) _ _ upd_same⟩
    · obtain ⟨v4, v5, v6, v11, vs', rfl, st6, ef, pf⟩ := p
      refine ⟨_, rfl, q fl vs' Hx hfl0 (fun b o e => st6 b o (ne_of_none e hfl0) (h6 b o e)) ef ?_⟩
      have : fp ps.length = nextF W ws es c := by
        show (((agr ws c).take ps.length).filterMap _) = _
        rw [pl, List.take_length]
        rfl
      rw [← this]
      exact pf
end
end Ov

set_option Elab.async false
set_option linter.all false
set_option maxRecDepth 100000
set_option maxHeartbeats 4000000
/-! check_text, table_of -/
namespace Ov
open PySem PySem.Spec PyProof.Rows L2 GxR
abbrev NTo : List Str := ["band", "text", "entries", "table", "letter"]
theorem scChkT : FnScope ["self", "text"] ["self", "text"] (defScope sChkT) := ⟨rfl, rfl, rfl, by decide +kernel, rfl, by decide +kernel, by decide +kernel⟩
theorem scTo : FnScope NTo ["band", "text"] (defScope sTo) := ⟨rfl, rfl, rfl, by decide +kernel, rfl, by decide +kernel, by decide +kernel⟩
structure TopU (K : PySem.W.Frag) (mg : Str → Option Value) (fFe fNe : Addr) : Prop where
  gFe : mg "first_entries" = some (.ref fFe)
  kFe : PySem.W.keepIn K (.ref fFe) = true
  gNe : mg "next_entries" = some (.ref fNe)
  kNe : PySem.W.keepIn K (.ref fNe) = true
def spChkT (K : PySem.W.Frag) (T : List Addr) (B : BA) (DTx : Addr) (i : Nat) : Sp := fun vs H Q E => ∃ (a m dx pc : Addr) (x : V), vs = [.ref a, x] ∧ H a = some (.ins (B.c i) dx [("_stamps", .ref m), ("pieces", .ref pc)]) ∧ (∀ p ∈ T, TabG H p) ∧
  ((∃ z : Str, x = .str z ∧ z.length ≤ sizeLine ∧ ∀ H2, Tbs T H H2 → if textB z (cellsN i : Nat) = true then Q .non H2 else E (.ref DTx) none H2) ∨ (∃ t, TyX K H x t ∧ PySem.W.kitOne K t (.type "str") = some false ∧ E (.ref DTx) none H))
theorem Bnd.kep {T : List Addr} {C : Addr} {B : BA} {H H' : Hp} {a i W m l dm : _} {ws : List Str} (hT : ∀ p ∈ T, TabG H p) (k : Kep T H H') (b : Bnd C B H a i ws W m l dm) : Bnd C B H' a i ws W m l dm :=
  ⟨let ⟨dx, pc, e⟩ := b.at_; ⟨dx, pc, k.at hT e (fun _ z => by cases z)⟩, ⟨k.at hT b.st.1 (fun _ z => by cases z), k.at hT b.st.2 (fun _ z => by cases z)⟩, b.g, b.i3⟩
theorem Bnd.same {C : Addr} {B : BA} {H H' : Hp} {a i W m l dm : _} {ws : List Str} (s : L2.Same H H') (b : Bnd C B H a i ws W m l dm) : Bnd C B H' a i ws W m l dm :=
  ⟨let ⟨dx, pc, e⟩ := b.at_; ⟨dx, pc, s _ _ e⟩, ⟨s _ _ b.st.1, s _ _ b.st.2⟩, b.g, b.i3⟩
theorem Bnd.but {C : Addr} {B : BA} {H H' : Hp} {t : Addr} {ts : List V} {a i W m l dm : _} {ws : List Str} (ht : H t = some (.lst ts)) (s : ∀ b o, b ≠ t → H b = some o → H' b = some o) (n : l ≠ t) (b : Bnd C B H a i ws W m l dm) : Bnd C B H' a i ws W m l dm :=
  ⟨let ⟨dx, pc, e⟩ := b.at_; ⟨dx, pc, s _ _ (ne_of e ht fun z => nomatch z) e⟩, ⟨s _ _ (ne_of b.st.1 ht fun z => nomatch z) b.st.1, s _ _ n b.st.2⟩, b.g, b.i3⟩
theorem Kep.sameU {T : List Addr} {H H1 H2 : Hp} (k : Kep T H H1) (s : L2.Same H1 H2) : Kep T H H2 := ⟨fun p hp => by
  obtain ⟨ps, h1, h2⟩ := k.1 p hp
  exact ⟨ps, s _ _ h1, h2⟩, fun a o ha e => s _ _ (k.2 a o ha e)⟩
theorem cut_from (z : Str) (h : 1 ≤ z.length) : cutS z (some 1) none = ⟨(z.cps.toList.drop 1).toArray⟩ := by
  unfold cutS
  rw [show (some (1 : Int) : Option Int) = some ((1 : Nat) : Int) from rfl, HT.sIx_nat, HT.sIx_none, Nat.min_eq_left h, List.take_of_length_le (by rw [List.length_drop]; exact Nat.le_refl _)]
/-- a text of a band: its table -/
def spTo (K : PySem.W.Frag) (T : List Addr) (C : Addr) (B : BA) (DTx : Addr) : Sp := fun vs H Q E => ∃ (a m l dm : Addr) (i W : Nat) (ws : List Str) (x : V), vs = [.ref a, x] ∧ Bnd C B H a i ws W m l dm ∧ (∀ p ∈ T, TabG H p) ∧
  ((∃ z : Str, x = .str z ∧ z.length ≤ sizeLine ∧ (textB z (cellsN i : Nat) = true → ∀ r H', H r = none → Kep T H H' → Tab3 H' r (tabF W (decide (i = 0)) ws z.cps.toList z.length) → Q (.ref r) H') ∧ (textB z (cellsN i : Nat) = false → ∀ H', Kep T H H' → E (.ref DTx) none H')) ∨ (∃ t, TyX K H x t ∧ PySem.W.kitOne K t (.type "str") = some false ∧ E (.ref DTx) none H))
section
variable {P : Program} {w : World} {K : PySem.W.Frag} {mg : Str → Option Value} {base : Heap} {T : List Addr} {C D fLow fText fAre fTape fNext fInks fInit cLow PLow cAre PAre fAg fFe fNe fCt pWo fWo pWi fWi DTx : Addr} {B : BA}
theorem ok_chkt {f : Addr} {i : Nat} {fd fdX fdL : FuncData} (hi : i < 3) (F : L2.Fun K "check_text" "Band.check_text" sChkT f fd) (FX : L2.Fun K "is_text" "is_text" sText fText fdX) (FL : FunC K "is_lowercase" "is_lowercase" sLow fLow fdL cLow)
    (X : Txt K mg C fLow fText fAre fTape fNext fInks) (Tb : Tab base mg T cLow PLow cAre PAre) (BB : Bds K mg B) (E1 : ErrC K mg "InvalidText" DTx) :
    FnOk P w K mg base (L2.CX P w) 4 f fd ["self", "text"] (spChkT K T B DTx i) := by
  have TX : FnOk P w K mg base CX0 3 fText fdX ["thing", "most"] (spText K T) := ok_text FX FL X Tb
  have bX : Binds K fdX ["thing", "most"] [] := FX.binds fun _ _ _ _ _ _ us hl => match us, hl with | [_, _], _ => rfl
  have k := BB.k i (by omega)
  obtain ⟨tc, hc⟩ := k.cells
  refine F.okX scChkT (fun vs H Q E h => ?_) (fun cdv A outer s H vs Q E hr h => ?_)
  · obtain ⟨a, m, dx, pc, x, rfl, _⟩ := h
    rfl
  · obtain ⟨a, m, dx, pc, x, rfl, ha, hT, h⟩ := h
    refine ⟨_, (pss_one (ps_if (pt_not (pt_val (pe_call TX (hr.mono (by decide)) (by rfl) X.gText X.kText bX .nil L2.pass0 (pa_cons (pv 1) (pa_cons (pe_con (pv 0) (by rfl)) pa_nil))))) (pss_one (ps_raise rfl (takes_of rfl rfl rfl rfl) (pmk_own PySem.F.excBase_ValueError E1.e E1.g E1.k (raises_own E1.b E1.t) (by rfl)))) pss_nil)), ?_⟩
    rcases h with ⟨z, rfl, hz, h⟩ | ⟨t, ht, hk, h⟩
    · refine ⟨_, rfl, _, rfl, a, _, dx, _, _, _, rfl, ha, k.cls, hc, rfl, _, _, rfl, hT, .inl ⟨z, rfl, hz, fun H2 h2 => ⟨_, rfl, ?_⟩⟩⟩
      have hh := h H2 h2
      cases hs : textB z (cellsN i : Nat) with
      | false =>
        rw [hs, if_neg (by decide)] at hh
        exact iteT hh
      | true =>
        rw [hs, if_pos rfl] at hh
        exact iteF hh
    · exact ⟨_, rfl, _, rfl, a, _, dx, _, _, _, rfl, ha, k.cls, hc, rfl, _, _, rfl, hT, .inr ⟨t, ht, hk, _, rfl, iteT h⟩⟩
theorem ok_to {f : Addr} {fd fdC fdF fdN : FuncData} (F : L2.Fun K "table_of" "table_of" sTo f fd) (FC : L2.Fun K "check_text" "Band.check_text" sChkT fCt fdC) (CT_ : ∀ i, i < 3 → FnOk P w K mg base (L2.CX P w) 4 fCt fdC ["self", "text"] (spChkT K T B DTx i)) (FF : L2.Fun K "first_entries" "first_entries" sFe fFe fdF) (FE : FnOk P w K mg base CX0 3 fFe fdF ["band", "sign"] (spFe C B)) (FN : L2.Fun K "next_entries" "next_entries" sNe fNe fdN) (NE : FnOk P w K mg base CX0 3 fNe fdN ["band", "entries", "sign"] (spNe C B))
    (XU : TopU K mg fFe fNe) (BB : Bds K mg B) (mCt : ∀ i, i < 3 → Meth K (B.c i) "check_text" fCt) : FnOk P w K mg base (L2.CX P w) 6 f fd ["band", "text"] (spTo K T C B DTx) := by
  have bCt : Binds K fdC ["self", "text"] [] := FC.binds fun _ _ _ _ _ _ us hl => match us, hl with | [_, _], _ => rfl
  have bFe : Binds K fdF ["band", "sign"] [] := FF.binds fun _ _ _ _ _ _ us hl => match us, hl with | [_, _], _ => rfl
  have bNe : Binds K fdN ["band", "entries", "sign"] [] := FN.binds fun _ _ _ _ _ _ us hl => match us, hl with | [_, _, _], _ => rfl
  refine F.okX scTo (fun vs H Q E h => ?_) (fun cdv A outer s H vs Q E hr h => ?_)
  · obtain ⟨a, m, l, dm, i, W, ws, x, rfl, _⟩ := h
    rfl
  · obtain ⟨a, m, l, dm, i, W, ws, x, rfl, bn, hT, h⟩ := h
    have k := BB.k i (by have := bn.i3; omega)
    have CT := CT_ i bn.i3
    obtain ⟨dx, pc, ha⟩ := bn.at_
    refine ⟨_, (pss_cons (ps_expr (pe_meth (pv 0) k.cls (mCt i bn.i3) CT (hr.mono (by decide)) bCt .nil (passes_call (E := E) (takes_of rfl rfl rfl rfl) (fun _ _ _ _ h => h)) (pa_cons (pv 1) pa_nil)))
      (pss_cons (ps_set (i := 2) scTo.nd rfl (.inl rfl) (pe_call FE (hr.mono (by decide)) (by rfl) XU.gFe XU.kFe bFe .nil L2.pass0 (pa_cons (pv 0) (pa_cons (pe_ix ix_seq (pv 1) pe_int fun _ _ => rfl) pa_nil))))
      (pss_cons (ps_set (i := 3) scTo.nd rfl (.inl rfl) (pe_lst (pa_cons (pv 2) pa_nil)))
      (pss_cons (ps_for (passes_of rfl) rfl (pi_str (pe_slice sl_str (pv 1) (po_some pe_int) po_none)) (pg_name (i := 4) scTo.nd rfl (Or.inl rfl)) (pss_cons (ps_set (i := 2) scTo.nd rfl (.inl rfl) (pe_call NE (hr.mono (by decide)) (by rfl) XU.gNe XU.kNe bNe .nil L2.pass0 (pa_cons (pv 0) (pa_cons (pv 2) (pa_cons (pv 4) pa_nil)))))
      (pss_one (ps_expr (pe_bm PySem.F.plainAttrs_list PySem.F.slot_list_append PySem.F.type_list_append mt_append (pv 3) (pa_cons (pv 2) pa_nil))))))
      (pss_one (ps_ret (pv 3))))))), ?_⟩
    rcases h with ⟨z, rfl, hz, h1, h0⟩ | ⟨t, ht, hk, h⟩
    · refine ⟨_, rfl, a, dx, _, rfl, ha, rfl, _, rfl, a, m, dx, pc, .str z, rfl, ha, hT, .inl ⟨z, rfl, hz, fun H2 h2 => ?_⟩⟩
      cases hv : textB z (cellsN i : Nat) with
      | false => exact h0 hv _ h2.kep
      | true =>
      refine iteT ?_
      have q := h1 hv
      have kz := h2.kep
      have hT2 := h2.1
      have bn2 := bn.kep hT kz
      obtain ⟨z1, z2, zl⟩ : 1 ≤ z.length ∧ z.length ≤ 120 ∧ lowB z = true := by
        unfold textB at hv
        simp only [Bool.and_eq_true, decide_eq_true_eq] at hv
        have : cellsN i ≤ 120 := by unfold cellsN; split <;> omega
        exact ⟨by omega, by omega, hv.2⟩
      have zL : z.cps.toList.length = z.length := by simp [Str.length]
      have hw : ∀ y ∈ ws, y.length = W := fun y hy => (bn.g.all y hy).1
      obtain ⟨c0, hc0⟩ : ∃ c0, z.cps.toList[0]? = some c0 := ⟨_, List.getElem?_eq_getElem (by omega)⟩
      refine ⟨_, rfl, _, rfl, .inr (.inr ⟨z, 0, c0, rfl, rfl, hz, atI_nat (j := 0) hc0, ?_⟩)⟩
      refine ⟨a, m, l, dm, i, W, c0, ws, rfl, bn2, fun r es H3 hr3 s3 e3 p3 => ?_⟩
      have ec0 : z.cps.toList.getD 0 0 = c0 := by rw [List.getD_eq_getElem?_getD, hc0]; rfl
      have row0 : Row3 H3 r (rowF W (decide (i = 0)) ws z.cps.toList 0) := ⟨es, e3, by show P3 H3 es (firstF _ ws (z.cps.toList.getD 0 0)); rw [ec0]; exact p3⟩
      refine ⟨_, rfl, Nat.le_of_ble_eq_true rfl, fun tl htl => ?_⟩
      have s4 := same_new (o := .lst [.ref r]) htl
      have etl : upd H3 tl (.lst [.ref r]) tl = some (.lst [.ref r]) := upd_same
      have rtl : r ≠ tl := ne_of_none e3 htl
      have htl0 : H tl = none := kz.free hT (s3.free htl)
      generalize upd H3 tl (.lst [.ref r]) = H4 at s4 etl ⊢
      have bn4 := bn2.same (s3.trans s4)
      have k4 : Kep T H H4 := kz.sameU (s3.trans s4)
      refine ⟨_, rfl, _, rfl, z, rfl, hz, _, rfl, ?_⟩
      rw [cut_from z z1]
      have tlT : tl ∉ T := free_tab hT htl0
      refine for_it (walk_str (z := ⟨(z.cps.toList.drop 1).toArray⟩)) (fun j σ Hx => ∃ v4 rl as, σ = [some (.ref a), some (.str z), some (.ref rl), some (.ref tl), v4] ∧ (∀ b o, b ≠ tl → H4 b = some o → Hx b = some o) ∧ Hx tl = some (.lst (as.map V.ref)) ∧ Paired (Row3 Hx) as (tabF W (decide (i = 0)) ws z.cps.toList (j + 1)) ∧ Row3 Hx rl (rowF W (decide (i = 0)) ws z.cps.toList j) ∧ tl ∉ as ∧ rl ≠ tl)
        ⟨none, r, [r], rfl, fun b o _ e => e, etl, .cons (row0.same s4) .nil, row0.same s4, by simpa using Ne.symm rtl, rtl⟩ (fun _ _ _ _ _ => trivial) (fun j x σ Hx Hy hj p y => ?_) (fun σ Hx p => ?_)
      · obtain ⟨v4, rl, as, rfl, st, et, pr, row, nt, rn⟩ := p
        obtain ⟨eH, c, hc, rfl⟩ := y
        obtain rfl : Hx = Hy := eH.symm
        have hj' : j + 1 < z.length := by
          have : j < (z.cps.toList.drop 1).toArray.size := hj
          rw [List.size_toArray, List.length_drop, zL] at this
          omega
        have ec : z.cps.toList.getD (j + 1) 0 = c := by
          have h' : (z.cps.toList.drop 1).toArray[j]? = some c := hc
          rw [List.getElem?_toArray, List.getElem?_drop] at h'
          rw [List.getD_eq_getElem?_getD, Nat.add_comm j 1, h']
          rfl
        have lt : l ≠ tl := ne_of_none (bn2.same s3).st.2 htl
        have bnx := bn4.but etl st lt
        refine ⟨_, rfl, _, rfl, _, rfl, a, rl, m, l, dm, i, W, c, ws, _, rfl, bnx, row, row_ok hw bn.g.n6 bn.g.w8 j, fun r' vs' H5 hr5 s5 e5 p5 => ?_⟩
        have et5 := s5 _ _ et
        have rt5 : r' ≠ tl := fun z => by rw [z, et] at hr5; cases hr5
        have row5 : Row3 H5 r' (rowF W (decide (i = 0)) ws z.cps.toList (j + 1)) := ⟨vs', e5, by show P3 H5 vs' (nextF W ws _ (z.cps.toList.getD (j + 1) 0)); rw [ec]; exact p5⟩
        have al : as.length = j + 1 := by rw [len_p pr, tabF_len]
        have nt5 : tl ∉ as ++ [r'] := fun hm => by
          rcases List.mem_append.mp hm with hm | hm
          · exact nt hm
          · exact rt5 (List.mem_singleton.mp hm).symm
        have oth : ∀ b o, b ≠ tl → H5 b = some o → upd H5 tl (.lst (as.map V.ref ++ [.ref r'])) b = some o := fun b o nb e => (upd_ne nb).trans e
        have pr5 : Paired (Row3 H5) (as ++ [r']) (tabF W (decide (i = 0)) ws z.cps.toList (j + 1 + 1)) := by
          rw [tabF_succ]
          exact p_snoc (pairedMono (fun _ _ => Row3.same s5) pr) row5
        refine ⟨_, rfl, .inl ⟨rfl, _, .inl (.inl et5)⟩, _, rfl, tl, _, _, rfl, rfl, et5, by rw [List.length_map, sizeLine_eq]; omega, _, r', as ++ [r'], rfl, fun b o nb e => oth b o nb (s5 _ _ (st b o nb e)), ?_, ?_, row5.but et5 oth rt5, nt5, rt5⟩
        · rw [upd_same, List.map_append]; rfl
        · refine paired_in pr5 fun b hb es row => row.but et5 oth fun z => nt5 (z ▸ hb)
      · obtain ⟨v4, rl, as, rfl, st, et, pr, row, nt, rn⟩ := p
        have e1 : (z.cps.toList.drop 1).toArray.size + 1 = z.length := by rw [List.size_toArray, List.length_drop]; omega
        refine ⟨_, rfl, q tl Hx htl0 ⟨fun p hp => ?_, fun b o nb e => st b o (ne_of_none e htl0) (k4.2 b o nb e)⟩ ⟨as, et, ?_⟩⟩
        · obtain ⟨ps, h1, h2⟩ := k4.1 p hp
          exact ⟨ps, st _ _ (fun e => tlT (e ▸ hp)) h1, h2⟩
        · rw [← e1]
          exact pr
    · exact ⟨_, rfl, a, dx, _, rfl, ha, rfl, _, rfl, a, m, dx, pc, x, rfl, ha, hT, .inr ⟨t, ht, hk, h⟩⟩
end
end Ov

set_option Elab.async false
set_option linter.all false
set_option maxRecDepth 100000
set_option maxHeartbeats 400000
/-! zip(text, list); t >= u of two pairs of whole numbers -/
namespace Ov
open PySem PySem.Spec PyProof.Rows L2 GxR
/-- the signs of z with the items of the list at b, in new pairs -/
def ItzS (K : PySem.W.Frag) (z : Str) (b : Addr) : It :=
  ⟨fun i H => ∃ (ys : List V) (c : Nat) (y : V), SqL K H b ys ∧ z.cps[i]? = some c ∧ ys[i]? = some y,
    fun i H v H' => ∃ (p : Addr) (c : Nat) (y : V), v = .ref p ∧ H p = none ∧ H' = upd H p (.tup [.str ⟨#[c]⟩, y]) ∧ z.cps[i]? = some c ∧ ∀ ys, SqL K H b ys → ys[i]? = some y,
    fun i H => ∃ ys : List V, SqL K H b ys ∧ i ≤ z.cps.size ∧ i ≤ ys.length ∧ (i = z.cps.size ∨ i = ys.length)⟩
theorem walk_zipS {K : PySem.W.Frag} {z : Str} {b : Addr} {ys : List V} (hl : z.cps.size = ys.length) : Walk (ItzS K z b) ys.length (fun H => SqL K H b ys) (fun i H v H' => ∃ (p : Addr) (c : Nat) (y : V), v = .ref p ∧ H p = none ∧ H' = upd H p (.tup [.str ⟨#[c]⟩, y]) ∧ z.cps[i]? = some c ∧ ys[i]? = some y) :=
  ⟨fun i H hi q => ⟨ys, _, _, q, Array.getElem?_eq_getElem (by omega), List.getElem?_eq_getElem hi⟩, fun H q => ⟨ys, q, by omega, Nat.le_refl _, .inr rfl⟩, fun i H x H' hi q y =>
    let ⟨p, c, y', h1, h2, h3, h4, h5⟩ := y; ⟨p, c, y', h1, h2, h3, h4, h5 _ q⟩⟩
theorem turn_zipS {P : Program} {w : World} {K : PySem.W.Frag} {elts : List Expr} {kk : Nat} {tpos : Pos} {x : Str} {t : Tok} {b z TI TO i1 i2 : Addr} (S : ZipSep2 z TI TO i1 i2 [i1] [i2, b]) :
    L2.Turn P w K (.Tuple elts kk tpos) (ItzS K x b) [z, TI, TO, i1, i2] z (fun i h => IsZip h z TI TO .none ∧ IsTupOf2 h TI (.ref i1) (.ref i2) ∧ (∃ u v, IsTupOf2 h TO u v) ∧ h.IsStrIter i1 (strIterType x) x t i ∧ h.IsListIter i2 b i) where
  mem := by simp
  obj := fun i h st c hc => by
    obtain ⟨hz, hTI, ⟨u, v, hTO⟩, ⟨o1, e1, _, d1⟩, ⟨o2, e2, _, d2⟩⟩ := st
    simp only [List.mem_cons, List.not_mem_nil, or_false] at hc
    rcases hc with rfl | rfl | rfl | rfl | rfl
    · exact ⟨_, hz, fun v q => nomatch q⟩
    · exact ⟨_, hTI, fun v q => nomatch q⟩
    · exact ⟨_, hTO, fun v q => nomatch q⟩
    · exact ⟨o1, e1, fun v q => by rw [d1] at q; cases q⟩
    · exact ⟨o2, e2, fun v q => by rw [d2] at q; cases q⟩
  keep := fun i h h' st k => by
    obtain ⟨hz, hTI, ⟨u, v, hTO⟩, ⟨o1, e1, r1⟩, h2⟩ := st
    exact ⟨k _ (by simp) _ hz, k _ (by simp) _ hTI, ⟨u, v, k _ (by simp) _ hTO⟩, ⟨o1, k _ (by simp) _ e1, r1⟩, h2.at fun o e => k _ (by simp) o e⟩
  item := by
    rintro X rfl rfl rfl hc i pins s σ H E I hf ⟨hz, hTI, ⟨u0, v0, hTO⟩, h1, h2⟩ ⟨ys, c, y, hq, hc1, hy⟩
    obtain ⟨its, rv, p, _⟩ := I.list hq
    obtain ⟨v, hv, rvv⟩ := rv.get hy
    have hh : X.A.in1.handled = none := I.ok.hd hc
    have nb : b ≠ i2 := fun e => by
      obtain ⟨o, e1, e2, _⟩ := p.isList
      obtain ⟨o2, e3, e4, _⟩ := h2
      rw [← e, e1] at e3
      cases e3
      rw [e2] at e4
      exact absurd e4 (by decide)
    have lz : i < x.cps.size := (Array.getElem?_eq_some_iff.mp hc1).1
    have li : i < its.toArray.size := by rw [List.size_toArray]; exact (List.getElem?_eq_some_iff.mp hv).1
    have zlt : z < s.heap.objs.size := Heap.lt_size hz
    refine wpAny_pyNext_zipD2_item S (Draws.text hh i1 x t) (Draws.list hh i2 b nb its.toArray) hz hTI hTO h1 ⟨h2, p.isList⟩ lz li fun x1 x2 h' tk y1 y2 z' TO' k1 k2 hT hsz hk => ?_
    obtain ⟨c', u', hc', rfl⟩ := y1
    obtain rfl : c' = c := Option.some.inj (hc'.symm.trans hc1)
    obtain rfl : x2 = v := Option.some.inj ((show its.toArray[i]? = some x2 from y2).symm.trans (by simpa using hv))
    refine ⟨_, rfl, wpAny_letOwnedTupleGo_zip (s := { s with heap := h', toks := tk }) z' fun h2' z2 sb => ?_⟩
    have hT2 := (sb.2 _ (Nat.ne_of_gt zlt)).trans hT
    have new : ObjOk X.prog X.w (upd H s.heap.objs.size (.tup [.str ⟨#[c']⟩, y])) h2' s.heap.objs.size (.tup [.str ⟨#[c']⟩, y]) := ⟨by show 2 ≤ sizeLine; decide, [.str ⟨#[c']⟩ u', x2], .cons ⟨_, rfl⟩ (.cons rvv .nil), ⟨_, hT2, rfl, _, rfl⟩⟩
    have far : ∀ d o, d ∉ [z, TI, TO, i1, i2] → s.heap.get? d = some o → h2'.get? d = some o := fun d o hd e => by
      simp only [List.mem_cons, List.not_mem_nil, or_false, not_or] at hd
      exact (sb.2 d hd.1).trans (hk d o hd.1 hd.2.2.1 hd.2.2.2.1 hd.2.2.2.2 e)
    have I1 : Inv X pins σ (upd H s.heap.objs.size (.tup [.str ⟨#[c']⟩, y])) { s with heap := h2', toks := tk } := I.turnedNew (t' := tk) (ch := [z, TI, TO, i1, i2]) far hf (Nat.le_refl _) new
    refine ⟨.ref s.heap.objs.size, _, I1, rfl, ⟨_, c', y, rfl, I.hok.fresh (Nat.le_refl _), rfl, hc1, fun l hl => by rw [I.list_inj hl hq]; exact hy⟩, ⟨z2, ?_, ⟨_, x2, (sb.2 _ S.TOz).trans TO'⟩, ?_, ?_⟩, fun d hd => ?_⟩
    · exact (sb.2 _ S.TIz).trans (hk _ _ S.TIz S.TITO S.TIi1 S.TIi2 hTI)
    · exact k1.extBut sb.extBut fun e => S.zf1 (by simp [e])
    · exact k2.1.extBut sb.extBut fun e => S.zf2 (by simp [e])
    · have := (hf d hd).1
      have dl : d < s.heap.objs.size := by
        simp only [List.mem_cons, List.not_mem_nil, or_false] at hd
        rcases hd with rfl | rfl | rfl | rfl | rfl
        · exact zlt
        · exact Heap.lt_size hTI
        · exact Heap.lt_size hTO
        · exact let ⟨_, e, _⟩ := h1; Heap.lt_size e
        · exact let ⟨_, e, _⟩ := h2; Heap.lt_size e
      rw [upd_ne (Nat.ne_of_lt dl)]
      exact this
  done := by
    rintro X rfl rfl rfl hc i pins s σ H E I hf ⟨hz, hTI, ⟨u0, v0, hTO⟩, h1, h2⟩ ⟨ys, hq, l1, l2, hend⟩
    obtain ⟨its, rv, p, _⟩ := I.list hq
    have lr := rv.length
    have hh : X.A.in1.handled = none := I.ok.hd hc
    have nb : b ≠ i2 := fun e => by
      obtain ⟨o, e1, e2, _⟩ := p.isList
      obtain ⟨o2, e3, e4, _⟩ := h2
      rw [← e, e1] at e3
      cases e3
      rw [e2] at e4
      exact absurd e4 (by decide)
    refine wpAny_pyNext_zipD2_end S (Draws.text hh i1 x t) (Draws.list hh i2 b nb its.toArray) hz hTI hTO h1 ⟨h2, p.isList⟩ l1 (by simp; omega) (by simp; omega) fun h' tk hk => ⟨rfl, ?_⟩
    exact I.turnedL (t' := tk) (ch := [z, TI, TO, i1, i2]) (fun d o hd e => by
      simp only [List.mem_cons, List.not_mem_nil, or_false, not_or] at hd
      exact hk d o hd.1 hd.2.2.1 hd.2.2.2.1 hd.2.2.2.2 e) hf
  self := fun A i s Q E st h => wpAny_pyIter_zip st.1 h
def iZipS (K : PySem.W.Frag) (ta : TA) : TI := fun σ H R => ta σ H fun vs H1 => ∃ (z : Str) (b : Addr) (ys : List V), vs = [.str z, .ref b] ∧ SqL K H1 b ys ∧ R (ItzS K z b) H1
theorem zsep {n b : Nat} (h : b < n) : ZipSep2 (n + 4) (n + 2) (n + 3) n (n + 1) [n] [n + 1, b] := by
  have a1 : n + 2 ≠ n + 4 := by omega
  have a2 : n + 3 ≠ n + 4 := by omega
  have a3 : n + 2 ≠ n + 3 := by omega
  have a4 : n + 2 ≠ n := by omega
  have a5 : n + 2 ≠ n + 1 := by omega
  have a6 : n + 4 ≠ n := by omega
  have a7 : n + 3 ≠ n := by omega
  have a8 : n + 4 ≠ n + 1 := by omega
  have a9 : n + 4 ≠ b := by omega
  have b1 : n + 3 ≠ n + 1 := by omega
  have b2 : n + 3 ≠ b := by omega
  have b3 : n ≠ n + 1 := by omega
  have b4 : n ≠ b := by omega
  exact ⟨a1, a2, a3, a4, List.mem_singleton.mpr rfl, fun m => a6 (List.mem_singleton.mp m), fun m => a7 (List.mem_singleton.mp m), a5, List.mem_cons_self, fun m => by
      rcases List.mem_cons.mp m with q | m
      · exact a8 q
      · exact a9 (List.mem_singleton.mp m), fun m => by
      rcases List.mem_cons.mp m with q | m
      · exact b1 q
      · exact b2 (List.mem_singleton.mp m), fun m => by
      rcases List.mem_cons.mp m with q | m
      · exact b3 q
      · exact b4 (List.mem_singleton.mp m), fun m => b3 (List.mem_singleton.mp m).symm⟩
/-- for .. in zip(text, list) -/
theorem pi_zipS {X : Cx} {e e2 : Expr} {ta : TA} {p pos tpos : Pos} {elts : List Expr} {kk : Nat} (hg : Gl X "zip") (hm : X.mg "zip" = none) (ha : PA X [e, e2] ta)
    (hs : starEach [e, e2] X.env = (false, eval e X.env) :: starEach [e2] X.env := by rfl) (hpl : (backTo pos (starEach [e2] X.env)).any (·.1) = false := by rfl) :
    PI X (.Tuple elts kk tpos) (.Call (.Name "zip" p) [e, e2] [] pos) (iZipS X.K ta) := by
  refine ⟨fun pins s σ H R I h => ?_⟩
  refine Call_ (ld_blt I hg hm PyProof.Rows.boot_zip (PyProof.Rows.callWith_type1 (thn (ha.run pos pins s σ H _ I h) fun us s1 ⟨vs, H1, I1, r1, q1⟩ => ?_) hs hpl))
  obtain ⟨z, b, ys, ex, hq, q⟩ := q1
  subst ex
  cases r1 with
  | cons r rr =>
    cases rr with
    | cons r' rr =>
      cases rr
      obtain ⟨t, rfl⟩ := r
      cases r'
      obtain ⟨its, rv, p1, _⟩ := I1.list hq
      have bl : b < s1.heap.objs.size := p1.lt
      refine zip_begins2 (begins_text z t) (begins_list b its.toArray) trivial p1.isList fun h' hz hTI hTO g1 g2 hsz hk => wpAny_pyIter_zip hz ?_
      have I2 : Inv X pins σ H1 { s1 with heap := h' } := I1.kept (t' := s1.toks) hk
      refine ⟨s1.heap.objs.size + 4, [s1.heap.objs.size + 4, s1.heap.objs.size + 2, s1.heap.objs.size + 3, s1.heap.objs.size, s1.heap.objs.size + 1], _, _, H1, rfl, I2, turn_zipS (x := z) (t := t) (b := b) (zsep bl), ⟨hz, hTI, ⟨_, _, hTO⟩, ⟨_, g1, rfl, rfl⟩, ⟨_, g2, rfl, rfl⟩⟩, fun d hd => ?_, q⟩
      have hle : s1.heap.objs.size ≤ d := by
        simp only [List.mem_cons, List.not_mem_nil, or_false] at hd
        rcases hd with rfl | rfl | rfl | rfl | rfl
        · exact Nat.le_add_right _ _
        · exact Nat.le_add_right _ _
        · exact Nat.le_add_right _ _
        · exact Nat.le_refl _
        · exact Nat.le_add_right _ _
      exact I1.fpOk hle (I1.hok.fresh hle)
end Ov

set_option Elab.async false
set_option linter.all false
set_option maxRecDepth 100000
set_option maxHeartbeats 400000
/-! t >= u of two pairs of whole numbers -/
namespace Ov
open PySem PySem.Spec PyProof.Rows L2 GxR
def geP (n1 n2 m1 m2 : Int) : Bool := decide (m1 < n1 ∨ (n1 = m1 ∧ m2 ≤ n2))
def rGeP (K : PySem.W.Frag) : R2 := fun x y H Q => ∃ (a b : Addr) (n1 n2 m1 m2 : Int), x = .ref a ∧ y = .ref b ∧ SqT K H a [.int n1, .int n2] ∧ SqT K H b [.int m1, .int m2] ∧ Q (.bl (geP n1 n2 m1 m2)) H
theorem two_of {i j : Int} {its : List Value} (h : Vals [V.int i, V.int j] its) : ∃ t u, its = [.int i t, .int j u] := by
  cases h with
  | cons a h =>
    cases h with
    | cons b h =>
      cases h
      obtain ⟨t, rfl⟩ := a
      obtain ⟨u, rfl⟩ := b
      exact ⟨t, u, rfl⟩
theorem op_geP {X : Cx} (hu : X.A.units < cLine) : OpR X (compareOp .GtE) (rGeP X.K) := by
  intro pins s σ H x y v u Q I rx ry h
  obtain ⟨a, b, n1, n2, m1, m2, rfl, rfl, ha, hb, q⟩ := h
  cases rx
  cases ry
  obtain ⟨its, r1, p1, _⟩ := I.tuple ha
  obtain ⟨its2, r2, p2, _⟩ := I.tuple hb
  obtain ⟨t1, t2, rfl⟩ := two_of r1
  obtain ⟨t3, t4, rfl⟩ := two_of r2
  · skip
    have R := Ob.RcOp.tuples_ge (A := X.A) (s := s) (e := fun j => if j = 0 then n1 == m1 else n2 == m2) (r := fun j => if j = 0 then decide (m1 ≤ n1) else decide (m2 ≤ n2)) p1 p2 hu (fun j h1 h2 => by
        match j, h1 with
        | 0, _ => exact SeqAt.EqAt.int_int _ _ _ _
        | 1, _ => exact SeqAt.EqAt.int_int _ _ _ _) (fun j h1 h2 _ => by
        match j, h1 with
        | 0, _ => exact Ob.RcOp.ge_int _ _ _ _
        | 1, _ => exact Ob.RcOp.ge_int _ _ _ _)
    have e : Ob.lexAt (fun j => if j = 0 then n1 == m1 else n2 == m2) (fun j => if j = 0 then decide (m1 ≤ n1) else decide (m2 ≤ n2)) true 0 2 = geP n1 n2 m1 m2 := by
      rw [Ob.lexAt_succ, Ob.lexAt_succ, Ob.lexAt_zero]
      unfold geP
      by_cases h1 : n1 = m1
      · subst h1
        by_cases h2 : n2 = m2
        · subst h2; simp
        · simp [h2]
      · have : decide (m1 ≤ n1) = decide (m1 < n1 ∨ n1 = m1 ∧ m2 ≤ n2) := by
          rw [Bool.eq_iff_iff, decide_eq_true_eq, decide_eq_true_eq]
          omega
        simpa [h1] using this
    have z : wpAny (model X.prog X.w) X.A (compareOp .GtE (.ref a) (.ref b)) (EP X pins σ Q) X.xe s := R X.prog X.w X.xe (EP X pins σ Q) ⟨.bl _, H, I, rfl, e ▸ q⟩
    exact z
end Ov

set_option Elab.async false
set_option linter.all false
set_option maxRecDepth 100000
set_option maxHeartbeats 4000000
/-! tables: the numbers found from all pairs of neighbouring cells -/
namespace Ov
open PySem PySem.Spec PyProof.Rows L2 GxR
/-- what one entry gives to (w, o) -/
def candE (W w o : Nat) (e : En) : List Int := (if e.1 = w ∧ e.2.1 + 1 = o then [e.2.2] else []) ++ (if e.2.1 + 1 = W ∨ o = 0 then [e.2.2 + 1] else [])
def candL (W w o : Nat) (es : List En) : List Int := es.flatMap (candE W w o)
theorem mem_candL {W w o : Nat} {es : List En} {y : Int} : y ∈ candL W w o es ↔ ∃ e ∈ es, (e.1 = w ∧ e.2.1 + 1 = o ∧ y = e.2.2) ∨ ((e.2.1 + 1 = W ∨ o = 0) ∧ y = e.2.2 + 1) := by
  unfold candL candE
  rw [List.mem_flatMap]
  refine exists_congr fun e => and_congr_right fun _ => ?_
  rw [List.mem_append]
  by_cases h1 : e.1 = w ∧ e.2.1 + 1 = o <;> by_cases h2 : e.2.1 + 1 = W ∨ o = 0
  · rw [if_pos h1, if_pos h2, List.mem_singleton, List.mem_singleton]
    exact ⟨fun h => h.elim (fun h => .inl ⟨h1.1, h1.2, h⟩) fun h => .inr ⟨h2, h⟩, fun h => h.elim (fun h => .inl h.2.2) fun h => .inr h.2⟩
  · rw [if_pos h1, if_neg h2, List.mem_singleton]
    exact ⟨fun h => h.elim (fun h => .inl ⟨h1.1, h1.2, h⟩) fun h => (by cases h), fun h => h.elim (fun h => .inl h.2.2) fun h => absurd h.1 h2⟩
  · rw [if_neg h1, if_pos h2]
    simp only [List.not_mem_nil, List.mem_singleton, false_or]
    constructor
    · intro h; exact .inr ⟨h2, h⟩
    · rintro (⟨a, b, _⟩ | ⟨_, h⟩)
      · exact absurd ⟨a, b⟩ h1
      · exact h
  · rw [if_neg h1, if_neg h2]
    simp only [List.not_mem_nil, false_or, or_self, false_iff]
    rintro (⟨a, b, _⟩ | ⟨h, _⟩)
    · exact h1 ⟨a, b⟩
    · exact h2 h
theorem lkE_some {ws : List Str} {W : Nat} {es : List En} (h : RowOk ws W es) {w o : Nat} {b : Int} : lkE es w o = some b ↔ ∃ e ∈ es, e.1 = w ∧ e.2.1 + 1 = o ∧ e.2.2 = b := by
  unfold lkE
  constructor
  · intro hb
    obtain ⟨e, he, rfl⟩ := Option.map_eq_some_iff.mp hb
    have h1 := List.find?_some he
    simp only [Bool.and_eq_true, decide_eq_true_eq] at h1
    exact ⟨e, List.mem_of_find?_eq_some he, h1.1, h1.2, rfl⟩
  · rintro ⟨e, he, h1, h2, rfl⟩
    cases hf : es.find? fun e => decide (e.1 = w) && decide (e.2.1 + 1 = o) with
    | none =>
      have := List.find?_eq_none.mp hf e he
      simp [h1, h2] at this
    | some f =>
      have hf1 := List.find?_some hf
      simp only [Bool.and_eq_true, decide_eq_true_eq] at hf1
      have := h.uniq (List.mem_of_find?_eq_some hf) he (by omega) (by omega)
      rw [this]
      rfl
theorem lkE_none {es : List En} {w o : Nat} (h : lkE es w o = none) : ∀ e ∈ es, ¬ (e.1 = w ∧ e.2.1 + 1 = o) := fun e he hh => by
  unfold lkE at h
  rw [Option.map_eq_none_iff, List.find?_eq_none] at h
  have := h e he
  simp [hh.1, hh.2] at this
theorem seam_some {W : Nat} {es : List En} {o : Nat} {s : Int} (h : seamE W es o = some s) : (∃ e ∈ es, (e.2.1 + 1 = W ∨ o = 0) ∧ s = e.2.2 + 1) ∧ ∀ e ∈ es, (e.2.1 + 1 = W ∨ o = 0) → s ≤ e.2.2 + 1 := by
  unfold seamE at h
  by_cases o0 : o = 0
  · rw [if_pos o0] at h
    obtain ⟨h1, h2⟩ := mn_spec.mp h
    obtain ⟨e, he, rfl⟩ := List.mem_map.mp h1
    exact ⟨⟨e, he, .inr o0, rfl⟩, fun f hf _ => h2 _ (List.mem_map.mpr ⟨f, hf, rfl⟩)⟩
  · rw [if_neg o0] at h
    obtain ⟨h1, h2⟩ := mn_spec.mp h
    obtain ⟨e, he, rfl⟩ := List.mem_map.mp h1
    rw [List.mem_filter] at he
    refine ⟨⟨e, he.1, .inl (by simpa using he.2), rfl⟩, fun f hf hh => h2 _ (List.mem_map.mpr ⟨f, List.mem_filter.mpr ⟨hf, ?_⟩, rfl⟩)⟩
    rcases hh with h | h
    · simpa using h
    · exact absurd h o0
theorem seam_none {W : Nat} {es : List En} {o : Nat} (h : seamE W es o = none) : ∀ e ∈ es, ¬ (e.2.1 + 1 = W ∨ o = 0) := fun e he hh => by
  unfold seamE at h
  by_cases o0 : o = 0
  · rw [if_pos o0, mn_none, List.map_eq_nil_iff] at h
    rw [h] at he; cases he
  · rw [if_neg o0, mn_none, List.map_eq_nil_iff, List.filter_eq_nil_iff] at h
    rcases hh with hh | hh
    · exact h e he (by simpa using hh)
    · exact o0 hh
/-- the least of them is the program's bound -/
theorem cand_nxt {ws : List Str} {W : Nat} {es : List En} (h : RowOk ws W es) (w o : Nat) : mn (candL W w o es) = nxtE W es w o := by
  unfold nxtE
  cases hl : lkE es w o with
  | none =>
    have l0 := lkE_none hl
    cases hs : seamE W es o with
    | none =>
      have s0 := seam_none hs
      show _ = none
      rw [mn_none, List.eq_nil_iff_forall_not_mem]
      intro y hy
      obtain ⟨e, he, ⟨a, b, _⟩ | ⟨a, _⟩⟩ := mem_candL.mp hy
      · exact l0 e he ⟨a, b⟩
      · exact s0 e he a
    | some s =>
      obtain ⟨⟨e, he, h1, rfl⟩, h2⟩ := seam_some hs
      show _ = some (e.2.2 + 1)
      rw [mn_spec]
      refine ⟨mem_candL.mpr ⟨e, he, .inr ⟨h1, rfl⟩⟩, fun y hy => ?_⟩
      obtain ⟨f, hf, ⟨a, b, _⟩ | ⟨a, rfl⟩⟩ := mem_candL.mp hy
      · exact absurd ⟨a, b⟩ (l0 f hf)
      · exact h2 f hf a
  | some b =>
    obtain ⟨e, he, e1, e2, rfl⟩ := (lkE_some h).mp hl
    have only : ∀ f ∈ es, f.1 = w → f.2.1 + 1 = o → f.2.2 = e.2.2 := fun f hf f1 f2 => by rw [h.uniq hf he (by omega) (by omega)]
    cases hs : seamE W es o with
    | none =>
      have s0 := seam_none hs
      show _ = some e.2.2
      rw [mn_spec]
      refine ⟨mem_candL.mpr ⟨e, he, .inl ⟨e1, e2, rfl⟩⟩, fun y hy => ?_⟩
      obtain ⟨f, hf, ⟨a, b, rfl⟩ | ⟨a, _⟩⟩ := mem_candL.mp hy
      · rw [only f hf a b]; omega
      · exact absurd a (s0 f hf)
    | some s =>
      obtain ⟨⟨e', he', h1, es'⟩, h2⟩ := seam_some hs
      show _ = some (if s < e.2.2 then s else e.2.2)
      rw [mn_spec]
      refine ⟨?_, fun y hy => ?_⟩
      · split
        · exact mem_candL.mpr ⟨e', he', .inr ⟨h1, es'⟩⟩
        · exact mem_candL.mpr ⟨e, he, .inl ⟨e1, e2, rfl⟩⟩
      · obtain ⟨f, hf, ⟨a, b, rfl⟩ | ⟨a, rfl⟩⟩ := mem_candL.mp hy
        · rw [only f hf a b]; split <;> omega
        · have := h2 f hf a
          split <;> omega
/-! ### a row as a dict -/
def rowK (e : En) : List Key × V := ([Sum.inl (e.1 : Int), Sum.inl (e.2.1 : Int)], .int e.2.2)
/-- a row's dict at d -/
def RowD (H : Hp) (d : Addr) (es : List En) : Prop := H d = some (.dT (es.map rowK))
theorem rowK_find {ws : List Str} {W : Nat} {es : List En} (h : RowOk ws W es) {e : En} (he : e ∈ es) : valV (es.map rowK) (rowK e).1 = some (.int e.2.2) := by
  have key : ∀ l : List En, (∀ f ∈ l, f ∈ es) → e ∈ l → valV (l.map rowK) (rowK e).1 = some (.int e.2.2) := by
    intro l
    induction l with
    | nil => intro _ h; cases h
    | cons f r ih =>
      intro hs hm
      rw [List.map_cons]
      by_cases c : f = e
      · rw [valV_pos (by rw [c]), c]; rfl
      · rw [valV_neg (fun z => c ?_)]
        · exact ih (fun g hg => hs g (List.mem_cons_of_mem _ hg)) ((List.mem_cons.mp hm).resolve_left (Ne.symm c))
        · have z' : ([Sum.inl (f.1 : Int), Sum.inl (f.2.1 : Int)] : List Key) = [Sum.inl (e.1 : Int), Sum.inl (e.2.1 : Int)] := z
          injection z' with z1 z2
          injection z2 with z2 _
          have a1 := Sum.inl.inj z1
          have a2 := Sum.inl.inj z2
          exact h.uniq (hs f List.mem_cons_self) he (by omega) (by omega)
  exact key es (fun _ h => h) he
/-- a place that no entry before has -/
theorem rowK_new {es : List En} {w o : Nat} (h : ∀ e ∈ es, ¬ (e.1 = w ∧ e.2.1 = o)) : valV (es.map rowK) [Sum.inl (w : Int), Sum.inl (o : Int)] = none := by
  induction es with
  | nil => rfl
  | cons e r ih =>
    rw [List.map_cons, valV_neg (fun z => h e List.mem_cons_self ?_)]
    · exact ih fun f hf => h f (List.mem_cons_of_mem _ hf)
    · have z' : ([Sum.inl (e.1 : Int), Sum.inl (e.2.1 : Int)] : List Key) = [Sum.inl (w : Int), Sum.inl (o : Int)] := z
      injection z' with z1 z2
      injection z2 with z2 _
      have a1 := Sum.inl.inj z1
      have a2 := Sum.inl.inj z2
      omega
end Ov

set_option Elab.async false
set_option linter.all false
set_option maxRecDepth 100000
set_option maxHeartbeats 4000000
/-! tables as data that is shown -/
namespace Ov
open PySem PySem.Spec PyProof.Rows L2 GxR
/-- data that may be shown: n its bulk, k its depth; its numbers of less than 62 digits -/
structure Shw (d : PyData) (n k : Nat) : Prop where
  s : d.showable = true
  l : d.leavesShort 64 = true
  b : d.bulk ≤ n
  dep : d.depth ≤ k
  h : d.hasDict = false
structure ShwA (ds : List PyData) (n k : Nat) : Prop where
  s : PyData.showableAll ds = true
  l : PyData.leavesShortAll 64 ds = true
  b : PyData.bulkAll ds ≤ n
  dep : PyData.depthAll ds ≤ k
  h : PyData.hasDictAll ds = false
theorem shw_int {i : Int} (h : i.natAbs < 10 ^ 62) : Shw (.int i) 0 0 := by
  refine ⟨decide_eq_true ?_, decide_eq_true ?_, Nat.le_refl _, Nat.le_refl _, rfl⟩
  · by_cases z : i.natAbs = 0
    · rw [z]; decide
    · have := (Nat.log2_lt z (k := 210)).mpr (Nat.lt_trans h (by decide))
      omega
  · rw [PyData.shown_int, PySem.ofString_length]
    have := PySem.int_text_length_le10 (a := i) (k := 62) (by decide) h
    omega
theorem ShwA.nil {k : Nat} : ShwA [] 0 k := ⟨rfl, rfl, Nat.le_refl _, Nat.zero_le _, rfl⟩
theorem ShwA.cons {d : PyData} {ds : List PyData} {n m k : Nat} (a : Shw d n k) (b : ShwA ds m k) : ShwA (d :: ds) (n + 1 + m) k := by
  refine ⟨?_, ?_, ?_, ?_, ?_⟩
  · show (d.showable && PyData.showableAll ds) = true
    rw [a.s, b.s]; rfl
  · show (d.leavesShort 64 && PyData.leavesShortAll 64 ds) = true
    rw [a.l, b.l]; rfl
  · show d.bulk + 1 + PyData.bulkAll ds ≤ _
    have := a.b
    have := b.b
    omega
  · show max d.depth (PyData.depthAll ds) ≤ k
    have := a.dep
    have := b.dep
    omega
  · show (d.hasDict || PyData.hasDictAll ds) = false
    rw [a.h, b.h]; rfl
theorem ShwA.mono {ds : List PyData} {n m k : Nat} (a : ShwA ds n k) (h : n ≤ m) : ShwA ds m k := ⟨a.s, a.l, Nat.le_trans a.b h, a.dep, a.h⟩
theorem ShwA.all {α : Type} (f : α → PyData) {n k : Nat} : ∀ {l : List α}, (∀ x ∈ l, Shw (f x) n k) → ShwA (l.map f) ((n + 1) * l.length) k
  | [], _ => ShwA.nil
  | x :: r, h => (ShwA.cons (h x List.mem_cons_self) (ShwA.all f fun y hy => h y (List.mem_cons_of_mem _ hy))).mono (by rw [List.length_cons, Nat.mul_succ]; omega)
theorem ShwA.lst {ds : List PyData} {n k : Nat} (a : ShwA ds n k) : Shw (.list ds) n (k + 1) := ⟨a.s, a.l, a.b, by show PyData.depthAll ds + 1 ≤ k + 1; have := a.dep; omega, a.h⟩
theorem ShwA.tup {ds : List PyData} {n k : Nat} (a : ShwA ds n k) : Shw (.tuple ds) n (k + 1) := ⟨a.s, a.l, a.b, by show PyData.depthAll ds + 1 ≤ k + 1; have := a.dep; omega, a.h⟩
theorem Shw.len {d : PyData} {n k : Nat} (a : Shw d n k) (h : n ≤ 200000) : d.shown.length ≤ sizeLine := by
  have h1 := PyData.shown_le_bulk 64 (by decide) d a.l
  have h2 := a.b
  rw [sizeLine_eq]
  omega
/-! ### a table as data -/
def enD (e : En) : PyData := .tuple [.int (e.1 : Nat), .int (e.2.1 : Nat), .int e.2.2]
def rowDt (es : List En) : PyData := .list (es.map enD)
def tabDt (rows : List (List En)) : PyData := .list (rows.map rowDt)
theorem T3.dp {K : PySem.W.Frag} {H : Hp} {v : V} {e : En} (h : T3 H v e) : Dp K H v (enD e) := by
  obtain ⟨q, rfl, eq⟩ := h
  exact .tup (.inl (.inl eq)) (.cons (.int _) (.cons (.int _) (.cons (.int _) .nil)))
theorem dp_of {α : Type} {K : PySem.W.Frag} {H : Hp} {F : V → α → Prop} (f : α → PyData) (hf : ∀ v a, F v a → Dp K H v (f a)) : ∀ {vs : List V} {as : List α}, Paired F vs as → DpAll K H vs (as.map f)
  | _, _, .nil => .nil
  | _, _, .cons e t => .cons (hf _ _ e) (dp_of f hf t)
theorem Row3.dp {K : PySem.W.Frag} {H : Hp} {a : Addr} {es : List En} (h : Row3 H a es) : Dp K H (.ref a) (rowDt es) := by
  obtain ⟨vs, e, p⟩ := h
  exact .lst (.inl (.inl e)) (dp_of enD (fun _ _ => T3.dp) p)
theorem Tab3.dp {K : PySem.W.Frag} {H : Hp} {a : Addr} {rows : List (List En)} (h : Tab3 H a rows) : Dp K H (.ref a) (tabDt rows) := by
  obtain ⟨as, e, p⟩ := h
  refine .lst (.inl (.inl e)) ?_
  clear e
  induction p with
  | nil => exact .nil
  | cons e t ih => exact .cons e.dp ih
theorem shw_en {e : En} (h1 : e.1 ≤ 1000) (h2 : e.2.1 ≤ 1000) (h3 : e.2.2.natAbs < 10 ^ 62) : Shw (enD e) 3 1 := by
  have big : (1000 : Nat) < 10 ^ 62 := by decide
  have a := ShwA.cons (shw_int (i := (e.1 : Nat)) (by rw [Int.natAbs_natCast]; omega)) (ShwA.cons (shw_int (i := (e.2.1 : Nat)) (by rw [Int.natAbs_natCast]; omega)) (ShwA.cons (shw_int h3) ShwA.nil))
  exact (a.mono (by omega)).tup
/-- bounds of a row between 1 and m -/
def Bds1 (m : Nat) (es : List En) : Prop := ∀ e ∈ es, 1 ≤ e.2.2 ∧ e.2.2 ≤ m
theorem shw_row {ws : List Str} {W m : Nat} {es : List En} (r : RowOk ws W es) (h6 : ws.length ≤ 6) (h8 : W ≤ 8) (hb : Bds1 m es) (hm : m ≤ 1000) : Shw (rowDt es) 192 2 := by
  have big : (1000 : Nat) < 10 ^ 62 := by decide
  have a := ShwA.all enD (l := es) (n := 3) (k := 1) fun e he => shw_en (by have := (r.mem e he).1; omega) (by have := (r.mem e he).2; omega) (by have := hb e he; omega)
  refine ShwA.lst (a.mono ?_)
  have := r.len
  omega
theorem shw_tab {rows : List (List En)} (hl : rows.length ≤ 120) (h : ∀ es ∈ rows, Shw (rowDt es) 192 2) : Shw (tabDt rows) 23160 3 := by
  have a := ShwA.all rowDt (l := rows) (n := 192) (k := 2) h
  refine ShwA.lst (a.mono ?_)
  omega
theorem bds_row {W : Nat} {cl : Bool} {ws : List Str} {cs : List Nat} (hw : ∀ z ∈ ws, z.length = W) (h6 : ws.length ≤ 6) (h8 : W ≤ 8) : ∀ k, Bds1 (k + 1) (rowF W cl ws cs k)
  | 0 => fun e he => by
    have he : e ∈ firstF cl ws (cs.getD 0 0) := he
    unfold firstF at he
    obtain ⟨p, _, rfl⟩ := List.mem_map.mp he
    exact ⟨Int.le_refl _, Int.le_refl _⟩
  | k + 1 => fun e he => by
    have ih := bds_row (cl := cl) (cs := cs) hw h6 h8 k
    have he : e ∈ nextF W ws (rowF W cl ws cs k) (cs.getD (k + 1) 0) := he
    unfold nextF at he
    obtain ⟨p, _, hp⟩ := List.mem_filterMap.mp he
    obtain ⟨b, hb, rfl⟩ := Option.map_eq_some_iff.mp hp
    rw [← cand_nxt (row_ok hw h6 h8 k)] at hb
    obtain ⟨f, hf, ⟨_, _, rfl⟩ | ⟨_, rfl⟩⟩ := mem_candL.mp (mn_spec.mp hb).1
    · have := ih f hf
      show 1 ≤ f.2.2 ∧ f.2.2 ≤ ((k + 1 + 1 : Nat) : Int)
      omega
    · have := ih f hf
      show 1 ≤ f.2.2 + 1 ∧ f.2.2 + 1 ≤ ((k + 1 + 1 : Nat) : Int)
      omega
theorem shw_tabF {W n : Nat} {cl : Bool} {ws : List Str} {cs : List Nat} (hw : ∀ z ∈ ws, z.length = W) (h6 : ws.length ≤ 6) (h8 : W ≤ 8) (hn : n ≤ 120) : Shw (tabDt (tabF W cl ws cs n)) 23160 3 := by
  refine shw_tab (by rw [tabF_len]; exact hn) fun es he => ?_
  unfold tabF at he
  obtain ⟨k, hk, rfl⟩ := List.mem_map.mp he
  have := List.mem_range.mp hk
  exact shw_row (row_ok hw h6 h8 k) h6 h8 (bds_row hw h6 h8 k) (by omega)
end Ov

set_option Elab.async false
set_option linter.all false
set_option maxRecDepth 100000
set_option maxHeartbeats 1000000
/-! is_integer, is_entry, are_entries, is_table -/
namespace Ov
open PySem PySem.Spec PyProof.Rows L2 GxR
abbrev NIe : List Str := ["words", "letter", "thing", "word", "offset", "bound"]
abbrev NAe : List Str := ["words", "letter", "thing", "one", "other"]
abbrev NIt : List Str := ["words", "text", "thing", "letter", "entries"]
theorem scIsI : FnScope ["thing"] ["thing"] (defScope sIsI) := ⟨rfl, rfl, rfl, by decide +kernel, rfl, by decide +kernel, by decide +kernel⟩
theorem scIe : FnScope NIe ["words", "letter", "thing"] (defScope sIe) := ⟨rfl, rfl, rfl, by decide +kernel, rfl, by decide +kernel, by decide +kernel⟩
theorem scAe : FnScope NAe ["words", "letter", "thing"] (defScope sAe) := ⟨rfl, rfl, rfl, by decide +kernel, rfl, by decide +kernel, by decide +kernel⟩
theorem scIt : FnScope NIt ["words", "text", "thing"] (defScope sIt) := ⟨rfl, rfl, rfl, by decide +kernel, rfl, by decide +kernel, by decide +kernel⟩
/-- all(..) over a list that stands for es -/
theorem all_lst {α : Type} {K : PySem.W.Frag} {a : Addr} {xs : List V} {es : List α} {te : TE} {cp : L2.St} {Q : VK} {H2 : Hp} (f : α → Bool) (hl : xs.length = es.length) (Pv : Hp → Prop) (h0 : Pv H2) (hs : ∀ H, Pv H → SqL K H a xs)
    (he : ∀ i (h : i < es.length) x, xs[i]? = some x → ∀ H, Pv H → ∀ R : VK, (∀ H', Pv H' → R (.bl (f es[i])) H') → te (some x :: cp) H R) (q : ∀ H, Pv H → Q (.bl (es.all f)) H) :
    ∃ W : Nat → Nat → Hp → Prop, (∃ m, W 0 m H2) ∧ turnAll (Itl K a) te W cp Q := by
  refine ⟨fun i m H => Pv H ∧ m = es.length - i ∧ i ≤ es.length ∧ (es.take i).all f = true, ⟨es.length, h0, by simp, Nat.zero_le _, rfl⟩, ?_⟩
  rintro i m H ⟨hp, rfl, hi, ha⟩
  by_cases hlt : i < es.length
  · have hx : i < xs.length := by omega
    refine .inr ⟨⟨xs, xs[i], hs H hp, List.getElem?_eq_getElem hx⟩, fun v H' hy => ?_⟩
    obtain ⟨eH, hy⟩ := hy
    subst eH
    refine he i hlt v (hy xs (hs _ hp)) _ hp _ fun H'' hp'' => ⟨f es[i], rfl, ?_⟩
    cases hf : f es[i] with
    | true =>
      refine iteT ⟨es.length - (i + 1), by omega, hp'', rfl, hlt, ?_⟩
      rw [List.take_succ_eq_append_getElem hlt, List.all_append, ha]
      simp [hf]
    | false =>
      refine iteF ?_
      have e : es.all f = false := by
        rw [List.all_eq_false]
        exact ⟨es[i], List.getElem_mem hlt, by simp [hf]⟩
      rw [← e]
      exact q _ hp''
  · obtain rfl : i = es.length := by omega
    refine .inl ⟨⟨xs, hs _ hp, by omega⟩, ?_⟩
    rw [List.take_length] at ha
    rw [← ha]
    exact q _ hp
theorem Kep.lst {T : List Addr} {H H' : Hp} {a : Addr} {xs : List V} (k : Kep T H H') (hT : ∀ p ∈ T, TabG H p) (e : H a = some (.lst xs)) : H' a = some (.lst xs) := k.2 a _ (fun m => by obtain ⟨ps, h, _⟩ := hT a m; rw [e] at h; cases h) e
theorem Kep.tst {T : List Addr} {H H' : Hp} (k : Kep T H H') (hT : ∀ p ∈ T, TabG H p) : Tst H H' := fun q xs e => k.2 q _ (fun m => by obtain ⟨ps, h, _⟩ := hT q m; rw [e] at h; cases h) e
theorem Kep.t3 {T : List Addr} {H H' : Hp} {v : V} {e : En} (k : Kep T H H') (hT : ∀ p ∈ T, TabG H p) (h : T3 H v e) : T3 H' v e := h.st (k.tst hT)
theorem Kep.row3 {T : List Addr} {H H' : Hp} {a : Addr} {es : List En} (k : Kep T H H') (hT : ∀ p ∈ T, TabG H p) (h : Row3 H a es) : Row3 H' a es := let ⟨vs, e, p⟩ := h; ⟨vs, k.lst hT e, p3_st (k.tst hT) p⟩
theorem Kep.tab3 {T : List Addr} {H H' : Hp} {a : Addr} {rows : List (List En)} (k : Kep T H H') (hT : ∀ p ∈ T, TabG H p) (h : Tab3 H a rows) : Tab3 H' a rows := let ⟨vs, e, p⟩ := h; ⟨vs, k.lst hT e, pairedMono (fun _ _ r => r.elim fun vs r => (Kep.row3 k hT ⟨vs, r⟩)) p⟩
theorem Kep.sameT {T : List Addr} {H H1 H2 : Hp} (k : Kep T H H1) (s : L2.Same H1 H2) : Kep T H H2 := ⟨fun p hp => by obtain ⟨ps, h1, h2⟩ := k.1 p hp; exact ⟨ps, s _ _ h1, h2⟩, fun b o hb e => s _ _ (k.2 b o hb e)⟩
structure TopS (K : PySem.W.Frag) (mg : Str → Option Value) (fInt fIe fAe fIt : Addr) : Prop where
  int : mg "int" = none
  bool : mg "bool" = none
  tup : mg "tuple" = none
  zip : mg "zip" = none
  gI : mg "is_integer" = some (.ref fInt)
  kI : PySem.W.keepIn K (.ref fInt) = true
  gIe : mg "is_entry" = some (.ref fIe)
  kIe : PySem.W.keepIn K (.ref fIe) = true
  gAe : mg "are_entries" = some (.ref fAe)
  kAe : PySem.W.keepIn K (.ref fAe) = true
  gIt : mg "is_table" = some (.ref fIt)
  kIt : PySem.W.keepIn K (.ref fIt) = true
def spIsI : Sp := fun vs H Q _ => ∃ n : Int, vs = [.int n] ∧ Q (.bl true) H
def ieB (ws : List Str) (W c : Nat) (e : En) : Bool := decide (e.1 < ws.length) && (decide (e.2.1 < W) && decide (chr (ws.getD e.1 Str.empty) e.2.1 = c))
def spIe : Sp := fun vs H Q _ => ∃ (wl : Addr) (ws : List Str) (W c : Nat) (v : V) (e : En), vs = [.ref wl, .str ⟨#[c]⟩, v] ∧ H wl = some (.lst (ws.map V.str)) ∧ Good ws W ∧ T3 H v e ∧ Q (.bl (ieB ws W c e)) H
def ascB : List En → Bool
  | a :: b :: r => !geP a.1 a.2.1 b.1 b.2.1 && ascB (b :: r)
  | _ => true
def aeB (ws : List Str) (W c : Nat) (es : List En) : Bool := es.all (ieB ws W c) && ascB es
def spAe (T : List Addr) : Sp := fun vs H Q _ => ∃ (wl a : Addr) (ws : List Str) (W c : Nat) (es : List En), vs = [.ref wl, .str ⟨#[c]⟩, .ref a] ∧ H wl = some (.lst (ws.map V.str)) ∧ Good ws W ∧ Row3 H a es ∧ (∀ p ∈ T, TabG H p) ∧ ∀ H', Kep T H H' → Q (.bl (aeB ws W c es)) H'
def itB (ws : List Str) (W : Nat) (z : Str) (rows : List (List En)) : Bool := decide (rows.length = z.length) && (List.range rows.length).all fun k => aeB ws W (z.cps.toList.getD k 0) (rows.getD k [])
def spIt (T : List Addr) : Sp := fun vs H Q _ => ∃ (wl a : Addr) (ws : List Str) (W : Nat) (z : Str) (rows : List (List En)), vs = [.ref wl, .str z, .ref a] ∧ H wl = some (.lst (ws.map V.str)) ∧ Good ws W ∧ Tab3 H a rows ∧ z.length ≤ sizeLine ∧ (∀ p ∈ T, TabG H p) ∧ ∀ H', Kep T H H' → Q (.bl (itB ws W z rows)) H'
section
variable {P : Program} {w : World} {K : PySem.W.Frag} {mg : Str → Option Value} {base : Heap} {T : List Addr} {C D fLow fText fAre fTape fNext fInks fInit cLow PLow cAre PAre fInt fIe fAe fIt cAe PAe : Addr} {B : BA}
theorem ok_isi {f : Addr} {fd : FuncData} (F : L2.Fun K "is_integer" "is_integer" sIsI f fd) (X : Txt K mg C fLow fText fAre fTape fNext fInks) (XS : TopS K mg fInt fIe fAe fIt) : FnOk P w K mg base CX0 1 f fd ["thing"] spIsI := by
  refine F.ok scIsI (fun vs H Q E h => ?_) (fun cdv A' outer s H vs Q E hr h => ?_)
  · obtain ⟨n, rfl, _⟩ := h
    rfl
  · obtain ⟨n, rfl, q⟩ := h
    refine ⟨_, (pss_one (ps_ret (pe_and (pe_callB call_isi (by rfl) X.isi boot_isinstance (pa_cons (pv 0) (pa_cons (pe_bltn (v := .ty "int") (by rfl) XS.int PySem.Pv.boot_int rfl) pa_nil))) (pe_one (pe_not (pe_callB call_isi (by rfl) X.isi boot_isinstance (pa_cons (pv 0) (pa_cons (pe_bltn (v := .ty "bool") (by rfl) XS.bool (by decide +kernel) rfl) pa_nil)))))))), ?_⟩
    refine ⟨_, rfl, _, _, _, _, _, rfl, .ty _, .base (.int _), kit_ty (r := true) (by decide +kernel), true, rfl, iteT ?_⟩
    exact ⟨_, rfl, _, _, _, _, _, rfl, .ty _, .base (.int _), kit_ty (r := false) (by decide +kernel), false, rfl, q⟩
theorem ok_ie {f : Addr} {fd fdI : FuncData} (F : L2.Fun K "is_entry" "is_entry" sIe f fd) (FI : L2.Fun K "is_integer" "is_integer" sIsI fInt fdI) (X : Txt K mg C fLow fText fAre fTape fNext fInks) (XS : TopS K mg fInt fIe fAe fIt) : FnOk P w K mg base CX0 2 f fd ["words", "letter", "thing"] spIe := by
  have II : FnOk P w K mg base CX0 1 fInt fdI ["thing"] spIsI := ok_isi FI X XS
  have bI : Binds K fdI ["thing"] [] := FI.binds fun _ _ _ _ _ _ us hl => match us, hl with | [_], _ => rfl
  refine F.ok scIe (fun vs H Q E h => ?_) (fun cdv A' outer s H vs Q E hr h => ?_)
  · obtain ⟨wl, ws, W, c, v, e, rfl, _⟩ := h
    rfl
  · obtain ⟨wl, ws, W, c, v, e, rfl, ew, g, ⟨tp, rfl, et⟩, q⟩ := h
    refine ⟨_, (pss_cons (ps_if ((pw_or (pt_not (pt_val (pe_callB call_isi (by rfl) X.isi boot_isinstance (pa_cons (pv 2) (pa_cons (pe_bltn (v := .ty "tuple") (by rfl) XS.tup (by decide +kernel) rfl) pa_nil))))) (pw_or1 (pt_cmpR op_ne (pe_callB call_len_seq (by rfl) X.len boot_len (pa_cons (pv 2) pa_nil)) pe_int (by rfl)))).pt) (pss_one (ps_ret pe_bl)) pss_nil)
      (pss_cons (ps_asg (pv 2) (pg_tup rfl (pgs_cons (pg_name (i := 3) scIe.nd rfl (Or.inl rfl)) (pgs_cons (pg_name (i := 4) scIe.nd rfl (Or.inl rfl)) (pgs_cons (pg_name (i := 5) scIe.nd rfl (Or.inl rfl)) pgs_nil)))))
      (pss_cons (ps_if ((pw_or (pt_not (pt_val (pe_call II (hr.mono (by decide)) (by rfl) XS.gI XS.kI bI .nil L2.pass0 (pa_cons (pv 3) pa_nil)))) (pw_or (pt_not (pt_val (pe_call II (hr.mono (by decide)) (by rfl) XS.gI XS.kI bI .nil L2.pass0 (pa_cons (pv 4) pa_nil)))) (pw_or1 (pt_not (pt_val (pe_call II (hr.mono (by decide)) (by rfl) XS.gI XS.kI bI .nil L2.pass0 (pa_cons (pv 5) pa_nil))))))).pt) (pss_one (ps_ret pe_bl)) pss_nil)
      (pss_cons (ps_if ((pw_or (pt_not (pt_chain op_le op_lt pe_int (pv 3) (pe_callB call_len_seq (by rfl) X.len boot_len (pa_cons (pv 0) pa_nil)))) (pw_or1 (pt_not (pt_chain op_le op_lt pe_int (pv 4) (pe_callB call_len_str (by rfl) X.len boot_len (pa_cons (pe_ix ix_seq (pv 0) (pv 3) fun _ _ => rfl) pa_nil)))))).pt) (pss_one (ps_ret pe_bl)) pss_nil)
      (pss_one (ps_ret (pe_cmpR (show OpR _ _ rEq from op_eq) (pe_ix ix_seq (pe_ix ix_seq (pv 0) (pv 3) fun _ _ => rfl) (pv 4) fun _ _ => rfl) (pv 1) (by rfl)))))))), ?_⟩
    refine ⟨_, rfl, _, _, _, _, _, rfl, .ty _, .base (.tup et), kit_ty (r := true) (by decide +kernel), true, rfl, iteF ?_⟩
    refine ⟨_, rfl, tp, _, rfl, .inr (.inl (.inl et)), rfl, _, rfl, iteF' rfl ?_⟩
    refine ⟨_, rfl, tp, _, rfl, .inl (.inl et), rfl, _, _, rfl, _, _, rfl, _, _, rfl, rfl, ?_⟩
    refine ⟨_, rfl, _, rfl, _, rfl, iteF' rfl ?_⟩
    refine ⟨_, rfl, _, rfl, _, rfl, iteF' rfl ?_⟩
    refine ⟨_, rfl, _, rfl, _, rfl, iteF' rfl ?_⟩
    obtain ⟨W', hW', g'⟩ : ∃ W' : Nat, W' = W ∧ Good ws W' := ⟨W, rfl, g⟩
    unfold ieB at q
    have c0 : ∀ n : Nat, decide ((0 : Int) ≤ (n : Nat)) = true := fun n => decide_eq_true (by omega)
    refine ⟨_, rfl, _, _, rfl, rfl, _, rfl, iteT' (c0 _) ?_⟩
    refine ⟨_, rfl, wl, _, rfl, .inl (.inl (.inl ew)), _, _, rfl, rfl, _, rfl, ?_⟩
    by_cases h1 : e.1 < ws.length
    case neg =>
      rw [decide_eq_false h1, Bool.false_and] at q
      exact iteT' (by rw [List.length_map]; simp; omega) q
    refine iteF' (by rw [List.length_map]; simp; omega) ?_
    have zw := (g.all _ (List.getElem_mem h1)).1
    have ez : ws.getD e.1 Str.empty = ws[e.1] := by simp [List.getD, h1]
    have at1 : atI (ws.map V.str) (e.1 : Nat) = some (.str ws[e.1]) := atI_nat (by rw [List.getElem?_map, List.getElem?_eq_getElem h1]; rfl)
    refine ⟨_, rfl, _, _, rfl, rfl, _, rfl, iteT' (c0 _) ?_⟩
    have z8 : (ws[e.1]).length ≤ sizeLine := by rw [zw, sizeLine_eq]; have := g.w8; omega
    refine ⟨_, rfl, _, rfl, .inl ⟨wl, _, _, _, rfl, rfl, .inl (.inl ew), at1, _, rfl, z8, _, _, rfl, rfl, _, rfl, ?_⟩⟩
    by_cases h2 : e.2.1 < W
    case neg =>
      rw [decide_eq_false h2, Bool.false_and, Bool.and_false] at q
      exact iteT' (by rw [zw]; simp; omega) q
    refine iteF' (by rw [zw]; simp; omega) ?_
    have l2 : e.2.1 < ws[e.1].cps.toList.length := by rw [Array.length_toList]; have : ws[e.1].cps.size = W := zw; omega
    have ec : ws[e.1].cps.toList[e.2.1]? = some (chr ws[e.1] e.2.1) := by
      unfold chr
      rw [List.getD_eq_getElem?_getD, List.getElem?_eq_getElem l2]
      rfl
    refine ⟨_, rfl, _, rfl, .inl ⟨wl, _, _, _, rfl, rfl, .inl (.inl ew), at1, _, rfl, .inr (.inr ⟨_, _, _, rfl, rfl, z8, atI_nat ec, _, rfl, ?_⟩)⟩⟩
    rw [decide_eq_true h1, decide_eq_true h2, Bool.true_and, Bool.true_and, ez] at q
    have dc : decide (V.str ⟨#[chr ws[e.1] e.2.1]⟩ = V.str ⟨#[c]⟩) = decide (chr ws[e.1] e.2.1 = c) := by rw [Bool.eq_iff_iff]; simp
    rw [← dc] at q
    exact ⟨rfl, q⟩
theorem ascB_at : ∀ {es : List En}, ascB es = true ↔ ∀ i (h : i + 1 < es.length), geP (es[i]).1 (es[i]).2.1 (es[i + 1]).1 (es[i + 1]).2.1 = false
  | [] => by simp [ascB]
  | [a] => by simp [ascB]
  | a :: b :: r => by
    rw [ascB, Bool.and_eq_true, ascB_at (es := b :: r)]
    constructor
    · rintro ⟨h1, h2⟩ i h
      cases i with
      | zero => simpa using h1
      | succ i => exact h2 i (by simpa using h)
    · intro h
      refine ⟨by simpa using h 0 (by simp), fun i hi => ?_⟩
      exact h (i + 1) (by simpa using hi)
theorem nw3 (x y z : V) : ¬ (HT.sIx [x, y, z].length 0 none = 0 ∧ HT.sIx [x, y, z].length [x, y, z].length (some 2) = [x, y, z].length) := fun h => absurd h.2 (show ¬ (HT.sIx 3 3 (some 2) = 3) by decide)
theorem cut_tail {xs : List V} : cutV xs (some 1) none = xs.drop 1 := by
  unfold cutV
  show (xs.drop (min 1 xs.length)).take (xs.length - min 1 xs.length) = xs.drop 1
  cases xs with
  | nil => rfl
  | cons a r =>
    have : min 1 (a :: r).length = 1 := by simp
    rw [this, List.take_of_length_le (by simp)]
theorem ok_ae {f : Addr} {fd fdE fdI : FuncData} (F : FunC K "are_entries" "are_entries" sAe f fd cAe) (FE : L2.Fun K "is_entry" "is_entry" sIe fIe fdE) (FI : L2.Fun K "is_integer" "is_integer" sIsI fInt fdI) (X : Txt K mg C fLow fText fAre fTape fNext fInks) (XS : TopS K mg fInt fIe fAe fIt)
    (TA : TabB base mg cAe PAe) (hA : PAe ∈ T) : FnOk P w K mg base CX0 4 f fd ["words", "letter", "thing"] (spAe T) := by
  have IE : FnOk P w K mg base CX0 2 fIe fdE ["words", "letter", "thing"] spIe := ok_ie FE FI X XS
  have bE : Binds K fdE ["words", "letter", "thing"] [] := FE.binds fun _ _ _ _ _ _ us hl => match us, hl with | [_, _, _], _ => rfl
  refine F.ok scAe (fun vs H Q E h => ?_) (fun A outer s H vs Q E hr h => ?_)
  · obtain ⟨wl, a, ws, W, c, es, rfl, _⟩ := h
    rfl
  · obtain ⟨wl, a, ws, W, c, es, rfl, ew, g, ⟨xs, ea, p3⟩, hT, q⟩ := h
    have xl := len_p p3
    have hu : (A.deeper (envOfC "are_entries" (defScope sAe) s.heap.objs.size f (.ref cAe))).units < cLine := by have := hr.un; omega
    refine ⟨_, (pss_cons (ps_if ((pw_or (pt_not (pt_val (pe_callB call_isi (by rfl) X.isi boot_isinstance (pa_cons (pv 2) (pa_cons (pe_bltn (v := .ty "list") (by rfl) X.lst (by decide +kernel) rfl) pa_nil))))) (pw_or1 (pt_not (pt_val (pe_allG (k := 2) (cs := ["letter", "words"]) (pick := [1, 0]) rfl hr (by rfl) X.all (by decide +kernel) TA rfl (genN_by (sc := defScope sAe) (N := NAe) rfl rfl (fun y h => cell_has h) (by decide +kernel)) (pi_list (pv 2)) (fun s H code C A fp pn hr => pe_call IE (hr.mono (by decide)) (by rfl) XS.gIe XS.kIe bE .nil L2.pass0 (pa_cons (pv 2) (pa_cons (pv 1) (pa_cons (pv 0) pa_nil))))))))).pt) (pss_one (ps_ret pe_bl)) pss_nil)
      (pss_cons (ps_for PassesOwn.never rfl (pi_zip (by rfl) XS.zip (pa_cons (pv 2) (pa_cons (pe_slice sl_list (pv 2) (po_some pe_int) po_none) pa_nil))) (pg_tup rfl (pgs_cons (pg_name (i := 3) scAe.nd rfl (Or.inl rfl)) (pgs_cons (pg_name (i := 4) scAe.nd rfl (Or.inl rfl)) pgs_nil))) (pss_one (ps_if (pt_cmpR (op_geP hu) (pe_slice sl_tup (pv 3) po_none (po_some pe_int)) (pe_slice sl_tup (pv 4) po_none (po_some pe_int)) (by rfl)) (pss_one (ps_ret pe_bl)) pss_nil)))
      (pss_one (ps_ret pe_bl)))), ?_⟩
    refine ⟨_, rfl, _, _, _, _, _, rfl, .ty _, .base (.lst ea), kit_ty (r := true) (by decide +kernel), true, rfl, iteF' rfl ?_⟩
    refine ⟨_, rfl, a, rfl, ⟨xs, .inl (.inl ea)⟩, hT _ hA, fun H2 h2 => ?_⟩
    refine all_lst (ieB ws W c) xl (Tbs T H) (Tbs.of1 hT hA h2) (fun H1 q => q.kep.seqL hT (.inl (.inl ea))) (fun i hi x hx H1 q1 R hR => ?_) (fun H1 q1 => ?_)
    · obtain ⟨e, he, tx⟩ := p_at p3 hx
      obtain rfl : es[i] = e := (List.getElem?_eq_some_iff.mp he).2
      exact ⟨_, rfl, _, rfl, _, rfl, wl, ws, W, c, x, es[i], rfl, q1.kep.lst hT ew, g, q1.kep.t3 hT tx, hR H1 q1⟩
    · have k1 := q1.kep
      refine ⟨_, rfl, ?_⟩
      cases hal : es.all (ieB ws W c) with
      | false =>
        have := q H1 k1
        unfold aeB at this
        rw [hal, Bool.false_and] at this
        exact iteT' rfl this
      | true =>
        refine iteF' rfl ?_
        have ea1 := k1.lst hT ea
        have p31 := p3_st (k1.tst hT) p3
        refine ⟨_, rfl, _, rfl, _, rfl, a, xs, rfl, .inl (.inl ea1), fun t ht => ?_⟩
        rw [cut_tail]
        have st := same_new (o := .lst (xs.drop 1)) ht
        have et : upd H1 t (.lst (xs.drop 1)) t = some (.lst (xs.drop 1)) := upd_same
        generalize upd H1 t (.lst (xs.drop 1)) = H3 at st et ⊢
        have ea3 := st _ _ ea1
        have p33 := p3_st (.same st) p31
        have k3 : Kep T H H3 := k1.sameT st
        refine ⟨a, t, xs, _, rfl, .inl (.inl ea3), .inl (.inl et), for_it (walk_zip (n := es.length - 1) (by rw [List.length_drop]; omega)) (fun i σ Hx => L2.Same H3 Hx ∧ (∃ v3 v4, σ = [some (.ref wl), some (.str ⟨#[c]⟩), some (.ref a), v3, v4]) ∧ ∀ j (h : j + 1 < es.length), j < i → geP (es[j]).1 (es[j]).2.1 (es[j + 1]).1 (es[j + 1]).2.1 = false) ⟨fun _ _ e => e, ⟨_, _, rfl⟩, fun j _ h => absurd h (by omega)⟩ (fun i σ Hx hi p => ⟨.inl (.inl (p.1 _ _ ea3)), .inl (.inl (p.1 _ _ et))⟩) (fun i x σ Hx Hy hi p y => ?_) (fun σ Hx p => ?_)⟩
        · obtain ⟨sx, ⟨v3, v4, rfl⟩, af⟩ := p
          obtain ⟨q0, x1, x2, rfl, hq0, rfl, hx1, hx2⟩ := y
          have i1 : i < es.length := by omega
          have i2 : i + 1 < es.length := by omega
          replace hx2 : xs[i + 1]? = some x2 := by
            have h : (xs.drop 1)[i]? = some x2 := hx2
            rw [List.getElem?_drop, Nat.add_comm] at h
            exact h
          obtain ⟨e1, he1, r1, rfl, t1⟩ := p_at p33 hx1
          obtain ⟨e2, he2, r2, rfl, t2⟩ := p_at p33 hx2
          obtain rfl : es[i] = e1 := (List.getElem?_eq_some_iff.mp he1).2
          obtain rfl : es[i + 1] = e2 := (List.getElem?_eq_some_iff.mp he2).2
          have s4 := same_new (o := .tup [.ref r1, .ref r2]) hq0
          have eq4 : upd Hx q0 (.tup [.ref r1, .ref r2]) q0 = some (.tup [.ref r1, .ref r2]) := upd_same
          generalize upd Hx q0 (.tup [.ref r1, .ref r2]) = H4 at s4 eq4 ⊢
          have s34 := sx.trans s4
          have a1 := s34 _ _ t1
          have a2 := s34 _ _ t2
          refine ⟨q0, _, rfl, .inl (.inl eq4), rfl, _, _, rfl, _, _, rfl, rfl, ?_⟩
          have c2 : ∀ x y z : V, cutV [x, y, z] none (some 2) = [x, y] := fun _ _ _ => rfl
          refine ⟨_, rfl, _, rfl, r1, _, rfl, .inl (.inl a1), nw3 _ _ _, fun p hp => ?_⟩
          rw [c2]
          have s5 := same_new (o := .tup [.int (es[i]).1, .int (es[i]).2.1]) hp
          have e5 : upd H4 p (.tup [.int (es[i]).1, .int (es[i]).2.1]) p = some (.tup [.int (es[i]).1, .int (es[i]).2.1]) := upd_same
          generalize upd H4 p (.tup [.int (es[i]).1, .int (es[i]).2.1]) = H5 at s5 e5 ⊢
          refine ⟨_, rfl, _, rfl, r2, _, rfl, .inl (.inl (s5 _ _ a2)), nw3 _ _ _, fun p2 hp2 => ?_⟩
          rw [c2]
          have s6 := same_new (o := .tup [.int (es[i + 1]).1, .int (es[i + 1]).2.1]) hp2
          have e6 : upd H5 p2 (.tup [.int (es[i + 1]).1, .int (es[i + 1]).2.1]) p2 = some (.tup [.int (es[i + 1]).1, .int (es[i + 1]).2.1]) := upd_same
          generalize upd H5 p2 (.tup [.int (es[i + 1]).1, .int (es[i + 1]).2.1]) = H6 at s6 e6 ⊢
          have s36 := (s34.trans s5).trans s6
          refine ⟨p, p2, _, _, _, _, rfl, rfl, .inl (.inl (s6 _ _ e5)), .inl (.inl e6), _, rfl, ?_⟩
          cases hg : geP (es[i]).1 (es[i]).2.1 (es[i + 1]).1 (es[i + 1]).2.1 with
          | true =>
            refine iteT' rfl ?_
            have := q H6 (k3.sameT s36)
            have nb : ascB es = false := by
              cases hb : ascB es with
              | false => rfl
              | true =>
                have := ascB_at.mp hb i i2
                rw [hg] at this
                cases this
            unfold aeB at this
            rw [hal, nb] at this
            exact this
          | false =>
            refine iteF' rfl ⟨s36, ⟨_, _, rfl⟩, fun j h hj => ?_⟩
            by_cases jl : j < i
            · exact af j h jl
            · obtain rfl : j = i := by omega
              exact hg
        · obtain ⟨sx, ⟨v3, v4, rfl⟩, af⟩ := p
          have := q Hx (k3.sameT sx)
          have yb : ascB es = true := ascB_at.mpr fun i h => af i h (by omega)
          unfold aeB at this
          rw [hal, yb] at this
          exact this
theorem ok_it {f : Addr} {fd fdA fdE fdI : FuncData} (F : L2.Fun K "is_table" "is_table" sIt f fd) (FA : FunC K "are_entries" "are_entries" sAe fAe fdA cAe) (FE : L2.Fun K "is_entry" "is_entry" sIe fIe fdE) (FI : L2.Fun K "is_integer" "is_integer" sIsI fInt fdI) (X : Txt K mg C fLow fText fAre fTape fNext fInks) (XS : TopS K mg fInt fIe fAe fIt)
    (TA : TabB base mg cAe PAe) (hA : PAe ∈ T) : FnOk P w K mg base CX0 5 f fd ["words", "text", "thing"] (spIt T) := by
  have AE : FnOk P w K mg base CX0 4 fAe fdA ["words", "letter", "thing"] (spAe T) := ok_ae FA FE FI X XS TA hA
  have bA : Binds K fdA ["words", "letter", "thing"] [] := FA.toFun.binds fun _ _ _ _ _ _ us hl => match us, hl with | [_, _, _], _ => rfl
  refine F.ok scIt (fun vs H Q E h => ?_) (fun cdv A outer s H vs Q E hr h => ?_)
  · obtain ⟨wl, a, ws, W, z, rows, rfl, _⟩ := h
    rfl
  · obtain ⟨wl, a, ws, W, z, rows, rfl, ew, g, ⟨as, ea, pr⟩, zl, hT, q⟩ := h
    have al := len_p pr
    refine ⟨_, (pss_cons (ps_if ((pw_or (pt_not (pt_val (pe_callB call_isi (by rfl) X.isi boot_isinstance (pa_cons (pv 2) (pa_cons (pe_bltn (v := .ty "list") (by rfl) X.lst (by decide +kernel) rfl) pa_nil))))) (pw_or1 (pt_cmpR op_ne (pe_callB call_len_seq (by rfl) X.len boot_len (pa_cons (pv 2) pa_nil)) (pe_callB call_len_str (by rfl) X.len boot_len (pa_cons (pv 1) pa_nil)) (by rfl)))).pt) (pss_one (ps_ret pe_bl)) pss_nil)
      (pss_cons (ps_for PassesOwn.never rfl (pi_zipS (by rfl) XS.zip (pa_cons (pv 1) (pa_cons (pv 2) pa_nil))) (pg_tup rfl (pgs_cons (pg_name (i := 3) scIt.nd rfl (Or.inl rfl)) (pgs_cons (pg_name (i := 4) scIt.nd rfl (Or.inl rfl)) pgs_nil))) (pss_one (ps_if (pt_not (pt_val (pe_call AE (hr.mono (by decide)) (by rfl) XS.gAe XS.kAe bA .nil L2.pass0 (pa_cons (pv 0) (pa_cons (pv 3) (pa_cons (pv 4) pa_nil)))))) (pss_one (ps_ret pe_bl)) pss_nil)))
      (pss_one (ps_ret pe_bl)))), ?_⟩
    refine ⟨_, rfl, _, _, _, _, _, rfl, .ty _, .base (.lst ea), kit_ty (r := true) (by decide +kernel), true, rfl, iteF' rfl ?_⟩
    refine ⟨_, rfl, a, _, rfl, .inl (.inl (.inl ea)), _, rfl, z, rfl, zl, rfl, _, rfl, ?_⟩
    have dl : (!decide (V.int ((as.map V.ref).length : Nat) = V.int (z.length : Nat))) = !decide (rows.length = z.length) := by
      rw [List.length_map, al]
      congr 1
      rw [Bool.eq_iff_iff]
      simp only [decide_eq_true_eq]
      constructor
      · intro h
        have := V.int.inj h
        omega
      · intro h
        rw [h]
    rw [dl]
    by_cases hl : rows.length = z.length
    case neg =>
      refine iteT' (by simp [hl]) ?_
      have := q H ⟨hT, fun _ _ _ e => e⟩
      unfold itB at this
      rw [decide_eq_false hl, Bool.false_and] at this
      exact this
    refine iteF' (by simp [hl]) ?_
    have zs : z.cps.size = (as.map V.ref).length := by rw [List.length_map, al, hl]; rfl
    refine ⟨_, rfl, _, rfl, z, a, _, rfl, .inl (.inl ea), for_it (walk_zipS zs) (fun i σ Hx => Kep T H Hx ∧ (∃ v3 v4, σ = [some (.ref wl), some (.str z), some (.ref a), v3, v4]) ∧ ∀ j, j < i → aeB ws W (z.cps.toList.getD j 0) (rows.getD j []) = true) ⟨⟨hT, fun _ _ _ e => e⟩, ⟨_, _, rfl⟩, fun j h => absurd h (by omega)⟩ (fun i σ Hx hi p => .inl (.inl (p.1.lst hT ea))) (fun i x σ Hx Hy hi p y => ?_) (fun σ Hx p => ?_)⟩
    · obtain ⟨kx, ⟨v3, v4, rfl⟩, af⟩ := p
      obtain ⟨q0, c, x1, rfl, hq0, rfl, hc, hx1⟩ := y
      have i1 : i < as.length := by rw [List.length_map] at hi; exact hi
      have i2 : i < rows.length := by omega
      rw [List.getElem?_map, List.getElem?_eq_getElem i1] at hx1
      obtain rfl := Option.some.inj hx1
      obtain ⟨es, hes, re⟩ := p_at pr (List.getElem?_eq_getElem i1)
      have ees : rows.getD i [] = es := by rw [List.getD_eq_getElem?_getD, hes]; rfl
      have ec : z.cps.toList.getD i 0 = c := by rw [List.getD_eq_getElem?_getD, Array.getElem?_toList, hc]; rfl
      have k4 := kx.sameT (same_new (o := .tup [.str ⟨#[c]⟩, .ref as[i]]) hq0)
      have eq4 : upd Hx q0 (.tup [.str ⟨#[c]⟩, .ref as[i]]) q0 = some (.tup [.str ⟨#[c]⟩, .ref as[i]]) := upd_same
      generalize upd Hx q0 (.tup [.str ⟨#[c]⟩, .ref as[i]]) = H4 at k4 eq4 ⊢
      refine ⟨q0, _, rfl, .inl (.inl eq4), rfl, _, _, rfl, _, _, rfl, rfl, ?_⟩
      refine ⟨_, rfl, _, rfl, _, rfl, wl, as[i], ws, W, c, es, rfl, k4.lst hT ew, g, k4.row3 hT re, k4.1, fun H5 k5 => ⟨_, rfl, ?_⟩⟩
      have k45 := k4.trans k5
      cases hg : aeB ws W c es with
      | false =>
        refine iteT' rfl ?_
        have := q H5 k45
        have nb : ((List.range rows.length).all fun k => aeB ws W (z.cps.toList.getD k 0) (rows.getD k [])) = false := by
          rw [List.all_eq_false]
          exact ⟨i, List.mem_range.mpr i2, by rw [ees, ec, hg]; decide⟩
        unfold itB at this
        rw [nb, Bool.and_false] at this
        exact this
      | true =>
        refine iteF' rfl ⟨k45, ⟨_, _, rfl⟩, fun j hj => ?_⟩
        by_cases jl : j < i
        · exact af j jl
        · obtain rfl : j = i := by omega
          rw [ees, ec]
          exact hg
    · obtain ⟨kx, ⟨v3, v4, rfl⟩, af⟩ := p
      have := q Hx kx
      have yb : ((List.range rows.length).all fun k => aeB ws W (z.cps.toList.getD k 0) (rows.getD k [])) = true := by
        rw [List.all_eq_true]
        intro k hk
        exact af k (by rw [List.length_map, al]; exact List.mem_range.mp hk)
      unfold itB at this
      rw [decide_eq_true hl, yb] at this
      exact this
end
end Ov

set_option Elab.async false
set_option linter.all false
set_option maxRecDepth 100000
set_option maxHeartbeats 1000000
/-! has_all, last_bounds, shows -/
namespace Ov
open PySem PySem.Spec PyProof.Rows L2 GxR
abbrev NHa : List Str := ["entries", "needed", "word", "offset", "bound", "bounds"]
abbrev NLb : List Str := ["band", "entries", "width", "closed", "word", "offset", "bound"]
abbrev NSh : List Str := ["band", "text", "number", "thing", "needed", "at", "entries"]
theorem scHa : FnScope NHa ["entries", "needed"] (defScope sHa) := ⟨rfl, rfl, rfl, by decide +kernel, rfl, by decide +kernel, by decide +kernel⟩
theorem scLb : FnScope NLb ["band", "entries"] (defScope sLb) := ⟨rfl, rfl, rfl, by decide +kernel, rfl, by decide +kernel, by decide +kernel⟩
theorem scSh : FnScope NSh ["band", "text", "number", "thing"] (defScope sSh) := ⟨rfl, rfl, rfl, by decide +kernel, rfl, by decide +kernel, by decide +kernel⟩
/-! ### what a table must have -/
theorem geP_lex {a b : En} (h : geP a.1 a.2.1 b.1 b.2.1 = false) : lexN (a.1, a.2.1) (b.1, b.2.1) := by
  unfold geP at h
  rw [decide_eq_false_iff_not] at h
  unfold lexN
  simp only
  omega
theorem lex_geP {a b : En} (h : lexN (a.1, a.2.1) (b.1, b.2.1)) : geP a.1 a.2.1 b.1 b.2.1 = false := by
  unfold lexN at h
  simp only at h
  unfold geP
  rw [decide_eq_false_iff_not]
  omega
theorem lexN.trans {a b c : Nat × Nat} (h : lexN a b) (h' : lexN b c) : lexN a c := by unfold lexN at *; omega
theorem ascB_pw : ∀ {es : List En}, ascB es = true ↔ es.Pairwise fun e f => lexN (e.1, e.2.1) (f.1, f.2.1)
  | [] => by simp [ascB]
  | [a] => by simp [ascB]
  | a :: b :: r => by
    rw [ascB, Bool.and_eq_true, ascB_pw (es := b :: r), Bool.not_eq_true']
    constructor
    · rintro ⟨h1, h2⟩
      refine List.pairwise_cons.mpr ⟨fun x hx => ?_, h2⟩
      rcases List.mem_cons.mp hx with rfl | hx
      · exact geP_lex h1
      · exact (geP_lex h1).trans ((List.pairwise_cons.mp h2).1 x hx)
    · intro h
      have h' := List.pairwise_cons.mp h
      exact ⟨lex_geP (h'.1 b List.mem_cons_self), h'.2⟩
theorem aeB_ok {ws : List Str} {W c : Nat} {es : List En} (h : aeB ws W c es = true) (l : es.length ≤ 48) : RowOk ws W es := by
  unfold aeB at h
  rw [Bool.and_eq_true, List.all_eq_true] at h
  refine ⟨ascB_pw.mp h.2, fun e he => ?_, l⟩
  have := h.1 e he
  unfold ieB at this
  simp only [Bool.and_eq_true, decide_eq_true_eq] at this
  exact ⟨this.1, this.2.1⟩
def haB (es ns : List En) : Bool := ns.all fun n => es.any fun e => decide (e.1 = n.1) && decide (e.2.1 = n.2.1) && decide (e.2.2 ≤ n.2.2)
def lbF (W : Nat) (cl : Bool) (es : List En) : List Int := (es.filter fun e => decide (e.2.1 + 1 = W) || !cl).map (·.2.2)
def needF (W : Nat) (cl : Bool) (ws : List Str) (cs : List Nat) (rows : List (List En)) : Nat → List En
  | 0 => firstF cl ws (cs.getD 0 0)
  | k + 1 => nextF W ws (rows.getD k []) (cs.getD (k + 1) 0)
def shB (W : Nat) (cl : Bool) (ws : List Str) (z : Str) (g : Int) (rows : List (List En)) : Bool := itB ws W z rows &&
  (((List.range rows.length).all fun k => haB (rows.getD k []) (needF W cl ws z.cps.toList rows k)) && (lbF W cl (rows.getD (rows.length - 1) [])).all fun b => decide (g ≤ b))
structure TopR (K : PySem.W.Frag) (mg : Str → Option Value) (fHa fLb fSh : Addr) : Prop where
  gHa : mg "has_all" = some (.ref fHa)
  kHa : PySem.W.keepIn K (.ref fHa) = true
  gLb : mg "last_bounds" = some (.ref fLb)
  kLb : PySem.W.keepIn K (.ref fLb) = true
  gSh : mg "shows" = some (.ref fSh)
  kSh : PySem.W.keepIn K (.ref fSh) = true
def spHa : Sp := fun vs H Q _ => ∃ (a b : Addr) (ws : List Str) (W : Nat) (es ns : List En), vs = [.ref a, .ref b] ∧ Row3 H a es ∧ RowOk ws W es ∧ Row3 H b ns ∧ ∀ H', L2.Same H H' → Q (.bl (haB es ns)) H'
def spLb (C : Addr) (B : BA) : Sp := fun vs H Q _ => ∃ (a el m l dm : Addr) (i W : Nat) (ws : List Str) (es : List En), vs = [.ref a, .ref el] ∧ Bnd C B H a i ws W m l dm ∧ Row3 H el es ∧ es.length ≤ 48 ∧ ∀ r H', H r = none → L2.Same H H' → H' r = some (.lst ((lbF W (decide (i = 0)) es).map V.int)) → Q (.ref r) H'
def spSh (T : List Addr) (C : Addr) (B : BA) : Sp := fun vs H Q _ => ∃ (a t m l dm : Addr) (i W : Nat) (ws : List Str) (z : Str) (g : Int) (rows : List (List En)), vs = [.ref a, .str z, .int g, .ref t] ∧ Bnd C B H a i ws W m l dm ∧ textB z (cellsN i : Nat) = true ∧ Tab3 H t rows ∧ (∀ es ∈ rows, es.length ≤ 48) ∧ (∀ p ∈ T, TabG H p) ∧ ∀ H', Kep T H H' → Q (.bl (shB W (decide (i = 0)) ws z g rows)) H'
theorem atI_m1 {xs : List V} {v : V} (h : xs[xs.length - 1]? = some v) : atI xs (-1) = some v := by
  have hl : xs.length - 1 < xs.length := (List.getElem?_eq_some_iff.mp h).1
  have e : ixN xs.length (-1) = some (xs.length - 1) := by
    unfold ixN
    rw [if_neg (by decide), if_pos (by omega)]
    congr 1
    omega
  unfold atI
  rw [e]
  exact h
theorem freshK {ws : List Str} {W : Nat} {es : List En} (h : RowOk ws W es) {i : Nat} (hi : i < es.length) : valV ((es.take i).map rowK) (rowK es[i]).1 = none := by
  refine rowK_new fun e he hh => ?_
  obtain ⟨j, hj, rfl⟩ := List.mem_iff_getElem.mp he
  rw [List.getElem_take] at hh
  have lj : j < i := by rw [List.length_take] at hj; omega
  exact (List.pairwise_iff_getElem.mp h.asc j i (by omega) hi lj).ne (by rw [hh.1, hh.2])
/-- a def that may raise, its code object known -/
theorem FunC.okX {P : Program} {w : World} {K : PySem.W.Frag} {mg : Str → Option Value} {base : Heap} {x qual : Str} {st : Stmt} {f c : Addr} {fd : FuncData} {N ps : List Str} {k : Nat} {sp : Sp} (F : FunC K x qual st f fd c) (S : FnScope N ps (defScope st)) (len : ∀ vs H Q E, sp vs H Q E → vs.length = ps.length)
    (hbody : ∀ (A : Around) (outer : List Env) (s : Shared) (H : Hp) (vs : List V) (Q : VK) (E : XK), Room k (A.deeper (envOfC qual (defScope st) s.heap.objs.size f (.ref c))) → sp vs H Q E →
      ∃ t, PSs (cxOf (L2.CX P w) P w K mg base N qual (defScope st) f (.ref c) A outer s H E) (defBody st) t ∧ t { nx := fun _ H' => Q .non H', rt := Q } (start N vs) H) : FnOk P w K mg base (L2.CX P w) (k + 1) f fd ps sp := by
  obtain ⟨oc, od, kV, doc, pm, an, ct, osl, rfl, lk, hcd⟩ := F.ex
  exact fn_of lk hcd S len fun A outer s H vs Q E hr hsp => hbody A outer s H vs Q E hr hsp
section
variable {P : Program} {w : World} {K : PySem.W.Frag} {mg : Str → Option Value} {base : Heap} {T : List Addr} {C D fLow fText fAre fTape fNext fInks fInit cLow PLow cAre PAre fInt fIe fAe fIt cAe PAe fHa fLb fSh cSh PSh fAg fFe fNe fCt pWo fWo pWi fWi DTx : Addr} {B : BA}
theorem ok_ha {f : Addr} {fd : FuncData} (F : L2.Fun K "has_all" "has_all" sHa f fd) : FnOk P w K mg base CX0 1 f fd ["entries", "needed"] spHa := by
  refine F.ok scHa (fun vs H Q E h => ?_) (fun cdv A outer s H vs Q E hr h => ?_)
  · obtain ⟨a, b, ws, W, es, ns, rfl, _⟩ := h
    rfl
  · obtain ⟨a, b, ws, W, es, ns, rfl, ⟨xs, ea, p3⟩, rok, ⟨ys, eb, pn⟩, q⟩ := h
    have hu1 : (A.deeper (envOfC "has_all" (defScope sHa) s.heap.objs.size f cdv)).units + 1 < cLine := by have := hr.un; omega
    have xl := len_p p3
    have les := rok.len
    refine ⟨_, (pss_cons (ps_setDcG (i := 5) (o0 := .dT []) (⟨rfl, hu1, scHa.nd, pi_list (pv 0), blkOk_by (own := [("word", 2), ("offset", 3), ("bound", 4)]) (N := NHa) (sc := defScope sHa) (by decide +kernel), fun _ _ _ _ _ => pg_tup rfl (pgs_cons (pg_name (i := 2) scHa.nd rfl (Or.inl rfl)) (pgs_cons (pg_name (i := 3) scHa.nd rfl (Or.inl rfl)) (pgs_cons (pg_name (i := 4) scHa.nd rfl (Or.inl rfl)) pgs_nil))), fun _ _ _ _ _ => pts_nil, fun _ _ _ _ _ => pe_tup (pa_cons (pv 2) (pa_cons (pv 3) pa_nil)), fun _ _ _ _ _ => pv 4, fun _ => rfl⟩ : DcP _ _ _ _ _ _ _ [("word", 2), ("offset", 3), ("bound", 4)] _ (gTup K 3 (gCons (gName 2) (gCons (gName 3) (gCons (gName 4) gNil)))) tYes _ _) (.inr rfl) rfl rfl (swD rfl rfl rfl (by decide +kernel)))
      (pss_cons (ps_for PassesOwn.never rfl (pi_list (pv 1)) (pg_tup rfl (pgs_cons (pg_name (i := 2) scHa.nd rfl (Or.inl rfl)) (pgs_cons (pg_name (i := 3) scHa.nd rfl (Or.inl rfl)) (pgs_cons (pg_name (i := 4) scHa.nd rfl (Or.inl rfl)) pgs_nil)))) (pss_one (ps_if ((pw_or (pt_cmp (pc_dnotin hu1 (pe_tup (pa_cons (pv 2) (pa_cons (pv 3) pa_nil))) (pv 5))) (pw_or1 (pt_cmpR op_gt (pe_dget hu1 (pv 5) (pe_tup (pa_cons (pv 2) (pa_cons (pv 3) pa_nil))) (fun _ _ => rfl)) (pv 4) (by rfl)))).pt) (pss_one (ps_ret pe_bl)) pss_nil)))
      (pss_one (ps_ret pe_bl)))), ?_⟩
    refine ⟨_, rfl, a, rfl, ⟨_, .inl (.inl ea)⟩, fun D hD => ?_⟩
    refine walk_by (walk_list (xs := xs)) (fun j Hx => L2.Same H Hx ∧ Hx D = some (.dT ((es.take j).map rowK))) ⟨same_new hD, upd_same⟩ (fun j Hx hj p => .inl (.inl (p.1 _ _ ea))) (fun j x Hx Hy hj p y => ?_) (fun H1 p => ?_)
    · obtain ⟨eH, hx⟩ := y
      obtain rfl : Hx = Hy := eH.symm
      obtain ⟨e, he, q0, rfl, eq0⟩ := p_at p3 hx
      have lj : j < es.length := by omega
      have ee : es[j] = e := (List.getElem?_eq_some_iff.mp he).2
      have eqx := p.1 _ _ eq0
      refine ⟨q0, _, rfl, .inl (.inl eqx), rfl, _, _, rfl, _, _, rfl, _, _, rfl, rfl, rfl, ?_⟩
      unfold tYes
      refine iteT' (b := true) rfl ⟨_, rfl, _, rfl, Nat.le_of_ble_eq_true rfl, fun Tn hTn => ⟨_, rfl, ?_⟩⟩
      have s3 := same_new (o := .tup [.int (e.1 : Nat), .int (e.2.1 : Nat)]) hTn
      have e3 := s3 _ _ p.2
      refine ⟨_, DPut.t (k := (rowK e).1) e3 upd_same (by rw [List.length_map, List.length_take, sizeLine_eq]; omega), samePut (p.1.trans s3) hD, ?_⟩
      rw [← ee, putK_new _ (freshK rok lj), List.take_succ_eq_append_getElem lj, List.map_append, upd_same]
      rfl
    have h1 : L2.Same H H1 := p.1
    have eD : H1 D = some (.dT (es.map rowK)) := by
      have := p.2
      rw [List.take_of_length_le (by omega)] at this
      exact this
    clear p
    refine ⟨_, rfl, b, rfl, ⟨_, .inl (.inl (h1 _ _ eb))⟩, for_list (xs := ys) (fun j σ Hx => L2.Same H1 Hx ∧ (∃ v2 v3 v4, σ = [some (.ref a), some (.ref b), v2, v3, v4, some (.ref D)]) ∧ haB es (ns.take j) = true) ⟨fun _ _ e => e, ⟨_, _, _, rfl⟩, rfl⟩ (fun j σ Hx hj p => .inl (.inl (p.1 _ _ (h1 _ _ eb)))) (fun j x σ Hx hx p => ?_) (fun σ Hx p => ?_)⟩
    · obtain ⟨sx, ⟨v2, v3, v4, rfl⟩, af⟩ := p
      obtain ⟨n, hn, q0, rfl, eq0⟩ := p_at pn hx
      have lj : j < ns.length := (List.getElem?_eq_some_iff.mp hn).1
      have en : ns[j] = n := (List.getElem?_eq_some_iff.mp hn).2
      have eqx := sx _ _ (h1 _ _ eq0)
      have eDx := sx _ _ eD
      refine ⟨q0, _, rfl, .inl (.inl eqx), rfl, _, _, rfl, _, _, rfl, _, _, rfl, rfl, ?_⟩
      have tk : haB es (ns.take (j + 1)) = (haB es (ns.take j) && es.any fun e => decide (e.1 = n.1) && decide (e.2.1 = n.2.1) && decide (e.2.2 ≤ n.2.2)) := by
        unfold haB
        rw [List.take_succ_eq_append_getElem lj, List.all_append, en]
        simp
      have bad : (es.any fun e => decide (e.1 = n.1) && decide (e.2.1 = n.2.1) && decide (e.2.2 ≤ n.2.2)) = false → haB es ns = false := fun h => by
        unfold haB
        rw [List.all_eq_false]
        exact ⟨n, en ▸ List.getElem_mem lj, by rw [h]; decide⟩
      refine ⟨_, rfl, _, rfl, Nat.le_of_ble_eq_true rfl, fun T1 hT1 => ⟨_, rfl, D, _, rfl, DGet.t (k := [Sum.inl (n.1 : Int), Sum.inl (n.2.1 : Int)]) (same_new hT1 _ _ eDx) upd_same, _, rfl, ?_⟩⟩
      have s3 := same_new (o := .tup [.int (n.1 : Nat), .int (n.2.1 : Nat)]) hT1
      generalize upd Hx T1 (.tup [.int (n.1 : Nat), .int (n.2.1 : Nat)]) = H3 at s3 ⊢
      by_cases hk : ∃ e ∈ es, e.1 = n.1 ∧ e.2.1 = n.2.1
      case neg =>
        have hv : valV (es.map rowK) [Sum.inl (n.1 : Int), Sum.inl (n.2.1 : Int)] = none := rowK_new fun e he hh => hk ⟨e, he, hh⟩
        rw [hv]
        refine iteT' rfl ?_
        have := q H3 ((h1.trans sx).trans s3)
        rw [bad (by
          rw [List.any_eq_false]
          intro e he hh
          simp only [Bool.and_eq_true, decide_eq_true_eq] at hh
          exact hk ⟨e, he, hh.1⟩)] at this
        exact this
      obtain ⟨e, he, k1, k2⟩ := hk
      have hv : valV (es.map rowK) [Sum.inl (n.1 : Int), Sum.inl (n.2.1 : Int)] = some (.int e.2.2) := by
        rw [← k1, ← k2]
        exact rowK_find rok he
      rw [hv]
      refine iteF' rfl ⟨_, rfl, _, rfl, _, rfl, Nat.le_of_ble_eq_true rfl, fun T2 hT2 => ⟨D, _, rfl, hv ▸ DGet.t (k := [Sum.inl (n.1 : Int), Sum.inl (n.2.1 : Int)]) (same_new hT2 _ _ (s3 _ _ eDx)) upd_same, _, rfl, _, _, rfl, rfl, _, rfl, ?_⟩⟩
      have s4 := same_new (o := .tup [.int (n.1 : Nat), .int (n.2.1 : Nat)]) hT2
      generalize upd H3 T2 (.tup [.int (n.1 : Nat), .int (n.2.1 : Nat)]) = H4 at s4 ⊢
      have s14 := (sx.trans s3).trans s4
      by_cases hb : n.2.2 < e.2.2
      · refine iteT' (decide_eq_true hb) ?_
        have := q H4 (h1.trans s14)
        rw [bad (by
          rw [List.any_eq_false]
          intro e' he' hh
          simp only [Bool.and_eq_true, decide_eq_true_eq] at hh
          have := rok.uniq he he' (by rw [k1, hh.1.1]) (by rw [k2, hh.1.2])
          subst this
          omega)] at this
        exact this
      · refine iteF' (decide_eq_false hb) ⟨s14, ⟨_, _, _, rfl⟩, ?_⟩
        rw [tk, af, Bool.true_and, List.any_eq_true]
        exact ⟨e, he, by simp [k1, k2]; omega⟩
    · obtain ⟨sx, ⟨v2, v3, v4, rfl⟩, af⟩ := p
      have ln := len_p pn
      rw [List.take_of_length_le (by omega)] at af
      have := q Hx (h1.trans sx)
      rw [af] at this
      exact this
theorem ok_lb {f : Addr} {fd fdG fdWi : FuncData} (F : L2.Fun K "last_bounds" "last_bounds" sLb f fd) (FG : L2.Fun K "stamps" "Band.stamps" sStamps B.gS fdG) (FWi : L2.Fun K "width" "Stamps.width" sWidth fWi fdWi)
    (X : Txt K mg C fLow fText fAre fTape fNext fInks) (O : Own K C) (hpi : PropOf K C "width" pWi fWi) (BB : Bds K mg B) : FnOk P w K mg base CX0 3 f fd ["band", "entries"] (spLb C B) := by
  have GG : FnOk P w K mg base CX0 1 B.gS fdG ["self"] (spGet K) := ok_get FG
  have bG : Binds K fdG ["self"] [] := FG.binds fun _ _ _ _ _ _ us hl => match us, hl with | [_], _ => rfl
  have WI : FnOk P w K mg base CX0 1 fWi fdWi ["self"] (spWidth C) := ok_width FWi X O
  have bWi : Binds K fdWi ["self"] [] := FWi.binds fun _ _ _ _ _ _ us hl => match us, hl with | [_], _ => rfl
  have k0 := BB.k 0 (by decide)
  obtain ⟨t0, n0⟩ := k0.name
  refine F.ok scLb (fun vs H Q E h => ?_) (fun cdv A outer s H vs Q E hr h => ?_)
  · obtain ⟨a, el, m, l, dm, i, W, ws, es, rfl, _⟩ := h
    rfl
  · obtain ⟨a, el, m, l, dm, i, W, ws, es, rfl, bn, ⟨xs, eel, p3⟩, les, q⟩ := h
    have k := BB.k i (by have := bn.i3; omega)
    obtain ⟨tc, hc⟩ := k.con
    obtain ⟨dx, pc, ha⟩ := bn.at_
    have st := bn.st
    have g := bn.g
    have xl := len_p p3
    refine ⟨_, (pss_cons (ps_set (i := 2) scLb.nd rfl (.inr rfl) (pe_propX (p := pWi) (pe_propX (p := B.pS) (pv 0) GG (hr.mono (by decide)) bG .nil L2.pass0) WI (hr.mono (by decide)) bWi .nil L2.pass0))
      (pss_cons (ps_set (i := 3) scLb.nd rfl (.inr rfl) (pe_cmpR op_eq (pe_con (pv 0) (by rfl)) (ClX.pe_cval (pe_glob (v := .ref (B.c 0)) (by rfl) k0.g rfl)) (by rfl)))
      (pss_one (ps_ret (pe_lc (own := [("word", 4), ("offset", 5), ("bound", 6)]) (g := gTup K 3 (gCons (gName 4) (gCons (gName 5) (gCons (gName 6) gNil)))) (by rfl) scLb.nd (pi_list (pv 1)) (blkOk_by (own := [("word", 4), ("offset", 5), ("bound", 6)]) (N := NLb) (sc := defScope sLb) (by decide +kernel)) (fun _ _ _ _ _ => pg_tup rfl (pgs_cons (pg_name (i := 4) scLb.nd rfl (Or.inl rfl)) (pgs_cons (pg_name (i := 5) scLb.nd rfl (Or.inl rfl)) (pgs_cons (pg_name (i := 6) scLb.nd rfl (Or.inl rfl)) pgs_nil)))) (fun _ _ _ _ _ => pts_one ((pw_or (pt_cmpR op_eq (pe_op op_add (pv 5) pe_int) (pv 2) (by rfl)) (pw_or1 (pt_not (pt_val (pv 3))))).pt)) (fun _ _ _ _ _ => pv 6)))))), ?_⟩
    refine ⟨_, rfl, a, B.c i, dx, _, rfl, k.cls, k.prop, ha, a, B.c i, dx, _, _, rfl, ha, rfl, k.cls, k.noS, m, C, dm, _, rfl, O.cls, hpi, st.1, m, l, dm, ws, W, rfl, st, g, ?_⟩
    refine ⟨_, rfl, a, _, dx, _, _, _, rfl, ha, k.cls, hc, rfl, B.c 0, _, _, _, rfl, k0.rd, n0, rfl, ?_⟩
    rw [labN_line bn.i3]
    refine ⟨_, rfl, el, rfl, ⟨_, .inl (.inl eel)⟩, fun D hD => ?_⟩
    refine walk_by (walk_list (xs := xs)) (fun j Hx => L2.Same H Hx ∧ Hx D = some (.lst ((lbF W (decide (i = 0)) (es.take j)).map V.int))) ⟨same_new hD, upd_same⟩ (fun j Hx hj p => .inl (.inl (p.1 _ _ eel))) (fun j x Hx Hy hj p y => ?_) (fun Hx p => ?_)
    · obtain ⟨eH, hx⟩ := y
      obtain rfl : Hx = Hy := eH.symm
      obtain ⟨e, he, q0, rfl, eq0⟩ := p_at p3 hx
      have lj : j < es.length := by omega
      have ee : es[j] = e := (List.getElem?_eq_some_iff.mp he).2
      have eqx := p.1 _ _ eq0
      have dw : decide (V.int ((e.2.1 : Nat) + 1) = V.int (W : Nat)) = decide (e.2.1 + 1 = W) := by
        rw [Bool.eq_iff_iff]
        simp only [decide_eq_true_eq]
        constructor
        · intro z
          have := V.int.inj z
          omega
        · intro z
          rw [← z]
          rfl
      have tk : lbF W (decide (i = 0)) (es.take (j + 1)) = lbF W (decide (i = 0)) (es.take j) ++ (if (decide (e.2.1 + 1 = W) || !decide (i = 0)) = true then [e.2.2] else []) := by
        unfold lbF
        rw [List.take_succ_eq_append_getElem lj, List.filter_append, List.map_append, ee]
        by_cases hh : (decide (e.2.1 + 1 = W) || !decide (i = 0)) = true
        · rw [if_pos hh, List.filter_cons_of_pos (p := fun e : En => decide (e.2.1 + 1 = W) || !decide (i = 0)) hh]; rfl
        · rw [if_neg hh, List.filter_cons_of_neg (p := fun e : En => decide (e.2.1 + 1 = W) || !decide (i = 0)) hh]; rfl
      have ll : (lbF W (decide (i = 0)) (es.take j)).length < 49 := by
        unfold lbF
        rw [List.length_map]
        refine Nat.lt_of_le_of_lt (List.length_filter_le ..) ?_
        rw [List.length_take]
        omega
      refine ⟨q0, _, rfl, .inl (.inl eqx), rfl, _, _, rfl, _, _, rfl, _, _, rfl, rfl, rfl, ?_⟩
      refine ⟨_, rfl, _, _, rfl, rfl, _, rfl, rfl, _, rfl, ?_⟩
      rw [dw]
      have keep : (decide (e.2.1 + 1 = W) || !decide (i = 0)) = true → ∃ acc, Hx D = some (.lst acc) ∧ acc.length < sizeLine ∧ L2.Same H (upd Hx D (.lst (acc ++ [.int e.2.2]))) ∧ upd Hx D (.lst (acc ++ [.int e.2.2])) D = some (.lst ((lbF W (decide (i = 0)) (es.take (j + 1))).map V.int)) := fun hh => by
        refine ⟨_, p.2, by rw [List.length_map, sizeLine_eq]; omega, samePut p.1 hD, ?_⟩
        rw [upd_same, tk, if_pos hh, List.map_append]
        rfl
      by_cases c1 : e.2.1 + 1 = W
      · exact iteT' (decide_eq_true c1) (iteT' (b := true) rfl ⟨_, rfl, keep (by rw [decide_eq_true c1]; rfl)⟩)
      · refine iteF' (decide_eq_false c1) ⟨_, rfl, _, rfl, ?_⟩
        by_cases c2 : i = 0
        · have hb : ¬ (decide (e.2.1 + 1 = W) || !decide (i = 0)) = true := by rw [decide_eq_false c1, decide_eq_true c2]; decide
          rw [decide_eq_true c2]
          refine iteF' (b := !true) rfl ⟨p.1, ?_⟩
          rw [← decide_eq_true c2, tk, if_neg hb, List.append_nil]
          exact p.2
        · have kp := keep (by rw [decide_eq_false c2, Bool.not_false, Bool.or_true])
          rw [decide_eq_false c2] at kp ⊢
          exact iteT' (b := !false) rfl ⟨_, rfl, kp⟩
    · have pe := p.2
      rw [List.take_of_length_le (by omega)] at pe
      exact q D Hx hD p.1 pe
theorem ok_sh {f : Addr} {fd fdC fdF fdN fdG fdW fdI fdH fdL : FuncData} (F : FunC K "shows" "shows" sSh f fd cSh) (FC : L2.Fun K "check_text" "Band.check_text" sChkT fCt fdC) (CT_ : ∀ i, i < 3 → FnOk P w K mg base (L2.CX P w) 4 fCt fdC ["self", "text"] (spChkT K T B DTx i)) (FF : L2.Fun K "first_entries" "first_entries" sFe fFe fdF) (FE : FnOk P w K mg base CX0 3 fFe fdF ["band", "sign"] (spFe C B)) (FN : L2.Fun K "next_entries" "next_entries" sNe fNe fdN) (NE : FnOk P w K mg base CX0 3 fNe fdN ["band", "entries", "sign"] (spNe C B))
    (FG : L2.Fun K "stamps" "Band.stamps" sStamps B.gS fdG) (FW : L2.Fun K "words" "Stamps.words" sWords fWo fdW) (FI : L2.Fun K "is_table" "is_table" sIt fIt fdI) (IT : FnOk P w K mg base CX0 5 fIt fdI ["words", "text", "thing"] (spIt T)) (FH : L2.Fun K "has_all" "has_all" sHa fHa fdH) (FL : L2.Fun K "last_bounds" "last_bounds" sLb fLb fdL) (LB : FnOk P w K mg base CX0 3 fLb fdL ["band", "entries"] (spLb C B))
    (X : Txt K mg C fLow fText fAre fTape fNext fInks) (XT : TopT K mg fAg) (XU : TopU K mg fFe fNe) (XS : TopS K mg fInt fIe fAe fIt) (XR : TopR K mg fHa fLb fSh) (O : Own K C) (hpo : PropOf K C "words" pWo fWo) (BB : Bds K mg B) (mCt : ∀ i, i < 3 → Meth K (B.c i) "check_text" fCt) (TS : TabB base mg cSh PSh) (hS : PSh ∈ T) :
    FnOk P w K mg base (L2.CX P w) 6 f fd ["band", "text", "number", "thing"] (spSh T C B) := by
  have bCt : Binds K fdC ["self", "text"] [] := FC.binds fun _ _ _ _ _ _ us hl => match us, hl with | [_, _], _ => rfl
  have bFe : Binds K fdF ["band", "sign"] [] := FF.binds fun _ _ _ _ _ _ us hl => match us, hl with | [_, _], _ => rfl
  have bNe : Binds K fdN ["band", "entries", "sign"] [] := FN.binds fun _ _ _ _ _ _ us hl => match us, hl with | [_, _, _], _ => rfl
  have bIt : Binds K fdI ["words", "text", "thing"] [] := FI.binds fun _ _ _ _ _ _ us hl => match us, hl with | [_, _, _], _ => rfl
  have bHa : Binds K fdH ["entries", "needed"] [] := FH.binds fun _ _ _ _ _ _ us hl => match us, hl with | [_, _], _ => rfl
  have bLb : Binds K fdL ["band", "entries"] [] := FL.binds fun _ _ _ _ _ _ us hl => match us, hl with | [_, _], _ => rfl
  have HA : FnOk P w K mg base CX0 1 fHa fdH ["entries", "needed"] spHa := ok_ha FH
  have GG : FnOk P w K mg base CX0 1 B.gS fdG ["self"] (spGet K) := ok_get FG
  have bG : Binds K fdG ["self"] [] := FG.binds fun _ _ _ _ _ _ us hl => match us, hl with | [_], _ => rfl
  have WW : FnOk P w K mg base CX0 1 fWo fdW ["self"] (spWords C) := ok_words FW X O
  have bWo : Binds K fdW ["self"] [] := FW.binds fun _ _ _ _ _ _ us hl => match us, hl with | [_], _ => rfl
  refine F.okX scSh (fun vs H Q E h => ?_) (fun A outer s H vs Q E hr h => ?_)
  · obtain ⟨a, t, m, l, dm, i, W, ws, z, g, rows, rfl, _⟩ := h
    rfl
  · obtain ⟨a, t, m, l, dm, i, W, ws, z, g, rows, rfl, bn, hv, t3, l48, hT, q⟩ := h
    have k := BB.k i (by have := bn.i3; omega)
    have CT := CT_ i bn.i3
    obtain ⟨dx, pc, ha⟩ := bn.at_
    obtain ⟨z1, z2, zl⟩ : 1 ≤ z.length ∧ z.length ≤ 120 ∧ lowB z = true := by
      unfold textB at hv
      simp only [Bool.and_eq_true, decide_eq_true_eq] at hv
      have : cellsN i ≤ 120 := by unfold cellsN; split <;> omega
      exact ⟨by omega, by omega, hv.2⟩
    have hz : z.length ≤ sizeLine := by rw [sizeLine_eq]; omega
    have zL : z.cps.toList.length = z.length := by simp [Str.length]
    have hw : ∀ y ∈ ws, y.length = W := fun y hy => (bn.g.all y hy).1
    refine ⟨_, (pss_cons (ps_expr (pe_meth (pv 0) k.cls (mCt i bn.i3) CT (hr.mono (by decide)) bCt .nil (passes_call (E := E) (takes_of rfl rfl rfl rfl) (fun _ _ _ _ h => h)) (pa_cons (pv 1) pa_nil)))
      (pss_cons (ps_if (pt_not (pt_val (pe_call IT (hr.mono (by decide)) (by rfl) XS.gIt XS.kIt bIt .nil L2.pass0 (pa_cons (pe_propX (p := pWo) (pe_propX (p := B.pS) (pv 0) GG (hr.mono (by decide)) bG .nil L2.pass0) WW (hr.mono (by decide)) bWo .nil L2.pass0) (pa_cons (pv 1) (pa_cons (pv 3) pa_nil)))))) (pss_one (ps_ret pe_bl)) pss_nil)
      (pss_cons (ps_set (i := 4) scSh.nd rfl (.inl rfl) (pe_call FE (hr.mono (by decide)) (by rfl) XU.gFe XU.kFe bFe .nil L2.pass0 (pa_cons (pv 0) (pa_cons (pe_ix ix_seq (pv 1) pe_int fun _ _ => rfl) pa_nil))))
      (pss_cons (ps_for (passes_of rfl) rfl (pi_enum (by rfl) XT.enu (pa_cons (pv 3) pa_nil)) (pg_tup rfl (pgs_cons (pg_name (i := 5) scSh.nd rfl (Or.inl rfl)) (pgs_cons (pg_name (i := 6) scSh.nd rfl (Or.inl rfl)) pgs_nil))) (C8.pss_cut (ps_if (pt_cmpR op_gt (pv 5) pe_int (by rfl)) (pss_one (ps_set (i := 4) scSh.nd rfl (.inl rfl) (pe_call NE (hr.mono (by decide)) (by rfl) XU.gNe XU.kNe bNe .nil L2.pass0 (pa_cons (pv 0) (pa_cons (pe_ix ix_seq (pv 3) (pe_op op_sub (pv 5) pe_int) fun _ _ => rfl) (pa_cons (pe_ix ix_seq (pv 1) (pv 5) fun _ _ => rfl) pa_nil)))))) pss_nil)
      (pss_one (ps_if (pt_not (pt_val (pe_call HA (hr.mono (by decide)) (by rfl) XR.gHa XR.kHa bHa .nil L2.pass0 (pa_cons (pv 6) (pa_cons (pv 4) pa_nil))))) (pss_one (ps_ret pe_bl)) pss_nil))))
      (pss_one (ps_ret (pe_allG (k := 0) (cs := ["number"]) (pick := [2]) rfl (hr.mono (by decide)) (by rfl) X.all (by decide +kernel) TS rfl (genN_by (sc := defScope sSh) (N := NSh) rfl rfl (fun y h => cell_has h) (by decide +kernel)) (pi_list (pe_call LB (hr.mono (by decide)) (by rfl) XR.gLb XR.kLb bLb .nil L2.pass0 (pa_cons (pv 0) (pa_cons (pe_ix ix_seq (pv 3) (pe_un un_neg pe_int) fun _ _ => rfl) pa_nil)))) (fun s H code C A fp pn hr => pe_cmpR op_ge (pv 0) (pv 1) (by rfl))))))))), ?_⟩
    refine ⟨_, rfl, a, dx, _, rfl, ha, rfl, _, rfl, a, m, dx, pc, .str z, rfl, ha, hT, .inl ⟨z, rfl, hz, fun H2 h2 => ?_⟩⟩
    rw [hv]
    refine iteT ?_
    have kz := h2.kep
    have hT2 := h2.1
    have bn2 := bn.kep hT kz
    obtain ⟨dx2, pc2, ha2⟩ := bn2.at_
    refine ⟨_, rfl, a, B.c i, dx2, _, rfl, k.cls, k.prop, ha2, a, B.c i, dx2, _, _, rfl, ha2, rfl, k.cls, k.noS, m, C, dm, _, rfl, O.cls, hpo, bn2.st.1, m, l, dm, _, rfl, bn2.st, fun wl hwl => ?_⟩
    have k3 := kz.sameT (same_new (o := .lst (ws.map V.str)) hwl)
    have e3 : upd H2 wl (.lst (ws.map V.str)) wl = some (.lst (ws.map V.str)) := upd_same
    generalize upd H2 wl (.lst (ws.map V.str)) = H3 at k3 e3 ⊢
    refine ⟨_, rfl, _, rfl, wl, t, ws, W, z, rows, rfl, e3, bn.g, k3.tab3 hT t3, hz, k3.1, fun H4 k34 => ⟨_, rfl, ?_⟩⟩
    have k4 := k3.trans k34
    cases hit : itB ws W z rows with
    | false =>
      refine iteT' rfl ?_
      have := q H4 k4
      unfold shB at this
      rw [hit, Bool.false_and] at this
      exact this
    | true =>
    refine iteF' rfl ?_
    have hsh : shB W (decide (i = 0)) ws z g rows = (((List.range rows.length).all fun k => haB (rows.getD k []) (needF W (decide (i = 0)) ws z.cps.toList rows k)) && (lbF W (decide (i = 0)) (rows.getD (rows.length - 1) [])).all fun b => decide (g ≤ b)) := by
      unfold shB
      rw [hit, Bool.true_and]
    rw [hsh] at q
    have rl : rows.length = z.length := by
      unfold itB at hit
      rw [Bool.and_eq_true, decide_eq_true_eq] at hit
      exact hit.1
    have rok : ∀ k, k < rows.length → RowOk ws W (rows.getD k []) := fun k hk => by
      unfold itB at hit
      rw [Bool.and_eq_true, List.all_eq_true] at hit
      refine aeB_ok (hit.2 k (List.mem_range.mpr hk)) (l48 _ ?_)
      rw [List.getD_eq_getElem?_getD, List.getElem?_eq_getElem hk]
      exact List.getElem_mem hk
    have bn4 := bn.kep hT k4
    obtain ⟨c0, hc0⟩ : ∃ c0, z.cps.toList[0]? = some c0 := ⟨_, List.getElem?_eq_getElem (by omega)⟩
    have ec0 : z.cps.toList.getD 0 0 = c0 := by rw [List.getD_eq_getElem?_getD, hc0]; rfl
    refine ⟨_, rfl, _, rfl, .inr (.inr ⟨z, 0, c0, rfl, rfl, hz, atI_nat (j := 0) hc0, ?_⟩)⟩
    refine ⟨a, m, l, dm, i, W, c0, ws, rfl, bn4, fun r es H5 hr5 s5 e5 p5 => ?_⟩
    have k5 := k4.sameT s5
    have row0 : Row3 H5 r (needF W (decide (i = 0)) ws z.cps.toList rows 0) := ⟨es, e5, by show P3 H5 es (firstF _ ws (z.cps.toList.getD 0 0)); rw [ec0]; exact p5⟩
    clear hr5 s5 e5 p5
    obtain ⟨as, ea, pr⟩ := t3
    have al := len_p pr
    refine ⟨_, rfl, t, _, rfl, .inl (.inl (k5.lst hT ea)), for_it (walk_enum (xs := as.map V.ref)) (fun j σ Hx => Kep T H Hx ∧ (∃ rn v5 v6, σ = [some (.ref a), some (.str z), some (.int g), some (.ref t), some (.ref rn), v5, v6] ∧ (j = 0 → Row3 Hx rn (needF W (decide (i = 0)) ws z.cps.toList rows 0))) ∧ ∀ j', j' < j → haB (rows.getD j' []) (needF W (decide (i = 0)) ws z.cps.toList rows j') = true) ⟨k5, ⟨r, _, _, rfl, fun _ => row0⟩, fun j' h => absurd h (by omega)⟩ (fun j σ Hx hj p => .inl (.inl (p.1.lst hT ea))) (fun j x σ Hx Hy hj p y => ?_) (fun σ Hx p => ?_)⟩
    · obtain ⟨kx, ⟨rn, v5, v6, rfl, hrn⟩, af⟩ := p
      obtain ⟨q0, x1, x2, rfl, hq0, rfl, hx1, hx2⟩ := y
      obtain rfl : V.int (j : Nat) = x1 := Option.some.inj hx1
      have j1 : j < as.length := by rw [List.length_map] at hj; exact hj
      have j2 : j < rows.length := by omega
      replace hx2 : (as.map V.ref)[j]? = some x2 := hx2
      rw [List.getElem?_map, List.getElem?_eq_getElem j1] at hx2
      obtain rfl := Option.some.inj hx2
      obtain ⟨es, hes, re⟩ := p_at pr (List.getElem?_eq_getElem j1)
      have ees : rows.getD j [] = es := by rw [List.getD_eq_getElem?_getD, hes]; rfl
      have s6 := same_new (o := .tup [.int (j : Nat), .ref as[j]]) hq0
      have k6 := kx.sameT s6
      have eq6 : upd Hx q0 (.tup [.int (j : Nat), .ref as[j]]) q0 = some (.tup [.int (j : Nat), .ref as[j]]) := upd_same
      have hrn6 : j = 0 → Row3 (upd Hx q0 (.tup [.int (j : Nat), .ref as[j]])) rn (needF W (decide (i = 0)) ws z.cps.toList rows 0) := fun e => (hrn e).same s6
      generalize upd Hx q0 (.tup [.int (j : Nat), .ref as[j]]) = H6 at s6 k6 eq6 hrn6 ⊢
      refine ⟨q0, _, rfl, .inl (.inl eq6), rfl, _, _, rfl, _, _, rfl, rfl, ?_⟩
      refine ⟨fun σ Hy => Kep T H Hy ∧ ∃ rn, σ = [some (.ref a), some (.str z), some (.int g), some (.ref t), some (.ref rn), some (.int (j : Nat)), some (.ref as[j])] ∧ Row3 Hy rn (needF W (decide (i = 0)) ws z.cps.toList rows j), ?_, ?_⟩
      · refine ⟨_, rfl, _, _, rfl, rfl, _, rfl, ?_⟩
        by_cases j0 : j = 0
        · refine iteF' (decide_eq_false (by omega)) ⟨k6, rn, rfl, ?_⟩
          rw [j0]
          exact hrn6 j0
        · refine iteT' (decide_eq_true (by omega)) ?_
          obtain ⟨k', rfl⟩ : ∃ k', j = k' + 1 := ⟨j - 1, by omega⟩
          have j1' : k' < as.length := by omega
          have at1 : atI (as.map V.ref) (((k' + 1 : Nat) : Int) - 1) = some (.ref as[k']) := by
            rw [show (((k' + 1 : Nat) : Int) - 1) = (k' : Nat) by omega]
            exact atI_nat (by rw [List.getElem?_map, List.getElem?_eq_getElem j1']; rfl)
          obtain ⟨es', hes', re'⟩ := p_at pr (List.getElem?_eq_getElem j1')
          have ees' : rows.getD k' [] = es' := by rw [List.getD_eq_getElem?_getD, hes']; rfl
          obtain ⟨c, hc⟩ : ∃ c, z.cps.toList[k' + 1]? = some c := ⟨_, List.getElem?_eq_getElem (by omega)⟩
          have ec : z.cps.toList.getD (k' + 1) 0 = c := by rw [List.getD_eq_getElem?_getD, hc]; rfl
          refine ⟨_, rfl, _, rfl, _, rfl, _, _, rfl, rfl, .inl ⟨t, _, _, _, rfl, rfl, .inl (.inl (k6.lst hT ea)), at1, ?_⟩⟩
          refine ⟨_, rfl, _, rfl, .inr (.inr ⟨z, _, c, rfl, rfl, hz, atI_nat hc, ?_⟩)⟩
          refine ⟨a, as[k'], m, l, dm, i, W, c, ws, es', rfl, bn.kep hT k6, k6.row3 hT re', ees' ▸ rok k' (by omega), fun r7 vs7 H7 hr7 s7 e7 p7 => ⟨k6.sameT s7, r7, rfl, vs7, e7, ?_⟩⟩
          show P3 H7 vs7 (nextF W ws (rows.getD k' []) (z.cps.toList.getD (k' + 1) 0))
          rw [ees', ec]
          exact p7
      · rintro σ Hy ⟨ky, rn', rfl, hn⟩
        refine ⟨_, rfl, _, rfl, as[j], rn', ws, W, es, _, rfl, ky.row3 hT re, ees ▸ rok j j2, hn, fun H7 s7 => ⟨_, rfl, ?_⟩⟩
        have k7 := ky.sameT s7
        cases hh : haB es (needF W (decide (i = 0)) ws z.cps.toList rows j) with
        | false =>
          refine iteT' rfl ?_
          have := q H7 k7
          have nb : ((List.range rows.length).all fun k => haB (rows.getD k []) (needF W (decide (i = 0)) ws z.cps.toList rows k)) = false := by
            rw [List.all_eq_false]
            exact ⟨j, List.mem_range.mpr j2, by rw [ees, hh]; decide⟩
          rw [nb, Bool.false_and] at this
          exact this
        | true =>
          refine iteF' rfl ⟨k7, ⟨rn', _, _, rfl, fun e => absurd e (by omega)⟩, fun j' hj' => ?_⟩
          by_cases jl : j' < j
          · exact af j' jl
          · obtain rfl : j' = j := by omega
            rw [ees]
            exact hh
    · obtain ⟨kx, ⟨rn, v5, v6, rfl, hrn⟩, af⟩ := p
      have yb : ((List.range rows.length).all fun k => haB (rows.getD k []) (needF W (decide (i = 0)) ws z.cps.toList rows k)) = true := by
        rw [List.all_eq_true]
        intro k hk
        exact af k (by rw [List.length_map, al]; exact List.mem_range.mp hk)
      rw [yb, Bool.true_and] at q
      have la : as.length - 1 < as.length := by omega
      obtain ⟨es, hes, re⟩ := p_at pr (List.getElem?_eq_getElem la)
      have ees : rows.getD (rows.length - 1) [] = es := by rw [List.getD_eq_getElem?_getD, ← al, hes]; rfl
      have lm : (as.map V.ref).length - 1 = as.length - 1 := by rw [List.length_map]
      have at1 : atI (as.map V.ref) (-1) = some (.ref as[as.length - 1]) := atI_m1 (by rw [lm, List.getElem?_map, List.getElem?_eq_getElem la]; rfl)
      have lme : es ∈ rows := by
        rw [← ees, List.getD_eq_getElem?_getD, List.getElem?_eq_getElem (by omega)]
        exact List.getElem_mem _
      refine ⟨_, rfl, _, rfl, _, rfl, .inl ⟨t, _, -1, _, rfl, rfl, .inl (.inl (kx.lst hT ea)), at1, ?_⟩⟩
      refine ⟨a, _, m, l, dm, i, W, ws, es, rfl, bn.kep hT kx, kx.row3 hT re, l48 es lme, fun r8 H8 hr8 s8 e8 => ?_⟩
      have k8 := kx.sameT s8
      rw [ees] at q
      refine ⟨r8, rfl, ⟨_, .inl (.inl e8)⟩, k8.1 _ hS, fun H9 h9 => ?_⟩
      refine all_lst (es := lbF W (decide (i = 0)) es) (fun b => decide (g ≤ b)) (by rw [List.length_map]) (Tbs T H8) (Tbs.of1 k8.1 hS h9) (fun H1 q1 => q1.kep.seqL k8.1 (.inl (.inl e8))) (fun j hj x hx H1 q1 R hR => ?_) (fun H1 q1 => q H1 (k8.trans q1.kep))
      rw [List.getElem?_map, List.getElem?_eq_getElem hj] at hx
      obtain rfl := Option.some.inj hx
      exact ⟨_, rfl, _, rfl, _, _, rfl, rfl, hR H1 q1⟩
end
end Ov

set_option Elab.async false
set_option linter.all false
set_option maxRecDepth 100000
set_option maxHeartbeats 4000000
/-! list(range(a, b, c)) -/
namespace Ov
open PySem PySem.Spec PyProof.Rows L2 GxR
/-- the range object a, b, c -/
def rg3 (p : Addr) (i j c : Int) : HO := .ext fun h => ∃ t u v, IsRange h p i j c t u v
theorem cr_range3 {X : Cx} : CallR X (.type "range") (fun vs H Q => ∃ i j c, vs = [V.int i, V.int j, V.int c] ∧ c ≠ 0 ∧ c.natAbs < 1073741824 ∧ ∀ p, H p = none → Q (.ref p) (upd H p (rg3 p i j c))) := by
  intro pins s σ H vs us Q I r h
  obtain ⟨i, j, c, rfl, c0, cb, q⟩ := h
  obtain ⟨u1, u2, u3, rfl, ⟨t, rfl⟩, ⟨u, rfl⟩, ⟨v, rfl⟩⟩ : ∃ u1 u2 u3, us = [u1, u2, u3] ∧ RelV (.int i) u1 ∧ RelV (.int j) u2 ∧ RelV (.int c) u3 := by
    cases r with
    | cons a r => cases r with
      | cons b r => cases r with
        | cons d r => cases r; exact ⟨_, _, _, rfl, a, b, d⟩
  refine call_range_3 c0 ⟨.ref s.heap.objs.size, upd H s.heap.objs.size (rg3 s.heap.objs.size i j c), I.laid (t' := s.toks) (fun b o e => Heap.get?_push_of_some _ e) (Nat.le_refl _) ?_, rfl, q _ (I.hok.fresh (Nat.le_refl _))⟩ (Or.inl (PyProof.noPylong_small (by omega)))
  exact ⟨⟨t, u, v, Heap.get?_push_size _ rfl⟩, ⟨_, Heap.get?_push_size _ rfl⟩, fun h1 h2 ⟨a, b, d, e⟩ k => ⟨a, b, d, k _ e⟩⟩
theorem call_listR3 {X : Cx} (hc : X.calm = true) : CallR X (.type "list") (fun xs H Q => ∃ (r : Addr) (i j c : Int) (n : Nat), xs = [.ref r] ∧ H r = some (rg3 r i j c) ∧ Builtin.Range.small i j c = true ∧ Builtin.Range.rangeSize i j c = n ∧ n ≤ 2 ^ 24 ∧ ∀ l, H l = none → Q (.ref l) (upd H l (.lst ((List.range n).map fun k => V.int (i + (k : Nat) * c))))) := by
  intro pins s σ H xs us Q I r h
  obtain ⟨a, i, j, c, n, rfl, ha, sm, sz, hn, q⟩ := h
  obtain rfl := Vals.ref1 r
  obtain ⟨⟨t, u, v, hr⟩, _⟩ := (show ObjOk X.prog X.w H s.heap a (rg3 a i j c) from I.hok a _ ha)
  refine call_list_range (I.ok.hd hc) hr sm sz hn fun h' tk acc' c' hk hS' hacc => ?_
  have rel : Vals ((List.range n).map fun k => V.int (i + (k : Nat) * c)) acc'.toList := by
    refine vals_ext (by rw [List.length_map, List.length_range, Array.length_toList, hacc.1]) fun j y w h1 h2 => ?_
    obtain ⟨tt, rfl⟩ := hacc.2 j w (by simpa using h2)
    obtain ⟨hj, e⟩ := List.getElem?_eq_some_iff.mp h1
    simp at e
    subst e
    exact ⟨tt, by simp⟩
  refine ⟨.ref s.heap.objs.size, _, I.laid (t' := tk) hk (Nat.le_refl _) ?_, rfl, q _ (I.hok.fresh (Nat.le_refl _))⟩
  exact ⟨by rw [List.length_map, List.length_range, sizeLine_eq]; omega, acc'.toList, c', rel, by simpa using hS'⟩
end Ov

set_option Elab.async false
set_option linter.all false
set_option maxRecDepth 100000
set_option maxHeartbeats 4000000
/-! _law_mark -/
namespace Ov
open PySem PySem.Spec PyProof.Rows L2 GxR
abbrev NMk : List Str := ["vat", "words", "size", "is_line", "wide", "cells", "spots", "turn", "spot", "word", "begin", "k", "letter", "way", "cell"]
theorem scMk : FnScope NMk ["vat", "words", "size", "is_line"] (defScope sMk) := ⟨rfl, rfl, rfl, by decide +kernel, rfl, by decide +kernel, by decide +kernel⟩
theorem sameBt {t : Addr} {H H' : Hp} (s : L2.Same H H') : Bt t H H' := fun b o _ e => s _ _ e
theorem tpSame {t : Addr} {H H' : Hp} {N : Nat} (h : Tp H t N) (s : L2.Same H H') : Tp H' t N := by
  obtain ⟨a, b, c, e, r⟩ := h
  exact ⟨a, b, c, s _ _ e, r⟩
def cV (c : Nat) : V := .str ⟨#[c]⟩
/-- the cells: so many letters -/
def Cel (H : Hp) (cl : Addr) (size : Nat) : Prop := ∃ cs : List Nat, H cl = some (.lst (cs.map cV)) ∧ cs.length = size ∧ ∀ c ∈ cs, 97 ≤ c ∧ c ≤ 122
theorem Cel.bt {H H' : Hp} {cl t : Addr} {size : Nat} (b : Bt t H H') (n : cl ≠ t) (h : Cel H cl size) : Cel H' cl size := let ⟨cs, e, r⟩ := h; ⟨cs, b _ _ n e, r⟩
theorem small_of {s W : Nat} (s1 : 1 ≤ s) (s2 : s ≤ 120) (w1 : 1 ≤ W) (w8 : W ≤ 8) : Builtin.Range.small 0 (s : Int) (W : Int) = true ∧ ∃ n : Nat, Builtin.Range.rangeSize 0 (s : Int) (W : Int) = n ∧ n ≤ 120 := by
  have e : Builtin.Range.rangeSize 0 (s : Int) (W : Int) = (((s - 1) / W + 1 : Nat) : Int) := by
    unfold Builtin.Range.rangeSize
    rw [if_pos (by omega), if_pos (by omega)]
    have : ((s : Int) - 0 - 1) = ((s - 1 : Nat) : Int) := by omega
    rw [this]
    norm_cast
  have hd : (s - 1) / W ≤ s - 1 := Nat.div_le_self _ _
  refine ⟨?_, _, e, by omega⟩
  unfold Builtin.Range.small
  rw [e]
  generalize (s - 1) / W = k at hd
  rw [if_pos (by omega)]
  simp only [Builtin.Range.rangeFitsLong, Bool.and_eq_true, Bool.or_eq_true, decide_eq_true_eq, beq_iff_eq]
  omega
def spMk : Sp := fun vs H Q _ => ∃ (t wl : Addr) (n size W : Nat) (ws : List Str) (isl : Bool), vs = [.ref t, .ref wl, .int (size : Nat), .bl isl] ∧ Tp H t n ∧ n + 600 < 2 ^ 40 ∧ H wl = some (.lst (ws.map V.str)) ∧ wl ≠ t ∧ Good ws W ∧ 1 ≤ size ∧ size ≤ 120 ∧
  ∀ (z : Str) H', z.length = size → lowB z = true → Tp H' t (n + 600) → Bt t H H' → Q (.str z) H'
section
variable {P : Program} {w : World} {K : PySem.W.Frag} {mg : Str → Option Value} {base : Heap} {T : List Addr} {C D fLow fText fAre fTape fNext fInks fInit cLow PLow cAre PAre fAg : Addr} {B : BA}
theorem ok_mk {f : Addr} {fd fdN : FuncData} (F : L2.Fun K "_law_mark" "_law_mark" sMk f fd) (FN : L2.Fun K "_law_sip" "_law_sip" sNext fNext fdN) (X : Txt K mg C fLow fText fAre fTape fNext fInks) (XT : TopT K mg fAg) : FnOk P w K mg base CX0 2 f fd ["vat", "words", "size", "is_line"] spMk := by
  have N1 : FnOk P w K mg base CX0 1 fNext fdN ["vat", "size"] spNext := ok_next FN X
  have bN : Binds K fdN ["vat", "size"] [] := FN.binds fun _ _ _ _ _ _ us hl => match us, hl with | [_, _], _ => rfl
  refine F.ok scMk (fun vs H Q E h => ?_) (fun cdv A outer s H vs Q E hr h => ?_)
  · obtain ⟨t, wl, n, size, W, ws, isl, rfl, _⟩ := h
    rfl
  · obtain ⟨t, wl, n, size, W, ws, isl, rfl, tp, hn, ew, wt, g, z1, z2, q⟩ := h
    refine ⟨_, (pss_cons (ps_par (i := 4) (j := 5) rfl scMk.nd rfl rfl (by decide) rfl rfl (pa_cons (pe_callB call_len_str (by rfl) X.len boot_len (pa_cons (pe_ix ix_seq (pv 1) pe_int fun _ _ => rfl) pa_nil)) (pa_cons (pe_op op_rep (pe_lst (pa_cons pe_str pa_nil)) (pv 2)) pa_nil)) (by rfl))
      (pss_cons (ps_set (i := 6) scMk.nd rfl (.inl rfl) (pe_callTy (call_listR3 rfl) (by rfl) X.lst (by decide +kernel) (pa_cons (pe_callTy cr_range3 (by rfl) X.rng (by decide +kernel) (pa_cons pe_int (pa_cons (pv 2) (pa_cons (pv 4) pa_nil)))) pa_nil)))
      (C8.pss_cut (ps_for PassesOwn.never rfl (pi_range1 (by rfl) X.rng (pa_cons (pe_next N1 bN (hr.mono (by decide)) (by rfl) X.gNext X.kNext (pa_cons (pv 0) (pa_cons (pe_callB (call_min2 rfl) (by rfl) X.min boot_min (pa_cons pe_int (pa_cons (pe_op op_mul pe_int (pv 2)) pa_nil))) pa_nil))) pa_nil)) (pg_name (i := 7) scMk.nd rfl (Or.inl rfl)) (pss_one (ps_expr (pe_bm PySem.F.plainAttrs_list PySem.F.slot_list_append PySem.F.type_list_append mt_append (pv 6) (pa_cons (pe_op op_add (pe_op op_sub (pe_next N1 bN (hr.mono (by decide)) (by rfl) X.gNext X.kNext (pa_cons (pv 0) (pa_cons (pe_op op_sub (pe_op op_add (pv 2) (pv 4)) pe_int) pa_nil))) (pv 4)) pe_int) pa_nil)))))
      (C8.pss_cut (ps_for PassesOwn.never rfl (pi_list (pv 6)) (pg_name (i := 8) scMk.nd rfl (Or.inl rfl)) (pss_cons (ps_set (i := 9) scMk.nd rfl (.inl rfl) (pe_ix ix_seq (pv 1) (pe_next N1 bN (hr.mono (by decide)) (by rfl) X.gNext X.kNext (pa_cons (pv 0) (pa_cons (pe_callB call_len_seq (by rfl) X.len boot_len (pa_cons (pv 1) pa_nil)) pa_nil))) fun _ _ => rfl))
      (C8.pss_cut (ps_set (i := 10) scMk.nd rfl (.inl rfl) (pe_ifExp (pt_val (pv 3)) (pe_callB (call_max2 rfl) (by rfl) X.max boot_max (pa_cons pe_int (pa_cons (pe_callB (call_min2 rfl) (by rfl) X.min boot_min (pa_cons (pv 8) (pa_cons (pe_op op_sub (pv 2) (pv 4)) pa_nil))) pa_nil))) (pv 8)))
      (pss_one (ps_for PassesOwn.never rfl (pi_enumS (by rfl) XT.enu (pa_cons (pv 9) pa_nil)) (pg_tup rfl (pgs_cons (pg_name (i := 11) scMk.nd rfl (Or.inl rfl)) (pgs_cons (pg_name (i := 12) scMk.nd rfl (Or.inl rfl)) pgs_nil))) (pss_one (ps_if (pt_chain op_le op_lt pe_int (pe_op op_add (pv 10) (pv 11)) (pv 2)) (pss_one (ps_asg (pv 12) (pg_sub (pv 5) (pe_op op_add (pv 10) (pv 11)) set_list))) pss_nil)))))))
      (pss_cons (ps_set (i := 13) scMk.nd rfl (.inl rfl) (pe_next N1 bN (hr.mono (by decide)) (by rfl) X.gNext X.kNext (pa_cons (pv 0) (pa_cons pe_int pa_nil))))
      (C8.pss_cut (ps_if (pt_cmpR op_eq (pv 13) pe_int (by rfl)) (pss_one (ps_asg (pe_ix ix_seq pe_str (pe_next N1 bN (hr.mono (by decide)) (by rfl) X.gNext X.kNext (pa_cons (pv 0) (pa_cons pe_int pa_nil))) fun _ _ => rfl) (pg_sub (pv 5) (pe_next N1 bN (hr.mono (by decide)) (by rfl) X.gNext X.kNext (pa_cons (pv 0) (pa_cons (pv 2) pa_nil))) set_list))) pss_nil)
      (C8.pss_cut (ps_if (pt_cmpR op_eq (pv 13) pe_int (by rfl)) (pss_one (ps_setLc (i := 5) (own := [("cell", 14)]) (g := gName 14) (tt := tYes) rfl scMk.nd rfl rfl (sw_true rfl rfl rfl (by decide +kernel)) (pi_list (pv 5)) (blkOk_by (own := [("cell", 14)]) (N := NMk) (sc := defScope sMk) (by decide +kernel)) (fun _ _ _ _ _ => pg_name (i := 14) scMk.nd rfl (Or.inl rfl)) (fun _ _ _ _ _ => pts_nil) (fun _ _ _ _ _ => pe_ix (show IxR _ (rIx K) from ix_seq) pe_str (pe_next N1 bN (hr.mono (by decide)) (by rfl) X.gNext X.kNext (pa_cons (pv 0) (pa_cons pe_int pa_nil))) fun _ _ => rfl))) pss_nil)
      (pss_one (ps_ret (pe_join pe_str (pv 5))))))))))), ?_⟩
    have w1 := g.w1
    have w8 := g.w8
    have n1 := g.n1
    have n6 := g.n6
    have lm : ((ws.map V.str).length : Nat) = ws.length := List.length_map ..
    have zsz : ∀ y ∈ ws, y.length ≤ sizeLine := fun y hy => by rw [(g.all y hy).1, sizeLine_eq]; omega
    refine ⟨_, rfl, .inl ⟨wl, _, 0, .str ws[0], rfl, rfl, .inl (.inl ew), at_0 n1, ws[0], rfl, zsz _ (List.getElem_mem n1), ?_⟩⟩
    rw [g.at n1]
    refine ⟨Nat.le_of_ble_eq_true rfl, fun l0 hl0 => ?_⟩
    have s0 := same_new (o := .lst [.str "a"]) hl0
    have e0 : upd H l0 (.lst [.str "a"]) l0 = some (.lst [.str "a"]) := upd_same
    generalize upd H l0 (.lst [.str "a"]) = H1 at s0 e0 ⊢
    refine ⟨_, rfl, l0, (size : Nat), _, rfl, rfl, e0, by omega, by omega, by rw [sizeLine_eq]; simp; omega, fun cl hcl => ?_⟩
    have ec0 : (List.replicate (size : Int).toNat [V.str "a"]).flatten = (List.replicate size 97).map cV := by
      rw [Int.toNat_natCast]
      clear q z1 z2
      induction size with
      | zero => rfl
      | succ k ih => rw [List.replicate_succ, List.flatten_cons, ih, List.replicate_succ, List.map_cons]; rfl
    rw [ec0]
    have s1 := same_new (o := .lst ((List.replicate size 97).map cV)) hcl
    have ecl : upd H1 cl (.lst ((List.replicate size 97).map cV)) cl = some (.lst ((List.replicate size 97).map cV)) := upd_same
    have hcl0 : H cl = none := s0.free hcl
    generalize upd H1 cl (.lst ((List.replicate size 97).map cV)) = H2 at s1 ecl ⊢
    have cel2 : Cel H2 cl size := ⟨_, ecl, List.length_replicate, fun c hc => by rw [List.eq_of_mem_replicate hc]; omega⟩
    refine ⟨_, _, rfl, _, rfl, _, rfl, 0, (size : Nat), (W : Nat), rfl, by omega, by omega, fun rp hrp => ?_⟩
    have s2 := same_new (o := rg3 rp 0 (size : Nat) (W : Nat)) hrp
    have er : upd H2 rp (rg3 rp 0 (size : Nat) (W : Nat)) rp = some (rg3 rp 0 (size : Nat) (W : Nat)) := upd_same
    generalize upd H2 rp (rg3 rp 0 (size : Nat) (W : Nat)) = H3 at s2 er ⊢
    obtain ⟨sm, nn, sz, nn2⟩ := small_of z1 z2 w1 w8
    refine ⟨rp, 0, (size : Nat), (W : Nat), nn, rfl, er, sm, sz, by omega, fun sl hsl => ?_⟩
    have eus : ((List.range nn).map fun k => V.int (0 + (k : Nat) * (W : Nat))) = ((List.range nn).map fun k => (0 + (k : Nat) * (W : Nat) : Int)).map V.int := by rw [List.map_map]; rfl
    rw [eus]
    have lus : ((List.range nn).map fun k => (0 + (k : Nat) * (W : Nat) : Int)).length ≤ 120 := by rw [List.length_map, List.length_range]; exact nn2
    generalize ((List.range nn).map fun k => (0 + (k : Nat) * (W : Nat) : Int)) = us at lus ⊢
    have s3 := same_new (o := .lst (us.map V.int)) hsl
    have esl : upd H3 sl (.lst (us.map V.int)) sl = some (.lst (us.map V.int)) := upd_same
    have ecl3 := s2 _ _ ecl
    have clsl : cl ≠ sl := ne_of_none ecl3 hsl
    generalize upd H3 sl (.lst (us.map V.int)) = H4 at s3 esl ⊢
    have s4 : L2.Same H H4 := ((s0.trans s1).trans s2).trans s3
    have hsl0 : H sl = none := ((s0.trans s1).trans s2).free hsl
    have tp4 := tpSame tp s4
    have tcl : cl ≠ t := fun z => by obtain ⟨a, b, c, e1, _⟩ := tp; rw [z, e1] at hcl0; cases hcl0
    have tsl : sl ≠ t := fun z => by obtain ⟨a, b, c, e1, _⟩ := tp; rw [z, e1] at hsl0; cases hsl0
    have cel4 : Cel H4 cl size := let ⟨cs, e, r⟩ := cel2; ⟨cs, s3 _ _ (s2 _ _ e), r⟩
    -- what stands while the cells change: the tape, the cells
    let St0 : Hp → Nat → Prop := fun Hx k => Tp Hx t (n + k) ∧ Bt t H Hx ∧ Cel Hx cl size
    have st4 : St0 H4 0 := ⟨tp4, sameBt s4, cel4⟩
    have put : ∀ {Hx : Hp} {k : Nat} {p : Addr} {o : HO}, St0 Hx k → H p = none → p ≠ t → p ≠ cl → St0 (upd Hx p o) k := fun {Hx k p o} s hp pt pc => ⟨s.1.at (upd_ne (Ne.symm pt)), s.2.1.put hp, let ⟨cs, e, r⟩ := s.2.2; ⟨cs, (upd_ne (Ne.symm pc)).trans e, r⟩⟩
    have draw : ∀ {Hx Hy : Hp} {k : Nat}, St0 Hx k → Tp Hy t (n + k + 1) → But t Hx Hy → St0 Hy (k + 1) := fun {Hx Hy k} s tp b => ⟨tp, s.2.1.trans b.bt, s.2.2.bt b.bt tcl⟩
    have nt : ∀ {Hx : Hp} {k : Nat}, St0 Hx k → k ≤ 500 → n + k < 2 ^ 40 := fun _ hk => by omega
    refine ⟨fun σ Hx => ∃ (v7 : Option V) (us' : List Int), σ = [some (.ref t), some (.ref wl), some (.int (size : Nat)), some (.bl isl), some (.int (W : Nat)), some (.ref cl), some (.ref sl), v7, none, none, none, none, none, none, none] ∧ St0 Hx 61 ∧ Hx sl = some (.lst (us'.map V.int)) ∧ us'.length ≤ 180, ?_, ?_⟩
    · have m1 : (0 : Int) < (if (2 : Int) * (size : Nat) < 60 then (2 : Int) * (size : Nat) else 60) := by split <;> omega
      have m2 : (if (2 : Int) * (size : Nat) < 60 then (2 : Int) * (size : Nat) else 60) ≤ 60 := by split <;> omega
      refine ⟨_, rfl, _, rfl, _, _, rfl, rfl, .inl ⟨by decide, by decide⟩, _, _, rfl, t, _, n + 0, rfl, tp4, by omega, m1, by omega, fun d1 H5 d10 d1m tp5 b5 => ?_⟩
      have st5 := draw st4 tp5 b5
      have esl5 := (b5 sl tsl).trans esl
      have hd1 : d1.toNat ≤ 60 := by omega
      refine ⟨_, rfl, by omega, by omega, for_range (lo := 0) (n := d1.toNat) (fun j σ Hx => ∃ (v7 : Option V) (us' : List Int), σ = [some (.ref t), some (.ref wl), some (.int (size : Nat)), some (.bl isl), some (.int (W : Nat)), some (.ref cl), some (.ref sl), v7, none, none, none, none, none, none, none] ∧ St0 Hx (1 + j) ∧ Hx sl = some (.lst (us'.map V.int)) ∧ us'.length ≤ 120 + j) ⟨none, us, rfl, st5, esl5, lus⟩ (fun j σ Hx hj p => ?_) (fun σ Hx p => ?_)⟩
      · obtain ⟨v7, us', rfl, sx, ex, lx⟩ := p
        refine ⟨_, rfl, .inl ⟨rfl, _, .inl (.inl ex)⟩, _, rfl, _, rfl, _, rfl, _, _, rfl, rfl, _, _, rfl, rfl, t, _, n + (1 + j), rfl, sx.1, by omega, by omega, by omega, fun d Hy d0 dm tpy by_ => ?_⟩
        have sy := draw sx tpy by_
        have ey := (by_ sl tsl).trans ex
        refine ⟨_, rfl, _, _, rfl, rfl, _, _, rfl, rfl, sl, _, _, rfl, rfl, ey, by rw [List.length_map, sizeLine_eq]; omega, _, us' ++ [d - (W : Nat) + 1], rfl, put (by rw [← Nat.add_assoc]; exact sy) hsl0 tsl (Ne.symm clsl), ?_, by rw [List.length_append]; show us'.length + 1 ≤ _; omega⟩
        rw [upd_same, List.map_append]
        rfl
      · obtain ⟨v7, us', rfl, sx, ex, lx⟩ := p
        exact ⟨v7, us', rfl, ⟨sx.1.mono (by omega), sx.2.1, sx.2.2⟩, ex, by omega⟩
    rintro σ H6 ⟨v7, us', rfl, s61, eus, lus'⟩
    refine ⟨fun σ Hx => ∃ (v8 v9 v10 v11 v12 : Option V), σ = [some (.ref t), some (.ref wl), some (.int (size : Nat)), some (.bl isl), some (.int (W : Nat)), some (.ref cl), some (.ref sl), v7, v8, v9, v10, v11, v12, none, none] ∧ St0 Hx 300, ?_, ?_⟩
    · refine ⟨_, rfl, sl, rfl, ⟨_, .inl (.inl eus)⟩, for_list (xs := us'.map V.int) (fun j σ Hx => ∃ (v8 v9 v10 v11 v12 : Option V), σ = [some (.ref t), some (.ref wl), some (.int (size : Nat)), some (.bl isl), some (.int (W : Nat)), some (.ref cl), some (.ref sl), v7, v8, v9, v10, v11, v12, none, none] ∧ St0 Hx (61 + j) ∧ Hx sl = some (.lst (us'.map V.int))) ⟨_, _, _, _, _, rfl, s61, eus⟩ (fun j σ Hx _ p => ?_) (fun j x σ Hx hx p => ?_) (fun σ Hx p => ?_)⟩
      · obtain ⟨v8, v9, v10, v11, v12, rfl, sx, ex⟩ := p
        exact .inl (.inl ex)
      · obtain ⟨v8, v9, v10, v11, v12, rfl, sx, ex⟩ := p
        have hj : j < us'.length := by have := (List.getElem?_eq_some_iff.mp hx).1; rw [List.length_map] at this; exact this
        obtain ⟨sp, rfl⟩ : ∃ sp : Int, x = .int sp := by
          rw [List.getElem?_map, List.getElem?_eq_getElem hj] at hx
          exact ⟨_, (Option.some.inj hx).symm⟩
        have ewx := sx.2.1 _ _ wt ew
        refine ⟨_, rfl, _, rfl, _, rfl, wl, _, rfl, .inl (.inl (.inl ewx)), t, _, n + (61 + j), rfl, sx.1, by omega, by omega, by omega, fun d Hy d0 dm tpy by_ => ?_⟩
        have sy := draw sx tpy by_
        have ey := (by_ sl tsl).trans ex
        have ewy := (by_ wl wt).trans ewx
        have dm' : d.toNat < ws.length := by omega
        refine .inl ⟨wl, _, d, .str (ws.getD d.toNat Str.empty), rfl, rfl, .inl (.inl ewy), at_i d0 (by omega), ?_⟩
        obtain ⟨wz, wlow⟩ := g.get dm'
        generalize ws.getD d.toNat Str.empty = z at wz wlow
        refine ⟨fun σ Hx => Hx = Hy ∧ ∃ b : Int, σ = [some (.ref t), some (.ref wl), some (.int (size : Nat)), some (.bl isl), some (.int (W : Nat)), some (.ref cl), some (.ref sl), v7, some (.int sp), some (.str z), some (.int b), v11, v12, none, none], ?_, ?_⟩
        · refine ⟨_, rfl, _, rfl, ?_⟩
          cases isl with
          | true => exact iteT ⟨_, rfl, _, rfl, _, rfl, _, _, rfl, rfl, _, _, rfl, _, _, rfl, rfl, _, rfl⟩
          | false => exact iteF ⟨_, rfl, rfl, _, rfl⟩
        rintro σ Hz ⟨rfl, b, rfl⟩
        refine ⟨_, rfl, z, rfl, low_asc2 wlow, for_it walk_enumS (fun m σ Hx => ∃ (v11 v12 : Option V), σ = [some (.ref t), some (.ref wl), some (.int (size : Nat)), some (.bl isl), some (.int (W : Nat)), some (.ref cl), some (.ref sl), v7, some (.int sp), some (.str z), some (.int b), v11, v12, none, none] ∧ St0 Hx (61 + (j + 1)) ∧ Hx sl = some (.lst (us'.map V.int))) ⟨_, _, rfl, by rw [← Nat.add_assoc]; exact sy, ey⟩ (fun _ _ _ _ _ => trivial) (fun m x σ Hx Hx' hm p y => ?_) (fun σ Hx p => ?_)⟩
        · obtain ⟨v11, v12, rfl, sx, ex⟩ := p
          obtain ⟨Tn, c, hc, rfl, hTn, rfl⟩ := y
          have tTn : Tn ≠ t := fun e => by obtain ⟨a, b, c, e1, _⟩ := sx.1; rw [e, e1] at hTn; cases hTn
          obtain ⟨cs, ecs, lcs, acs⟩ := sx.2.2
          have cTn : Tn ≠ cl := fun e => by rw [e, ecs] at hTn; cases hTn
          have hTn0 : H Tn = none := sx.2.1.free tTn hTn
          have cc : 97 ≤ c ∧ c ≤ 122 := by
            have hm' : c ∈ z.cps.toList := by
              rw [← Array.getElem?_toList] at hc
              exact List.mem_of_getElem? hc
            have := List.all_eq_true.mp wlow _ hm'
            simpa using this
          have s7 := put (o := .tup [.int (m : Nat), .str ⟨#[c]⟩]) sx hTn0 tTn cTn
          have e7 := (upd_ne (o := .tup [.int (m : Nat), .str ⟨#[c]⟩]) (ne_of_none ex hTn)).trans ex
          have ec7 := (upd_ne (o := .tup [.int (m : Nat), .str ⟨#[c]⟩]) (Ne.symm cTn)).trans ecs
          refine ⟨Tn, _, rfl, .inl (.inl upd_same), rfl, _, _, rfl, _, _, rfl, rfl, ?_⟩
          generalize upd Hx Tn (.tup [.int (m : Nat), .str ⟨#[c]⟩]) = H7 at s7 e7 ec7 ⊢
          refine ⟨_, rfl, _, rfl, _, _, rfl, rfl, _, _, rfl, rfl, _, rfl, ?_⟩
          by_cases c1 : 0 ≤ b + (m : Nat)
          · refine iteT' (decide_eq_true c1) ⟨_, rfl, _, _, rfl, rfl, _, rfl, ?_⟩
            by_cases c2 : b + (m : Nat) < (size : Nat)
            · refine iteT' (decide_eq_true c2) ⟨_, rfl, _, rfl, _, rfl, _, rfl, _, _, rfl, rfl, cl, _, b + (m : Nat), (b + (m : Nat)).toNat, rfl, rfl, ec7, ?_, _, _, rfl, ⟨s7.1.at (upd_ne (Ne.symm tcl)), s7.2.1.put hcl0, cs.set (b + (m : Nat)).toNat c, ?_, by rw [List.length_set]; exact lcs, fun y hy => ?_⟩, (upd_ne (Ne.symm clsl)).trans e7⟩
              · rw [List.length_map, lcs]
                unfold ixN
                rw [if_pos c1, if_pos c2]
              · rw [upd_same, List.map_set]; rfl
              · rcases List.mem_or_eq_of_mem_set hy with h | h
                · exact acs y h
                · rw [h]; exact cc
            · exact iteF' (decide_eq_false c2) ⟨_, _, rfl, s7, e7⟩
          · exact iteF' (decide_eq_false c1) ⟨_, rfl, iteF ⟨_, _, rfl, s7, e7⟩⟩
        · obtain ⟨v11, v12, rfl, sx, ex⟩ := p
          exact ⟨_, _, _, _, _, rfl, sx, ex⟩
      · obtain ⟨v8, v9, v10, v11, v12, rfl, sx, ex⟩ := p
        exact ⟨_, _, _, _, _, rfl, sx.1.mono (by rw [List.length_map]; omega), sx.2.1, sx.2.2⟩
    rintro σ H8 ⟨v8, v9, v10, v11, v12, rfl, s8⟩
    refine ⟨_, rfl, t, 6, n + 300, rfl, s8.1, by omega, by decide, by decide, fun way H9 wa0 wa6 tp9 b9 => ?_⟩
    have s9 := draw s8 tp9 b9
    refine ⟨fun σ Hx => σ = [some (.ref t), some (.ref wl), some (.int (size : Nat)), some (.bl isl), some (.int (W : Nat)), some (.ref cl), some (.ref sl), v7, v8, v9, v10, v11, v12, some (.int way), none] ∧ St0 Hx 310, ?_, ?_⟩
    · have d0 : decide (V.int way = V.int 0) = decide (way = 0) := by rw [Bool.eq_iff_iff]; simp
      refine ⟨_, rfl, rfl, _, rfl, ?_⟩
      rw [d0]
      by_cases c1 : way = 0
      · refine iteT' (decide_eq_true c1) ⟨_, rfl, t, 3, n + 301, rfl, s9.1, by omega, by decide, by decide, fun d Hy dd0 dd3 tpy by_ => ?_⟩
        have sy := draw s9 tpy by_
        obtain ⟨c, hc, cc⟩ : ∃ c : Nat, atI ("abz" : Str).cps.toList d = some c ∧ 97 ≤ c ∧ c ≤ 122 := by
          have : d = 0 ∨ d = 1 ∨ d = 2 := by omega
          rcases this with rfl | rfl | rfl
          · exact ⟨97, rfl, by decide⟩
          · exact ⟨98, rfl, by decide⟩
          · exact ⟨122, rfl, by decide⟩
        refine .inr (.inr ⟨"abz", d, c, rfl, rfl, Nat.le_of_ble_eq_true rfl, hc, ?_⟩)
        refine ⟨_, rfl, _, rfl, _, rfl, t, (size : Nat), n + 302, rfl, sy.1, by omega, by omega, by omega, fun e Hz ee0 ee3 tpz bz => ?_⟩
        have sz' := draw sy tpz bz
        obtain ⟨cs, ecs, lcs, acs⟩ := sz'.2.2
        refine ⟨cl, _, e, e.toNat, rfl, rfl, ecs, ?_, rfl, sz'.1.mono (by omega) |>.at (upd_ne (Ne.symm tcl)), sz'.2.1.put hcl0, cs.set e.toNat c, ?_, by rw [List.length_set]; exact lcs, fun y hy => ?_⟩
        · rw [List.length_map, lcs]
          unfold ixN
          rw [if_pos ee0, if_pos ee3]
        · rw [upd_same, List.map_set]; rfl
        · rcases List.mem_or_eq_of_mem_set hy with h | h
          · exact acs y h
          · rw [h]; exact cc
      · exact iteF' (decide_eq_false c1) ⟨rfl, s9.1.mono (by omega), s9.2.1, s9.2.2⟩
    rintro σ H10 ⟨rfl, s10⟩
    refine ⟨fun σ Hx => ∃ cl' v14, σ = [some (.ref t), some (.ref wl), some (.int (size : Nat)), some (.bl isl), some (.int (W : Nat)), some (.ref cl'), some (.ref sl), v7, v8, v9, v10, v11, v12, some (.int way), v14] ∧ Tp Hx t (n + 430) ∧ Bt t H Hx ∧ Cel Hx cl' size, ?_, ?_⟩
    · have d0 : decide (V.int way = V.int 1) = decide (way = 1) := by rw [Bool.eq_iff_iff]; simp
      refine ⟨_, rfl, rfl, _, rfl, ?_⟩
      rw [d0]
      by_cases c1 : way = 1
      · obtain ⟨cs, ecs, lcs, acs⟩ := s10.2.2
        refine iteT' (decide_eq_true c1) ⟨_, rfl, cl, rfl, ⟨_, .inl (.inl ecs)⟩, fun L hL => ?_⟩
        have hL0 : H L = none := s10.2.1.free (fun e => by obtain ⟨a, b, c, e1, _⟩ := s10.1; rw [e, e1] at hL; cases hL) hL
        have tL : L ≠ t := fun e => by obtain ⟨a, b, c, e1, _⟩ := s10.1; rw [e, e1] at hL; cases hL
        have cL : cl ≠ L := ne_of_none ecs hL
        refine walk_by (walk_list (xs := cs.map cV)) (fun j Hx => Tp Hx t (n + (310 + j)) ∧ Bt t H Hx ∧ Hx cl = some (.lst (cs.map cV)) ∧ ∃ ls : List Nat, Hx L = some (.lst (ls.map cV)) ∧ ls.length = j ∧ ∀ c ∈ ls, 97 ≤ c ∧ c ≤ 122) ⟨s10.1.at (upd_ne (Ne.symm tL)), s10.2.1.put hL0, (upd_ne cL).trans ecs, [], upd_same, rfl, fun _ h => by cases h⟩ (fun j Hx hj p => .inl (.inl p.2.2.1)) (fun j x Hx Hy hj p y => ?_) (fun Hx p => ?_)
        · obtain ⟨tpx, btx, ecx, ls, eL, ll, al⟩ := p
          obtain ⟨eH, hx⟩ := y
          obtain rfl : Hx = Hy := eH.symm
          have hj' : j < size := by rw [List.length_map, lcs] at hj; exact hj
          refine ⟨rfl, ?_⟩
          unfold tYes
          refine iteT' (b := true) rfl ⟨_, rfl, t, 3, n + (310 + j), rfl, tpx, by omega, by decide, by decide, fun d Hy dd0 dd3 tpy by_ => ?_⟩
          obtain ⟨c, hc, cc⟩ : ∃ c : Nat, atI ("abc" : Str).cps.toList d = some c ∧ 97 ≤ c ∧ c ≤ 122 := by
            have : d = 0 ∨ d = 1 ∨ d = 2 := by omega
            rcases this with rfl | rfl | rfl
            · exact ⟨97, rfl, by decide⟩
            · exact ⟨98, rfl, by decide⟩
            · exact ⟨99, rfl, by decide⟩
          refine .inr (.inr ⟨"abc", d, c, rfl, rfl, Nat.le_of_ble_eq_true rfl, hc, ?_⟩)
          have eL2 := (by_ L tL).trans eL
          refine ⟨_, eL2, by rw [List.length_map, sizeLine_eq]; omega, tpy.at (upd_ne (Ne.symm tL)), (btx.trans by_.bt).put hL0, (upd_ne cL).trans ((by_ cl tcl).trans ecx), ls ++ [c], ?_, by rw [List.length_append, ll]; rfl, fun y hy => ?_⟩
          · rw [upd_same, List.map_append]; rfl
          · rcases List.mem_append.mp hy with h | h
            · exact al y h
            · rw [List.mem_singleton.mp h]; exact cc
        · obtain ⟨tpx, btx, ecx, ls, eL, ll, al⟩ := p
          rw [List.length_map, lcs] at ll tpx
          exact ⟨L, _, rfl, tpx.mono (by omega), btx, ls, eL, ll, al⟩
      · exact iteF' (decide_eq_false c1) ⟨cl, _, rfl, s10.1.mono (by omega), s10.2.1, s10.2.2⟩
    rintro σ H11 ⟨cl', v14, rfl, tp11, bt11, cs, ecs, lcs, acs⟩
    have emap : cs.map cV = (cs.map fun c => (⟨#[c]⟩ : Str)).map V.str := by rw [List.map_map]; rfl
    have lsum : (((cs.map fun c => (⟨#[c]⟩ : Str)).map (·.length)).sum) = cs.length := by
      clear ecs lcs acs emap
      induction cs with
      | nil => rfl
      | cons c r ih => rw [List.map_cons, List.map_cons, List.sum_cons, ih, List.length_cons]; show 1 + r.length = _; omega
    have jo := join_ones "" rfl (cs.map fun c => (⟨#[c]⟩ : Str)) fun y hy => by
      obtain ⟨c, hc, rfl⟩ := List.mem_map.mp hy
      exact ⟨c, rfl, acs c hc⟩
    refine ⟨⟨_, rfl⟩, _, rfl, "", cl', cs.map fun c => (⟨#[c]⟩ : Str), rfl, rfl, .inl (.inl (.inl (by rw [← emap]; exact ecs))), ?_, q _ H11 (by rw [jo.1, List.length_map, lcs]) jo.2 (tp11.mono (by omega)) bt11⟩
    rw [lsum, List.length_map, lcs]
    show size + size * 0 ≤ 16777216
    omega
end
end Ov

set_option Elab.async false
set_option linter.all false
set_option maxRecDepth 100000
set_option maxHeartbeats 4000000
/-! _law_made, _law_agreeing, _law_least -/
namespace Ov
open PySem PySem.Spec PyProof.Rows L2 GxR
abbrev NMd : List Str := ["words", "is_line"]
abbrev NLa : List Str := ["words", "letter", "found", "word", "letters", "spot"]
abbrev NLe : List Str := ["words", "mark", "is_line", "rows", "at", "letter", "row", "earlier", "word", "spot", "some", "before", "bound"]
theorem scMd : FnScope NMd ["words", "is_line"] (defScope sMd) := ⟨rfl, rfl, rfl, by decide +kernel, rfl, by decide +kernel, by decide +kernel⟩
theorem scLa : FnScope NLa ["words", "letter"] (defScope sLa) := ⟨rfl, rfl, rfl, by decide +kernel, rfl, by decide +kernel, by decide +kernel⟩
theorem scLe : FnScope NLe ["words", "mark", "is_line"] (defScope sLe) := ⟨rfl, rfl, rfl, by decide +kernel, rfl, by decide +kernel, by decide +kernel⟩
structure TopL (K : PySem.W.Frag) (mg : Str → Option Value) (fLa fMk fMd fLe fLi fTo : Addr) : Prop where
  gLa : mg "_law_agreeing" = some (.ref fLa)
  kLa : PySem.W.keepIn K (.ref fLa) = true
  gMk : mg "_law_mark" = some (.ref fMk)
  kMk : PySem.W.keepIn K (.ref fMk) = true
  gMd : mg "_law_made" = some (.ref fMd)
  kMd : PySem.W.keepIn K (.ref fMd) = true
  gLe : mg "_law_least" = some (.ref fLe)
  kLe : PySem.W.keepIn K (.ref fLe) = true
  gLi : mg "_law_listed" = some (.ref fLi)
  kLi : PySem.W.keepIn K (.ref fLi) = true
  gTo : mg "table_of" = some (.ref fTo)
  kTo : PySem.W.keepIn K (.ref fTo) = true
def bandI (isl : Bool) : Nat := if isl then 0 else 1
def spMd (C : Addr) (B : BA) (T : List Addr) : Sp := fun vs H Q _ => ∃ (wl : Addr) (W : Nat) (ws : List Str) (isl : Bool), vs = [.ref wl, .bl isl] ∧ H wl = some (.lst (ws.map V.str)) ∧ Good ws W ∧ stampsV (ws.map V.str) = true ∧ (∀ p ∈ T, TabG H p) ∧
  ∀ a m l dm H', Bnd C B H' a (bandI isl) ws W m l dm → Kep T H H' → Q (.ref a) H'
def spLa : Sp := fun vs H Q _ => ∃ (wl : Addr) (ws : List Str) (W c : Nat), vs = [.ref wl, .str ⟨#[c]⟩] ∧ c ≠ 63 ∧ H wl = some (.lst (ws.map V.str)) ∧ Good ws W ∧ ∀ l ps H', H l = none → L2.Same H H' → H' l = some (.lst ps) → P2 H' ps (agr ws c) → Q (.ref l) H'
/-- the rows, each a dict, at r -/
def TabD (H : Hp) (r : Addr) (rows : List (List En)) : Prop := ∃ ds, H r = some (.lst (ds.map V.ref)) ∧ Paired (RowD H) ds rows
def spLe : Sp := fun vs H Q _ => ∃ (wl : Addr) (ws : List Str) (W : Nat) (z : Str) (isl : Bool), vs = [.ref wl, .str z, .bl isl] ∧ H wl = some (.lst (ws.map V.str)) ∧ Good ws W ∧ lowB z = true ∧ z.length ≤ 120 ∧
  ∀ r H', H r = none → L2.Same H H' → TabD H' r (tabF W isl ws z.cps.toList z.length) → Q (.ref r) H'
theorem shaped_ints (l : List Int) : SeqAt.shaped (.list (l.map PyData.int)) = true := by
  have h1 : PyData.canLayAll0 (l.map PyData.int) = true := by
    induction l with
    | nil => simp [PyData.canLayAll0]
    | cons x r ih => simp [PyData.canLayAll0, PyData.canLay0]; simpa using ih
  have h2 : PyData.depthAll (l.map PyData.int) ≤ 1 := by
    induction l with
    | nil => simp [PyData.depthAll]
    | cons x r ih => simp [PyData.depthAll, PyData.depth]; exact ih (by simpa [PyData.canLayAll0, PyData.canLay0] using h1)
  show (PyData.canLay0 (.list (l.map PyData.int)) && decide (PyData.depth (.list (l.map PyData.int)) ≤ 64)) = true
  rw [decide_eq_true (by simp only [PyData.depth]; omega), Bool.and_true, show PyData.canLay0 (.list (l.map PyData.int)) = PyData.canLayAll0 (l.map PyData.int) by simp [PyData.canLay0]]
  exact h1
theorem dpInts {K : PySem.W.Frag} {H : Hp} : ∀ l : List Int, DpAll K H (l.map V.int) (l.map PyData.int)
  | [] => .nil
  | i :: r => .cons (.int i) (dpInts r)
theorem ne_of_none' {H : Hp} {a b : Addr} {o : HO} (h : H a = none) (h' : H b = some o) : a ≠ b := fun e => by rw [e, h'] at h; cases h
section
variable {P : Program} {w : World} {K : PySem.W.Frag} {mg : Str → Option Value} {base : Heap} {T : List Addr} {C D DN fLow fText fAre fTape fNext fInks fInit cLow PLow cAre PAre fAg fLa fMk fMd fLe fLi fTo gO pO : Addr} {B : BA}
theorem ok_md {f : Addr} {fd fdO fdN : FuncData} (F : L2.Fun K "_law_made" "_law_made" sMd f fd) (FO : L2.Fun K "of" "Stamps.of" sOf gO fdO) (FN : L2.Fun K "named" "Band.named" sNamed B.gN fdN)
    (OO : FnOk P w K mg base (L2.CX P w) 8 gO fdO ["cls", "words"] (spOf K T C D)) (NN : FnOk P w K mg base (L2.CX P w) 6 B.gN fdN ["cls", "name", "stamps"] (spNamed C B DN)) (BB : Bds K mg B) (X : Txt K mg C fLow fText fAre fTape fNext fInks) (co : ClX.CMet K C (.type "type") "of" pO gO) (hint : mg "int" = none) :
    FnOk P w K mg base CX0 9 f fd ["words", "is_line"] (spMd C B T) := by
  have OR : FnR P w K mg base (L2.CX P w) 8 gO (spOf K T C D) := (OO.raw (FO.binds fun _ _ _ _ _ _ us hl => match us, hl with | [_, _], _ => rfl) .nil).imp fun vs H Q E h => by rw [List.append_nil]; exact h
  have NR : FnR P w K mg base (L2.CX P w) 6 B.gN (spNamed C B DN) := (NN.raw (FN.binds fun _ _ _ _ _ _ us hl => match us, hl with | [_, _, _], _ => rfl) .nil).imp fun vs H Q E h => by rw [List.append_nil]; exact h
  have k3 := BB.k 3 (by decide)
  refine F.ok scMd (fun vs H Q E h => ?_) (fun cdv A' outer s H vs Q E hr h => ?_)
  · obtain ⟨wl, W, ws, isl, rfl, _⟩ := h
    rfl
  · obtain ⟨wl, W, ws, isl, rfl, ew, g, sv, hT, q⟩ := h
    refine ⟨_, (pss_one (ps_ret (ClX.pe_cmeth (pe_glob (v := .ref (B.c 3)) (by rfl) k3.g rfl) k3.rd k3.nmd NR (hr.mono (by decide)) passL (pa_cons (pe_ix ix_seq (pe_lst (pa_cons pe_str (pa_cons pe_str pa_nil))) (pe_callTy call_int1 (by rfl) hint (by decide +kernel) (pa_cons (pv 1) pa_nil)) fun _ _ => rfl) (pa_cons (ClX.pe_cmeth (pe_glob (v := .ref C) (by rfl) X.gC rfl) X.rd co OR hr passL (pa_cons (pv 0) pa_nil)) pa_nil))))), ?_⟩
    refine ⟨rfl, Nat.le_of_ble_eq_true rfl, fun l1 hl1 => ?_⟩
    have s1 := same_new (o := .lst [.str "window", .str "line"]) hl1
    have k1 := Kep.new (o := .lst [.str "window", .str "line"]) hT hl1
    have hat : atI [V.str "window", V.str "line"] (if isl = true then 1 else 0) = some (.str (labN (bandI isl))) := by
      cases isl <;> rfl
    have hl2 := s1 _ _ ew
    refine ⟨_, rfl, .inr ⟨isl, rfl, .inl ⟨l1, _, _, .str (labN (bandI isl)), rfl, rfl, .inl (.inl upd_same), hat, ?_⟩⟩⟩
    generalize upd H l1 (.lst [.str "window", .str "line"]) = H1 at s1 k1 hl2 ⊢
    have wd : ∀ x ∈ ws.map V.str, Wd K T H1 x := fun x hx => by
      obtain ⟨z, hz, rfl⟩ := List.mem_map.mp hx
      exact .inl ⟨z, rfl, by rw [(g.all z hz).1]; exact Nat.le_trans g.w8 (by decide)⟩
    have hlab : lab (labN (bandI isl)) = some (bandI isl) := by cases isl <;> decide +kernel
    refine ⟨rfl, _, rfl, .ref wl, rfl, .inl ⟨wl, ws.map V.str, rfl, hl2, k1.1, by rw [List.length_map]; have := g.n6; omega, wd, fun _ H3 m l' dx hm hl' hdx hmT hlT st k3 => ?_, fun hf => by rw [sv] at hf; cases hf⟩⟩
    refine ⟨_, labN (bandI isl), m, l', dx, ws, W, rfl, st, g, fun j hj b Hb BD sb => ?_, fun hn => by rw [hlab] at hn; cases hn⟩
    obtain rfl : bandI isl = j := by rw [hlab] at hj; exact Option.some.inj hj
    obtain ⟨dxb, pcb, eb, _⟩ := BD
    exact q b m l' dx Hb ⟨⟨dxb, pcb, eb⟩, ⟨sb _ _ st.1, sb _ _ st.2⟩, g, by unfold bandI; split <;> decide⟩ ((k1.trans k3).sameU sb)
theorem ok_la {f : Addr} {fd : FuncData} (F : L2.Fun K "_law_agreeing" "_law_agreeing" sLa f fd) (X : Txt K mg C fLow fText fAre fTape fNext fInks) (XT : TopT K mg fAg) : FnOk P w K mg base CX0 1 f fd ["words", "letter"] spLa := by
  refine F.ok scLa (fun vs H Q E h => ?_) (fun cdv A outer s H vs Q E hr h => ?_)
  · obtain ⟨wl, ws, W, c, rfl, _⟩ := h
    rfl
  · obtain ⟨wl, ws, W, c, rfl, hc, ew, g, q⟩ := h
    refine ⟨_, (pss_cons (ps_set (i := 2) scLa.nd rfl (.inl rfl) (pe_lst pa_nil))
      (pss_cons (ps_for PassesOwn.never rfl (pi_enum (by rfl) XT.enu (pa_cons (pv 0) pa_nil)) (pg_tup rfl (pgs_cons (pg_name (i := 3) scLa.nd rfl (Or.inr rfl)) (pgs_cons (pg_name (i := 4) scLa.nd rfl (Or.inr rfl)) pgs_nil))) (pss_one (ps_expr (pe_bm PySem.F.plainAttrs_list PySem.F.slot_list_extend PySem.F.type_list_extend mt_extend (pv 2) (pa_cons (pe_lc (own := [("spot", 5)]) (g := gName 5) (by rfl) scLa.nd (pi_range1 (by rfl) X.rng (pa_cons (pe_callB call_len_str (by rfl) X.len boot_len (pa_cons (pv 4) pa_nil)) pa_nil)) (blkOk_by (own := [("spot", 5)]) (N := NLa) (sc := defScope sLa) (by decide +kernel)) (fun _ _ _ _ _ => pg_name (i := 5) scLa.nd rfl (Or.inl rfl)) (fun _ _ _ _ _ => pts_one (pt_cmpR op_eq (pe_ix (show IxR _ (rIx K) from ix_seq) (pv 4) (pv 5) fun _ _ => rfl) (pv 1) (by rfl))) (fun _ _ _ _ _ => pe_tup (pa_cons (pv 3) (pa_cons (pv 5) pa_nil)))) pa_nil)))))
      (pss_one (ps_ret (pv 2))))), ?_⟩
    have hw : ∀ z ∈ ws, z.length = W := fun z hz => (g.all z hz).1
    have w8 := g.w8
    have n6 := g.n6
    refine ⟨Nat.zero_le _, fun fl hfl => ?_⟩
    have s1 := same_new (o := .lst []) hfl
    have efl : upd H fl (.lst []) fl = some (.lst []) := upd_same
    have wfl : wl ≠ fl := ne_of_none ew hfl
    generalize upd H fl (.lst []) = H1 at s1 efl ⊢
    have ew1 := s1 _ _ ew
    refine ⟨_, rfl, wl, _, rfl, .inl (.inl ew1), for_it (walk_enum (xs := ws.map V.str)) (fun i σ Hx => ∃ v3 v4 ps, σ = [some (.ref wl), some (.str ⟨#[c]⟩), some (.ref fl), v3, v4, none] ∧ (∀ b o, b ≠ fl → H1 b = some o → Hx b = some o) ∧ Hx fl = some (.lst ps) ∧ P2 Hx ps (agrN ws c i)) ⟨_, _, [], rfl, fun _ _ _ e => e, efl, .nil⟩ (fun i σ Hx hi p => ?_) (fun i x σ Hx Hy hi p y => ?_) (fun σ Hx p => ?_)⟩
    · obtain ⟨v3, v4, ps, rfl, st, e, p⟩ := p
      exact .inl (.inl (st _ _ wfl ew1))
    · obtain ⟨v3, v4, ps, rfl, st, e, p⟩ := p
      obtain ⟨Tp, v1, v2, rfl, hT, rfl, e1, e2⟩ := y
      cases e1
      have il : i < ws.length := by rw [List.length_map] at hi; exact hi
      replace e2 : (ws.map V.str)[i]? = some v2 := e2
      rw [List.getElem?_map, List.getElem?_eq_getElem il] at e2
      cases e2
      have ez : ws.getD i Str.empty = ws[i] := by simp [List.getD, il]
      have zl := g.all _ (List.getElem_mem il)
      generalize ws[i] = z at ez zl
      have nl : agrN ws c (i + 1) = agrN ws c i ++ agr1 c i z z.length := by rw [agrN_succ, ez]
      have zsz : z.length ≤ sizeLine := by rw [zl.1, sizeLine_eq]; omega
      have pl : (agrN ws c i).length ≤ 48 := Nat.le_trans (agrN_len hw i (Nat.le_of_lt il)) (Nat.le_trans (Nat.mul_le_mul (by omega) w8) (by decide : 6 * 8 ≤ 48))
      have sT := same_new (o := .tup [.int (i : Nat), .str z]) hT
      have eT := sT _ _ e
      have pT := p2_st (.same sT) p
      have stT : ∀ b o, b ≠ fl → H1 b = some o → upd Hx Tp (.tup [.int (i : Nat), .str z]) b = some o := fun b o nb eb => sT _ _ (st b o nb eb)
      refine ⟨Tp, _, rfl, .inl (.inl upd_same), rfl, _, _, rfl, _, _, rfl, rfl, ?_⟩
      generalize upd Hx Tp (.tup [.int (i : Nat), .str z]) = H2 at eT pT stT ⊢
      refine ⟨_, rfl, .inl ⟨rfl, _, .inl (.inl eT)⟩, _, rfl, z, rfl, zsz, _, rfl, by omega, by omega, fun L hL => ?_⟩
      refine walk_by (walk_range (lo := 0) (n := ((z.length : Nat) : Int).toNat)) (fun j Hy => ∃ qs, L2.Same H2 Hy ∧ Hy L = some (.lst qs) ∧ P2 Hy qs (agr1 c i z j)) ⟨[], same_new hL, upd_same, .nil⟩ (fun _ _ _ _ => trivial) (fun j x Hy Hz hj p y => ?_) (fun Hy p => ?_)
      · obtain ⟨qs, s, eL, pq⟩ := p
        obtain ⟨eH, ex0⟩ := y
        obtain rfl : x = .int (j : Nat) := ex0.trans (by show V.int (0 + (j : Nat) : Int) = _; rw [Int.zero_add])
        obtain rfl : Hy = Hz := eH.symm
        have jl : j < z.length := by simpa using hj
        have jl' : j < z.cps.toList.length := by simpa [Str.length] using jl
        have ec : chr z j = z.cps.toList[j] := by unfold chr; rw [List.getD_eq_getElem?_getD, List.getElem?_eq_getElem jl']; rfl
        have hc' : atI z.cps.toList (j : Int) = some (z.cps.toList[j]) := atI_nat (List.getElem?_eq_getElem jl')
        have hq : qs.length ≤ 8 := by
          rw [len_p pq]
          have := agr1_len (c := c) (w := i) (z := z) (n := j)
          omega
        have dec : ∀ a b : Nat, decide (V.str ⟨#[a]⟩ = V.str ⟨#[b]⟩) = decide (a = b) := fun a b => by rw [Bool.eq_iff_iff]; simp
        have ab : agrB z c j = decide (z.cps.toList[j] = c) := by unfold agrB; rw [ec, decide_eq_false hc, Bool.or_false]
        refine ⟨rfl, _, rfl, _, rfl, .inr (.inr ⟨z, _, _, rfl, rfl, zsz, hc', ?_⟩)⟩
        refine ⟨_, rfl, rfl, _, rfl, ?_⟩
        rw [dec]
        by_cases c1 : z.cps.toList[j] = c
        · refine iteT' (decide_eq_true c1) ⟨_, rfl, _, rfl, Nat.le_of_ble_eq_true rfl, fun Tn hTn => ?_⟩
          have s3 := same_new (o := .tup [.int (i : Nat), .int (j : Nat)]) hTn
          have e3 := s3 _ _ eL
          refine ⟨qs, e3, by rw [sizeLine_eq]; omega, _, samePut (s.trans s3) hL, upd_same, ?_⟩
          rw [agr1_succ, if_pos (by rw [ab, decide_eq_true c1])]
          exact p_snoc (p2_st ((Tst.same s3).trans (.lst e3)) pq) ⟨Tn, rfl, (Tst.lst e3) _ _ upd_same⟩
        · refine iteF' (decide_eq_false c1) ⟨qs, s, eL, ?_⟩
          rw [agr1_succ, if_neg (by rw [ab, decide_eq_false c1]; decide), List.append_nil]
          exact pq
      · obtain ⟨qs, s, eL, pq⟩ := p
        rw [Int.toNat_natCast] at pq
        have e5 := s _ _ eT
        have hq : qs.length ≤ 8 := by
          rw [len_p pq]
          have := agr1_len (c := c) (w := i) (z := z) (n := z.length)
          omega
        refine ⟨fl, L, ps, qs, rfl, rfl, e5, eL, by rw [len_p p, sizeLine_eq]; omega, _, _, ps ++ qs, rfl, fun b o nb eb => (upd_ne nb).trans (s _ _ (stT b o nb eb)), upd_same, ?_⟩
        rw [nl]
        exact pairedAppend (p2_st ((Tst.same s).trans (.lst e5)) pT) (p2_st (.lst e5) pq)
    · obtain ⟨v3, v4, ps, rfl, st, e, p⟩ := p
      rw [List.length_map] at p
      exact ⟨_, rfl, q fl ps Hx hfl (fun b o eb => st b o (ne_of_none eb hfl) (s1 _ _ eb)) e p⟩
theorem ok_le {f : Addr} {fd fdA : FuncData} (F : L2.Fun K "_law_least" "_law_least" sLe f fd) (FA : L2.Fun K "_law_agreeing" "_law_agreeing" sLa fLa fdA) (X : Txt K mg C fLow fText fAre fTape fNext fInks) (XT : TopT K mg fAg) (XL : TopL K mg fLa fMk fMd fLe fLi fTo) (hint : mg "int" = none) : FnOk P w K mg base CX0 2 f fd ["words", "mark", "is_line"] spLe := by
  have LA : FnOk P w K mg base CX0 1 fLa fdA ["words", "letter"] spLa := ok_la FA X XT
  have bLa : Binds K fdA ["words", "letter"] [] := FA.binds fun _ _ _ _ _ _ us hl => match us, hl with | [_, _], _ => rfl
  refine F.ok scLe (fun vs H Q E h => ?_) (fun cdv A outer s H vs Q E hr h => ?_)
  · obtain ⟨wl, ws, W, z, isl, rfl, _⟩ := h
    rfl
  · obtain ⟨wl, ws, W, z, isl, rfl, ew, g, zl, z2, q⟩ := h
    have hu : (A.deeper (envOfC "_law_least" (defScope sLe) s.heap.objs.size f cdv)).units + 64 < cLine := by have := hr.un; omega
    have hu1 : (A.deeper (envOfC "_law_least" (defScope sLe) s.heap.objs.size f cdv)).units + 1 < cLine := by omega
    refine ⟨_, (pss_cons (ps_set (i := 3) scLe.nd rfl (.inl rfl) (pe_lst pa_nil))
      (pss_cons (ps_for PassesOwn.never rfl (pi_enumS (by rfl) XT.enu (pa_cons (pv 1) pa_nil)) (pg_tup rfl (pgs_cons (pg_name (i := 4) scLe.nd rfl (Or.inl rfl)) (pgs_cons (pg_name (i := 5) scLe.nd rfl (Or.inl rfl)) pgs_nil))) (C8.pss_cut (ps_par (i := 6) (j := 7) rfl scLe.nd rfl rfl (by decide) rfl rfl (pa_cons pe_dnewT (pa_cons (pe_ifExp (pt_cmpR op_gt (pv 4) pe_int (by rfl)) (pe_ix ix_seq (pv 3) (pe_un un_neg pe_int) fun _ _ => rfl) pe_dnewT) pa_nil)) (by rfl))
      (pss_cons (ps_for PassesOwn.never rfl (pi_list (pe_call LA (hr.mono (by decide)) (by rfl) XL.gLa XL.kLa bLa .nil L2.pass0 (pa_cons (pv 0) (pa_cons (pv 5) pa_nil)))) (pg_tup rfl (pgs_cons (pg_name (i := 8) scLe.nd rfl (Or.inl rfl)) (pgs_cons (pg_name (i := 9) scLe.nd rfl (Or.inl rfl)) pgs_nil))) (C8.pss_cut (ps_set (i := 10) scLe.nd rfl (.inl rfl) (pe_op op_rep (pe_lst (pa_cons pe_int pa_nil)) (pe_callTy call_int1 (by rfl) hint (by decide +kernel) (pa_cons (pe_and (pe_cmpR op_eq (pv 4) pe_int (by rfl)) (pe_one (pe_or (pe_cmpR op_eq (pv 9) pe_int (by rfl)) (pe_one (pe_not (pv 2)))))) pa_nil))))
      (C8.pss_cut (ps_lock (ps_for PassesOwn.never rfl (pi_itemsT (pv 7)) (pg_tup rfl (pgs_cons (pg_name (i := 11) scLe.nd rfl (Or.inl rfl)) (pgs_cons (pg_name (i := 12) scLe.nd rfl (Or.inl rfl)) pgs_nil))) (C8.pss_cut (ps_if (pt_cmpR (op_eqD hu) (pv 11) (pe_tup (pa_cons (pv 8) (pa_cons (pe_op op_sub (pv 9) pe_int) pa_nil))) (by rfl)) (pss_one (ps_expr (pe_bm PySem.F.plainAttrs_list PySem.F.slot_list_append PySem.F.type_list_append mt_append (pv 10) (pa_cons (pv 12) pa_nil)))) pss_nil)
      (pss_one (ps_if ((pw_or (pt_cmpR op_eq (pe_op op_add (pe_ix ix_seq (pv 11) pe_int fun _ _ => rfl) pe_int) (pe_callB call_len_str (by rfl) X.len boot_len (pa_cons (pe_ix ix_seq (pv 0) pe_int fun _ _ => rfl) pa_nil)) (by rfl)) (pw_or1 (pt_cmpR op_eq (pv 9) pe_int (by rfl)))).pt) (pss_one (ps_expr (pe_bm PySem.F.plainAttrs_list PySem.F.slot_list_append PySem.F.type_list_append mt_append (pv 10) (pa_cons (pe_op op_add (pv 12) pe_int) pa_nil)))) pss_nil)))))
      (pss_one (ps_if (pt_cmpR (op_neD hu) (pv 10) (pe_lst pa_nil) (by rfl)) (pss_one (ps_dput hu1 (pv 6) (pe_tup (pa_cons (pv 8) (pa_cons (pv 9) pa_nil))) (pe_callB (cr_min rfl) (by rfl) X.min boot_min (pa_cons (pv 10) pa_nil)) rfl)) pss_nil)))))
      (pss_one (ps_expr (pe_bm PySem.F.plainAttrs_list PySem.F.slot_list_append PySem.F.type_list_append mt_append (pv 3) (pa_cons (pv 6) pa_nil)))))))
      (pss_one (ps_ret (pv 3))))), ?_⟩
    have hw : ∀ z ∈ ws, z.length = W := fun z hz => (g.all z hz).1
    have w8 := g.w8
    have n6 := g.n6
    have n1 := g.n1
    have zL : z.cps.toList.length = z.length := by simp [Str.length]
    refine ⟨Nat.zero_le _, fun rl hrl => ?_⟩
    have s1 := same_new (o := .lst []) hrl
    have erl : upd H rl (.lst []) rl = some (.lst []) := upd_same
    have wrl : wl ≠ rl := ne_of_none ew hrl
    generalize upd H rl (.lst []) = H1 at s1 erl ⊢
    have ew1 := s1 _ _ ew
    refine ⟨_, rfl, z, rfl, low_asc2 zl, for_it walk_enumS (fun k σ Hx => ∃ v4 v5 v6 v7 v8 v9 v10 v11 v12 ds, σ = [some (.ref wl), some (.str z), some (.bl isl), some (.ref rl), v4, v5, v6, v7, v8, v9, v10, v11, v12] ∧ (∀ b o, b ≠ rl → H1 b = some o → Hx b = some o) ∧ Hx rl = some (.lst (ds.map V.ref)) ∧ Paired (RowD Hx) ds (tabF W isl ws z.cps.toList k)) ⟨_, _, _, _, _, _, _, _, _, [], rfl, fun _ _ _ e => e, erl, .nil⟩ (fun _ _ _ _ _ => trivial) (fun k x σ Hx Hx' hk p y => ?_) (fun σ Hx p => ?_)⟩
    · obtain ⟨v4, v5, v6, v7, v8, v9, v10, v11, v12, ds, rfl, st, er, pr⟩ := p
      obtain ⟨Tn, c, hc, rfl, hTn, rfl⟩ := y
      have kz : k < z.length := hk
      have dl : ds.length = k := by rw [len_p pr, tabF_len]
      have hcl : z.cps.toList[k]? = some c := by rw [Array.getElem?_toList]; exact hc
      have ec : z.cps.toList.getD k 0 = c := by rw [List.getD_eq_getElem?_getD, hcl]; rfl
      have c63 : c ≠ 63 := by
        have := List.all_eq_true.mp zl c (List.mem_of_getElem? hcl)
        simp only [Bool.and_eq_true, decide_eq_true_eq] at this
        omega
      have sT := same_new (o := .tup [.int (k : Nat), .str ⟨#[c]⟩]) hTn
      refine ⟨Tn, _, rfl, .inl (.inl upd_same), rfl, _, _, rfl, _, _, rfl, rfl, ?_⟩
      have er2 := sT _ _ er
      have pr2 : Paired (RowD (upd Hx Tn (.tup [.int (k : Nat), .str ⟨#[c]⟩]))) ds (tabF W isl ws z.cps.toList k) := pairedMono (fun a b e => sT _ _ e) pr
      have st2 : ∀ b o, b ≠ rl → H1 b = some o → upd Hx Tn (.tup [.int (k : Nat), .str ⟨#[c]⟩]) b = some o := fun b o nb e => sT _ _ (st b o nb e)
      generalize upd Hx Tn (.tup [.int (k : Nat), .str ⟨#[c]⟩]) = H2 at er2 pr2 st2 ⊢
      clear sT
      -- the row before
      obtain ⟨es, hes⟩ : ∃ es, es = if k = 0 then ([] : List En) else rowF W isl ws z.cps.toList (k - 1) := ⟨_, rfl⟩
      have rok : RowOk ws W es := by
        rw [hes]
        split
        · exact ⟨List.Pairwise.nil, fun e h => (by cases h), Nat.zero_le _⟩
        · exact row_ok hw n6 w8 _
      refine ⟨fun σ Hy => ∃ rd ed, σ = [some (.ref wl), some (.str z), some (.bl isl), some (.ref rl), some (.int (k : Nat)), some (.str ⟨#[c]⟩), some (.ref rd), some (.ref ed), v8, v9, v10, v11, v12] ∧ L2.Same H2 Hy ∧ H2 rd = none ∧ Hy rd = some (.dT []) ∧ Hy ed = some (.dT (es.map rowK)) ∧ rd ≠ ed, ?_, ?_⟩
      · refine fun rd hrd => ?_
        have s3 := same_new (o := .dT []) hrd
        refine ⟨_, rfl, _, _, rfl, rfl, _, rfl, ?_⟩
        by_cases k0 : k = 0
        · refine iteF' (by rw [k0]; rfl) (fun ed hed => ⟨_, _, rfl, rd, ed, rfl, s3.trans (same_new hed), hrd, (same_new hed) _ _ upd_same, ?_, ne_of_none upd_same hed⟩)
          rw [hes, if_pos k0, upd_same]; rfl
        · have ke : k - 1 < ds.length := by omega
          obtain ⟨row, hrow, ed⟩ := p_at pr2 (List.getElem?_eq_getElem ke)
          have e1 : row = rowF W isl ws z.cps.toList (k - 1) := by
            unfold tabF at hrow
            rw [List.getElem?_map, List.getElem?_range (by omega)] at hrow
            exact (Option.some.inj hrow).symm
          have ed' : H2 (ds[k - 1]) = some (.dT (es.map rowK)) := by rw [hes, if_neg k0, ← e1]; exact ed
          have hat : atI (ds.map V.ref) (-1) = some (.ref (ds[k - 1])) := by
            unfold atI ixN
            rw [if_neg (by decide), if_pos (by rw [List.length_map]; omega)]
            have : ((-1 : Int) + ((ds.map V.ref).length : Nat)).toNat = k - 1 := by rw [List.length_map]; omega
            show (ds.map V.ref)[((-1 : Int) + ((ds.map V.ref).length : Nat)).toNat]? = _
            rw [this, List.getElem?_map, List.getElem?_eq_getElem ke]; rfl
          refine iteT' (by rw [decide_eq_true_eq]; omega) ⟨_, rfl, _, rfl, .inl ⟨rl, _, -1, _, rfl, rfl, .inl (.inl (s3 _ _ er2)), hat, _, _, rfl, rd, _, rfl, s3, hrd, upd_same, s3 _ _ ed', ne_of_none' hrd ed'⟩⟩
      rintro σ H3 ⟨rd, ed, rfl, s23, hrd, erd, eed, rde⟩
      have ew3 := s23 _ _ (st2 _ _ wrl ew1)
      refine ⟨_, rfl, _, rfl, wl, ws, W, c, rfl, c63, ew3, g, fun r ps H4 hr4 s4 e4 p4 => ?_⟩
      have al := agr_len (c := c) hw n6 w8
      have pl := len_p p4
      have er4 := s4 _ _ (s23 _ _ er2)
      have eed4 := s4 _ _ eed
      have ew4 := s4 _ _ ew3
      let nx : Nat × Nat → Option Int := fun p => if k = 0 then (if (decide (p.2 = 0) || !isl) = true then some 1 else none) else nxtE W es p.1 p.2
      let fp : Nat → List En := fun j => ((agr ws c).take j).filterMap fun p => (nx p).map fun b => (p.1, p.2, b)
      have rdr : r ≠ rd := fun e => by rw [e, s4 _ _ erd] at e4; cases e4
      have rdw : wl ≠ rd := fun e => by rw [e, s4 _ _ erd] at ew4; cases ew4
      refine ⟨r, rfl, ⟨_, .inl (.inl e4)⟩, for_list (xs := ps) (fun j σ Hx => ∃ v8 v9 v10 v11 v12, σ = [some (.ref wl), some (.str z), some (.bl isl), some (.ref rl), some (.int (k : Nat)), some (.str ⟨#[c]⟩), some (.ref rd), some (.ref ed), v8, v9, v10, v11, v12] ∧ (∀ b o, b ≠ rd → H4 b = some o → Hx b = some o) ∧ Hx rd = some (.dT ((fp j).map rowK))) ⟨_, _, _, _, _, rfl, fun _ _ _ e => e, s4 _ _ erd⟩ (fun j σ Hx _ p => ?_) (fun j x σ Hx hx p => ?_) (fun σ Hx p => ?_)⟩
      · obtain ⟨v8, v9, v10, v11, v12, rfl, st5, ex⟩ := p
        exact .inl (.inl (st5 _ _ rdr e4))
      · obtain ⟨v8, v9, v10, v11, v12, rfl, st5, ex⟩ := p
        obtain ⟨pr', hpr, q0, rfl, eq0⟩ := p_at p4 hx
        have lj : j < (agr ws c).length := (List.getElem?_eq_some_iff.mp hpr).1
        have epr : (agr ws c)[j] = pr' := (List.getElem?_eq_some_iff.mp hpr).2
        have eqx := st5 _ _ (ne_of eq0 (s4 _ _ erd) fun z => nomatch z) eq0
        have eedx := st5 _ _ (Ne.symm rde) eed4
        have ewx := st5 _ _ rdw ew4
        obtain ⟨w_, o_⟩ := pr'
        refine ⟨q0, _, rfl, .inl (.inl eqx), rfl, _, _, rfl, _, _, rfl, rfl, ?_⟩
        obtain ⟨S0, hS0⟩ : ∃ S0 : List Int, S0 = if k = 0 ∧ (decide (o_ = 0) || !isl) = true then [1] else [] := ⟨_, rfl⟩
        have lS0 : S0.length ≤ 1 := by rw [hS0]; split <;> decide
        refine ⟨fun σ Hy => ∃ sl, σ = [some (.ref wl), some (.str z), some (.bl isl), some (.ref rl), some (.int (k : Nat)), some (.str ⟨#[c]⟩), some (.ref rd), some (.ref ed), some (.int (w_ : Nat)), some (.int (o_ : Nat)), some (.ref sl), v11, v12] ∧ L2.Same Hx Hy ∧ Hx sl = none ∧ Hy sl = some (.lst (S0.map V.int)), ?_, ?_⟩
        · refine ⟨Nat.le_of_ble_eq_true rfl, fun l0 hl0 => ?_⟩
          have sa := same_new (o := .lst [.int 1]) hl0
          have ea : upd Hx l0 (.lst [.int 1]) l0 = some (.lst [.int 1]) := upd_same
          generalize upd Hx l0 (.lst [.int 1]) = Ha at sa ea ⊢
          have dk0 : decide (V.int (k : Nat) = V.int 0) = decide (k = 0) := by rw [Bool.eq_iff_iff]; simp
          have do0 : decide (V.int (o_ : Nat) = V.int 0) = decide (o_ = 0) := by rw [Bool.eq_iff_iff]; simp
          -- the list, from the number of its ones
          have fin : ∀ b : Bool, S0 = (if b = true then [1] else []) → ∀ p, Ha p = none → ∃ sl, [some (.ref wl), some (.str z), some (.bl isl), some (.ref rl), some (.int (k : Nat)), some (.str ⟨#[c]⟩), some (.ref rd), some (.ref ed), some (.int (w_ : Nat)), some (.int (o_ : Nat)), some (.ref p), v11, v12] = [some (.ref wl), some (.str z), some (.bl isl), some (.ref rl), some (.int (k : Nat)), some (.str ⟨#[c]⟩), some (.ref rd), some (.ref ed), some (.int (w_ : Nat)), some (.int (o_ : Nat)), some (.ref sl), v11, v12] ∧ L2.Same Hx (upd Ha p (.lst (List.replicate (if b = true then (1 : Int) else 0).toNat [V.int 1]).flatten)) ∧ Hx sl = none ∧ upd Ha p (.lst (List.replicate (if b = true then (1 : Int) else 0).toNat [V.int 1]).flatten) sl = some (.lst (S0.map V.int)) := fun b hb p hp => by
            refine ⟨p, rfl, sa.trans (same_new hp), sa.free hp, ?_⟩
            rw [upd_same, hb]
            cases b <;> rfl
          refine ⟨_, rfl, rfl, _, rfl, ?_⟩
          rw [dk0]
          by_cases k0 : k = 0
          · refine iteT' (decide_eq_true k0) ⟨_, rfl, rfl, _, rfl, ?_⟩
            rw [do0]
            by_cases o0 : o_ = 0
            · refine iteT' (decide_eq_true o0) (.inr ⟨_, rfl, l0, _, _, rfl, rfl, ea, by decide, by decide, by decide, fun p hp => ?_⟩)
              exact fin true (by rw [hS0, if_pos ⟨k0, by rw [decide_eq_true o0]; rfl⟩]; rfl) p hp
            · refine iteF' (decide_eq_false o0) ⟨_, rfl, isl, rfl, .inr ⟨_, rfl, l0, _, _, rfl, rfl, ea, by cases isl <;> decide, by cases isl <;> decide, by cases isl <;> decide, fun p hp => ?_⟩⟩
              exact fin _ (by rw [hS0]; cases isl <;> simp [k0, o0]) p hp
          · refine iteF' (decide_eq_false k0) (.inr ⟨_, rfl, l0, _, _, rfl, rfl, ea, by decide, by decide, by decide, fun p hp => ?_⟩)
            exact fin false (by rw [hS0, if_neg (fun h => k0 h.1)]; rfl) p hp
        rintro σ H5 ⟨sl, rfl, s5, hsl, esl⟩
        have eed5 := s5 _ _ eedx
        have ew5 := s5 _ _ ewx
        have sled : sl ≠ ed := ne_of_none' hsl eedx
        have slwl : wl ≠ sl := ne_of_none ewx hsl
        have edwl : wl ≠ ed := fun e => by rw [e, eed5] at ew5; cases ew5
        have les := rok.len
        refine ⟨fun σ Hy => ∃ v11 v12, σ = [some (.ref wl), some (.str z), some (.bl isl), some (.ref rl), some (.int (k : Nat)), some (.str ⟨#[c]⟩), some (.ref rd), some (.ref ed), some (.int (w_ : Nat)), some (.int (o_ : Nat)), some (.ref sl), v11, v12] ∧ (∀ b o, b ≠ sl → H5 b = some o → Hy b = some o) ∧ Hy sl = some (.lst ((S0 ++ candL W w_ o_ es).map V.int)), ?_, ?_⟩
        · refine ⟨ed, _, eed5, trivial, fun od => ?_⟩
          have eL : upd H5 ed (.frz od (.dT (es.map rowK))) ed = some (.frz od (.dT (es.map rowK))) := upd_same
          have eLw : upd H5 ed (.frz od (.dT (es.map rowK))) wl = some (.lst (ws.map V.str)) := (upd_ne edwl).trans ew5
          have eLs : upd H5 ed (.frz od (.dT (es.map rowK))) sl = some (.lst (S0.map V.int)) := (upd_ne sled).trans esl
          have oth : ∀ b o, b ≠ ed → H5 b = some o → upd H5 ed (.frz od (.dT (es.map rowK))) b = some o := fun b o nb e => (upd_ne nb).trans e
          generalize upd H5 ed (.frz od (.dT (es.map rowK))) = HL at eL eLw eLs oth ⊢
          refine ⟨_, rfl, ed, od, es.map rowK, rfl, eL, for_it walk_itemsT (fun m σ Hy => ∃ v11 v12, σ = [some (.ref wl), some (.str z), some (.bl isl), some (.ref rl), some (.int (k : Nat)), some (.str ⟨#[c]⟩), some (.ref rd), some (.ref ed), some (.int (w_ : Nat)), some (.int (o_ : Nat)), some (.ref sl), v11, v12] ∧ (∀ b o, b ≠ sl → HL b = some o → Hy b = some o) ∧ Hy sl = some (.lst ((S0 ++ candL W w_ o_ (es.take m)).map V.int))) ⟨v11, v12, rfl, fun _ _ _ e => e, by show HL sl = some (.lst ((S0 ++ candL W w_ o_ []).map V.int)); rw [show candL W w_ o_ [] = [] from rfl, List.append_nil]; exact eLs⟩ (fun m σ Hy hm p => ?_) (fun m x σ Hy Hy' hm p y => ?_) (fun σ Hy p => ?_)⟩
          · obtain ⟨v11, v12, rfl, st6, e6⟩ := p
            exact st6 _ _ (Ne.symm sled) eL
          · obtain ⟨v11, v12, rfl, st6, e6⟩ := p
            obtain ⟨Tn, k', v', qk, hkv, rfl, hTn, eqk, rfl⟩ := y
            have ml : m < es.length := by rw [List.length_map] at hm; exact hm
            rw [List.getElem?_map, List.getElem?_eq_getElem ml] at hkv
            have hkv' : rowK es[m] = (k', v') := Option.some.inj hkv
            have tk : candL W w_ o_ (es.take (m + 1)) = candL W w_ o_ (es.take m) ++ candE W w_ o_ es[m] := by
              rw [List.take_succ_eq_append_getElem ml]
              unfold candL
              rw [List.flatMap_append]
              simp
            have lc : (candL W w_ o_ (es.take m)).length ≤ 96 := by
              have : ∀ l : List En, (candL W w_ o_ l).length ≤ 2 * l.length := fun l => by
                induction l with
                | nil => exact Nat.le_refl _
                | cons a r ih =>
                  unfold candL at ih ⊢
                  rw [List.flatMap_cons, List.length_append, List.length_cons]
                  have : (candE W w_ o_ a).length ≤ 2 := by
                    unfold candE
                    rw [List.length_append]
                    (repeat' split) <;> simp
                  omega
              refine Nat.le_trans (this _) ?_
              rw [List.length_take]
              omega
            generalize es[m] = e at hkv' tk
            obtain ⟨e1, e2, e3⟩ := e
            cases hkv'
            replace eqk : Hy qk = some (.tup [.int (e1 : Nat), .int (e2 : Nat)]) := eqk
            have sT := same_new (o := .tup [.ref qk, .int e3]) hTn
            have eqT := sT _ _ eqk
            have esT := sT _ _ e6
            have stT : ∀ b o, b ≠ sl → HL b = some o → upd Hy Tn (.tup [.ref qk, .int e3]) b = some o := fun b o nb e => sT _ _ (st6 b o nb e)
            refine ⟨Tn, _, rfl, .inl (.inl upd_same), rfl, _, _, rfl, _, _, rfl, rfl, ?_⟩
            generalize upd Hy Tn (.tup [.ref qk, .int e3]) = H7 at eqT esT stT ⊢
            refine ⟨fun σ Hz => σ = [some (.ref wl), some (.str z), some (.bl isl), some (.ref rl), some (.int (k : Nat)), some (.str ⟨#[c]⟩), some (.ref rd), some (.ref ed), some (.int (w_ : Nat)), some (.int (o_ : Nat)), some (.ref sl), some (.ref qk), some (.int e3)] ∧ (∀ b o, b ≠ sl → H7 b = some o → Hz b = some o) ∧ Hz sl = some (.lst ((S0 ++ candL W w_ o_ (es.take m) ++ (if e1 = w_ ∧ e2 + 1 = o_ then [e3] else [])).map V.int)), ?_, ?_⟩
            · refine ⟨_, rfl, _, rfl, _, rfl, _, _, rfl, rfl, Nat.le_of_ble_eq_true rfl, fun T2 hT2 => ?_⟩
              have s8 := same_new (o := .tup [.int (w_ : Nat), .int ((o_ : Nat) - 1)]) hT2
              have es8 := s8 _ _ esT
              have cmp : PyData.eqv (.tuple [.int (e1 : Nat), .int (e2 : Nat)]) (.tuple [.int (w_ : Nat), .int ((o_ : Nat) - 1)]) = decide (e1 = w_ ∧ e2 + 1 = o_) := by
                simp only [PyData.eqv, PyData.eqvAll, Bool.and_true]
                rw [Bool.eq_iff_iff]
                simp only [Bool.and_eq_true, beq_iff_eq, decide_eq_true_eq]
                omega
              refine ⟨.tuple [.int (e1 : Nat), .int (e2 : Nat)], .tuple [.int (w_ : Nat), .int ((o_ : Nat) - 1)], .tup (.inl (.inl (s8 _ _ eqT))) (.cons (.int _) (.cons (.int _) .nil)), .tup (.inl (.inl upd_same)) (.cons (.int _) (.cons (.int _) .nil)), rfl, rfl, _, rfl, ?_⟩
              rw [cmp]
              by_cases c1 : e1 = w_ ∧ e2 + 1 = o_
              · refine iteT' (decide_eq_true c1) ⟨_, rfl, .inl ⟨rfl, _, .inl (.inl es8)⟩, _, rfl, sl, _, _, rfl, rfl, es8, ?_, rfl, fun b o nb e => (upd_ne nb).trans (s8 _ _ e), ?_⟩
                · rw [List.length_map, List.length_append, sizeLine_eq]; omega
                · rw [upd_same, if_pos c1, List.map_append (l₂ := [e3])]; rfl
              · refine iteF' (decide_eq_false c1) ⟨rfl, fun b o _ e => s8 _ _ e, ?_⟩
                rw [if_neg c1, List.append_nil]
                exact es8
            rintro σ H8 ⟨rfl, st8, es8⟩
            have eq8 := st8 _ _ (ne_of eqT esT fun z => nomatch z) eqT
            have ew8 : H8 wl = some (.lst (ws.map V.str)) := st8 _ _ slwl (stT _ _ slwl eLw)
            have wz : ws[0].length ≤ sizeLine := by rw [g.at n1, sizeLine_eq]; omega
            have at1 : atI [V.int (e1 : Nat), V.int (e2 : Nat)] 1 = some (.int (e2 : Nat)) := rfl
            have app : (e2 + 1 = W ∨ o_ = 0) → upd H8 sl (.lst ((S0 ++ candL W w_ o_ (es.take m) ++ (if e1 = w_ ∧ e2 + 1 = o_ then [e3] else [])).map V.int ++ [.int (e3 + 1)])) sl = some (.lst ((S0 ++ candL W w_ o_ (es.take (m + 1))).map V.int)) := fun hh => by
              rw [upd_same, tk]
              unfold candE
              rw [if_pos hh, ← List.append_assoc, ← List.append_assoc, List.map_append (l₂ := [e3 + 1])]
              rfl
            have ln : ((S0 ++ candL W w_ o_ (es.take m) ++ (if e1 = w_ ∧ e2 + 1 = o_ then [e3] else [])).map V.int).length < sizeLine := by
              rw [List.length_map, List.length_append, List.length_append, sizeLine_eq]
              split <;> simp <;> omega
            have dW : decide (V.int ((e2 : Nat) + 1) = V.int (W : Nat)) = decide (e2 + 1 = W) := by
              rw [Bool.eq_iff_iff]
              simp only [decide_eq_true_eq]
              constructor
              · intro z; have := V.int.inj z; omega
              · intro z; rw [← z]; rfl
            have do0 : decide (V.int (o_ : Nat) = V.int 0) = decide (o_ = 0) := by rw [Bool.eq_iff_iff]; simp
            refine ⟨_, rfl, .inr (.inl ⟨qk, _, 1, _, rfl, rfl, .inl (.inl eq8), at1, _, _, rfl, rfl, _, rfl, .inl ⟨wl, _, 0, .str ws[0], rfl, rfl, .inl (.inl ew8), at_0 n1, ws[0], rfl, wz, ?_⟩⟩)⟩
            rw [g.at n1]
            refine ⟨rfl, _, rfl, ?_⟩
            rw [dW]
            by_cases c2 : e2 + 1 = W
            · exact iteT' (decide_eq_true c2) (iteT' (b := true) rfl ⟨_, rfl, .inl ⟨rfl, _, .inl (.inl es8)⟩, _, rfl, _, _, rfl, rfl, sl, _, _, rfl, rfl, es8, ln, _, _, rfl, fun b o nb e => (upd_ne nb).trans (st8 _ _ nb (stT _ _ nb e)), app (.inl c2)⟩)
            · refine iteF' (decide_eq_false c2) ⟨_, rfl, rfl, _, rfl, ?_⟩
              rw [do0]
              by_cases c3 : o_ = 0
              · exact iteT' (decide_eq_true c3) ⟨_, rfl, .inl ⟨rfl, _, .inl (.inl es8)⟩, _, rfl, _, _, rfl, rfl, sl, _, _, rfl, rfl, es8, ln, _, _, rfl, fun b o nb e => (upd_ne nb).trans (st8 _ _ nb (stT _ _ nb e)), app (.inr c3)⟩
              · refine iteF' (decide_eq_false c3) ⟨_, _, rfl, fun b o nb e => st8 _ _ nb (stT _ _ nb e), ?_⟩
                rw [tk]
                have hB : candE W w_ o_ (e1, e2, e3) = (if e1 = w_ ∧ e2 + 1 = o_ then [e3] else []) := by
                  unfold candE
                  exact (congrArg _ (if_neg (fun h => h.elim c2 c3))).trans (List.append_nil _)
                rw [hB, ← List.append_assoc]
                exact es8
          · obtain ⟨v11, v12, rfl, st6, e6⟩ := p
            rw [List.length_map, List.take_length] at e6
            refine ⟨st6 _ _ (Ne.symm sled) eL, _, _, rfl, fun b o nb e => ?_, (upd_ne sled).trans e6⟩
            by_cases be : b = ed
            · rw [be, upd_same]; rw [be, eed5] at e; exact e
            · exact (upd_ne be).trans (st6 _ _ nb (oth _ _ be e))
        rintro σ H6 ⟨v11, v12, rfl, st6, esl6⟩
        have slrd : rd ≠ sl := ne_of_none ex hsl
        have erd6 : H6 rd = some (.dT ((fp j).map rowK)) := st6 _ _ slrd (s5 _ _ ex)
        have st6' : ∀ b o, b ≠ rd → H4 b = some o → H6 b = some o := fun b o nb e => by
          have e5 := st5 b o nb e
          exact st6 b o (ne_of_none e5 hsl) (s5 _ _ e5)
        -- the least of them
        have hmn : mn (S0 ++ candL W w_ o_ es) = nx (w_, o_) := by
          show _ = if k = 0 then (if (decide (o_ = 0) || !isl) = true then some 1 else none) else nxtE W es w_ o_
          by_cases k0 : k = 0
          · rw [if_pos k0, hS0]
            have : es = [] := by rw [hes, if_pos k0]
            rw [this, show candL W w_ o_ [] = [] from rfl, List.append_nil]
            by_cases c1 : (decide (o_ = 0) || !isl) = true
            · rw [if_pos ⟨k0, c1⟩, if_pos c1]; rfl
            · rw [if_neg (fun h => c1 h.2), if_neg c1]; rfl
          · rw [if_neg k0, hS0, if_neg (fun h => k0 h.1), List.nil_append]
            exact cand_nxt rok w_ o_
        have fs : fp (j + 1) = fp j ++ ((nx (w_, o_)).map fun b => (w_, o_, b)).toList := by
          show (((agr ws c).take (j + 1)).filterMap _) = _
          rw [List.take_succ_eq_append_getElem lj, List.filterMap_append, epr]
          cases hn : nx (w_, o_) with
          | none => simp [hn, fp]
          | some b => simp [hn, fp]
        have fl : (fp j).length ≤ 48 := Nat.le_trans (List.length_filterMap_le ..) (by rw [List.length_take]; omega)
        have new : valV ((fp j).map rowK) [Sum.inl (w_ : Int), Sum.inl (o_ : Int)] = none := rowK_new fun e he hh => by
          obtain ⟨p', hp', hpe⟩ := List.mem_filterMap.mp he
          obtain ⟨b, _, rfl⟩ := Option.map_eq_some_iff.mp hpe
          obtain ⟨i', hi', ei⟩ := List.mem_iff_getElem.mp hp'
          rw [List.getElem_take] at ei
          have li : i' < j := by rw [List.length_take] at hi'; omega
          have asc := List.pairwise_iff_getElem.mp (agrN_asc (c := c) (ws := ws) ws.length) i' j (by show i' < (agr ws c).length; omega) lj li
          have e1 : (agrN ws c ws.length)[i']'(by show i' < (agr ws c).length; omega) = p' := ei
          have e2 : (agrN ws c ws.length)[j]'lj = (w_, o_) := epr
          rw [e1, e2] at asc
          exact asc.ne (Prod.ext hh.1 hh.2)
        generalize S0 ++ candL W w_ o_ es = L at esl6 hmn
        refine ⟨_, rfl, Nat.zero_le _, fun l9 hl9 => ?_⟩
        have s9 := same_new (o := .lst []) hl9
        refine ⟨.list (L.map PyData.int), .list [], .lst (.inl (.inl (s9 _ _ esl6))) (dpInts L), .lst (.inl (.inl upd_same)) .nil, shaped_ints L, rfl, _, rfl, ?_⟩
        have erd9 := s9 _ _ erd6
        have esl9 := s9 _ _ esl6
        have st9 : ∀ b o, b ≠ rd → H4 b = some o → upd H6 l9 (.lst []) b = some o := fun b o nb e => s9 _ _ (st6' b o nb e)
        generalize upd H6 l9 (.lst []) = H9 at erd9 esl9 st9 ⊢
        cases hL : L with
        | nil =>
          refine iteF' rfl ⟨_, _, _, _, _, rfl, st9, ?_⟩
          rw [fs, ← hmn, hL]
          simpa [mn] using erd9
        | cons y0 ys =>
          rw [← hL]
          refine iteT' (by rw [hL]; rfl) ⟨_, rfl, sl, L, rfl, .inl (.inl esl9), by rw [hL]; simp, fun m1 hm1 hm2 => ?_⟩
          have em : nx (w_, o_) = some m1 := by rw [← hmn]; exact mn_spec.mpr ⟨hm1, hm2⟩
          refine ⟨_, rfl, _, rfl, _, rfl, Nat.le_of_ble_eq_true rfl, fun Tk hTk => ?_⟩
          have s10 := same_new (o := .tup [.int (w_ : Nat), .int (o_ : Nat)]) hTk
          have erd10 := s10 _ _ erd9
          refine ⟨rd, _, rfl, DPut.t (k := [Sum.inl (w_ : Int), Sum.inl (o_ : Int)]) erd10 upd_same (by rw [List.length_map, sizeLine_eq]; omega), _, _, _, _, _, rfl, fun b o nb e => (upd_ne nb).trans (s10 _ _ (st9 b o nb e)), ?_⟩
          rw [upd_same, putK_new _ new, fs, em, List.map_append]
          rfl
      · obtain ⟨v8, v9, v10, v11, v12, rfl, st5, ex⟩ := p
        have rlrd : rl ≠ rd := fun e => by rw [e, s4 _ _ erd] at er4; cases er4
        have erx := st5 _ _ rlrd er4
        have hfp : fp ps.length = rowF W isl ws z.cps.toList k := by
          show (((agr ws c).take ps.length).filterMap fun p => (nx p).map fun b => (p.1, p.2, b)) = _
          rw [pl, List.take_length]
          by_cases k0 : k = 0
          · have en : (fun p : Nat × Nat => (nx p).map fun b => ((p.1, p.2, b) : En)) = fun p => if (decide (p.2 = 0) || !isl) = true then some (p.1, p.2, (1 : Int)) else none := funext fun p => by
              show Option.map _ (if k = 0 then _ else _) = _
              rw [if_pos k0]
              by_cases c1 : (decide (p.2 = 0) || !isl) = true
              · rw [if_pos c1, if_pos c1]; rfl
              · rw [if_neg c1, if_neg c1]; rfl
            rw [en, ← firstF_fm, k0]
            show _ = firstF isl ws (z.cps.toList.getD 0 0)
            rw [k0] at ec
            rw [ec]
          · obtain ⟨k', rfl⟩ : ∃ k', k = k' + 1 := ⟨k - 1, by omega⟩
            have en : (fun p : Nat × Nat => (nx p).map fun b => ((p.1, p.2, b) : En)) = fun p => (nxtE W es p.1 p.2).map fun b => (p.1, p.2, b) := funext fun p => by
              show Option.map _ (if k' + 1 = 0 then _ else _) = _
              rw [if_neg k0]
            rw [en]
            show _ = nextF W ws (rowF W isl ws z.cps.toList k') (z.cps.toList.getD (k' + 1) 0)
            rw [ec, hes, if_neg k0]
            rfl
        have exr : Hx rd = some (.dT ((rowF W isl ws z.cps.toList k).map rowK)) := by rw [← hfp]; exact ex
        have dlt : (ds.map V.ref).length < sizeLine := by rw [List.length_map, dl, sizeLine_eq]; omega
        refine ⟨_, rfl, .inl ⟨rfl, _, .inl (.inl erx)⟩, _, rfl, rl, _, _, rfl, rfl, erx, dlt, _, _, _, _, _, _, _, _, _, ds ++ [rd], rfl, fun b o nb e => (upd_ne nb).trans (st5 _ _ (fun e2 => ?_) (s4 _ _ (s23 _ _ (st2 b o nb e)))), ?_, ?_⟩
        · have h9 := s23 _ _ (st2 b o nb e)
          have h8 := st2 b o nb e
          rw [e2, hrd] at h8
          cases h8
        · rw [upd_same, List.map_append]; rfl
        · rw [tabF_succ]
          refine p_snoc (paired_in pr2 fun d hd es' row => ?_) ((upd_ne (Ne.symm rlrd)).trans exr)
          have drl : d ≠ rl := fun e => by
            have row' : H2 d = some (.dT (es'.map rowK)) := row
            rw [e, er2] at row'
            cases row'
          have drd : d ≠ rd := fun e => by
            have row' : H2 d = some (.dT (es'.map rowK)) := row
            rw [e, hrd] at row'
            cases row'
          exact (upd_ne drl).trans (st5 _ _ drd (s4 _ _ (s23 _ _ row)))
    · obtain ⟨v4, v5, v6, v7, v8, v9, v10, v11, v12, ds, rfl, st, er, pr⟩ := p
      exact ⟨_, rfl, q rl Hx hrl (fun b o e => st b o (ne_of_none e hrl) (s1 _ _ e)) ⟨ds, er, pr⟩⟩
end
end Ov

set_option Elab.async false
set_option linter.all false
set_option maxRecDepth 100000
set_option maxHeartbeats 4000000
namespace Ov
open PySem PySem.Spec PyProof.Rows L2 GxR
/-- repr of a list of data -/
def rReprL (K : PySem.W.Frag) : List V → Hp → VK → Prop := fun xs H Q => ∃ (a : Addr) (d : PyData), xs = [V.ref a] ∧ Dp K H (.ref a) d ∧ d.showable = true ∧ d.hasDict = false ∧ d.depth ≤ 60 ∧ d.shown.length ≤ sizeLine ∧ Q (.str d.shown) H
theorem call_reprL {X : Cx} (hg : X.A.guards = some []) (hu : X.A.units + 64 < cLine) : CallR X (.builtin "repr") (rReprL X.K) := by
  intro pins s σ H xs us Q I r h
  obtain ⟨a, d, rfl, hd, hs, hdict, dep, hsz, q⟩ := h
  obtain ⟨u, rfl, ru⟩ := vals1 r
  obtain rfl : u = Value.ref a := ru
  obtain ⟨as, rd⟩ := Dp.reads I d _ _ hd rfl
  refine repr_of_reads' rd hs (fun z => by rw [hdict] at z; cases z) hg (by omega) (fun b o e => e) (fun h' u tk hk => ?_) hsz
  exact ⟨.str d.shown, H, I.kept (t' := tk) hk, ⟨u, rfl⟩, q⟩
end Ov

set_option Elab.async false
set_option linter.all false
set_option maxRecDepth 100000
set_option maxHeartbeats 4000000
/-! _law_listed, _law_right -/
namespace Ov
open PySem PySem.Spec PyProof.Rows L2 GxR
abbrev NLi : List Str := ["rows", "row", "state"]
theorem scLi : FnScope NLi ["rows"] (defScope sLi) := ⟨rfl, rfl, rfl, by decide +kernel, rfl, by decide +kernel, by decide +kernel⟩
def spLi : Sp := fun vs H Q _ => ∃ (r : Addr) (rows : List (List En)) (ws : List Str) (W : Nat), vs = [.ref r] ∧ TabD H r rows ∧ rows.length ≤ 120 ∧ (∀ es ∈ rows, RowOk ws W es) ∧ ∀ l H', H l = none → L2.Same H H' → Tab3 H' l rows → Q (.ref l) H'
theorem tabF_ok {ws : List Str} {W n : Nat} {cl : Bool} {cs : List Nat} (hw : ∀ z ∈ ws, z.length = W) (h6 : ws.length ≤ 6) (h8 : W ≤ 8) : ∀ es ∈ tabF W cl ws cs n, RowOk ws W es := fun es he => by
  unfold tabF at he
  obtain ⟨k, _, rfl⟩ := List.mem_map.mp he
  exact row_ok hw h6 h8 k
section
variable {P : Program} {w : World} {K : PySem.W.Frag} {mg : Str → Option Value} {base : Heap} {T : List Addr} {C D DN fLow fText fAre fTape fNext fInks fInit cLow PLow cAre PAre fAg fLa fMk fMd fLe fLi fTo gO pO DTx : Addr} {B : BA}
theorem ok_li {f : Addr} {fd : FuncData} (F : L2.Fun K "_law_listed" "_law_listed" sLi f fd) (X : Txt K mg C fLow fText fAre fTape fNext fInks) (hsort : mg "sorted" = none) : FnOk P w K mg base CX0 1 f fd ["rows"] spLi := by
  refine F.ok scLi (fun vs H Q E h => ?_) (fun cdv A outer s H vs Q E hr h => ?_)
  · obtain ⟨r, rows, ws, W, rfl, _⟩ := h
    rfl
  · obtain ⟨r, rows, ws, W, rfl, td, l120, rok, q⟩ := h
    have hu1 : (A.deeper (envOfC "_law_listed" (defScope sLi) s.heap.objs.size f cdv)).units + 1 < cLine := by have := hr.un; omega
    refine ⟨_, (pss_one (ps_ret (pe_lc (own := [("row", 1)]) (g := gName 1) (tt := tYes) (by rfl) scLi.nd (pi_list (pv 0)) (blkOk_by (own := [("row", 1)]) (N := NLi) (sc := defScope sLi) (by decide +kernel)) (fun _ _ _ _ _ => pg_name (i := 1) scLi.nd rfl (Or.inr rfl)) (fun _ _ _ _ _ => pts_nil) (fun _ _ _ _ _ => pe_lc (own := [("state", 2)]) (g := gName 2) (tt := tYes) (by rfl) scLi.nd (show PI _ _ _ (iList K _) from pi_list (pe_callB (cr_sortT rfl) (by rfl) hsort boot_sorted (pa_cons (pv 1) pa_nil))) (blkOk_by (own := [("state", 2)]) (N := NLi) rfl) (fun _ _ _ _ _ => pg_name (i := 2) scLi.nd rfl (Or.inl rfl)) (fun _ _ _ _ _ => pts_nil) (fun _ _ _ _ _ => pe_tup (pa_cons (pe_ix (show IxR _ (rIx K) from ix_seq) (pv 2) pe_int fun _ _ => rfl) (pa_cons (pe_ix (show IxR _ (rIx K) from ix_seq) (pv 2) pe_int fun _ _ => rfl) (pa_cons (pe_dget hu1 (pv 1) (pv 2) (fun _ _ => rfl)) pa_nil)))))))), ?_⟩
    obtain ⟨ds, er, pr⟩ := td
    refine ⟨_, rfl, r, rfl, ⟨_, .inl (.inl er)⟩, fun D hD => ?_⟩
    have ln := len_p pr
    refine walk_by (walk_list (xs := ds.map V.ref)) (fun i Hx => L2.Same H Hx ∧ ∃ as, Hx D = some (.lst (as.map V.ref)) ∧ Paired (Row3 Hx) as (rows.take i) ∧ D ∉ as) ⟨same_new hD, [], upd_same, .nil, by simp⟩ (fun i Hx hi p => .inl (.inl (p.1 _ _ er))) (fun i x Hx Hy hi p y => ?_) (fun Hx p => ?_)
    · obtain ⟨sx, as, eD, pa, nD⟩ := p
      obtain ⟨eH, hx⟩ := y
      obtain rfl : Hx = Hy := eH.symm
      have il : i < ds.length := by rw [List.length_map] at hi; exact hi
      have il2 : i < rows.length := by omega
      rw [List.getElem?_map, List.getElem?_eq_getElem il] at hx
      obtain rfl := Option.some.inj hx
      obtain ⟨es, hes, ed⟩ := p_at pr (List.getElem?_eq_getElem il)
      have ees : rows[i] = es := (List.getElem?_eq_some_iff.mp hes).2
      have hok := rok es (ees ▸ List.getElem_mem il2)
      generalize ds[i] = d at ed ⊢
      have edx : Hx d = some (.dT (es.map rowK)) := sx _ _ ed
      refine ⟨rfl, ?_⟩
      unfold tYes
      refine iteT' (b := true) rfl ?_
      have keys : (es.map rowK).map Prod.fst = (es.map fun e => ((e.1 : Int), (e.2.1 : Int))).map pkey := by rw [List.map_map, List.map_map]; rfl
      have asc : (es.map fun e => ((e.1 : Int), (e.2.1 : Int))).Pairwise (fun p q => SrtO.lexB q p = false) := by
        rw [List.pairwise_map]
        refine hok.asc.imp fun h => ?_
        rw [SrtO.lexB_no]
        rcases h with h | ⟨h1, h2⟩
        · show ¬ (_ < _ ∨ (_ = _ ∧ _ < _))
          simp only at h ⊢
          omega
        · show ¬ (_ < _ ∨ (_ = _ ∧ _ < _))
          simp only at h1 h2 ⊢
          omega
      refine ⟨_, rfl, d, es.map rowK, _, rfl, .inl edx, keys, asc, fun p bs hp kb => ?_⟩
      have sp := same_new (o := .lst (bs.map V.ref)) hp
      have ep : upd Hx p (.lst (bs.map V.ref)) p = some (.lst (bs.map V.ref)) := upd_same
      generalize upd Hx p (.lst (bs.map V.ref)) = H5 at sp ep ⊢
      have ed5 := sp _ _ edx
      refine ⟨p, rfl, ⟨_, .inl (.inl ep)⟩, fun D2 hD2 => ?_⟩
      have lb : bs.length = es.length := by have := len_p kb; rw [List.length_map] at this; exact this.symm
      refine walk_by (walk_list (xs := bs.map V.ref)) (fun j Hy => L2.Same H5 Hy ∧ ∃ vs, Hy D2 = some (.lst vs) ∧ P3 Hy vs (es.take j)) ⟨same_new hD2, [], upd_same, .nil⟩ (fun j Hy hj p => .inl (.inl (p.1 _ _ ep))) (fun j x Hy Hz hj p y => ?_) (fun Hy p => ?_)
      · obtain ⟨sy, vs, e2, pv⟩ := p
        obtain ⟨eH, hx⟩ := y
        obtain rfl : Hy = Hz := eH.symm
        have jl : j < bs.length := by rw [List.length_map] at hj; exact hj
        have jl2 : j < es.length := by omega
        rw [List.getElem?_map, List.getElem?_eq_getElem jl] at hx
        obtain rfl := Option.some.inj hx
        obtain ⟨b, hb, eb⟩ := p_at kb (show (es.map rowK)[j]? = some (rowK es[j]) by rw [List.getElem?_map, List.getElem?_eq_getElem jl2]; rfl)
        obtain rfl : bs[j] = b := (List.getElem?_eq_some_iff.mp hb).2
        have ein := rowK_find hok (List.getElem_mem jl2)
        have tk := List.take_succ_eq_append_getElem jl2
        have eb5 : Hy bs[j] = some (.tup [.int ((es[j]).1 : Nat), .int ((es[j]).2.1 : Nat)]) := sy _ _ (sp _ _ eb)
        generalize es[j] = e at ein tk eb5
        obtain ⟨e1, e2', e3⟩ := e
        have edy := sy _ _ ed5
        have lv : vs.length ≤ 48 := by
          rw [len_p pv, List.length_take]
          have := hok.len
          omega
        refine ⟨rfl, ?_⟩
        refine iteT' (b := true) rfl ⟨_, rfl, .inr (.inl ⟨_, _, 0, .int (e1 : Nat), rfl, rfl, .inl (.inl eb5), rfl, _, rfl, .inr (.inl ⟨_, _, 1, .int (e2' : Nat), rfl, rfl, .inl (.inl eb5), rfl, ?_⟩)⟩)⟩
        refine ⟨_, rfl, _, rfl, d, .int e3, rfl, ?_, Nat.le_of_ble_eq_true rfl, fun Tn hTn => ?_⟩
        · have := DGet.t (k := (rowK (e1, e2', e3)).1) edy eb5
          rw [ein] at this
          exact this
        · have s9 := same_new (o := .tup [.int (e1 : Nat), .int (e2' : Nat), .int e3]) hTn
          have e9 := s9 _ _ e2
          refine ⟨vs, e9, by rw [sizeLine_eq]; omega, samePut (sy.trans s9) hD2, _, upd_same, ?_⟩
          rw [tk]
          exact p_snoc (p3_st ((Tst.same s9).trans (.lst e9)) pv) ⟨Tn, rfl, (Tst.lst e9) _ _ upd_same⟩
      · obtain ⟨sy, vs, e2, pv⟩ := p
        rw [List.length_map, lb, List.take_length] at pv
        have sxy : L2.Same Hx Hy := sp.trans sy
        have eDy := sxy _ _ eD
        have nD2 : D ≠ D2 := ne_of_none (sp _ _ eD) hD2
        have lw : as.length ≤ 120 := by rw [len_p pa, List.length_take]; omega
        have tk := List.take_succ_eq_append_getElem il2
        have row : Row3 Hy D2 es := ⟨vs, e2, pv⟩
        have pa2 : Paired (Row3 Hy) (as ++ [D2]) (rows.take (i + 1)) := by
          rw [tk, ees]
          exact p_snoc (pairedMono (fun _ _ => Row3.same sxy) pa) row
        have nm : D ∉ as ++ [D2] := fun h => by
          rcases List.mem_append.mp h with h | h
          · exact nD h
          · exact nD2 (List.mem_singleton.mp h)
        have oth : ∀ b o, b ≠ D → Hy b = some o → upd Hy D (.lst (as.map V.ref ++ [.ref D2])) b = some o := fun b o nb e => (upd_ne nb).trans e
        refine ⟨_, eDy, by rw [List.length_map, sizeLine_eq]; omega, samePut (sx.trans sxy) hD, as ++ [D2], by rw [upd_same, List.map_append]; rfl, paired_in pa2 fun b hb es' row => row.but eDy oth fun z => nm (z ▸ hb), nm⟩
    · obtain ⟨sx, as, eD, pa, nD⟩ := p
      rw [List.length_map, ln, List.take_length] at pa
      exact q D Hx hD sx ⟨as, eD, pa⟩
end
end Ov

set_option Elab.async false
set_option linter.all false
set_option maxRecDepth 100000
set_option maxHeartbeats 400000
/-! tables: all bounds raised by the same -/
namespace Ov
open PySem PySem.Spec PyProof.Rows L2 GxR
def sh (t : Int) (es : List En) : List En := es.map fun e => (e.1, e.2.1, e.2.2 + t)
theorem mn_sh {t : Int} : ∀ {l : List Int}, mn (l.map (· + t)) = (mn l).map (· + t)
  | [] => rfl
  | a :: r => by
    refine mn_spec.mpr ?_
    obtain ⟨h1, h2⟩ := mn_spec.mp (show mn (a :: r) = some (r.foldl min a) from rfl)
    refine ⟨List.mem_map.mpr ⟨_, h1, rfl⟩, fun y hy => ?_⟩
    obtain ⟨x, hx, rfl⟩ := List.mem_map.mp hy
    have := h2 x hx
    show r.foldl min a + t ≤ x + t
    omega
theorem lkE_sh {t : Int} {es : List En} {w o : Nat} : lkE (sh t es) w o = (lkE es w o).map (· + t) := by
  unfold lkE sh
  rw [List.find?_map, Option.map_map, Option.map_map]
  rfl
theorem seamE_sh {t : Int} {W : Nat} {es : List En} {o : Nat} : seamE W (sh t es) o = (seamE W es o).map (· + t) := by
  have e1 : (sh t es).map (·.2.2 + 1) = (es.map (·.2.2 + 1)).map (· + t) := by
    unfold sh
    rw [List.map_map, List.map_map]
    exact List.map_congr_left fun e _ => by show e.2.2 + t + 1 = e.2.2 + 1 + t; omega
  have e2 : ((sh t es).filter fun e => decide (e.2.1 + 1 = W)).map (·.2.2 + 1) = ((es.filter fun e => decide (e.2.1 + 1 = W)).map (·.2.2 + 1)).map (· + t) := by
    unfold sh
    rw [List.filter_map, List.map_map, List.map_map]
    exact List.map_congr_left fun e _ => by show e.2.2 + t + 1 = e.2.2 + 1 + t; omega
  unfold seamE
  rw [e1, e2, mn_sh, mn_sh]
  split <;> rfl
theorem nxtE_sh {t : Int} {W : Nat} {es : List En} {w o : Nat} : nxtE W (sh t es) w o = (nxtE W es w o).map (· + t) := by
  unfold nxtE
  rw [lkE_sh, seamE_sh]
  cases lkE es w o with
  | none => cases seamE W es o <;> rfl
  | some b =>
    cases seamE W es o with
    | none => rfl
    | some s =>
      show some (if s + t < b + t then s + t else b + t) = some ((if s < b then s else b) + t)
      by_cases h : s < b
      · rw [if_pos h, if_pos (by omega)]
      · rw [if_neg h, if_neg (by omega)]
theorem nextF_sh {t : Int} {W : Nat} {ws : List Str} {es : List En} {c : Nat} : nextF W ws (sh t es) c = sh t (nextF W ws es c) := by
  unfold nextF
  show _ = ((agr ws c).filterMap _).map _
  rw [List.map_filterMap]
  congr 1
  funext p
  rw [nxtE_sh, Option.map_map, Option.map_map]
  rfl
theorem sh_len {t : Int} {es : List En} : (sh t es).length = es.length := by unfold sh; rw [List.length_map]
theorem sh_sh {t u : Int} {es : List En} : sh u (sh t es) = sh (t + u) es := by
  unfold sh
  rw [List.map_map]
  exact List.map_congr_left fun e _ => by show (e.1, e.2.1, e.2.2 + t + u) = (e.1, e.2.1, e.2.2 + (t + u)); rw [Int.add_assoc]
end Ov

set_option Elab.async false
set_option linter.all false
set_option maxRecDepth 100000
set_option maxHeartbeats 1000000
/-! what tables show -/
namespace Ov
open PySem PySem.Spec PyProof.Rows L2 GxR
theorem tab_at {W n k : Nat} {cl : Bool} {ws : List Str} {cs : List Nat} (h : k < n) : (tabF W cl ws cs n)[k]? = some (rowF W cl ws cs k) := by
  unfold tabF
  rw [List.getElem?_map, List.getElem?_range h]
  rfl
theorem row_pl {W : Nat} {cl : Bool} {ws : List Str} {cs : List Nat} : ∀ {k : Nat} {e : En}, e ∈ rowF W cl ws cs k → (e.1, e.2.1) ∈ agr ws (cs.getD k 0)
  | 0, e, h => by
    have h' : e ∈ firstF cl ws (cs.getD 0 0) := h
    unfold firstF at h'
    obtain ⟨p, hp, rfl⟩ := List.mem_map.mp h'
    exact (List.mem_filter.mp hp).1
  | k + 1, e, h => by
    have h' : e ∈ nextF W ws (rowF W cl ws cs k) (cs.getD (k + 1) 0) := h
    unfold nextF at h'
    obtain ⟨p, hp, hpe⟩ := List.mem_filterMap.mp h'
    obtain ⟨b, _, rfl⟩ := Option.map_eq_some_iff.mp hpe
    exact hp
theorem aeB_yes {ws : List Str} {W c : Nat} {es : List En} (r : RowOk ws W es) (h : ∀ e ∈ es, (e.1, e.2.1) ∈ agr ws c) (c63 : c ≠ 63) : aeB ws W c es = true := by
  unfold aeB
  rw [Bool.and_eq_true, List.all_eq_true]
  refine ⟨fun e he => ?_, ascB_pw.mpr r.asc⟩
  obtain ⟨h1, h2, h3⟩ := mem_agrN.mp (h e he)
  unfold agrB at h3
  rw [Bool.or_eq_true, decide_eq_true_eq, decide_eq_true_eq] at h3
  unfold ieB
  rw [decide_eq_true (r.mem e he).1, decide_eq_true (r.mem e he).2, Bool.true_and, Bool.true_and, decide_eq_true_eq]
  exact h3.resolve_right c63
theorem haB_of {es ns : List En} (h : ∀ n ∈ ns, ∃ e ∈ es, e.1 = n.1 ∧ e.2.1 = n.2.1 ∧ e.2.2 ≤ n.2.2) : haB es ns = true := by
  unfold haB
  rw [List.all_eq_true]
  intro n hn
  obtain ⟨e, he, h1, h2, h3⟩ := h n hn
  rw [List.any_eq_true]
  exact ⟨e, he, by simp [h1, h2, h3]⟩
theorem haB_no {es ns : List En} {n : En} (hn : n ∈ ns) (h : ∀ e ∈ es, e.1 = n.1 → e.2.1 = n.2.1 → n.2.2 < e.2.2) : haB es ns = false := by
  unfold haB
  rw [List.all_eq_false]
  refine ⟨n, hn, ?_⟩
  rw [Bool.not_eq_true, List.any_eq_false]
  intro e he hh
  simp only [Bool.and_eq_true, decide_eq_true_eq] at hh
  have := h e he hh.1.1 hh.1.2
  omega
theorem sh_ok {t : Int} {ws : List Str} {W : Nat} {es : List En} (r : RowOk ws W es) : RowOk ws W (sh t es) := by
  refine ⟨?_, fun e he => ?_, by rw [sh_len]; exact r.len⟩
  · unfold sh
    rw [List.pairwise_map]
    exact r.asc
  · obtain ⟨e', he', rfl⟩ := List.mem_map.mp he
    exact r.mem e' he'
theorem low63 {z : Str} (h : lowB z = true) (k : Nat) : z.cps.toList.getD k 0 ≠ 63 := fun e => by
  rw [List.getD_eq_getElem?_getD] at e
  cases hc : z.cps.toList[k]? with
  | none => rw [hc] at e; cases e
  | some c =>
    rw [hc] at e
    obtain rfl : c = 63 := e
    unfold lowB at h
    have := List.all_eq_true.mp h _ (List.mem_of_getElem? hc)
    revert this
    decide
def shT (t : Int) (W : Nat) (cl : Bool) (ws : List Str) (cs : List Nat) (n : Nat) : List (List En) := (tabF W cl ws cs n).map (sh t)
theorem shT_at {t : Int} {W n k : Nat} {cl : Bool} {ws : List Str} {cs : List Nat} (h : k < n) : (shT t W cl ws cs n).getD k [] = sh t (rowF W cl ws cs k) := by
  unfold shT
  rw [List.getD_eq_getElem?_getD, List.getElem?_map, tab_at h]
  rfl
theorem shT_len {t : Int} {W n : Nat} {cl : Bool} {ws : List Str} {cs : List Nat} : (shT t W cl ws cs n).length = n := by unfold shT; rw [List.length_map, tabF_len]
theorem shT_0 {W n : Nat} {cl : Bool} {ws : List Str} {cs : List Nat} : shT 0 W cl ws cs n = tabF W cl ws cs n := by
  unfold shT
  conv => rhs; rw [← List.map_id (tabF W cl ws cs n)]
  refine List.map_congr_left fun es _ => ?_
  unfold sh
  conv => rhs; rw [id, ← List.map_id es]
  exact List.map_congr_left fun e _ => by show (e.1, e.2.1, e.2.2 + 0) = e; rw [Int.add_zero]
/-- a table whose bounds are all lowered by as much shows what its ends tell -/
theorem shB_sh {t g : Int} {W : Nat} {cl : Bool} {ws : List Str} {z : Str} (gd : Good ws W) (zl : lowB z = true) (z1 : 1 ≤ z.length) (ht : t ≤ 0) :
    shB W cl ws z g (shT t W cl ws z.cps.toList z.length) = (lbF W cl (rowF W cl ws z.cps.toList (z.length - 1))).all fun b => decide (g ≤ b + t) := by
  have hw : ∀ y ∈ ws, y.length = W := fun y hy => (gd.all y hy).1
  have a1 : itB ws W z (shT t W cl ws z.cps.toList z.length) = true := by
    unfold itB
    rw [shT_len, decide_eq_true rfl, Bool.true_and, List.all_eq_true]
    intro k hk
    rw [shT_at (List.mem_range.mp hk)]
    refine aeB_yes (sh_ok (row_ok hw gd.n6 gd.w8 k)) (fun e he => ?_) (low63 zl k)
    obtain ⟨e', he', rfl⟩ := List.mem_map.mp he
    show (e'.1, e'.2.1) ∈ _
    exact row_pl he'
  have a2 : ((List.range z.length).all fun k => haB ((shT t W cl ws z.cps.toList z.length).getD k []) (needF W cl ws z.cps.toList (shT t W cl ws z.cps.toList z.length) k)) = true := by
    rw [List.all_eq_true]
    intro k hk
    have hk' := List.mem_range.mp hk
    rw [shT_at hk']
    cases k with
    | zero =>
      refine haB_of fun n hn => ⟨(n.1, n.2.1, n.2.2 + t), List.mem_map.mpr ⟨n, hn, rfl⟩, rfl, rfl, ?_⟩
      show n.2.2 + t ≤ n.2.2
      omega
    | succ k =>
      have e : needF W cl ws z.cps.toList (shT t W cl ws z.cps.toList z.length) (k + 1) = sh t (rowF W cl ws z.cps.toList (k + 1)) := by
        show nextF W ws ((shT t W cl ws z.cps.toList z.length).getD k []) _ = _
        rw [shT_at (by omega), nextF_sh]
        rfl
      rw [e]
      exact haB_of fun n hn => ⟨n, hn, rfl, rfl, Int.le_refl _⟩
  unfold shB
  rw [a1, Bool.true_and, shT_len, a2, Bool.true_and, shT_at (by omega)]
  unfold lbF sh
  rw [List.filter_map, List.map_map, List.all_map, List.all_map]
  rfl
/-- where one entry of a row is gone or too high -/
theorem shB_bad {g : Int} {W : Nat} {cl : Bool} {ws : List Str} {z : Str} {rows : List (List En)} {k : Nat} {n : En} (hk : k < rows.length) (hp : k = 0 ∨ rows.getD (k - 1) [] = rowF W cl ws z.cps.toList (k - 1)) (hn : n ∈ rowF W cl ws z.cps.toList k)
    (h : ∀ e ∈ rows.getD k [], e.1 = n.1 → e.2.1 = n.2.1 → n.2.2 < e.2.2) : shB W cl ws z g rows = false := by
  have e : needF W cl ws z.cps.toList rows k = rowF W cl ws z.cps.toList k := by
    cases k with
    | zero => rfl
    | succ k =>
      have := hp.resolve_left (by omega)
      show nextF W ws (rows.getD k []) _ = _
      rw [show rows.getD k [] = rowF W cl ws z.cps.toList k from this]
      rfl
  have : ((List.range rows.length).all fun k => haB (rows.getD k []) (needF W cl ws z.cps.toList rows k)) = false := by
    rw [List.all_eq_false]
    exact ⟨k, List.mem_range.mpr hk, by rw [e, haB_no hn h]; decide⟩
  unfold shB
  rw [this, Bool.false_and, Bool.and_false]
end Ov

set_option Elab.async false
set_option linter.all false
set_option maxRecDepth 100000
set_option maxHeartbeats 2000000
/-! _law_right of k42 -/
namespace Ov
open PySem PySem.Spec PyProof.Rows L2 GxR
abbrev NRx : List Str := ["vat", "words", "mark", "is_line", "tape", "item", "one", "ends_v", "least", "far", "row", "lower", "at", "spot", "higher", "other", "goal"]
theorem scRx : FnScope NRx ["vat", "words", "mark", "is_line"] (defScope sRx) := ⟨rfl, rfl, rfl, by decide +kernel, rfl, by decide +kernel, by decide +kernel⟩
def spRx (T : List Addr) : Sp := fun vs H Q _ => ∃ (t wl : Addr) (n : Nat) (ws : List Str) (W : Nat) (z : Str) (isl : Bool), vs = [.ref t, .ref wl, .str z, .bl isl] ∧ Tp H t n ∧ n + 100 < 2 ^ 40 ∧ H wl = some (.lst (ws.map V.str)) ∧ Good ws W ∧ stampsV (ws.map V.str) = true ∧ lowB z = true ∧ 1 ≤ z.length ∧ z.length ≤ 120 ∧ (∀ p ∈ T, TabG H p) ∧
  ∀ H', KepX T t H H' → Tp H' t (n + 100) → Q (.bl true) H'
theorem Row3.nt {H : Hp} {a t : Addr} {es : List En} {k : Nat} (tp : Tp H t k) (r : Row3 H a es) : a ≠ t := by
  rintro rfl
  obtain ⟨x, y, c, e, _⟩ := tp
  obtain ⟨vs, e', p⟩ := r
  rw [e] at e'
  cases e'
  cases p with
  | cons h _ =>
    obtain ⟨q, e, _⟩ := h
    cases e
theorem Tab3.nt {H : Hp} {a t : Addr} {rows : List (List En)} {k : Nat} (tp : Tp H t k) (r : Tab3 H a rows) : a ≠ t := by
  rintro rfl
  obtain ⟨x, y, c, e, _⟩ := tp
  obtain ⟨as, e', p⟩ := r
  rw [e] at e'
  cases as with
  | nil => cases e'
  | cons b r => cases e'
theorem Tp.tst {H H' : Hp} {t : Addr} {k : Nat} (tp : Tp H t k) (b : But t H H') : Tst H H' := fun q xs e => by
  obtain ⟨x, y, c, e', _⟩ := tp
  exact (b q (fun z => by rw [z, e'] at e; cases e)).trans e
theorem Row3.bt {H H' : Hp} {a t : Addr} {es : List En} {k : Nat} (tp : Tp H t k) (b : But t H H') (r : Row3 H a es) : Row3 H' a es := by
  have n := r.nt tp
  obtain ⟨vs, e, p⟩ := r
  exact ⟨vs, (b _ n).trans e, p3_st (tp.tst b) p⟩
theorem Tab3.bt {H H' : Hp} {a t : Addr} {rows : List (List En)} {k : Nat} (tp : Tp H t k) (b : But t H H') (r : Tab3 H a rows) : Tab3 H' a rows := by
  have n := r.nt tp
  obtain ⟨as, e, p⟩ := r
  exact ⟨as, (b _ n).trans e, pairedMono (fun _ _ r => Row3.bt tp b r) p⟩
/-- what stands in _law_right -/
structure Ev (T : List Addr) (C : Addr) (B : BA) (H0 : Hp) (t a r wl m l dm : Addr) (i W : Nat) (ws : List Str) (rows : List (List En)) (Hx : Hp) (k : Nat) : Prop where
  kx : KepX T t H0 Hx
  tp : Tp Hx t k
  bn : Bnd C B Hx a i ws W m l dm
  tab : Tab3 Hx r rows
  ew : Hx wl = some (.lst (ws.map V.str))
section
variable {T : List Addr} {C : Addr} {B : BA} {H0 : Hp} {t a r wl m l dm : Addr} {i W : Nat} {ws : List Str} {rows : List (List En)} {Hx Hy : Hp} {k k' : Nat}
theorem Ev.kep (e : Ev T C B H0 t a r wl m l dm i W ws rows Hx k) (h : Kep T Hx Hy) : Ev T C B H0 t a r wl m l dm i W ws rows Hy k :=
  ⟨e.kx.trans h.kx, e.tp.kx e.kx.1 h, e.bn.kep e.kx.1 h, h.tab3 e.kx.1 e.tab, h.lst e.kx.1 e.ew⟩
theorem Ev.same (e : Ev T C B H0 t a r wl m l dm i W ws rows Hx k) (h : L2.Same Hx Hy) : Ev T C B H0 t a r wl m l dm i W ws rows Hy k := e.kep ((Kep.refl e.kx.1).sameT h)
theorem Ev.tick (e : Ev T C B H0 t a r wl m l dm i W ws rows Hx k) (tp : Tp Hy t k') (b : But t Hx Hy) : Ev T C B H0 t a r wl m l dm i W ws rows Hy k' := by
  have nT := e.tp.nT e.kx.1
  obtain ⟨z1, z2, z3, et, _⟩ := id e.tp
  have g1 := e.bn.g.n1
  have wne : ∀ x : Addr, Hx x = some (.lst (ws.map V.str)) → x ≠ t := fun x ex z => by
    rw [z, et] at ex
    have := HO.lst.inj (Option.some.inj ex)
    cases ws with
    | nil => cases this
    | cons w r => cases this
  exact ⟨Bt.kxt e.kx nT b.bt, tp, e.bn.but et (fun b' o n q => (b b' n).trans q) (wne _ e.bn.st.2), e.tab.bt e.tp b, (b _ (wne _ e.ew)).trans e.ew⟩
theorem Ev.mono (e : Ev T C B H0 t a r wl m l dm i W ws rows Hx k) (h : k ≤ k') : Ev T C B H0 t a r wl m l dm i W ws rows Hx k' := ⟨e.kx, e.tp.mono h, e.bn, e.tab, e.ew⟩
end
theorem map_ref_inj : ∀ {l m : List Addr}, l.map V.ref = m.map V.ref → l = m
  | [], [], _ => rfl
  | [], _ :: _, h => by cases h
  | _ :: _, [], h => by cases h
  | a :: l, b :: m, h => by
    have h1 := (List.cons.inj h).1
    have h2 := (List.cons.inj h).2
    rw [V.ref.inj h1, map_ref_inj h2]
theorem shaped_row (es : List En) : SeqAt.shaped (rowDt es) = true := by
  have h1 : PyData.canLayAll0 (es.map enD) = true := by
    induction es with
    | nil => simp [PyData.canLayAll0]
    | cons x r ih => simp only [List.map_cons, PyData.canLayAll0, enD, PyData.canLay0, Bool.and_true, Bool.true_and]; exact ih
  have h2 : PyData.depthAll (es.map enD) ≤ 3 := by
    clear h1
    induction es with
    | nil => simp [PyData.depthAll]
    | cons x r ih =>
      have : PyData.depth (enD x) ≤ 3 := by simp [enD, PyData.depth, PyData.depthAll]
      simp only [List.map_cons, PyData.depthAll]
      omega
  show (PyData.canLay0 (.list (es.map enD)) && decide (PyData.depth (.list (es.map enD)) ≤ 64)) = true
  rw [decide_eq_true (by simp only [PyData.depth]; omega), Bool.and_true, show PyData.canLay0 (.list (es.map enD)) = PyData.canLayAll0 (es.map enD) by simp [PyData.canLay0]]
  exact h1
theorem rem_key {es : List En} (asc : es.Pairwise fun e f => lexN (e.1, e.2.1) (f.1, f.2.1)) {sp : Nat} (h : sp < es.length) : ∀ e ∈ es.take sp ++ es.drop (sp + 1), ¬ (e.1 = (es[sp]).1 ∧ e.2.1 = (es[sp]).2.1) := fun e he hh => by
  rw [List.pairwise_iff_getElem] at asc
  rcases List.mem_append.mp he with he | he
  · obtain ⟨j, hj, rfl⟩ := List.mem_iff_getElem.mp he
    rw [List.getElem_take] at hh
    rw [List.length_take] at hj
    exact (asc j sp (by omega) h (by omega)).ne (by rw [hh.1, hh.2])
  · obtain ⟨j, hj, rfl⟩ := List.mem_iff_getElem.mp he
    rw [List.getElem_drop] at hh
    rw [List.length_drop] at hj
    exact (asc sp (sp + 1 + j) h (by omega) (by omega)).ne (by rw [hh.1, hh.2])
theorem cutV_hi (xs : List V) (m : Nat) : cutV xs none (some (m : Int)) = xs.take m := by
  unfold cutV
  rw [HT.sIx_nat]
  show (xs.drop 0).take (min m xs.length - 0) = xs.take m
  rw [List.drop_zero, Nat.sub_zero]
  by_cases h : m ≤ xs.length
  · rw [Nat.min_eq_left h]
  · rw [Nat.min_eq_right (by omega), List.take_of_length_le (Nat.le_refl _), List.take_of_length_le (by omega)]
theorem cutV_lo (xs : List V) (m : Nat) : cutV xs (some (m : Int)) none = xs.drop m := by
  unfold cutV
  rw [HT.sIx_nat]
  show (xs.drop (min m xs.length)).take (xs.length - min m xs.length) = xs.drop m
  by_cases h : m ≤ xs.length
  · rw [Nat.min_eq_left h, List.take_of_length_le (by rw [List.length_drop]; omega)]
  · rw [Nat.min_eq_right (by omega), Nat.sub_self, List.take_zero, List.drop_of_length_le (by omega)]
theorem p_take {α β : Type} {F : α → β → Prop} : ∀ {l : List α} {m : List β}, Paired F l m → ∀ k, Paired F (l.take k) (m.take k)
  | _, _, .nil, k => by rw [List.take_nil, List.take_nil]; exact .nil
  | _, _, .cons e t, 0 => .nil
  | _, _, .cons e t, k + 1 => .cons e (p_take t k)
theorem p_drop {α β : Type} {F : α → β → Prop} : ∀ {l : List α} {m : List β}, Paired F l m → ∀ k, Paired F (l.drop k) (m.drop k)
  | _, _, .nil, k => by rw [List.drop_nil, List.drop_nil]; exact .nil
  | _, _, .cons e t, 0 => .cons e t
  | _, _, .cons e t, k + 1 => p_drop t k
theorem take_map_last {α β : Type} {f : α → β} {l : List α} {j : Nat} (h : j < l.length) : (l.take (j + 1)).map f = (l.take j).map f ++ [f l[j]] := by
  rw [List.take_succ_eq_append_getElem h, List.map_append]
  rfl
/-- a comprehension of truths over a tuple of numbers -/
theorem goals_by {K : PySem.W.Frag} {T : List Addr} {q0 D2 : Addr} {gs : List Int} {b : Int → Bool} {Hq : Hp} {F : (Hp → Prop) → V → Hp → Prop} {Qd : Hp → Prop} (eq : Hq q0 = some (.tup (gs.map V.int))) (hT : ∀ p ∈ T, TabG Hq p) (hD : Hq D2 = none) (l : gs.length ≤ 10)
    (hF : ∀ (Nx : Hp → Prop) (g : Int) (H' : Hp), Kep T Hq H' → (∀ H2, Kep T H' H2 → ∃ acc, H2 D2 = some (.lst acc) ∧ acc.length < sizeLine ∧ Nx (upd H2 D2 (.lst (acc ++ [.bl (b g)])))) → F Nx (.int g) H')
    (hd : ∀ H', Kep T Hq H' → H' D2 = some (.lst (gs.map fun g => V.bl (b g))) → Qd H') :
    ∃ W : Nat → Nat → Hp → Prop, (∃ m, W 0 m (upd Hq D2 (.lst []))) ∧ ∀ i m H, W i m H → ((Itt K q0).stop i H ∧ Qd H) ∨ ((Itt K q0).go i H ∧ ∃ Nx : Hp → Prop, (∀ H', Nx H' → ∃ m', m' < m ∧ W (i + 1) m' H') ∧ ∀ x H', (Itt K q0).yld i H x H' → F Nx x H') := by
  have nD : D2 ∉ T := fun m => by
    obtain ⟨ps, e, _⟩ := hT _ m
    rw [hD] at e
    cases e
  have sq : ∀ {Hx : Hp}, Kep T Hq Hx → SqT K Hx q0 (gs.map V.int) := fun k => k.seqT hT (.inl (.inl eq))
  refine walk_by (walk_tup (xs := gs.map V.int)) (fun j Hx => Kep T Hq Hx ∧ Hx D2 = some (.lst ((gs.take j).map fun g => V.bl (b g)))) ⟨Kep.new hT hD, upd_same⟩ (fun j Hx hj p => sq p.1) (fun j x Hx Hy hj p y => ?_) (fun Hx p => ?_)
  · obtain ⟨eH, hx⟩ := y
    obtain rfl : Hx = Hy := eH.symm
    have lj : j < gs.length := by rw [List.length_map] at hj; exact hj
    rw [List.getElem?_map, List.getElem?_eq_getElem lj] at hx
    obtain rfl := Option.some.inj hx
    refine hF _ _ _ p.1 fun H2 k2 => ⟨_, k2.lst p.1.1 p.2, by rw [List.length_map, List.length_take, sizeLine_eq]; omega, (p.1.trans k2).put hD nD, ?_⟩
    rw [upd_same, take_map_last lj]
  · have e := p.2
    rw [List.length_map, List.take_length] at e
    exact hd Hx p.1 e
theorem dpBools {K : PySem.W.Frag} {H : Hp} : ∀ l : List Bool, DpAll K H (l.map V.bl) (l.map PyData.bool)
  | [] => .nil
  | a :: r => .cons (.bl a) (dpBools r)
section
variable {P : Program} {w : World} {K : PySem.W.Frag} {mg : Str → Option Value} {base : Heap} {T : List Addr} {C D DN fLow fText fAre fTape fNext fInks fInit cLow PLow cAre PAre fAg fLa fMk fMd fLe fLi fTo gO pO DTx fHa fLb fSh : Addr} {B : BA}
theorem ok_rx {f : Addr} {fd fdM fdT fdL fdE fdN fdS : FuncData} (F : L2.Fun K "_law_right" "_law_right" sRx f fd) (FM : L2.Fun K "_law_made" "_law_made" sMd fMd fdM) (MD : FnOk P w K mg base CX0 9 fMd fdM ["words", "is_line"] (spMd C B T)) (FT : L2.Fun K "table_of" "table_of" sTo fTo fdT) (TO : FnOk P w K mg base (L2.CX P w) 6 fTo fdT ["band", "text"] (spTo K T C B DTx))
    (FL : L2.Fun K "_law_listed" "_law_listed" sLi fLi fdL) (LI : FnOk P w K mg base CX0 1 fLi fdL ["rows"] spLi) (FE : L2.Fun K "_law_least" "_law_least" sLe fLe fdE) (LE : FnOk P w K mg base CX0 2 fLe fdE ["words", "mark", "is_line"] spLe) (FN : L2.Fun K "_law_sip" "_law_sip" sNext fNext fdN)
    (FS : L2.Fun K "shows" "shows" sSh fSh fdS) (SH : FnOk P w K mg base (L2.CX P w) 6 fSh fdS ["band", "text", "number", "thing"] (spSh T C B)) (X : Txt K mg C fLow fText fAre fTape fNext fInks) (XL : TopL K mg fLa fMk fMd fLe fLi fTo) (XR : TopR K mg fHa fLb fSh) (hrep : mg "repr" = none) :
    FnG P w K mg base CX0 10 f fd ["vat", "words", "mark", "is_line"] (spRx T) := by
  have bMd : Binds K fdM ["words", "is_line"] [] := FM.binds fun _ _ _ _ _ _ us hl => match us, hl with | [_, _], _ => rfl
  have bTo : Binds K fdT ["band", "text"] [] := FT.binds fun _ _ _ _ _ _ us hl => match us, hl with | [_, _], _ => rfl
  have bLi : Binds K fdL ["rows"] [] := FL.binds fun _ _ _ _ _ _ us hl => match us, hl with | [_], _ => rfl
  have bLe : Binds K fdE ["words", "mark", "is_line"] [] := FE.binds fun _ _ _ _ _ _ us hl => match us, hl with | [_, _, _], _ => rfl
  have bSh : Binds K fdS ["band", "text", "number", "thing"] [] := FS.binds fun _ _ _ _ _ _ us hl => match us, hl with | [_, _, _, _], _ => rfl
  have N1 : FnOk P w K mg base CX0 1 fNext fdN ["vat", "size"] spNext := ok_next FN X
  have bN : Binds K fdN ["vat", "size"] [] := FN.binds fun _ _ _ _ _ _ us hl => match us, hl with | [_, _], _ => rfl
  refine fun_okG F scRx (fun vs H Q E h => ?_) (fun cdv A' outer s H vs Q E hg hr h => ?_)
  · obtain ⟨t, wl, n, ws, W, z, isl, rfl, _⟩ := h
    rfl
  · obtain ⟨t, wl, n, ws, W, z, isl, rfl, tp, n40, ew, g, sv, zl, z1, z2, hT, q⟩ := h
    have hu : (A'.deeper (envOfC "_law_right" (defScope sRx) s.heap.objs.size f cdv)).units + 64 < cLine := by have := hr.un; omega
    refine ⟨_, (pss_cons (ps_asg (pe_tup (pa_cons (pe_call MD (hr.mono (by decide)) (by rfl) XL.gMd XL.kMd bMd .nil L2.pass0 (pa_cons (pv 1) (pa_cons (pv 3) pa_nil))) (pa_cons (pe_call LI (hr.mono (by decide)) (by rfl) XL.gLi XL.kLi bLi .nil L2.pass0 (pa_cons (pe_call LE (hr.mono (by decide)) (by rfl) XL.gLe XL.kLe bLe .nil L2.pass0 (pa_cons (pv 1) (pa_cons (pv 2) (pa_cons (pv 3) pa_nil)))) pa_nil)) pa_nil))) (pg_tup rfl (pgs_cons (pg_name (i := 4) scRx.nd rfl (Or.inr rfl)) (pgs_cons (pg_name (i := 5) scRx.nd rfl (Or.inr rfl)) pgs_nil))))
      (pss_cons (ps_setLc (i := 7) (own := [("one", 6)]) (g := gName 6) rfl scRx.nd rfl rfl (sw_true rfl rfl rfl (by decide +kernel)) (pi_list (pe_ix ix_seq (pv 5) (pe_un un_neg pe_int) fun _ _ => rfl)) (blkOk_by (own := [("one", 6)]) (N := NRx) (sc := defScope sRx) (by decide +kernel)) (fun _ _ _ _ _ => pg_name (i := 6) scRx.nd rfl (Or.inl rfl)) (fun _ _ _ _ _ => pts_one ((pw_or (pt_cmpR (show OpR _ _ rEq from op_eq) (pe_op op_add (pe_ix (show IxR _ (rIx K) from ix_seq) (pv 6) pe_int fun _ _ => rfl) pe_int) (pe_callB call_len_str (by rfl) X.len boot_len (pa_cons (pe_ix (show IxR _ (rIx K) from ix_seq) (pv 1) pe_int fun _ _ => rfl) pa_nil)) (by rfl)) (pw_or1 (pt_not (pt_val (pv 3))))).pt)) (fun _ _ _ _ _ => pe_ix (show IxR _ (rIx K) from ix_seq) (pv 6) pe_int fun _ _ => rfl))
      (C8.pss_cut (ps_if (pt_cmpR (op_eqD hu) (pv 7) (pe_lst pa_nil) (by rfl)) (pss_one (ps_if (pt_cmpR (op_neD hu) (pe_lc (own := [("goal", 16)]) (g := gName 16) (tt := tYes) (by rfl) scRx.nd (pi_tup (pe_tup (pa_cons pe_int (pa_cons (pe_op op_pow pe_int pe_int) pa_nil)))) (blkOk_by (own := [("goal", 16)]) (N := NRx) (sc := defScope sRx) (by decide +kernel)) (fun _ _ _ _ _ => pg_name (i := 16) scRx.nd rfl (Or.inl rfl)) (fun _ _ _ _ _ => pts_nil) (fun _ _ _ _ _ => pe_call SH (hr.mono (by decide)) (by rfl) XR.gSh XR.kSh bSh .nil passL (pa_cons (pv 4) (pa_cons (pv 2) (pa_cons (pv 16) (pa_cons (pv 5) pa_nil)))))) (pe_lst (pa_cons pe_bl (pa_cons pe_bl pa_nil))) (by rfl)) (pss_one (ps_ret pe_bl)) pss_nil)) (pss_cons (ps_set (i := 8) scRx.nd rfl (.inl rfl) (pe_callB (cr_min rfl) (by rfl) X.min boot_min (pa_cons (pv 7) pa_nil)))
      (pss_cons (ps_set (i := 9) scRx.nd rfl (.inl rfl) (pe_ix ix_seq (pe_lst (pa_cons (pe_op op_sub pe_int (pv 8)) (pa_cons (pe_op op_sub pe_int (pe_op op_pow pe_int pe_int)) pa_nil))) (pe_call N1 (hr.mono (by decide)) (by rfl) X.gNext X.kNext bN .nil L2.pass0 (pa_cons (pv 0) (pa_cons pe_int pa_nil))) fun _ _ => rfl))
      (pss_cons (ps_if (pt_cmpR (op_neD hu) (pe_lc (own := [("goal", 16)]) (g := gName 16) (tt := tYes) (by rfl) scRx.nd (pi_tup (pe_tup (pa_cons (pv 8) (pa_cons (pe_op op_add (pv 8) pe_int) (pa_cons (pv 9) pa_nil))))) (blkOk_by (own := [("goal", 16)]) (N := NRx) (sc := defScope sRx) (by decide +kernel)) (fun _ _ _ _ _ => pg_name (i := 16) scRx.nd rfl (Or.inl rfl)) (fun _ _ _ _ _ => pts_nil) (fun _ _ _ _ _ => pe_call SH (hr.mono (by decide)) (by rfl) XR.gSh XR.kSh bSh .nil passL (pa_cons (pv 4) (pa_cons (pv 2) (pa_cons (pv 16) (pa_cons (pv 5) pa_nil)))))) (pe_lst (pa_cons pe_bl (pa_cons pe_bl (pa_cons pe_bl pa_nil)))) (by rfl)) (pss_one (ps_ret pe_bl)) pss_nil)
      (pss_cons (ps_set (i := 11) scRx.nd rfl (.inr rfl) (pe_lc (own := [("row", 10)]) (g := gName 10) (tt := tYes) (by rfl) scRx.nd (pi_list (pv 5)) (blkOk_by (own := [("row", 10)]) (N := NRx) (sc := defScope sRx) (by decide +kernel)) (fun _ _ _ _ _ => pg_name (i := 10) scRx.nd rfl (Or.inl rfl)) (fun _ _ _ _ _ => pts_nil) (fun _ _ _ _ _ => pe_lc (own := [("one", 6)]) (g := gName 6) (tt := tYes) (by rfl) scRx.nd (show PI _ _ _ (iList K _) from pi_list (pv 10)) (blkOk_by (own := [("one", 6)]) (N := NRx) rfl) (fun _ _ _ _ _ => pg_name (i := 6) scRx.nd rfl (Or.inl rfl)) (fun _ _ _ _ _ => pts_nil) (fun _ _ _ _ _ => pe_tup (pa_cons (pe_ix (show IxR _ (rIx K) from ix_seq) (pv 6) pe_int fun _ _ => rfl) (pa_cons (pe_ix (show IxR _ (rIx K) from ix_seq) (pv 6) pe_int fun _ _ => rfl) (pa_cons (pe_op op_sub (pe_ix (show IxR _ (rIx K) from ix_seq) (pv 6) pe_int fun _ _ => rfl) pe_int) pa_nil)))))))
      (pss_one (ps_if (pt_cmpR (op_neD hu) (pe_lc (own := [("goal", 16)]) (g := gName 16) (tt := tYes) (by rfl) scRx.nd (pi_tup (pe_tup (pa_cons (pv 8) (pa_cons (pe_op op_sub (pv 8) pe_int) pa_nil)))) (blkOk_by (own := [("goal", 16)]) (N := NRx) (sc := defScope sRx) (by decide +kernel)) (fun _ _ _ _ _ => pg_name (i := 16) scRx.nd rfl (Or.inl rfl)) (fun _ _ _ _ _ => pts_nil) (fun _ _ _ _ _ => pe_call SH (hr.mono (by decide)) (by rfl) XR.gSh XR.kSh bSh .nil passL (pa_cons (pv 4) (pa_cons (pv 2) (pa_cons (pv 16) (pa_cons (pv 11) pa_nil)))))) (pe_lst (pa_cons pe_bl (pa_cons pe_bl pa_nil))) (by rfl)) (pss_one (ps_ret pe_bl)) pss_nil)))))))
      (pss_cons (ps_set (i := 12) scRx.nd rfl (.inl rfl) (pe_call N1 (hr.mono (by decide)) (by rfl) X.gNext X.kNext bN .nil L2.pass0 (pa_cons (pv 0) (pa_cons (pe_callB call_len_str (by rfl) X.len boot_len (pa_cons (pv 2) pa_nil)) pa_nil))))
      (C8.pss_cut (ps_if (pt_cmpR (op_neD hu) (pe_ix ix_seq (pv 5) (pv 12) fun _ _ => rfl) (pe_lst pa_nil) (by rfl)) (pss_cons (ps_set (i := 13) scRx.nd rfl (.inl rfl) (pe_call N1 (hr.mono (by decide)) (by rfl) X.gNext X.kNext bN .nil L2.pass0 (pa_cons (pv 0) (pa_cons (pe_callB call_len_seq (by rfl) X.len boot_len (pa_cons (pe_ix ix_seq (pv 5) (pv 12) fun _ _ => rfl) pa_nil)) pa_nil))))
      (pss_cons (ps_par (i := 6) (j := 10) rfl scRx.nd rfl rfl (by decide) rfl rfl (pa_cons (pe_ix ix_seq (pe_ix ix_seq (pv 5) (pv 12) fun _ _ => rfl) (pv 13) fun _ _ => rfl) (pa_cons (pe_ix ix_seq (pv 5) (pv 12) fun _ _ => rfl) pa_nil)) (by rfl))
      (pss_cons (ps_set (i := 14) scRx.nd rfl (.inl rfl) (pe_op op_cat (pe_op op_cat (pe_slice (show SlR _ (rSlL K) from sl_list) (pv 10) po_none (po_some (pv 13))) (pe_lst (pa_cons (pe_tup (pa_cons (pe_ix ix_seq (pv 6) pe_int fun _ _ => rfl) (pa_cons (pe_ix ix_seq (pv 6) pe_int fun _ _ => rfl) (pa_cons (pe_op op_add (pe_op op_add (pe_ix ix_seq (pv 6) pe_int fun _ _ => rfl) pe_int) (pe_call N1 (hr.mono (by decide)) (by rfl) X.gNext X.kNext bN .nil L2.pass0 (pa_cons (pv 0) (pa_cons pe_int pa_nil)))) pa_nil)))) pa_nil))) (pe_slice (show SlR _ (rSlL K) from sl_list) (pv 10) (po_some (pe_op op_add (pv 13) pe_int)) po_none)))
      (pss_one (ps_for PassesOwn.never rfl (pi_list (pe_lst (pa_cons (pv 14) (pa_cons (pe_op op_cat (pe_slice (show SlR _ (rSlL K) from sl_list) (pv 10) po_none (po_some (pv 13))) (pe_slice (show SlR _ (rSlL K) from sl_list) (pv 10) (po_some (pe_op op_add (pv 13) pe_int)) po_none)) pa_nil)))) (pg_name (i := 15) scRx.nd rfl (Or.inl rfl)) (pss_one (ps_if (pt_cmpR op_isnot_bl (pe_call SH (hr.mono (by decide)) (by rfl) XR.gSh XR.kSh bSh .nil passL (pa_cons (pv 4) (pa_cons (pv 2) (pa_cons (pe_op op_sub pe_int (pe_op op_pow pe_int pe_int)) (pa_cons (pe_op op_cat (pe_op op_cat (pe_slice (show SlR _ (rSlL K) from sl_list) (pv 5) po_none (po_some (pv 12))) (pe_lst (pa_cons (pv 15) pa_nil))) (pe_slice (show SlR _ (rSlL K) from sl_list) (pv 5) (po_some (pe_op op_add (pv 12) pe_int)) po_none)) pa_nil))))) pe_bl (by rfl)) (pss_one (ps_ret pe_bl)) pss_nil))))))) pss_nil)
      (pss_one (ps_ret (pe_cmpR op_eq (pe_callB (call_reprL hg hu) (by rfl) hrep boot_repr (pa_cons (pe_call TO (hr.mono (by decide)) (by rfl) XL.gTo XL.kTo bTo .nil passL (pa_cons (pv 4) (pa_cons (pv 2) pa_nil))) pa_nil)) (pe_callB (call_reprL hg hu) (by rfl) hrep boot_repr (pa_cons (pv 5) pa_nil)) (by rfl))))))))), ?_⟩
    have hw : ∀ y ∈ ws, y.length = W := fun y hy => (g.all y hy).1
    have zsz : z.length ≤ sizeLine := by rw [sizeLine_eq]; omega
    have htx : textB z (cellsN (bandI isl) : Nat) = true := by
      have : cellsN (bandI isl) = 120 := by unfold bandI cellsN; cases isl <;> rfl
      unfold textB
      rw [this, zl]
      simp
      omega
    have hb : decide (bandI isl = 0) = isl := by cases isl <;> rfl
    have nT := tp.nT hT
    have hcs : ∀ k, RowOk ws W (rowF W isl ws z.cps.toList k) := row_ok hw g.n6 g.w8
    refine ⟨_, rfl, _, rfl, wl, W, ws, isl, rfl, ew, g, sv, hT, fun a m l dm H1 bn1 k1 => ?_⟩
    refine ⟨_, rfl, _, rfl, _, rfl, wl, ws, W, z, isl, rfl, k1.lst hT ew, g, zl, z2, fun r2 H2 hr2 s2 td => ?_⟩
    refine ⟨r2, _, ws, W, rfl, td, by rw [tabF_len]; exact z2, tabF_ok hw g.n6 g.w8, fun r H3 hr3 s3 tab3 => ?_⟩
    refine ⟨Nat.le_of_ble_eq_true rfl, fun q0 hq0 => ?_⟩
    have s4 := same_new (o := .tup [.ref a, .ref r]) hq0
    have eq4 : upd H3 q0 (.tup [.ref a, .ref r]) q0 = some (.tup [.ref a, .ref r]) := upd_same
    generalize upd H3 q0 (.tup [.ref a, .ref r]) = H4 at s4 eq4 ⊢
    have k4 : Kep T H H4 := k1.sameT ((s2.trans s3).trans s4)
    have ev4 : Ev T C B H t a r wl m l dm (bandI isl) W ws (tabF W isl ws z.cps.toList z.length) H4 n :=
      ⟨k4.kx, tp.kx hT k4, bn1.same ((s2.trans s3).trans s4), tab3.same s4, k4.lst hT ew⟩
    refine ⟨q0, _, rfl, .inl (.inl eq4), rfl, _, _, rfl, _, _, rfl, rfl, ?_⟩
    clear td hr2 hr3 s2 s3 tab3 bn1 hq0 eq4 s4 k1
    -- the ends
    obtain ⟨la, as, ⟨elr, hat⟩, p3⟩ : ∃ (la : Addr) (as : List Addr), (H4 r = some (.lst (as.map V.ref)) ∧ atI (as.map V.ref) (-1) = some (.ref la)) ∧ Row3 H4 la (rowF W isl ws z.cps.toList (z.length - 1)) := by
      obtain ⟨as, ea, pr⟩ := ev4.tab
      have al := len_p pr
      rw [tabF_len] at al
      have la : as.length - 1 < as.length := by omega
      obtain ⟨es, hes, re⟩ := p_at pr (List.getElem?_eq_getElem la)
      rw [al, tab_at (by omega)] at hes
      cases hes
      have lm : (as.map V.ref).length - 1 = as.length - 1 := by rw [List.length_map]
      refine ⟨_, as, ⟨ea, atI_m1 (by rw [lm, List.getElem?_map, List.getElem?_eq_getElem la]; rfl)⟩, ?_⟩
      exact re
    generalize hL : rowF W isl ws z.cps.toList (z.length - 1) = L at p3
    obtain ⟨vl, evl, p3⟩ := p3
    have ll : L.length ≤ 48 := hL ▸ (hcs _).len
    have vll := len_p p3
    have w0 : ws[0]? = some (ws.headD Str.empty) := by
      have := g.n1
      cases ws with
      | nil => simp at this
      | cons y r => rfl
    have w0l : (ws.headD Str.empty).length = W := hw _ (List.mem_of_getElem? w0)
    have at0 : atI (ws.map V.str) 0 = some (.str (ws.headD Str.empty)) := atI_nat (j := 0) (by rw [List.getElem?_map, w0]; rfl)
    have w0z : (ws.headD Str.empty).length ≤ sizeLine := by rw [w0l, sizeLine_eq]; have := g.w8; omega
    refine ⟨_, rfl, _, rfl, .inl ⟨r, _, -1, _, rfl, rfl, .inl (.inl elr), hat, _, rfl, ⟨_, .inl (.inl evl)⟩, fun D hD => ?_⟩⟩
    refine walk_by (walk_list (xs := vl)) (fun j Hx => L2.Same H4 Hx ∧ Hx D = some (.lst ((lbF W isl (L.take j)).map V.int))) ⟨same_new hD, upd_same⟩ (fun j Hx hj p => .inl (.inl (p.1 _ _ evl))) (fun j x Hx Hy hj p y => ?_) (fun H5 p => ?_)
    · obtain ⟨eH, hx⟩ := y
      obtain rfl : Hx = Hy := eH.symm
      obtain ⟨e, he, q1, rfl, eq1⟩ := p_at p3 hx
      have lj : j < L.length := by omega
      have ee : L[j] = e := (List.getElem?_eq_some_iff.mp he).2
      have eqx := p.1 _ _ eq1
      have ewx := p.1 _ _ ev4.ew
      have dw : decide (V.int ((e.2.1 : Nat) + 1) = V.int ((ws.headD Str.empty).length : Nat)) = decide (e.2.1 + 1 = W) := by
        rw [w0l, Bool.eq_iff_iff]
        simp only [decide_eq_true_eq]
        constructor
        · intro h
          have := V.int.inj h
          omega
        · intro h
          rw [← h]
          rfl
      have tk : lbF W isl (L.take (j + 1)) = lbF W isl (L.take j) ++ (if (decide (e.2.1 + 1 = W) || !isl) = true then [e.2.2] else []) := by
        unfold lbF
        rw [List.take_succ_eq_append_getElem lj, List.filter_append, List.map_append, ee]
        by_cases hh : (decide (e.2.1 + 1 = W) || !isl) = true
        · rw [if_pos hh, List.filter_cons_of_pos (p := fun e : En => decide (e.2.1 + 1 = W) || !isl) hh]; rfl
        · rw [if_neg hh, List.filter_cons_of_neg (p := fun e : En => decide (e.2.1 + 1 = W) || !isl) hh]; rfl
      have l49 : (lbF W isl (L.take j)).length < 49 := by
        unfold lbF
        rw [List.length_map]
        refine Nat.lt_of_le_of_lt (List.length_filter_le ..) ?_
        rw [List.length_take]
        omega
      have keep : (decide (e.2.1 + 1 = W) || !isl) = true → ∃ acc, Hx D = some (.lst acc) ∧ acc.length < sizeLine ∧ L2.Same H4 (upd Hx D (.lst (acc ++ [.int e.2.2]))) ∧ upd Hx D (.lst (acc ++ [.int e.2.2])) D = some (.lst ((lbF W isl (L.take (j + 1))).map V.int)) := fun hh => by
        refine ⟨_, p.2, by rw [List.length_map, sizeLine_eq]; omega, samePut p.1 hD, ?_⟩
        rw [upd_same, tk, if_pos hh, List.map_append]
        rfl
      refine ⟨rfl, _, rfl, .inr (.inl ⟨q1, _, 1, _, rfl, rfl, .inl (.inl eqx), rfl, _, _, rfl, rfl, _, rfl, .inl ⟨wl, _, 0, _, rfl, rfl, .inl (.inl ewx), at0, _, rfl, w0z, rfl, _, rfl, ?_⟩⟩)⟩
      rw [dw]
      by_cases c1 : e.2.1 + 1 = W
      · exact iteT' (decide_eq_true c1) (iteT' (b := true) rfl ⟨_, rfl, .inr (.inl ⟨q1, _, 2, _, rfl, rfl, .inl (.inl eqx), rfl, keep (by rw [decide_eq_true c1]; rfl)⟩)⟩)
      · refine iteF' (decide_eq_false c1) ⟨_, rfl, isl, rfl, ?_⟩
        cases hi : isl with
        | true =>
          refine iteF' (b := !true) rfl ⟨p.1, ?_⟩
          have := p.2
          rw [hi] at tk this
          rw [tk, if_neg (by rw [decide_eq_false c1]; decide), List.append_nil]
          exact this
        | false =>
          have kp := keep (by rw [hi, Bool.not_false, Bool.or_true])
          rw [hi] at kp
          exact iteT' (b := !false) rfl ⟨_, rfl, .inr (.inl ⟨q1, _, 2, _, rfl, rfl, .inl (.inl eqx), rfl, kp⟩)⟩
    have ev5 := ev4.same p.1
    have eD : H5 D = some (.lst ((lbF W isl L).map V.int)) := by
      have := p.2
      rw [List.take_of_length_le (by omega)] at this
      exact this
    clear p
    have hrows : ∀ es ∈ tabF W isl ws z.cps.toList z.length, es.length ≤ 48 := fun es he => (tabF_ok hw g.n6 g.w8 es he).len
    have shI : ∀ g', shB W isl ws z g' (tabF W isl ws z.cps.toList z.length) = (lbF W isl L).all fun b => decide (g' ≤ b) := fun g' => by
      rw [← shT_0, shB_sh g zl z1 (Int.le_refl 0), hL]
      simp only [Int.add_zero]
    generalize hLB : lbF W isl L = Lb at eD shI
    refine ⟨fun σ Hx => (∃ v8 v9 v11, σ = [some (.ref t), some (.ref wl), some (.str z), some (.bl isl), some (.ref a), some (.ref r), none, some (.ref D), v8, v9, none, v11, none, none, none, none, none]) ∧ Ev T C B H t a r wl m l dm (bandI isl) W ws (tabF W isl ws z.cps.toList z.length) Hx (n + 1), ?_, ?_⟩
    · refine ⟨_, rfl, Nat.zero_le _, fun l0 hl0 => ?_⟩
      have s6 := same_new (o := .lst []) hl0
      have e6 : upd H5 l0 (.lst []) l0 = some (.lst []) := upd_same
      generalize upd H5 l0 (.lst []) = H6 at s6 e6 ⊢
      have ev6 := ev5.same s6
      have eD6 := s6 _ _ eD
      refine ⟨.list (Lb.map PyData.int), .list [], .lst (.inl (.inl eD6)) (dpInts Lb), .lst (.inl (.inl e6)) .nil, shaped_ints Lb, rfl, _, rfl, ?_⟩
      cases hE : Lb with
      | nil =>
        rw [hE] at shI
        refine iteT' rfl ?_
        refine ⟨_, _, rfl, rfl, by unfold CPow; decide, Nat.le_of_ble_eq_true rfl, fun q1 h_q1 => ?_⟩
        generalize hH7 : upd H6 q1 (.tup _) = H7
        have s_q1 : L2.Same H6 H7 := by rw [← hH7]; exact same_new h_q1
        have e_q1 : H7 q1 = some (.tup ([1, (10 : Int) ^ (59 : Int).toNat].map V.int)) := by rw [← hH7]; exact upd_same
        clear hH7
        have ev7 := ev6.same s_q1
        refine ⟨q1, rfl, ⟨_, .inl (.inl e_q1)⟩, fun D2 hD2 => ?_⟩
        refine goals_by (T := T) (gs := [1, (10 : Int) ^ (59 : Int).toNat]) (b := fun g' => shB W isl ws z g' (tabF W isl ws z.cps.toList z.length)) e_q1 ev7.kx.1 hD2 (Nat.le_of_ble_eq_true rfl) (fun Nx g' H' k' h => ?_) (fun Hg kg eg => ?_)
        · have ev' := ev7.kep k'
          refine ⟨rfl, ?_⟩
          unfold tYes
          refine iteT' (b := true) rfl ⟨_, rfl, _, rfl, _, rfl, _, rfl, a, r, m, l, dm, _, W, ws, z, g', _, rfl, ev'.bn, htx, ev'.tab, hrows, ev'.kx.1, fun H9 k9 => ?_⟩
          rw [hb]
          exact h H9 k9
        have eg' : Hg D2 = some (.lst (([true, true] : List Bool).map V.bl)) := by
          rw [eg]
          simp only [List.map_cons, List.map_nil, shI, List.all_nil]
        clear eg
        refine ⟨Nat.le_of_ble_eq_true rfl, fun l_q1 hl_q1 => ⟨.list (([true, true] : List Bool).map PyData.bool), .list (([true, true] : List Bool).map PyData.bool), .lst (.inl (.inl (same_new hl_q1 _ _ eg'))) (dpBools _), .lst (.inl (.inl upd_same)) (dpBools [true, true]), rfl, rfl, _, rfl, iteF' rfl ?_⟩⟩
        exact ⟨⟨none, none, none, rfl⟩, ((ev7.kep kg).same (same_new hl_q1)).mono (by omega)⟩
      | cons x0 Lr =>
        refine iteF' rfl ?_
        have hne : 0 < Lb.length := by rw [hE]; simp
        refine ⟨_, rfl, D, Lb, rfl, .inl (.inl (s6 _ _ eD)), hne, fun least lm lle => ?_⟩
        have Dt : t ≠ D := ev4.tp.ne hD
        have l1 : 1 ≤ least := by
          rw [← hLB] at lm
          obtain ⟨e, he, rfl⟩ := List.mem_map.mp lm
          have := (List.mem_filter.mp he).1
          rw [← hL] at this
          exact (bds_row hw g.n6 g.w8 _ e this).1
        have yes : ∀ g' : Int, g' ≤ least → (Lb.all fun b => decide (g' ≤ b)) = true := fun g' h => by
          rw [List.all_eq_true]
          intro b hb'
          have := lle b hb'
          exact decide_eq_true (by omega)
        have nope : ∀ g' : Int, least < g' → (Lb.all fun b => decide (g' ≤ b)) = false := fun g' h => by
          rw [List.all_eq_false]
          exact ⟨least, lm, by rw [decide_eq_true_eq]; omega⟩
        refine ⟨_, rfl, _, _, rfl, rfl, _, _, rfl, rfl, by unfold CPow; decide, _, _, rfl, rfl, Nat.le_of_ble_eq_true rfl, fun l2 hl2 => ?_⟩
        generalize hH7 : upd H6 l2 (.lst _) = H7
        have s7 : L2.Same H6 H7 := by rw [← hH7]; exact same_new hl2
        have e7 : H7 l2 = some (.lst [.int (1 - least), .int (0 - (10 : Int) ^ (59 : Int).toNat)]) := by rw [← hH7]; exact upd_same
        clear hH7
        have ev7 := ev6.same s7
        have lt2 : l2 ≠ t := Ne.symm (ev6.tp.ne hl2)
        refine ⟨_, rfl, t, 2, n, rfl, ev7.tp, by omega, by decide, by decide, fun d1 H8 d10 d12 tp8 b8 => ?_⟩
        have ev8 := ev7.tick tp8 b8
        have e8 := (b8 l2 lt2).trans e7
        obtain ⟨far, hfar, fl⟩ : ∃ far : Int, atI [V.int (1 - least), V.int (0 - (10 : Int) ^ (59 : Int).toNat)] d1 = some (.int far) ∧ far ≤ least := by
          have : d1 = 0 ∨ d1 = 1 := by omega
          rcases this with rfl | rfl
          · exact ⟨_, rfl, by omega⟩
          · refine ⟨_, rfl, ?_⟩
            have : (0 : Int) ≤ (10 : Int) ^ (59 : Int).toNat := by decide
            omega
        refine .inl ⟨l2, _, d1, _, rfl, rfl, .inl (.inl e8), hfar, ?_⟩
        refine ⟨_, rfl, _, rfl, _, _, rfl, rfl, _, rfl, Nat.le_of_ble_eq_true rfl, fun q2 h_q2 => ?_⟩
        generalize hH9 : upd H8 q2 (.tup _) = H9
        have s_q2 : L2.Same H8 H9 := by rw [← hH9]; exact same_new h_q2
        have e_q2 : H9 q2 = some (.tup ([least, least + 1, far].map V.int)) := by rw [← hH9]; exact upd_same
        clear hH9
        have ev9 := ev8.same s_q2
        refine ⟨q2, rfl, ⟨_, .inl (.inl e_q2)⟩, fun D2 hD2 => ?_⟩
        refine goals_by (T := T) (gs := [least, least + 1, far]) (b := fun g' => shB W isl ws z g' (tabF W isl ws z.cps.toList z.length)) e_q2 ev9.kx.1 hD2 (Nat.le_of_ble_eq_true rfl) (fun Nx g' H' k' h => ?_) (fun Hg kg eg => ?_)
        · have ev' := ev9.kep k'
          refine ⟨rfl, ?_⟩
          unfold tYes
          refine iteT' (b := true) rfl ⟨_, rfl, _, rfl, _, rfl, _, rfl, a, r, m, l, dm, _, W, ws, z, g', _, rfl, ev'.bn, htx, ev'.tab, hrows, ev'.kx.1, fun H9 k9 => ?_⟩
          rw [hb]
          exact h H9 k9
        have eg' : Hg D2 = some (.lst (([true, false, true] : List Bool).map V.bl)) := by
          rw [eg]
          simp only [List.map_cons, List.map_nil, shI, yes least (Int.le_refl _), nope (least + 1) (by omega), yes far fl]
        clear eg
        refine ⟨Nat.le_of_ble_eq_true rfl, fun l_q2 hl_q2 => ⟨.list (([true, false, true] : List Bool).map PyData.bool), .list (([true, false, true] : List Bool).map PyData.bool), .lst (.inl (.inl (same_new hl_q2 _ _ eg'))) (dpBools _), .lst (.inl (.inl upd_same)) (dpBools [true, false, true]), rfl, rfl, _, rfl, iteF' rfl ?_⟩⟩
        generalize hH10 : upd Hg l_q2 (.lst _) = H10
        have s10 : L2.Same Hg H10 := by rw [← hH10]; exact same_new hl_q2
        clear hH10
        have ev10 := (ev9.kep kg).same s10
        clear eg' kg s10
        have shL : ∀ g', shB W isl ws z g' (shT (-1) W isl ws z.cps.toList z.length) = Lb.all fun b => decide (g' ≤ b + -1) := fun g' => by rw [shB_sh g zl z1 (by decide), hL, hLB]
        obtain ⟨bs0, er, pr⟩ := id ev10.tab
        have bl := len_p pr
        refine ⟨_, rfl, r, rfl, ⟨_, .inl (.inl er)⟩, fun D3 hD3 => ?_⟩
        refine walk_by (walk_list (xs := bs0.map V.ref)) (fun j Hx => L2.Same H10 Hx ∧ ∃ bs, Hx D3 = some (.lst (bs.map V.ref)) ∧ Paired (Row3 Hx) bs (((tabF W isl ws z.cps.toList z.length).take j).map (sh (-1))) ∧ D3 ∉ bs) ⟨same_new hD3, [], upd_same, .nil, by simp⟩ (fun j Hx hj p => .inl (.inl (p.1 _ _ er))) (fun j x Hx Hy hj p y => ?_) (fun H11 p => ?_)
        · obtain ⟨sx, bs, eD3, pb, nD⟩ := p
          obtain ⟨eH, hx⟩ := y
          obtain rfl : Hx = Hy := eH.symm
          have il : j < bs0.length := by rw [List.length_map] at hj; exact hj
          have il2 : j < (tabF W isl ws z.cps.toList z.length).length := by omega
          rw [List.getElem?_map, List.getElem?_eq_getElem il] at hx
          obtain rfl := Option.some.inj hx
          obtain ⟨es, hes, re⟩ := p_at pr (List.getElem?_eq_getElem il)
          have ees := (List.getElem?_eq_some_iff.mp hes).2
          have les : es.length ≤ 48 := hrows es (ees ▸ List.getElem_mem il2)
          obtain ⟨vs, evs, pv⟩ := re.same sx
          have vl := len_p pv
          refine ⟨rfl, ?_⟩
          unfold tYes
          refine iteT' (b := true) rfl ?_
          refine ⟨_, rfl, bs0[j], rfl, ⟨_, .inl (.inl evs)⟩, fun D4 hD4 => ?_⟩
          refine walk_by (walk_list (xs := vs)) (fun k' Hy => L2.Same Hx Hy ∧ ∃ us, Hy D4 = some (.lst us) ∧ P3 Hy us (sh (-1) (es.take k'))) ⟨same_new hD4, [], upd_same, .nil⟩ (fun k' Hy hk p => .inl (.inl (p.1 _ _ evs))) (fun k' x Hy Hz hk p y => ?_) (fun Hy p => ?_)
          · obtain ⟨sy, us, e4, pu⟩ := p
            obtain ⟨eH, hx⟩ := y
            obtain rfl : Hy = Hz := eH.symm
            obtain ⟨e, he, q4, rfl, eq4⟩ := p_at pv hx
            have lk := (List.getElem?_eq_some_iff.mp he).1
            have ee := (List.getElem?_eq_some_iff.mp he).2
            have eq5 := sy _ _ eq4
            have lu : us.length ≤ 48 := by rw [len_p pu, sh_len, List.length_take]; omega
            have tk : sh (-1) (es.take (k' + 1)) = sh (-1) (es.take k') ++ [(e.1, e.2.1, e.2.2 + -1)] := by
              unfold sh
              rw [take_map_last lk, ee]
            refine ⟨rfl, ?_⟩
            refine iteT' (b := true) rfl ⟨_, rfl, .inr (.inl ⟨q4, _, 0, _, rfl, rfl, .inl (.inl eq5), rfl, _, rfl, .inr (.inl ⟨q4, _, 1, _, rfl, rfl, .inl (.inl eq5), rfl, _, rfl, .inr (.inl ⟨q4, _, 2, _, rfl, rfl, .inl (.inl eq5), rfl, _, _, rfl, rfl, Nat.le_of_ble_eq_true rfl, fun Tn hTn => ?_⟩)⟩)⟩)⟩
            have s9 := same_new (o := .tup [.int (e.1 : Nat), .int (e.2.1 : Nat), .int (e.2.2 - 1)]) hTn
            have e9 := s9 _ _ e4
            refine ⟨us, e9, by rw [sizeLine_eq]; omega, samePut (sy.trans s9) hD4, _, upd_same, ?_⟩
            rw [tk]
            exact p_snoc (p3_st ((Tst.same s9).trans (.lst e9)) pu) ⟨Tn, rfl, by rw [← Int.sub_eq_add_neg]; exact (Tst.lst e9) _ _ upd_same⟩
          · obtain ⟨sy, us, e4, pu⟩ := p
            rw [vl, List.take_length] at pu
            have sxy := sx.trans sy
            have eDy := sy _ _ eD3
            have nD2 : D3 ≠ D4 := ne_of_none eD3 hD4
            have lw : bs.length ≤ 120 := by rw [len_p pb, List.length_map, List.length_take, tabF_len]; omega
            have row : Row3 Hy D4 (sh (-1) es) := ⟨us, e4, pu⟩
            have pa2 : Paired (Row3 Hy) (bs ++ [D4]) (((tabF W isl ws z.cps.toList z.length).take (j + 1)).map (sh (-1))) := by
              rw [take_map_last il2, ees]
              exact p_snoc (pairedMono (fun _ _ => Row3.same sy) pb) row
            have nm : D3 ∉ bs ++ [D4] := fun h => by
              rcases List.mem_append.mp h with h | h
              · exact nD h
              · exact nD2 (List.mem_singleton.mp h)
            have oth : ∀ b o, b ≠ D3 → Hy b = some o → upd Hy D3 (.lst (bs.map V.ref ++ [.ref D4])) b = some o := fun b o nb e => (upd_ne nb).trans e
            refine ⟨_, eDy, by rw [List.length_map, sizeLine_eq]; omega, samePut sxy hD3, bs ++ [D4], by rw [upd_same, List.map_append]; rfl, paired_in pa2 fun b hb es' row => row.but eDy oth fun z => nm (z ▸ hb), nm⟩
        obtain ⟨s11, bs, eD3, pb, nD⟩ := p
        have tabL : Tab3 H11 D3 (shT (-1) W isl ws z.cps.toList z.length) := by
          refine ⟨bs, eD3, ?_⟩
          rw [List.length_map, bl, List.take_length] at pb
          exact pb
        have lowrows : ∀ es ∈ shT (-1) W isl ws z.cps.toList z.length, es.length ≤ 48 := fun es he => by
          obtain ⟨es', he', rfl⟩ := List.mem_map.mp he
          rw [sh_len]
          exact hrows es' he'
        have ev11 := ev10.same s11
        have yesL : (Lb.all fun b => decide (least - 1 ≤ b + -1)) = true := by
          rw [List.all_eq_true]
          intro b hb'
          have := lle b hb'
          exact decide_eq_true (by omega)
        have nopeL : (Lb.all fun b => decide (least ≤ b + -1)) = false := by
          rw [List.all_eq_false]
          exact ⟨least, lm, by rw [decide_eq_true_eq]; omega⟩
        refine ⟨_, rfl, _, rfl, _, _, rfl, rfl, Nat.le_of_ble_eq_true rfl, fun q3 h_q3 => ?_⟩
        generalize hH12 : upd H11 q3 (.tup _) = H12
        have s_q3 : L2.Same H11 H12 := by rw [← hH12]; exact same_new h_q3
        have e_q3 : H12 q3 = some (.tup ([least, least - 1].map V.int)) := by rw [← hH12]; exact upd_same
        clear hH12
        have ev12 := ev11.same s_q3
        have tabL' : Tab3 H12 D3 _ := tabL.same s_q3
        refine ⟨q3, rfl, ⟨_, .inl (.inl e_q3)⟩, fun D4 hD4 => ?_⟩
        refine goals_by (T := T) (gs := [least, least - 1]) (b := fun g' => shB W isl ws z g' (shT (-1) W isl ws z.cps.toList z.length)) e_q3 ev12.kx.1 hD4 (Nat.le_of_ble_eq_true rfl) (fun Nx g' H' k' h => ?_) (fun Hg kg eg => ?_)
        · have ev' := ev12.kep k'
          refine ⟨rfl, ?_⟩
          unfold tYes
          refine iteT' (b := true) rfl ⟨_, rfl, _, rfl, _, rfl, _, rfl, a, D3, m, l, dm, _, W, ws, z, g', _, rfl, ev'.bn, htx, k'.tab3 ev12.kx.1 tabL', lowrows, ev'.kx.1, fun H9 k9 => ?_⟩
          rw [hb]
          exact h H9 k9
        have eg' : Hg D4 = some (.lst (([false, true] : List Bool).map V.bl)) := by
          rw [eg]
          simp only [List.map_cons, List.map_nil, shL, yesL, nopeL]
        clear eg
        refine ⟨Nat.le_of_ble_eq_true rfl, fun l_q3 hl_q3 => ⟨.list (([false, true] : List Bool).map PyData.bool), .list (([false, true] : List Bool).map PyData.bool), .lst (.inl (.inl (same_new hl_q3 _ _ eg'))) (dpBools _), .lst (.inl (.inl upd_same)) (dpBools [false, true]), rfl, rfl, _, rfl, iteF' rfl ?_⟩⟩
        exact ⟨⟨some (.int least), some (.int far), some (.ref D3), rfl⟩, (ev12.kep kg).same (same_new hl_q3)⟩
    rintro σ H5 ⟨⟨v8, v9, v11, rfl⟩, ev5⟩
    refine ⟨_, rfl, _, rfl, z, rfl, zsz, t, _, n + 1, rfl, ev5.tp, by omega, by omega, by omega, fun d H6 d0 dm tp6 b6 => ?_⟩
    have ev6 := ev5.tick tp6 b6
    obtain ⟨k, rfl⟩ := Int.eq_ofNat_of_zero_le d0
    have kz : k < z.length := by omega
    clear d0 dm tp6 b6 ev5
    have hes := hcs k
    have hbd := bds_row (cl := isl) (cs := z.cps.toList) hw g.n6 g.w8 k
    have shr : Shw (rowDt (rowF W isl ws z.cps.toList k)) 192 2 := shw_row hes g.n6 g.w8 hbd (by omega)
    -- the k-th row of the table
    have rowk : ∀ {Hx : Hp}, Tab3 Hx r (tabF W isl ws z.cps.toList z.length) → ∃ (bs : List Addr) (rk : Addr), Hx r = some (.lst (bs.map V.ref)) ∧ bs.length = z.length ∧ bs[k]? = some rk ∧ Paired (Row3 Hx) bs (tabF W isl ws z.cps.toList z.length) ∧ atI (bs.map V.ref) (k : Nat) = some (.ref rk) ∧ Row3 Hx rk (rowF W isl ws z.cps.toList k) := fun {Hx} tb => by
      obtain ⟨bs, er, pr⟩ := tb
      have bl := len_p pr
      rw [tabF_len] at bl
      have lk : k < bs.length := by omega
      obtain ⟨es, hes, re⟩ := p_at pr (List.getElem?_eq_getElem lk)
      rw [tab_at kz] at hes
      cases hes
      exact ⟨bs, _, er, bl, List.getElem?_eq_getElem lk, pr, atI_nat (by rw [List.getElem?_map, List.getElem?_eq_getElem lk]; rfl), re⟩
    refine ⟨fun σ Hx => (∃ v6 v10 v13 v14 v15, σ = [some (.ref t), some (.ref wl), some (.str z), some (.bl isl), some (.ref a), some (.ref r), v6, some (.ref D), v8, v9, v10, v11, some (.int (k : Nat)), v13, v14, v15, none]) ∧ Ev T C B H t a r wl m l dm (bandI isl) W ws (tabF W isl ws z.cps.toList z.length) Hx (n + 100), ?_, ?_⟩
    · obtain ⟨bs, rk, er, bl, hbk, pr, hatk, rek⟩ := rowk ev6.tab
      refine ⟨_, rfl, _, rfl, .inl ⟨r, _, _, _, rfl, rfl, .inl (.inl er), hatk, Nat.zero_le _, fun l0 hl0 => ?_⟩⟩
      have s7 := same_new (o := .lst []) hl0
      have e7 : upd H6 l0 (.lst []) l0 = some (.lst []) := upd_same
      generalize upd H6 l0 (.lst []) = H7 at s7 e7 ⊢
      have ev7 := ev6.same s7
      have re7 := rek.same s7
      refine ⟨_, .list [], re7.dp, .lst (.inl (.inl e7)) .nil, shaped_row _, rfl, _, rfl, ?_⟩
      generalize hLk : rowF W isl ws z.cps.toList k = Lk at re7 hes
      clear shr hbd
      cases hE : Lk with
      | nil => exact iteF' rfl ⟨⟨none, none, none, none, none, rfl⟩, ev7.mono (by omega)⟩
      | cons x0 xr =>
        refine iteT' rfl ?_
        have lkp : 0 < Lk.length := by rw [hE]; simp
        obtain ⟨vs, evs, pv⟩ := id re7
        have vl := len_p pv
        have l48 := hes.len
        refine ⟨_, rfl, _, rfl, _, rfl, .inl ⟨r, _, _, _, rfl, rfl, .inl (.inl (s7 _ _ er)), hatk, rk, _, rfl, .inl (.inl (.inl evs)), t, _, n + 1 + 1, rfl, ev7.tp, by omega, by omega, by omega, fun d3 H8 d30 d3m tp8 b8 => ?_⟩⟩
        have ev8 := ev7.tick tp8 b8
        obtain ⟨sp, rfl⟩ := Int.eq_ofNat_of_zero_le d30
        have spl : sp < Lk.length := by omega
        obtain ⟨qe, hqe, eqe⟩ : ∃ qe, vs[sp]? = some (.ref qe) ∧ H8 qe = some (.tup [.int (Lk[sp]).1, .int (Lk[sp]).2.1, .int (Lk[sp]).2.2]) := by
          have lv : sp < vs.length := by omega
          obtain ⟨e, he, q, e1, e2⟩ := p_at pv (List.getElem?_eq_getElem lv)
          have ee := (List.getElem?_eq_some_iff.mp he).2
          exact ⟨q, by rw [List.getElem?_eq_getElem lv, e1], by rw [ee]; exact (ev7.tp.tst b8) _ _ e2⟩
        have re8 : Row3 H8 rk Lk := re7.bt ev7.tp b8
        obtain ⟨bs', rk', er8, bl', hbk', pr8, hatk', rek'⟩ := rowk ev8.tab
        have ebs : bs' = bs := by
          have h1 := (b8 r (ev7.tab.nt ev7.tp)).trans (s7 _ _ er)
          rw [er8] at h1
          have h2 := HO.lst.inj (Option.some.inj h1)
          exact map_ref_inj h2
        subst ebs
        have hvs8 : H8 rk = some (.lst vs) := (b8 rk (re7.nt ev7.tp)).trans evs
        have hats : atI vs (sp : Nat) = some (.ref qe) := atI_nat hqe
        refine ⟨_, rfl, _, rfl, .inl ⟨r, _, _, _, rfl, rfl, .inl (.inl er8), hatk, _, rfl, .inl ⟨rk, vs, _, _, rfl, rfl, .inl (.inl hvs8), hats, _, rfl, _, rfl, .inl ⟨r, _, _, _, rfl, rfl, .inl (.inl er8), hatk, _, _, rfl, ?_⟩⟩⟩⟩
        refine ⟨_, rfl, _, rfl, _, rfl, rk, vs, rfl, .inl (.inl hvs8), fun p1 hp1 => ?_⟩
        rw [cutV_hi]
        have s9 := same_new (o := .lst (vs.take sp)) hp1
        have e9 : upd H8 p1 (.lst (vs.take sp)) p1 = some (.lst (vs.take sp)) := upd_same
        have p1t : p1 ≠ t := Ne.symm (ev8.tp.ne hp1)
        generalize upd H8 p1 (.lst (vs.take sp)) = H9 at s9 e9 ⊢
        have ev9 := ev8.same s9
        have eqe9 := s9 _ _ eqe
        refine ⟨_, rfl, .inr (.inl ⟨qe, _, 0, _, rfl, rfl, .inl (.inl eqe9), rfl, _, rfl, .inr (.inl ⟨qe, _, 1, _, rfl, rfl, .inl (.inl eqe9), rfl, _, rfl, .inr (.inl ⟨qe, _, 2, _, rfl, rfl, .inl (.inl eqe9), rfl, _, _, rfl, rfl, _, rfl, t, 3, _, rfl, ev9.tp, by omega, by decide, by decide, fun d4 H10 d40 d43 tp10 b10 => ?_⟩)⟩)⟩)⟩
        have ev10 := ev9.tick tp10 b10
        have e10 := (b10 p1 p1t).trans e9
        have st10 : Tst H9 H10 := ev9.tp.tst b10
        have hvs10 : H10 rk = some (.lst vs) := (b10 rk ((re8.same s9).nt ev9.tp)).trans (s9 _ _ hvs8)
        have re10 : Row3 H10 rk Lk := (re8.same s9).bt ev9.tp b10
        obtain ⟨_, evs', pv10⟩ := id re10
        rw [hvs10] at evs'
        cases evs'
        refine ⟨_, _, rfl, rfl, Nat.le_of_ble_eq_true rfl, fun qh hqh => ⟨Nat.le_of_ble_eq_true rfl, fun lh hlh => ?_⟩⟩
        have s11 := same_new (o := .tup [.int (Lk[sp]).1, .int (Lk[sp]).2.1, .int ((Lk[sp]).2.2 + 1 + d4)]) hqh
        have e11 : upd H10 qh (.tup [.int (Lk[sp]).1, .int (Lk[sp]).2.1, .int ((Lk[sp]).2.2 + 1 + d4)]) qh = some (.tup [.int (Lk[sp]).1, .int (Lk[sp]).2.1, .int ((Lk[sp]).2.2 + 1 + d4)]) := upd_same
        generalize upd H10 qh (.tup [.int (Lk[sp]).1, .int (Lk[sp]).2.1, .int ((Lk[sp]).2.2 + 1 + d4)]) = H11 at s11 e11 hlh ⊢
        have s12 := same_new (o := .lst [.ref qh]) hlh
        have e12 : upd H11 lh (.lst [.ref qh]) lh = some (.lst [.ref qh]) := upd_same
        generalize upd H11 lh (.lst [.ref qh]) = H12 at s12 e12 ⊢
        have s1012 := s11.trans s12
        have sp1 : ((sp : Nat) : Int) + 1 = ((sp + 1 : Nat) : Int) := by omega
        have k1' : ((k : Nat) : Int) + 1 = ((k + 1 : Nat) : Int) := by omega
        have ltk : (vs.take sp).length ≤ 48 := by rw [List.length_take]; omega
        have ldr : (vs.drop (sp + 1)).length ≤ 48 := by rw [List.length_drop]; omega
        have hvs12 := s1012 _ _ hvs10
        refine ⟨p1, lh, _, _, rfl, rfl, s1012 _ _ e10, e12, by rw [sizeLine_eq]; simp only [List.length_cons, List.length_nil]; omega, fun c1 hc1 => ?_⟩
        generalize hE_ : upd H12 c1 (.lst _) = H13
        have s13 : L2.Same H12 H13 := by rw [← hE_]; exact same_new hc1
        have e13 : H13 c1 = some (.lst (vs.take sp ++ [.ref qh])) := by rw [← hE_]; exact upd_same
        clear hE_
        refine ⟨_, rfl, _, rfl, _, _, rfl, rfl, _, rfl, rk, vs, rfl, .inl (.inl (s13 _ _ hvs12)), fun p2 hp2 => ?_⟩
        rw [sp1, cutV_lo]
        generalize hE_ : upd H13 p2 (.lst _) = H14
        have s14 : L2.Same H13 H14 := by rw [← hE_]; exact same_new hp2
        have e14 : H14 p2 = some (.lst (vs.drop (sp + 1))) := by rw [← hE_]; exact upd_same
        clear hE_
        refine ⟨c1, p2, _, _, rfl, rfl, s14 _ _ e13, e14, by rw [sizeLine_eq, List.length_append]; simp only [List.length_cons, List.length_nil]; omega, fun c2 hc2 => ?_⟩
        generalize hE_ : upd H14 c2 (.lst _) = H15
        have s15 : L2.Same H14 H15 := by rw [← hE_]; exact same_new hc2
        have e15 : H15 c2 = some (.lst ((vs.take sp ++ [.ref qh]) ++ vs.drop (sp + 1))) := by rw [← hE_]; exact upd_same
        clear hE_
        have s1215 := (s13.trans s14).trans s15
        have hvs15 := s1215 _ _ hvs12
        refine ⟨_, rfl, _, rfl, _, rfl, _, rfl, rk, vs, rfl, .inl (.inl hvs15), fun p3 hp3 => ?_⟩
        rw [cutV_hi]
        generalize hE_ : upd H15 p3 (.lst _) = H16
        have s16 : L2.Same H15 H16 := by rw [← hE_]; exact same_new hp3
        have e16 : H16 p3 = some (.lst (vs.take sp)) := by rw [← hE_]; exact upd_same
        clear hE_
        refine ⟨_, rfl, _, rfl, _, _, rfl, rfl, _, rfl, rk, vs, rfl, .inl (.inl (s16 _ _ hvs15)), fun p4 hp4 => ?_⟩
        rw [sp1, cutV_lo]
        generalize hE_ : upd H16 p4 (.lst _) = H17
        have s17 : L2.Same H16 H17 := by rw [← hE_]; exact same_new hp4
        have e17 : H17 p4 = some (.lst (vs.drop (sp + 1))) := by rw [← hE_]; exact upd_same
        clear hE_
        refine ⟨p3, p4, _, _, rfl, rfl, s17 _ _ e16, e17, by rw [sizeLine_eq]; omega, fun c3 hc3 => ⟨Nat.le_of_ble_eq_true rfl, fun lo hlo => ?_⟩⟩
        generalize hE0 : upd H17 c3 (.lst _) = H18 at hlo ⊢
        have s18 : L2.Same H17 H18 := by rw [← hE0]; exact same_new hc3
        have e18 : H18 c3 = some (.lst (vs.take sp ++ vs.drop (sp + 1))) := by rw [← hE0]; exact upd_same
        clear hE0
        generalize hE_ : upd H18 lo (.lst _) = H19
        have s19 : L2.Same H18 H19 := by rw [← hE_]; exact same_new hlo
        have e19 : H19 lo = some (.lst [.ref c2, .ref c3]) := by rw [← hE_]; exact upd_same
        clear hE_
        have s1519 := ((s16.trans s17).trans s18).trans s19
        have s1019 := (s1012.trans s1215).trans s1519
        have ev19 := ev10.same s1019
        have pv19 : P3 H19 vs Lk := p3_st (.same s1019) pv10
        have tq : T3 H19 (.ref qh) ((Lk[sp]).1, (Lk[sp]).2.1, (Lk[sp]).2.2 + 1 + d4) := ⟨qh, rfl, (((s12.trans s1215).trans s1519)) _ _ e11⟩
        have others : ∀ (j : Nat) (x : V), ([V.ref c2, V.ref c3] : List V)[j]? = some x → ∃ (o : Addr) (es' : List En), x = .ref o ∧ Row3 H19 o es' ∧ es'.length ≤ 48 ∧ ∀ e' ∈ es', e'.1 = (Lk[sp]).1 → e'.2.1 = (Lk[sp]).2.1 → (Lk[sp]).2.2 < e'.2.2 := fun j x hx => by
          have key := rem_key hes.asc spl
          match j, hx with
          | 0, hx =>
            cases hx
            refine ⟨c2, (Lk.take sp ++ [((Lk[sp]).1, (Lk[sp]).2.1, (Lk[sp]).2.2 + 1 + d4)]) ++ Lk.drop (sp + 1), rfl, ⟨_, s1519 _ _ e15, pairedAppend (p_snoc (p_take pv19 sp) tq) (p_drop pv19 (sp + 1))⟩, ?_, fun e' he' h1 h2 => ?_⟩
            · simp only [List.length_append, List.length_take, List.length_drop, List.length_cons, List.length_nil]
              omega
            · rcases List.mem_append.mp he' with he' | he'
              · rcases List.mem_append.mp he' with he' | he'
                · exact absurd ⟨h1, h2⟩ (key e' (List.mem_append_left _ he'))
                · rw [List.mem_singleton.mp he']
                  show (Lk[sp]).2.2 < (Lk[sp]).2.2 + 1 + d4
                  omega
              · exact absurd ⟨h1, h2⟩ (key e' (List.mem_append_right _ he'))
          | 1, hx =>
            cases hx
            refine ⟨c3, Lk.take sp ++ Lk.drop (sp + 1), rfl, ⟨_, s19 _ _ e18, pairedAppend (p_take pv19 sp) (p_drop pv19 (sp + 1))⟩, ?_, fun e' he' h1 h2 => absurd ⟨h1, h2⟩ (key e' he')⟩
            simp only [List.length_append, List.length_take, List.length_drop]
            omega
          | j + 2, hx => simp at hx
        have er19 : H19 r = some (.lst (bs'.map V.ref)) := s1019 _ _ ((b10 r ((ev8.same s9).tab.nt ev9.tp)).trans (s9 _ _ er8))
        have pr19 : Paired (Row3 H19) bs' (tabF W isl ws z.cps.toList z.length) := by
          obtain ⟨bs2, e2, p2⟩ := ev19.tab
          rw [er19] at e2
          have := map_ref_inj (HO.lst.inj (Option.some.inj e2))
          subst this
          exact p2
        have nm : Lk[sp] ∈ rowF W isl ws z.cps.toList k := hLk ▸ List.getElem_mem spl
        have lbk : k < bs'.length := by omega
        refine ⟨lo, rfl, ⟨_, .inl (.inl e19)⟩, for_list (xs := [.ref c2, .ref c3]) (fun j σ Hx => (∃ v15, σ = [some (.ref t), some (.ref wl), some (.str z), some (.bl isl), some (.ref a), some (.ref r), some (.ref qe), some (.ref D), v8, v9, some (.ref rk), v11, some (.int (k : Nat)), some (.int (sp : Nat)), some (.ref c2), v15, none]) ∧ Kep T H19 Hx) ⟨⟨none, rfl⟩, .refl ev19.kx.1⟩ (fun j σ Hx hj p => .inl (.inl (p.2.lst ev19.kx.1 e19))) (fun j x σ Hx hx p => ?_) (fun σ Hx p => ?_)⟩
        · obtain ⟨⟨v15, rfl⟩, kx⟩ := p
          obtain ⟨o, es', rfl, ro, lo48, bad⟩ := others j x hx
          have hTs := ev19.kx.1
          have evx := ev19.kep kx
          have erx := kx.lst hTs er19
          have lbs : (bs'.map V.ref).length ≤ 120 := by rw [List.length_map]; omega
          refine ⟨_, rfl, _, rfl, _, _, rfl, rfl, by unfold CPow; decide, _, _, rfl, rfl, _, rfl, _, rfl, _, rfl, r, _, rfl, .inl (.inl erx), fun p5 hp5 => ?_⟩
          rw [cutV_hi]
          generalize hE_ : upd Hx p5 (.lst _) = H20
          have s20 : L2.Same Hx H20 := by rw [← hE_]; exact same_new hp5
          have e20 : H20 p5 = some (.lst ((bs'.map V.ref).take k)) := by rw [← hE_]; exact upd_same
          clear hE_
          refine ⟨_, rfl, Nat.le_of_ble_eq_true rfl, fun l6 hl6 => ?_⟩
          generalize hE_ : upd H20 l6 (.lst _) = H21
          have s21 : L2.Same H20 H21 := by rw [← hE_]; exact same_new hl6
          have e21 : H21 l6 = some (.lst [.ref o]) := by rw [← hE_]; exact upd_same
          clear hE_
          refine ⟨p5, l6, _, _, rfl, rfl, s21 _ _ e20, e21, by rw [sizeLine_eq, List.length_take]; simp only [List.length_cons, List.length_nil]; omega, fun c7 hc7 => ?_⟩
          generalize hE_ : upd H21 c7 (.lst _) = H22
          have s22 : L2.Same H21 H22 := by rw [← hE_]; exact same_new hc7
          have e22 : H22 c7 = some (.lst ((bs'.map V.ref).take k ++ [.ref o])) := by rw [← hE_]; exact upd_same
          clear hE_
          refine ⟨_, rfl, _, rfl, _, _, rfl, rfl, _, rfl, r, _, rfl, .inl (.inl (s22 _ _ (s21 _ _ (s20 _ _ erx)))), fun p8 hp8 => ?_⟩
          rw [k1', cutV_lo]
          generalize hE_ : upd H22 p8 (.lst _) = H23
          have s23 : L2.Same H22 H23 := by rw [← hE_]; exact same_new hp8
          have e23 : H23 p8 = some (.lst ((bs'.map V.ref).drop (k + 1))) := by rw [← hE_]; exact upd_same
          clear hE_
          refine ⟨c7, p8, _, _, rfl, rfl, s23 _ _ e22, e23, by rw [sizeLine_eq, List.length_append, List.length_take, List.length_drop]; simp only [List.length_cons, List.length_nil]; omega, fun c9 hc9 => ?_⟩
          generalize hE_ : upd H23 c9 (.lst _) = H24
          have s24 : L2.Same H23 H24 := by rw [← hE_]; exact same_new hc9
          have e24 : H24 c9 = some (.lst (((bs'.map V.ref).take k ++ [.ref o]) ++ (bs'.map V.ref).drop (k + 1))) := by rw [← hE_]; exact upd_same
          clear hE_
          have s2024 := (((s20.trans s21).trans s22).trans s23).trans s24
          have k24 := kx.sameT s2024
          have ev24 := ev19.kep k24
          have pr24 : Paired (Row3 H24) bs' (tabF W isl ws z.cps.toList z.length) := pairedMono (fun _ _ r => Kep.row3 k24 hTs r) pr19
          have ro24 : Row3 H24 o es' := k24.row3 hTs ro
          have hA : ((tabF W isl ws z.cps.toList z.length).take k).length = k := by rw [List.length_take, tabF_len]; omega
          have tab24 : Tab3 H24 c9 (((tabF W isl ws z.cps.toList z.length).take k ++ [es']) ++ (tabF W isl ws z.cps.toList z.length).drop (k + 1)) := by
            refine ⟨(bs'.take k ++ [o]) ++ bs'.drop (k + 1), ?_, pairedAppend (p_snoc (p_take pr24 k) ro24) (p_drop pr24 (k + 1))⟩
            rw [e24, List.map_append, List.map_append, List.map_take, List.map_drop]
            rfl
          have len24 : ∀ es ∈ ((tabF W isl ws z.cps.toList z.length).take k ++ [es']) ++ (tabF W isl ws z.cps.toList z.length).drop (k + 1), es.length ≤ 48 := fun es he => by
            rcases List.mem_append.mp he with he | he
            · rcases List.mem_append.mp he with he | he
              · exact hrows es (List.mem_of_mem_take he)
              · rw [List.mem_singleton.mp he]; exact lo48
            · exact hrows es (List.mem_of_mem_drop he)
          refine ⟨a, c9, m, l, dm, _, W, ws, z, _, _, rfl, ev24.bn, htx, tab24, len24, ev24.kx.1, fun H25 k25 => ?_⟩
          have g1 : ((((tabF W isl ws z.cps.toList z.length).take k ++ [es']) ++ (tabF W isl ws z.cps.toList z.length).drop (k + 1))).getD k [] = es' := by
            rw [List.getD_eq_getElem?_getD, List.getElem?_append_left (by rw [List.length_append, hA]; simp), List.getElem?_append_right (by omega), hA, Nat.sub_self]
            rfl
          have g2 : k = 0 ∨ ((((tabF W isl ws z.cps.toList z.length).take k ++ [es']) ++ (tabF W isl ws z.cps.toList z.length).drop (k + 1))).getD (k - 1) [] = rowF W isl ws z.cps.toList (k - 1) := by
            by_cases k0 : k = 0
            · exact .inl k0
            · refine .inr ?_
              rw [List.getD_eq_getElem?_getD, List.getElem?_append_left (by rw [List.length_append, hA]; omega), List.getElem?_append_left (by omega), List.getElem?_take, if_pos (by omega), tab_at (by omega)]
              rfl
          rw [hb, shB_bad (k := k) (n := Lk[sp]) (by rw [List.length_append, List.length_append, hA]; simp; omega) g2 nm (by rw [g1]; exact bad)]
          exact ⟨_, _, rfl, rfl, _, rfl, iteF' rfl ⟨⟨_, rfl⟩, k24.trans k25⟩⟩
        · obtain ⟨⟨v15, rfl⟩, kx⟩ := p
          exact ⟨⟨some (.ref qe), some (.ref rk), some (.int (sp : Nat)), some (.ref c2), v15, rfl⟩, (ev19.kep kx).mono (by omega)⟩
    rintro σ H9 ⟨⟨v6, v10, v13, v14, v15, rfl⟩, ev9⟩
    have sw : Shw (tabDt (tabF W isl ws z.cps.toList z.length)) 23160 3 := shw_tabF hw g.n6 g.w8 z2
    refine ⟨_, rfl, _, rfl, a, m, l, dm, bandI isl, W, ws, .str z, rfl, ev9.bn, ev9.kx.1, .inl ⟨z, rfl, zsz, fun _ r9 H10 hr9 k10 tab => ?_, fun hf => by rw [htx] at hf; cases hf⟩⟩
    rw [hb] at tab
    have ev10 := ev9.kep k10
    refine ⟨r9, _, rfl, tab.dp, sw.s, sw.h, Nat.le_trans sw.dep (by decide), sw.len (by decide), ?_⟩
    refine ⟨_, rfl, r, _, rfl, ev10.tab.dp, sw.s, sw.h, Nat.le_trans sw.dep (by decide), sw.len (by decide), rfl, ?_⟩
    have := q H10 ev10.kx ev10.tp
    rw [decide_eq_true rfl]
    exact this
end
end Ov

set_option Elab.async false
set_option linter.all false
set_option maxRecDepth 100000
set_option maxHeartbeats 400000
/-! the table of 'ab' * 60 under ab, ba -/
namespace Ov
open PySem PySem.Spec PyProof.Rows L2 GxR
def zAB : Str := ⟨(List.replicate (60 : Int).toNat ("ab" : Str).cps.toList).flatten.toArray⟩
def wAB : List Str := ["ab", "ba"]
def csAB : List Nat := zAB.cps.toList
theorem zAB_len : zAB.length = 120 := by decide +kernel
theorem zAB_low : lowB zAB = true := by decide +kernel
theorem csAB_at : ∀ k, k < 120 → csAB.getD k 0 = if k % 2 = 0 then 97 else 98 := by decide +kernel
theorem rows_ab : ∀ m, m ≤ 58 → rowF 2 true wAB csAB (2 * m + 1) = sh m [(0, 1, 1), (1, 0, 2)] ∧ rowF 2 true wAB csAB (2 * m + 2) = sh m [(0, 0, 2), (1, 1, 2)]
  | 0, _ => by decide +kernel
  | m + 1, h => by
    have ih := (rows_ab m (by omega)).2
    have c1 : csAB.getD (2 * m + 2 + 1) 0 = 98 := by rw [csAB_at _ (by omega), if_neg (by omega)]
    have c2 : csAB.getD (2 * m + 2 + 1 + 1) 0 = 97 := by rw [csAB_at _ (by omega), if_pos (by omega)]
    have n1 : nextF 2 wAB [(0, 0, 2), (1, 1, 2)] 98 = sh 1 [(0, 1, 1), (1, 0, 2)] := by decide +kernel
    have n2 : nextF 2 wAB [(0, 1, 1), (1, 0, 2)] 97 = [(0, 0, 2), (1, 1, 2)] := by decide +kernel
    have r1 : rowF 2 true wAB csAB (2 * m + 2 + 1) = sh ((m + 1 : Nat) : Int) [(0, 1, 1), (1, 0, 2)] := by
      show nextF 2 wAB (rowF 2 true wAB csAB (2 * m + 2)) (csAB.getD (2 * m + 2 + 1) 0) = _
      rw [ih, c1, nextF_sh, n1, sh_sh]
      congr 1
      omega
    refine ⟨r1, ?_⟩
    show nextF 2 wAB (rowF 2 true wAB csAB (2 * m + 2 + 1)) (csAB.getD (2 * m + 2 + 1 + 1) 0) = _
    rw [r1, c2, nextF_sh, n2]
theorem rowAB_last : rowF 2 true wAB csAB 119 = [(0, 1, 60), (1, 0, 61)] := by
  have h := (rows_ab 58 (by decide)).2
  have n1 : nextF 2 wAB [(0, 0, 2), (1, 1, 2)] 98 = sh 1 [(0, 1, 1), (1, 0, 2)] := by decide +kernel
  have c1 : csAB.getD 119 0 = 98 := by rw [csAB_at 119 (by decide)]; rfl
  show nextF 2 wAB (rowF 2 true wAB csAB (2 * 58 + 2)) (csAB.getD 119 0) = _
  rw [h, c1, nextF_sh, n1, sh_sh]
  rfl
theorem rowAB_ne : ∀ k, k < 120 → rowF 2 true wAB csAB k ≠ [] := fun k hk => by
  by_cases k9 : k = 119
  · rw [k9, rowAB_last]
    simp
  cases k with
  | zero => decide +kernel
  | succ k =>
    have : k % 2 = 0 ∨ k % 2 = 1 := by omega
    rcases this with h | h
    · have e : k + 1 = 2 * (k / 2) + 1 := by omega
      rw [e, (rows_ab (k / 2) (by omega)).1]
      unfold sh
      simp
    · have e : k + 1 = 2 * (k / 2) + 2 := by omega
      rw [e, (rows_ab (k / 2) (by omega)).2]
      unfold sh
      simp
end Ov

set_option Elab.async false
set_option linter.all false
set_option maxRecDepth 100000
set_option maxHeartbeats 4000000
/-! the law -/
namespace Ov
open PySem PySem.Spec PyProof.Rows L2 GxR
abbrev NLy : List Str := ["script", "k", "vat", "most", "words", "is_line", "size", "tape", "mark", "item", "at", "one", "row", "other", "goal"]
theorem scLy : FnScope NLy ["script"] (defScope sLy) := ⟨rfl, rfl, rfl, by decide +kernel, rfl, by decide +kernel, by decide +kernel⟩
def spLy (K : PySem.W.Frag) (T : List Addr) : Sp := fun vs H Q _ => ∃ (a : Addr) (ns : List Int), vs = [.ref a] ∧ (∀ p ∈ T, TabG H p) ∧ SqL K H a (ns.map V.int) ∧ ns.length ≤ 63 ∧ ∀ H', Q (.bl true) H'
structure TopY (K : PySem.W.Frag) (mg : Str → Option Value) (fRt : Addr) : Prop where
  gRt : mg "_law_right" = some (.ref fRt)
  kRt : PySem.W.keepIn K (.ref fRt) = true
section
variable {P : Program} {w : World} {K : PySem.W.Frag} {mg : Str → Option Value} {base : Heap} {T : List Addr} {C D DN fLow fText fAre fTape fNext fInks fInit cLow PLow cAre PAre fAg fLa fMk fMd fLe fLi fTo fRt gO pO DTx fHa fLb fSh : Addr} {B : BA}
theorem ok_ly {f : Addr} {fd fdT fdN fdI fdM fdR fdMd fdTo fdS : FuncData} (F : L2.Fun K "law" "law" sLy f fd) (FMd : L2.Fun K "_law_made" "_law_made" sMd fMd fdMd) (MD : FnOk P w K mg base CX0 9 fMd fdMd ["words", "is_line"] (spMd C B T)) (FTo : L2.Fun K "table_of" "table_of" sTo fTo fdTo) (TO : FnOk P w K mg base (L2.CX P w) 6 fTo fdTo ["band", "text"] (spTo K T C B DTx)) (FSh : L2.Fun K "shows" "shows" sSh fSh fdS) (SH : FnOk P w K mg base (L2.CX P w) 6 fSh fdS ["band", "text", "number", "thing"] (spSh T C B)) (XR : TopR K mg fHa fLb fSh) (FT : L2.Fun K "_law_vat" "_law_vat" sTape fTape fdT) (FN : L2.Fun K "_law_sip" "_law_sip" sNext fNext fdN) (FI : L2.Fun K "_law_words" "_law_words" sInks fInks fdI) (FM : L2.Fun K "_law_mark" "_law_mark" sMk fMk fdM)
    (FR : L2.Fun K "_law_right" "_law_right" sRx fRt fdR) (RT : FnG P w K mg base CX0 10 fRt fdR ["vat", "words", "mark", "is_line"] (spRx T)) (X : Txt K mg C fLow fText fAre fTape fNext fInks) (XT : TopT K mg fAg) (XL : TopL K mg fLa fMk fMd fLe fLi fTo) (XW : TopY K mg fRt) (hint : mg "int" = none) :
    FnG P w K mg base CX0 11 f fd ["script"] (spLy K T) := by
  have TT : FnOk P w K mg base CX0 1 fTape fdT ["script", "k"] (spTape K) := ok_tape FT X
  have bT : Binds K fdT ["script", "k"] [] := FT.binds fun _ _ _ _ _ _ us hl => match us, hl with | [_, _], _ => rfl
  have N1 : FnOk P w K mg base CX0 1 fNext fdN ["vat", "size"] spNext := ok_next FN X
  have bN : Binds K fdN ["vat", "size"] [] := FN.binds fun _ _ _ _ _ _ us hl => match us, hl with | [_, _], _ => rfl
  have IK : FnOk P w K mg base CX0 2 fInks fdI ["vat", "wide", "most"] (spInks K) := ok_inks FI FN X hint
  have bI : Binds K fdI ["vat", "wide", "most"] [] := FI.binds fun _ _ _ _ _ _ us hl => match us, hl with | [_, _, _], _ => rfl
  have MK : FnOk P w K mg base CX0 2 fMk fdM ["vat", "words", "size", "is_line"] spMk := ok_mk FM FN X XT
  have bMk : Binds K fdM ["vat", "words", "size", "is_line"] [] := FM.binds fun _ _ _ _ _ _ us hl => match us, hl with | [_, _, _, _], _ => rfl
  have bRt : Binds K fdR ["vat", "words", "mark", "is_line"] [] := FR.binds fun _ _ _ _ _ _ us hl => match us, hl with | [_, _, _, _], _ => rfl
  have bMd : Binds K fdMd ["words", "is_line"] [] := FMd.binds fun _ _ _ _ _ _ us hl => match us, hl with | [_, _], _ => rfl
  have bTo : Binds K fdTo ["band", "text"] [] := FTo.binds fun _ _ _ _ _ _ us hl => match us, hl with | [_, _], _ => rfl
  have bSh : Binds K fdS ["band", "text", "number", "thing"] [] := FSh.binds fun _ _ _ _ _ _ us hl => match us, hl with | [_, _, _, _], _ => rfl
  refine fun_okG F scLy (fun vs H Q E h => ?_) (fun cdv A' outer s H vs Q E hg hr h => ?_)
  · obtain ⟨a, ns, rfl, _⟩ := h
    rfl
  · obtain ⟨a, ns, rfl, hT, hs, hn, q⟩ := h
    have hu : (A'.deeper (envOfC "law" (defScope sLy) s.heap.objs.size f cdv)).units + 64 < cLine := by have := hr.un; omega
    refine ⟨_, (C8.pss_cut (ps_for PassesOwn.never rfl (pi_range1 (by rfl) X.rng (pa_cons (pe_callB (call_max2 rfl) (by rfl) X.max boot_max (pa_cons pe_int (pa_cons (pe_callB (call_min2 rfl) (by rfl) X.min boot_min (pa_cons pe_int (pa_cons (pe_callB call_len_seq (by rfl) X.len boot_len (pa_cons (pv 0) pa_nil)) pa_nil))) pa_nil))) pa_nil)) (pg_name (i := 1) scLy.nd rfl (Or.inl rfl)) (pss_cons (ps_set (i := 2) scLy.nd rfl (.inl rfl) (pe_call TT (hr.mono (by decide)) (by rfl) X.gTape X.kTape bT .nil L2.pass0 (pa_cons (pv 0) (pa_cons (pv 1) pa_nil))))
      (pss_one (ps_for PassesOwn.never rfl (pi_list (pe_slice sl_list (pe_lst (pa_cons pe_int (pa_cons pe_int pa_nil))) po_none (po_some (pe_op op_add pe_int (pe_callTy call_int1 (by rfl) hint (by decide +kernel) (pa_cons (pe_cmpR op_eq (pv 1) pe_int (by rfl)) pa_nil)))))) (pg_name (i := 3) scLy.nd rfl (Or.inl rfl)) (pss_cons (ps_set (i := 4) scLy.nd rfl (.inl rfl) (pe_call IK (hr.mono (by decide)) (by rfl) X.gInks X.kInks bI .nil L2.pass0 (pa_cons (pv 2) (pa_cons (pe_op op_add pe_int (pe_call N1 (hr.mono (by decide)) (by rfl) X.gNext X.kNext bN .nil L2.pass0 (pa_cons (pv 2) (pa_cons pe_int pa_nil)))) (pa_cons pe_int pa_nil)))))
      (pss_cons (ps_set (i := 5) scLy.nd rfl (.inl rfl) (pe_cmpR op_eq (pe_call N1 (hr.mono (by decide)) (by rfl) X.gNext X.kNext bN .nil L2.pass0 (pa_cons (pv 2) (pa_cons pe_int pa_nil))) pe_int (by rfl)))
      (C8.pss_cut (ps_set (i := 6) scLy.nd rfl (.inl rfl) (pe_ix ix_seq (pe_lst (pa_cons (pv 3) (pa_cons (pe_op op_add pe_int (pe_call N1 (hr.mono (by decide)) (by rfl) X.gNext X.kNext bN .nil L2.pass0 (pa_cons (pv 2) (pa_cons (pv 3) pa_nil)))) pa_nil))) (pe_call N1 (hr.mono (by decide)) (by rfl) X.gNext X.kNext bN .nil L2.pass0 (pa_cons (pv 2) (pa_cons pe_int pa_nil))) fun _ _ => rfl))
      (pss_one (ps_if (pt_not (pt_val (pe_callG RT hg (hr.mono (by decide)) (by rfl) XW.gRt XW.kRt bRt L2.pass0 (pa_cons (pv 2) (pa_cons (pv 4) (pa_cons (pe_call MK (hr.mono (by decide)) (by rfl) XL.gMk XL.kMk bMk .nil L2.pass0 (pa_cons (pv 2) (pa_cons (pv 4) (pa_cons (pv 6) (pa_cons (pv 5) pa_nil))))) (pa_cons (pv 5) pa_nil))))))) (pss_one (ps_ret pe_bl)) pss_nil)))))))))
      (pss_cons (ps_asg (pe_tup (pa_cons (pe_call MD (hr.mono (by decide)) (by rfl) XL.gMd XL.kMd bMd .nil L2.pass0 (pa_cons (pe_lst (pa_cons pe_str (pa_cons pe_str pa_nil))) (pa_cons pe_bl pa_nil))) (pa_cons (pe_op op_mulS pe_str pe_int) pa_nil))) (pg_tup rfl (pgs_cons (pg_name (i := 7) scLy.nd rfl (Or.inr rfl)) (pgs_cons (pg_name (i := 8) scLy.nd rfl (Or.inr rfl)) pgs_nil))))
      (pss_cons (ps_set (i := 9) scLy.nd rfl (.inr rfl) (pe_call TO (hr.mono (by decide)) (by rfl) XL.gTo XL.kTo bTo .nil passL (pa_cons (pv 7) (pa_cons (pv 8) pa_nil))))
      (pss_cons (ps_if ((pw_or (pt_cmpR op_ne (pe_callB call_len_seq (by rfl) X.len boot_len (pa_cons (pv 9) pa_nil)) pe_int (by rfl)) (pw_or1 (pt_cmpR (op_neD hu) (pe_lc (own := [("goal", 14)]) (g := gName 14) (tt := tYes) (by rfl) scLy.nd (pi_tup (pe_tup (pa_cons pe_int (pa_cons pe_int pa_nil)))) (blkOk_by (own := [("goal", 14)]) (N := NLy) (sc := defScope sLy) (by decide +kernel)) (fun _ _ _ _ _ => pg_name (i := 14) scLy.nd rfl (Or.inl rfl)) (fun _ _ _ _ _ => pts_nil) (fun _ _ _ _ _ => pe_call SH (hr.mono (by decide)) (by rfl) XR.gSh XR.kSh bSh .nil passL (pa_cons (pv 7) (pa_cons (pv 8) (pa_cons (pv 14) (pa_cons (pv 9) pa_nil)))))) (pe_lst (pa_cons pe_bl (pa_cons pe_bl pa_nil))) (by rfl)))).pt) (pss_one (ps_ret pe_bl)) pss_nil)
      (pss_cons (ps_set (i := 10) scLy.nd rfl (.inl rfl) (pe_call N1 (hr.mono (by decide)) (by rfl) X.gNext X.kNext bN .nil L2.pass0 (pa_cons (pe_call TT (hr.mono (by decide)) (by rfl) X.gTape X.kTape bT .nil L2.pass0 (pa_cons (pv 0) (pa_cons pe_int pa_nil))) (pa_cons pe_int pa_nil))))
      (pss_cons (ps_par (i := 11) (j := 12) rfl scLy.nd rfl rfl (by decide) rfl rfl (pa_cons (pe_ix ix_seq (pe_ix ix_seq (pv 9) (pv 10) fun _ _ => rfl) pe_int fun _ _ => rfl) (pa_cons (pe_ix ix_seq (pv 9) (pv 10) fun _ _ => rfl) pa_nil)) (by rfl))
      (pss_cons (ps_for PassesOwn.never rfl (pi_list (pe_lst (pa_cons (pe_op op_cat (pe_lst (pa_cons (pe_tup (pa_cons (pe_ix ix_seq (pv 11) pe_int fun _ _ => rfl) (pa_cons (pe_ix ix_seq (pv 11) pe_int fun _ _ => rfl) (pa_cons (pe_op op_add (pe_ix ix_seq (pv 11) pe_int fun _ _ => rfl) pe_int) pa_nil)))) pa_nil)) (pe_slice (show SlR _ (rSlL K) from sl_list) (pv 12) (po_some pe_int) po_none)) (pa_cons (pe_slice (show SlR _ (rSlL K) from sl_list) (pv 12) (po_some pe_int) po_none) pa_nil)))) (pg_name (i := 13) scLy.nd rfl (Or.inl rfl)) (pss_one (ps_if (pt_cmpR op_isnot_bl (pe_call SH (hr.mono (by decide)) (by rfl) XR.gSh XR.kSh bSh .nil passL (pa_cons (pv 7) (pa_cons (pv 8) (pa_cons (pe_op op_sub pe_int (pe_op op_pow pe_int pe_int)) (pa_cons (pe_op op_cat (pe_op op_cat (pe_slice (show SlR _ (rSlL K) from sl_list) (pv 9) po_none (po_some (pv 10))) (pe_lst (pa_cons (pv 13) pa_nil))) (pe_slice (show SlR _ (rSlL K) from sl_list) (pv 9) (po_some (pe_op op_add (pv 10) pe_int)) po_none)) pa_nil))))) pe_bl (by rfl)) (pss_one (ps_ret pe_bl)) pss_nil)))
      (pss_one (ps_ret pe_bl))))))))), ?_⟩
    have wl_ok : ∀ {ws : List Str} {W : Nat}, stampsV (ws.map V.str) = true → (∀ z ∈ ws, z.length = W) → Good ws W := fun {ws W} sv hz => by
      obtain ⟨W', g⟩ := good_of sv
      have e : W' = W := by
        have h1 := (g.all _ (List.getElem_mem g.n1)).1
        rw [hz _ (List.getElem_mem g.n1)] at h1
        exact h1.symm
      exact e ▸ g
    refine ⟨fun σ H' => (∃ v1 v2 v3 v4 v5 v6, σ = [some (.ref a), v1, v2, v3, v4, v5, v6, none, none, none, none, none, none, none, none]) ∧ Kep T H H', ?_, ?_⟩
    · refine ⟨_, rfl, a, _, rfl, .inl hs, _, _, rfl, _, _, rfl, _, rfl, ?_, ?_, ?_⟩
      · rw [List.length_map]; split <;> omega
      · rw [List.length_map]; split <;> (try split) <;> omega
      rw [List.length_map]
      generalize hN : (if (if (ns.length : Int) < 2 then (ns.length : Int) else 2) > 1 then (if (ns.length : Int) < 2 then (ns.length : Int) else 2) else 1) = N
      have N4 : N ≤ 2 := by rw [← hN]; split <;> (try split) <;> omega
      refine for_range (lo := 0) (n := N.toNat) (fun k σ H' => (∃ v1 v2 v3 v4 v5 v6, σ = [some (.ref a), v1, v2, v3, v4, v5, v6, none, none, none, none, none, none, none, none]) ∧ Kep T H H') ⟨⟨_, _, _, _, _, _, rfl⟩, .refl hT⟩ (fun k σ H' hk p => ?_) (fun σ H' p => p)
      obtain ⟨⟨v1, v2, v3, v4, v5, v6, rfl⟩, kH⟩ := p
      refine ⟨_, rfl, _, rfl, a, ns, _, rfl, kH.seqL hT hs, by omega, by omega, fun t H1 ht tp1 but1 => ?_⟩
      have kB : Kep T H' H1 := Kep.btX kH.1 (.refl kH.1) ht but1.bt
      have nt : t ∉ T := tp1.nT kB.1
      refine ⟨Nat.le_of_ble_eq_true rfl, fun l0 hl0 => ?_⟩
      have x0 : KepX T t H1 (upd H1 l0 (.lst [.int 10, .int 24])) := (KepX.refl kB.1).new hl0
      have tp2 := tp1.new (o := .lst [.int 10, .int 24]) hl0
      have e0 : upd H1 l0 (.lst [.int 10, .int 24]) l0 = some (.lst [.int 10, .int 24]) := upd_same
      have tl0 : l0 ≠ t := (tp1.ne hl0).symm
      generalize upd H1 l0 (.lst [.int 10, .int 24]) = H2 at x0 tp2 e0 ⊢
      have dk : decide (V.int (0 + (k : Nat)) = V.int 0) = decide (k = 0) := by rw [Int.zero_add, Bool.eq_iff_iff]; simp
      refine ⟨_, rfl, rfl, .inr ⟨_, rfl, _, _, rfl, rfl, _, rfl, l0, _, rfl, .inl (.inl e0), fun l1 hl1 => ?_⟩⟩
      rw [dk]
      obtain ⟨ms, hms, hm⟩ : ∃ ms : List Int, cutV [V.int 10, V.int 24] none (some (1 + (if decide (k = 0) = true then (1 : Int) else 0))) = ms.map V.int ∧ ∀ m ∈ ms, 1 ≤ m ∧ m ≤ 120 := by
        by_cases k0 : k = 0
        · refine ⟨[10, 24], by rw [decide_eq_true k0]; rfl, fun m hm => ?_⟩
          simp at hm
          omega
        · refine ⟨[10], by rw [decide_eq_false k0]; rfl, fun m hm => ?_⟩
          simp at hm
          omega
      rw [hms]
      have lm : ms.length ≤ 2 := by
        have := congrArg List.length hms
        rw [List.length_map] at this
        rw [← this]
        by_cases k0 : k = 0
        · rw [decide_eq_true k0]; decide
        · rw [decide_eq_false k0]; decide
      have x1 : KepX T t H1 (upd H2 l1 (.lst (ms.map V.int))) := x0.new hl1
      have tp3 := tp2.new (o := .lst (ms.map V.int)) hl1
      have e1 : upd H2 l1 (.lst (ms.map V.int)) l1 = some (.lst (ms.map V.int)) := upd_same
      have tl1 : l1 ≠ t := (tp2.ne hl1).symm
      generalize upd H2 l1 (.lst (ms.map V.int)) = H3 at x1 tp3 e1 ⊢
      clear hms dk x0 tp2 e0
      refine ⟨l1, rfl, ⟨_, .inl (.inl e1)⟩, for_list (xs := ms.map V.int) (fun j σ Hx => (∃ v3 v4 v5 v6, σ = [some (.ref a), some (.int (0 + (k : Nat))), some (.ref t), v3, v4, v5, v6, none, none, none, none, none, none, none, none]) ∧ KepX T t H3 Hx ∧ Tp Hx t (800 * j)) ⟨⟨_, _, _, _, rfl⟩, .refl x1.1, tp3⟩ (fun j σ Hx _ p => .inl (.inl (p.2.1.at x1.1 tl1 e1 fun _ z => by cases z))) (fun j x σ Hx hx p => ?_) (fun σ Hx p => ?_)⟩
      · obtain ⟨⟨v3, v4, v5, v6, rfl⟩, xx, tpx⟩ := p
        have hj : j < ms.length := by have := (List.getElem?_eq_some_iff.mp hx).1; rw [List.length_map] at this; exact this
        obtain ⟨most, rfl, mo1, mo2⟩ : ∃ m : Int, x = .int m ∧ 1 ≤ m ∧ m ≤ 120 := by
          rw [List.getElem?_map, List.getElem?_eq_getElem hj] at hx
          exact ⟨_, (Option.some.inj hx).symm, hm _ (List.getElem_mem hj)⟩
        refine ⟨_, rfl, _, rfl, t, 6, 800 * j, rfl, tpx, by omega, by decide, by decide, fun d1 H4 d10 d18 tp4 b4 => ⟨_, _, rfl, rfl, ?_⟩⟩
        obtain ⟨W, hW⟩ : ∃ W : Nat, 1 + d1 = (W : Int) := ⟨(1 + d1).toNat, by omega⟩
        refine ⟨t, W, 4, 800 * j + 1, congrArg (fun i => [V.ref t, V.int i, V.int 4]) hW, tp4, by omega, by omega, by omega, by decide, by decide, fun wl ws H5 hwl ew sv hz tp5 b5 => ?_⟩
        have g := wl_ok sv hz
        have wt : wl ≠ t := (tp4.ne hwl).symm
        refine ⟨_, rfl, t, 2, 800 * j + 1 + 60, rfl, tp5, by omega, by decide, by decide, fun d2 H6 d20 d22 tp6 b6 => ⟨rfl, ?_⟩⟩
        generalize decide (V.int d2 = V.int 0) = isl
        have x6 : KepX T t H3 H6 := Bt.kxt (Bt.kxt (Bt.kxt xx nt b4.bt) nt b5) nt b6.bt
        have ew6 := (b6 wl wt).trans ew
        refine ⟨fun σ Hy => (∃ size : Nat, σ = [some (.ref a), some (.int (0 + (k : Nat))), some (.ref t), some (.int most), some (.ref wl), some (.bl isl), some (.int (size : Nat)), none, none, none, none, none, none, none, none] ∧ 1 ≤ size ∧ size ≤ 120) ∧ KepX T t H3 Hy ∧ Tp Hy t (800 * j + 70) ∧ Hy wl = some (.lst (ws.map V.str)), ?_, ?_⟩
        · refine ⟨_, rfl, _, rfl, _, rfl, t, most, 800 * j + 62, rfl, tp6, by omega, by omega, by omega, fun d3 H7 d30 d3m tp7 b7 => ⟨_, _, rfl, rfl, Nat.le_of_ble_eq_true rfl, fun l2 hl2 => ?_⟩⟩
          have x8 := (Bt.kxt x6 nt b7.bt).new (o := .lst [.int most, .int (1 + d3)]) hl2
          have tp8 := tp7.new (o := .lst [.int most, .int (1 + d3)]) hl2
          have e8 : upd H7 l2 (.lst [.int most, .int (1 + d3)]) l2 = some (.lst [.int most, .int (1 + d3)]) := upd_same
          have tl2 : l2 ≠ t := (tp7.ne hl2).symm
          have ew8 := (upd_ne (o := .lst [.int most, .int (1 + d3)]) (ne_of_none ((b7 wl wt).trans ew6) hl2)).trans ((b7 wl wt).trans ew6)
          generalize upd H7 l2 (.lst [.int most, .int (1 + d3)]) = H8 at x8 tp8 e8 ew8 ⊢
          refine ⟨_, rfl, t, 2, 800 * j + 63, rfl, tp8, by omega, by decide, by decide, fun d4 H9 d10 d42 tp9 b9 => ?_⟩
          have x9 := Bt.kxt x8 nt b9.bt
          have e9 := (b9 l2 tl2).trans e8
          have ew9 := (b9 wl wt).trans ew8
          obtain ⟨size, hsz, hs1, hs2⟩ : ∃ size : Nat, atI [V.int most, V.int (1 + d3)] d4 = some (.int (size : Nat)) ∧ 1 ≤ size ∧ size ≤ 120 := by
            have : d4 = 0 ∨ d4 = 1 := by omega
            rcases this with rfl | rfl
            · exact ⟨most.toNat, by rw [show ((most.toNat : Nat) : Int) = most by omega]; rfl, by omega, by omega⟩
            · exact ⟨(1 + d3).toNat, by rw [show (((1 + d3).toNat : Nat) : Int) = 1 + d3 by omega]; rfl, by omega, by omega⟩
          exact .inl ⟨l2, _, d4, _, rfl, rfl, .inl (.inl e9), hsz, ⟨size, rfl, hs1, hs2⟩, x9, tp9.mono (by omega), ew9⟩
        rintro σ H10 ⟨⟨size, rfl, hs1, hs2⟩, x10, tp10, ew10⟩
        refine ⟨_, rfl, _, rfl, _, rfl, _, rfl, _, rfl, _, rfl, t, wl, 800 * j + 70, size, W, ws, isl, rfl, tp10, by omega, ew10, wt, g, hs1, hs2, fun z H11 zl zlow tp11 b11 => ?_⟩
        have x11 := Bt.kxt x10 nt b11
        have ew11 := b11 _ _ wt ew10
        refine ⟨_, rfl, t, wl, 800 * j + 70 + 600, ws, W, z, isl, rfl, tp11, by omega, ew11, g, sv, zlow, by omega, by omega, x11.1, fun H12 k12 tp12 => ?_⟩
        refine ⟨_, rfl, iteF ⟨⟨_, _, _, _, rfl⟩, x11.trans k12, tp12.mono (by omega)⟩⟩
      · obtain ⟨⟨v3, v4, v5, v6, rfl⟩, xx, tpx⟩ := p
        refine ⟨⟨_, _, _, _, _, _, rfl⟩, kH.trans ⟨xx.1, fun b o nb e => xx.2 b o nb (ne_of_none e ht) (x1.2 b o nb (ne_of_none e ht) (kB.2 b o nb e))⟩⟩
    rintro σ H1 ⟨⟨v1, v2, v3, v4, v5, v6, rfl⟩, k1⟩
    refine ⟨Nat.le_of_ble_eq_true rfl, fun l1 hl1 => ?_⟩
    generalize hE_ : upd H1 l1 (.lst _) = H2
    have s2 : L2.Same H1 H2 := by rw [← hE_]; exact same_new hl1
    have e2 : H2 l1 = some (.lst (wAB.map V.str)) := by rw [← hE_]; exact upd_same
    clear hE_
    have k2 := k1.sameT s2
    have svAB : stampsV (wAB.map V.str) = true := by decide +kernel
    have gAB : Good wAB 2 := wl_ok svAB (by decide +kernel)
    refine ⟨l1, 2, wAB, true, rfl, e2, gAB, svAB, k2.1, fun ba m l dm H3 bn3 k3 => ?_⟩
    refine ⟨"ab", 60, rfl, rfl, by decide, by decide, by decide +kernel, Nat.le_of_ble_eq_true rfl, fun q0 hq0 => ?_⟩
    have ez : (⟨(List.replicate (60 : Int).toNat ("ab" : Str).cps.toList).flatten.toArray⟩ : Str) = zAB := rfl
    rw [ez]
    clear ez
    generalize hE_ : upd H3 q0 (.tup _) = H4
    have s4 : L2.Same H3 H4 := by rw [← hE_]; exact same_new hq0
    have e4 : H4 q0 = some (.tup [.ref ba, .str zAB]) := by rw [← hE_]; exact upd_same
    clear hE_
    have k4 := (k2.trans k3).sameT s4
    have bn4 := bn3.same s4
    have zl := zAB_len
    have hzl := zAB_low
    have zsz : zAB.length ≤ sizeLine := by rw [sizeLine_eq, zl]; decide
    have htx : textB zAB (cellsN (bandI true) : Nat) = true := by decide +kernel
    have hb : decide (bandI true = 0) = true := rfl
    have hw : ∀ y ∈ wAB, y.length = 2 := fun y hy => (gAB.all y hy).1
    refine ⟨q0, _, rfl, .inl (.inl e4), rfl, _, _, rfl, _, _, rfl, rfl, ?_⟩
    refine ⟨_, rfl, _, rfl, ba, m, l, dm, bandI true, 2, wAB, .str zAB, rfl, bn4, k4.1, .inl ⟨zAB, rfl, zsz, fun _ r H5 hr5 k5 tab5 => ?_, fun hf => by rw [htx] at hf; cases hf⟩⟩
    rw [hb] at tab5
    have k05 := k4.trans k5
    have bn5 := bn4.kep k4.1 k5
    have hT5 := k05.1
    have hrows : ∀ es ∈ (tabF 2 true wAB zAB.cps.toList zAB.length), es.length ≤ 48 := fun es he => (tabF_ok hw gAB.n6 gAB.w8 es he).len
    have shI : ∀ g', shB 2 true wAB zAB g' (tabF 2 true wAB zAB.cps.toList zAB.length) = ([60] : List Int).all fun b => decide (g' ≤ b) := fun g' => by
      rw [← shT_0, shB_sh gAB hzl (by rw [zl]; decide) (Int.le_refl 0), zl]
      have e : rowF 2 true wAB zAB.cps.toList (120 - 1) = [(0, 1, 60), (1, 0, 61)] := rowAB_last
      rw [e]
      simp only [Int.add_zero]
      rfl
    obtain ⟨bs, er, pr⟩ := id tab5
    have bl := len_p pr
    rw [tabF_len, zl] at bl
    refine ⟨_, rfl, r, _, rfl, .inl (.inl (.inl er)), rfl, _, rfl, iteF' (by rw [List.length_map, bl]; rfl) ?_⟩
    refine ⟨Nat.le_of_ble_eq_true rfl, fun q1 h_q1 => ?_⟩
    generalize hE_ : upd H5 q1 (.tup _) = H6
    have s6 : L2.Same H5 H6 := by rw [← hE_]; exact same_new h_q1
    have e_q1 : H6 q1 = some (.tup (([60, 61] : List Int).map V.int)) := by rw [← hE_]; exact upd_same
    clear hE_
    have k56 : Kep T H5 H6 := (Kep.refl hT5).sameT s6
    refine ⟨q1, rfl, ⟨_, .inl (.inl e_q1)⟩, fun D2 hD2 => ?_⟩
    refine goals_by (T := T) (gs := [60, 61]) (b := fun g' => shB 2 true wAB zAB g' (tabF 2 true wAB zAB.cps.toList zAB.length)) e_q1 k56.1 hD2 (by decide) (fun Nx g' H' k' h => ?_) (fun Hg kg eg => ?_)
    · have kk := k56.trans k'
      refine ⟨rfl, ?_⟩
      unfold tYes
      refine iteT' (b := true) rfl ⟨_, rfl, _, rfl, _, rfl, _, rfl, ba, r, m, l, dm, _, 2, wAB, zAB, g', _, rfl, bn5.kep hT5 kk, htx, kk.tab3 hT5 tab5, hrows, kk.1, fun H9 k9 => ?_⟩
      rw [hb]
      exact h H9 k9
    have eg' : Hg D2 = some (.lst (([true, false] : List Bool).map V.bl)) := by
      rw [eg]
      simp only [List.map_cons, List.map_nil, shI]
      rfl
    clear eg
    refine ⟨Nat.le_of_ble_eq_true rfl, fun l_q1 hl_q1 => ⟨.list (([true, false] : List Bool).map PyData.bool), .list (([true, false] : List Bool).map PyData.bool), .lst (.inl (.inl (same_new hl_q1 _ _ eg'))) (dpBools _), .lst (.inl (.inl upd_same)) (dpBools [true, false]), rfl, rfl, _, rfl, iteF' rfl ?_⟩⟩
    have k57 : Kep T H5 (upd Hg l_q1 (.lst [.bl true, .bl false])) := (k56.trans kg).sameT (same_new hl_q1)
    generalize upd Hg l_q1 (.lst [.bl true, .bl false]) = H7 at k57 ⊢
    clear eg' kg hD2 hl_q1 h_q1
    have k07 := k05.trans k57
    refine ⟨_, rfl, a, ns, 0, rfl, k07.seqL hT hs, by decide, by decide, fun t2 H8 ht2 tp8 b8 => ?_⟩
    refine ⟨t2, 120, 0, rfl, tp8, by decide, by decide, by decide, fun d H9 d0 dm' tp9 b9 => ?_⟩
    have k59 : Kep T H5 H9 := k57.trans (Kep.btX k57.1 (Kep.btX k57.1 (.refl k57.1) ht2 b8.bt) ht2 b9.bt)
    clear b8 b9 tp8 tp9 ht2 k57 k07
    obtain ⟨k, rfl⟩ := Int.eq_ofNat_of_zero_le d0
    have kz : k < 120 := by omega
    have er9 := k59.lst hT5 er
    have tab9 := k59.tab3 hT5 tab5
    have pr9 : Paired (Row3 H9) bs (tabF 2 true wAB zAB.cps.toList zAB.length) := pairedMono (fun _ _ r => Kep.row3 k59 hT5 r) pr
    have lbk : k < bs.length := by omega
    have hatk : atI (bs.map V.ref) (k : Nat) = some (.ref bs[k]) := atI_nat (by rw [List.getElem?_map, List.getElem?_eq_getElem lbk]; rfl)
    obtain ⟨Lk, hLk, re9⟩ := p_at pr9 (List.getElem?_eq_getElem lbk)
    rw [tab_at (by rw [zl]; exact kz)] at hLk
    have hLk' := Option.some.inj hLk
    have hes : RowOk wAB 2 Lk := hLk' ▸ row_ok hw gAB.n6 gAB.w8 k
    have l48 := hes.len
    have spl : 0 < Lk.length := by
      rcases Nat.eq_zero_or_pos Lk.length with h | h
      · exact absurd (hLk'.trans (List.length_eq_zero_iff.mp h)) (rowAB_ne k kz)
      · exact h
    obtain ⟨vs, hvs9, pv9⟩ := re9
    have vl := len_p pv9
    obtain ⟨qe, hqe, eqe⟩ : ∃ qe, vs[0]? = some (.ref qe) ∧ H9 qe = some (.tup [.int (Lk[0]).1, .int (Lk[0]).2.1, .int (Lk[0]).2.2]) := by
      have lv : 0 < vs.length := by omega
      obtain ⟨e, he, q, e1, e2⟩ := p_at pv9 (List.getElem?_eq_getElem lv)
      have ee := (List.getElem?_eq_some_iff.mp he).2
      exact ⟨q, by rw [List.getElem?_eq_getElem lv, e1], by rw [ee]; exact e2⟩
    have hats : atI vs 0 = some (.ref qe) := atI_nat (j := 0) hqe
    refine ⟨_, rfl, _, rfl, .inl ⟨r, _, _, _, rfl, rfl, .inl (.inl er9), hatk, .inl ⟨bs[k], vs, 0, _, rfl, rfl, .inl (.inl hvs9), hats, _, rfl, _, rfl, .inl ⟨r, _, _, _, rfl, rfl, .inl (.inl er9), hatk, _, _, rfl, ?_⟩⟩⟩⟩
    refine ⟨_, rfl, .inr (.inl ⟨qe, _, 0, _, rfl, rfl, .inl (.inl eqe), rfl, _, rfl, .inr (.inl ⟨qe, _, 1, _, rfl, rfl, .inl (.inl eqe), rfl, _, rfl, .inr (.inl ⟨qe, _, 2, _, rfl, rfl, .inl (.inl eqe), rfl, _, _, rfl, rfl, Nat.le_of_ble_eq_true rfl, fun qh hqh => ⟨Nat.le_of_ble_eq_true rfl, fun lh hlh => ?_⟩⟩)⟩)⟩)⟩
    generalize hE0 : upd H9 qh (.tup _) = H11 at hlh ⊢
    have s11 : L2.Same H9 H11 := by rw [← hE0]; exact same_new hqh
    have e11 : H11 qh = some (.tup [.int (Lk[0]).1, .int (Lk[0]).2.1, .int ((Lk[0]).2.2 + 1)]) := by rw [← hE0]; exact upd_same
    clear hE0
    generalize hE_ : upd H11 lh (.lst _) = H12
    have s12 : L2.Same H11 H12 := by rw [← hE_]; exact same_new hlh
    have e12 : H12 lh = some (.lst [.ref qh]) := by rw [← hE_]; exact upd_same
    clear hE_
    have s912 := s11.trans s12
    have k1' : ((k : Nat) : Int) + 1 = ((k + 1 : Nat) : Int) := by omega
    have ldr : (vs.drop 1).length ≤ 48 := by rw [List.length_drop]; omega
    refine ⟨_, rfl, _, rfl, bs[k], vs, rfl, .inl (.inl (s912 _ _ hvs9)), fun p2 hp2 => ?_⟩
    rw [cut_tail]
    generalize hE_ : upd H12 p2 (.lst _) = H14
    have s14 : L2.Same H12 H14 := by rw [← hE_]; exact same_new hp2
    have e14 : H14 p2 = some (.lst (vs.drop 1)) := by rw [← hE_]; exact upd_same
    clear hE_
    refine ⟨lh, p2, _, _, rfl, rfl, s14 _ _ e12, e14, by rw [sizeLine_eq]; simp only [List.length_cons, List.length_nil]; omega, fun c2 hc2 => ?_⟩
    generalize hE_ : upd H14 c2 (.lst _) = H15
    have s15 : L2.Same H14 H15 := by rw [← hE_]; exact same_new hc2
    have e15 : H15 c2 = some (.lst ([.ref qh] ++ vs.drop 1)) := by rw [← hE_]; exact upd_same
    clear hE_
    have s1215 := s14.trans s15
    refine ⟨_, rfl, _, rfl, bs[k], vs, rfl, .inl (.inl (s1215 _ _ (s912 _ _ hvs9))), fun c3 hc3 => ⟨Nat.le_of_ble_eq_true rfl, fun lo hlo => ?_⟩⟩
    rw [cut_tail] at hlo ⊢
    generalize hE0 : upd H15 c3 (.lst _) = H18 at hlo ⊢
    have s18 : L2.Same H15 H18 := by rw [← hE0]; exact same_new hc3
    have e18 : H18 c3 = some (.lst (vs.drop 1)) := by rw [← hE0]; exact upd_same
    clear hE0
    generalize hE_ : upd H18 lo (.lst _) = H19
    have s19 : L2.Same H18 H19 := by rw [← hE_]; exact same_new hlo
    have e19 : H19 lo = some (.lst [.ref c2, .ref c3]) := by rw [← hE_]; exact upd_same
    clear hE_
    have s1519 := s18.trans s19
    have s919 := (s912.trans s1215).trans s1519
    have k519 := k59.sameT s919
    have hTs := k519.1
    have bn19 := bn5.kep hT5 k519
    have pv19 : P3 H19 vs Lk := p3_st (.same s919) pv9
    have tq : T3 H19 (.ref qh) ((Lk[0]).1, (Lk[0]).2.1, (Lk[0]).2.2 + 1) := ⟨qh, rfl, ((s12.trans s1215).trans s1519) _ _ e11⟩
    have others : ∀ (j : Nat) (x : V), ([V.ref c2, V.ref c3] : List V)[j]? = some x → ∃ (o : Addr) (es' : List En), x = .ref o ∧ Row3 H19 o es' ∧ es'.length ≤ 48 ∧ ∀ e' ∈ es', e'.1 = (Lk[0]).1 → e'.2.1 = (Lk[0]).2.1 → (Lk[0]).2.2 < e'.2.2 := fun j x hx => by
      have key := rem_key hes.asc spl
      rw [List.take_zero, List.nil_append] at key
      match j, hx with
      | 0, hx =>
        cases hx
        refine ⟨c2, [((Lk[0]).1, (Lk[0]).2.1, (Lk[0]).2.2 + 1)] ++ Lk.drop 1, rfl, ⟨_, s1519 _ _ e15, .cons tq (p_drop pv19 1)⟩, ?_, fun e' he' h1 h2 => ?_⟩
        · simp only [List.length_append, List.length_drop, List.length_cons, List.length_nil]
          omega
        · rcases List.mem_append.mp he' with he' | he'
          · rw [List.mem_singleton.mp he']
            show (Lk[0]).2.2 < (Lk[0]).2.2 + 1
            omega
          · exact absurd ⟨h1, h2⟩ (key e' he')
      | 1, hx =>
        cases hx
        refine ⟨c3, Lk.drop 1, rfl, ⟨_, s19 _ _ e18, p_drop pv19 1⟩, ?_, fun e' he' h1 h2 => absurd ⟨h1, h2⟩ (key e' he')⟩
        rw [List.length_drop]
        omega
      | j + 2, hx => simp at hx
    have er19 : H19 r = some (.lst (bs.map V.ref)) := s919 _ _ er9
    have pr19 : Paired (Row3 H19) bs (tabF 2 true wAB zAB.cps.toList zAB.length) := pairedMono (fun _ _ => Row3.same s919) pr9
    have nm : Lk[0] ∈ rowF 2 true wAB zAB.cps.toList k := hLk' ▸ List.getElem_mem spl
    refine ⟨lo, rfl, ⟨_, .inl (.inl e19)⟩, for_list (xs := [.ref c2, .ref c3]) (fun j σ Hx => (∃ v13, σ = [some (.ref a), v1, v2, v3, v4, v5, v6, some (.ref ba), some (.str zAB), some (.ref r), some (.int (k : Nat)), some (.ref qe), some (.ref bs[k]), v13, none]) ∧ Kep T H19 Hx) ⟨⟨none, rfl⟩, .refl hTs⟩ (fun j σ Hx hj p => .inl (.inl (p.2.lst hTs e19))) (fun j x σ Hx hx p => ?_) (fun σ Hx p => ?_)⟩
    · obtain ⟨⟨v13, rfl⟩, kx⟩ := p
      obtain ⟨o, es', rfl, ro, lo48, bad⟩ := others j x hx
      have erx := kx.lst hTs er19
      have lbs : (bs.map V.ref).length ≤ 120 := by rw [List.length_map]; omega
      refine ⟨_, rfl, _, rfl, _, _, rfl, rfl, by unfold CPow; decide, _, _, rfl, rfl, _, rfl, _, rfl, _, rfl, r, _, rfl, .inl (.inl erx), fun p5 hp5 => ?_⟩
      rw [cutV_hi]
      generalize hE_ : upd Hx p5 (.lst _) = H20
      have s20 : L2.Same Hx H20 := by rw [← hE_]; exact same_new hp5
      have e20 : H20 p5 = some (.lst ((bs.map V.ref).take k)) := by rw [← hE_]; exact upd_same
      clear hE_
      refine ⟨_, rfl, Nat.le_of_ble_eq_true rfl, fun l6 hl6 => ?_⟩
      generalize hE_ : upd H20 l6 (.lst _) = H21
      have s21 : L2.Same H20 H21 := by rw [← hE_]; exact same_new hl6
      have e21 : H21 l6 = some (.lst [.ref o]) := by rw [← hE_]; exact upd_same
      clear hE_
      refine ⟨p5, l6, _, _, rfl, rfl, s21 _ _ e20, e21, by rw [sizeLine_eq, List.length_take]; simp only [List.length_cons, List.length_nil]; omega, fun c7 hc7 => ?_⟩
      generalize hE_ : upd H21 c7 (.lst _) = H22
      have s22 : L2.Same H21 H22 := by rw [← hE_]; exact same_new hc7
      have e22 : H22 c7 = some (.lst ((bs.map V.ref).take k ++ [.ref o])) := by rw [← hE_]; exact upd_same
      clear hE_
      refine ⟨_, rfl, _, rfl, _, _, rfl, rfl, _, rfl, r, _, rfl, .inl (.inl (s22 _ _ (s21 _ _ (s20 _ _ erx)))), fun p8 hp8 => ?_⟩
      rw [k1', cutV_lo]
      generalize hE_ : upd H22 p8 (.lst _) = H23
      have s23 : L2.Same H22 H23 := by rw [← hE_]; exact same_new hp8
      have e23 : H23 p8 = some (.lst ((bs.map V.ref).drop (k + 1))) := by rw [← hE_]; exact upd_same
      clear hE_
      refine ⟨c7, p8, _, _, rfl, rfl, s23 _ _ e22, e23, by rw [sizeLine_eq, List.length_append, List.length_take, List.length_drop]; simp only [List.length_cons, List.length_nil]; omega, fun c9 hc9 => ?_⟩
      generalize hE_ : upd H23 c9 (.lst _) = H24
      have s24 : L2.Same H23 H24 := by rw [← hE_]; exact same_new hc9
      have e24 : H24 c9 = some (.lst (((bs.map V.ref).take k ++ [.ref o]) ++ (bs.map V.ref).drop (k + 1))) := by rw [← hE_]; exact upd_same
      clear hE_
      have s2024 := (((s20.trans s21).trans s22).trans s23).trans s24
      have k24 := kx.sameT s2024
      have pr24 : Paired (Row3 H24) bs (tabF 2 true wAB zAB.cps.toList zAB.length) := pairedMono (fun _ _ r => Kep.row3 k24 hTs r) pr19
      have ro24 : Row3 H24 o es' := k24.row3 hTs ro
      have hA : ((tabF 2 true wAB zAB.cps.toList zAB.length).take k).length = k := by rw [List.length_take, tabF_len, zl]; omega
      have tab24 : Tab3 H24 c9 (((tabF 2 true wAB zAB.cps.toList zAB.length).take k ++ [es']) ++ (tabF 2 true wAB zAB.cps.toList zAB.length).drop (k + 1)) := by
        refine ⟨(bs.take k ++ [o]) ++ bs.drop (k + 1), ?_, pairedAppend (p_snoc (p_take pr24 k) ro24) (p_drop pr24 (k + 1))⟩
        rw [e24, List.map_append, List.map_append, List.map_take, List.map_drop]
        rfl
      have len24 : ∀ es ∈ ((tabF 2 true wAB zAB.cps.toList zAB.length).take k ++ [es']) ++ (tabF 2 true wAB zAB.cps.toList zAB.length).drop (k + 1), es.length ≤ 48 := fun es he => by
        rcases List.mem_append.mp he with he | he
        · rcases List.mem_append.mp he with he | he
          · exact hrows es (List.mem_of_mem_take he)
          · rw [List.mem_singleton.mp he]; exact lo48
        · exact hrows es (List.mem_of_mem_drop he)
      refine ⟨ba, c9, m, l, dm, _, 2, wAB, zAB, _, _, rfl, bn19.kep hTs k24, htx, tab24, len24, k24.1, fun H25 k25 => ?_⟩
      have g1 : ((((tabF 2 true wAB zAB.cps.toList zAB.length).take k ++ [es']) ++ (tabF 2 true wAB zAB.cps.toList zAB.length).drop (k + 1))).getD k [] = es' := by
        rw [List.getD_eq_getElem?_getD, List.getElem?_append_left (by rw [List.length_append, hA]; simp), List.getElem?_append_right (by omega), hA, Nat.sub_self]
        rfl
      have g2 : k = 0 ∨ ((((tabF 2 true wAB zAB.cps.toList zAB.length).take k ++ [es']) ++ (tabF 2 true wAB zAB.cps.toList zAB.length).drop (k + 1))).getD (k - 1) [] = rowF 2 true wAB zAB.cps.toList (k - 1) := by
        by_cases k0 : k = 0
        · exact .inl k0
        · refine .inr ?_
          rw [List.getD_eq_getElem?_getD, List.getElem?_append_left (by rw [List.length_append, hA]; omega), List.getElem?_append_left (by omega), List.getElem?_take, if_pos (by omega), tab_at (by rw [zl]; omega)]
          rfl
      rw [hb, shB_bad (k := k) (n := Lk[0]) (by rw [List.length_append, List.length_append, hA]; simp; omega) g2 nm (by rw [g1]; exact bad)]
      exact ⟨_, _, rfl, rfl, _, rfl, iteF' rfl ⟨⟨_, rfl⟩, k24.trans k25⟩⟩
    · exact q Hx
end
end Ov

set_option Elab.async false
set_option linter.all false
set_option maxRecDepth 100000
set_option maxHeartbeats 4000000
namespace Ov
open PySem PySem.Spec PyProof.Rows L2 GxR
theorem kit_ref {K : PySem.W.Frag} {D C : Addr} {b : Bool} (hi : PySem.W.isClsIn K C = true) (ht : PySem.W.typeIn K (.ref C) = some (.type "type")) (hs : PySem.W.subIn K (.ref D) (.ref C) = some b) (hself : PySem.W.subIn K (.ref C) (.ref C) = some true) : PySem.W.kitOne K (.ref D) (.ref C) = some b := by
  unfold PySem.W.kitOne
  by_cases h : D = C
  · subst h
    rw [hs] at hself
    rw [if_pos (by simp), Option.some.inj hself]
  · rw [if_neg (by simp [h])]
    unfold PySem.W.kitCls
    have hi' : (PySem.W.clsIn K C).isSome = true := hi
    show (if ((PySem.W.clsIn K C).isSome && PySem.W.typeIn K (.ref C) == some (.type "type")) = true then PySem.W.subIn K (.ref D) (.ref C) else none) = some b
    rw [hi', ht, if_pos (by rfl)]
    exact hs
theorem kit_typ {K : PySem.W.Frag} {D : Addr} {T : String} {b : Bool} (hm : PySem.W.kitMeta T = true) (hs : PySem.W.subIn K (.ref D) (.type T) = some b) : PySem.W.kitOne K (.ref D) (.type T) = some b := by
  unfold PySem.W.kitOne
  rw [if_neg (by simp)]
  show (if PySem.W.kitMeta T = true then PySem.W.subIn K (.ref D) (.type T) else none) = some b
  rw [if_pos hm]
  exact hs
theorem all_mk {P : Program} {w : World} {K : PySem.W.Frag} {h : Heap} {mg : Str → Option Value} {fa fLow cLow PLow fText fAre cAre PAre fAe cAe PAe fSh cSh PSh fTape fNext fInks fAg fFe fNe fTo fInt fIe fIt fHa fLb fMk fMd fLa fLe fLi fRt fLaw C fInit pO gO pWi fWi pWo fWo D DN DTx fB pN gN pS gS fKn fCk fCs CP fP fF0 fF1 fF2 fS0 fS1 fS2 b0 b1 b2 b3 fSp fKi fCt : Addr} {ocLow kVLow dcLow pmLow ctLow ocText kVText dcText pmText ctText cdText ocAre kVAre dcAre pmAre ctAre ocAe kVAe dcAe pmAe ctAe ocSh kVSh dcSh pmSh ctSh ocTape kVTape dcTape pmTape ctTape cdTape ocNext kVNext dcNext pmNext ctNext cdNext ocInks kVInks dcInks pmInks ctInks cdInks ocAg kVAg dcAg pmAg ctAg cdAg ocFe kVFe dcFe pmFe ctFe cdFe ocNe kVNe dcNe pmNe ctNe cdNe ocTo kVTo dcTo pmTo ctTo cdTo ocInt kVInt dcInt pmInt ctInt cdInt ocIe kVIe dcIe pmIe ctIe cdIe ocIt kVIt dcIt pmIt ctIt cdIt ocHa kVHa dcHa pmHa ctHa cdHa ocLb kVLb dcLb pmLb ctLb cdLb ocMk kVMk dcMk pmMk ctMk cdMk ocMd kVMd dcMd pmMd ctMd cdMd ocLa kVLa dcLa pmLa ctLa cdLa ocLe kVLe dcLe pmLe ctLe cdLe ocLi kVLi dcLi pmLi ctLi cdLi ocRt kVRt dcRt pmRt ctRt cdRt ocLaw kVLaw dcLaw pmLaw ctLaw cdLaw ocInit kVInit dcInit pmInit ctInit cdInit ocOf kVOf dcOf pmOf ctOf cdOf ocWi kVWi dcWi pmWi ctWi cdWi ocWo kVWo dcWo pmWo ctWo cdWo ocB kVB dcB pmB ctB cdB ocN kVN dcN pmN ctN cdN ocG kVG dcG pmG ctG cdG ocP kVP dcP pmP ctP cdP ocSp kVSp dcSp pmSp ctSp cdSp ocKi kVKi dcKi pmKi ctKi cdKi ocCt kVCt dcCt pmCt ctCt cdCt : Value} {odLow anLow odText anText odAre anAre odAe anAe odSh anSh odTape anTape odNext anNext odInks anInks odAg anAg odFe anFe odNe anNe odTo anTo odInt anInt odIe anIe odIt anIt odHa anHa odLb anLb odMk anMk odMd anMd odLa anLa odLe anLe odLi anLi odRt anRt odLaw anLaw odInit anInit odOf anOf odWi anWi odWo anWo odB anB odN anN odG anG odP anP odSp anSp odKi anKi odCt anCt : Option Addr} {slLow slText slAre slAe slSh slTape slNext slInks slAg slFe slNe slTo slInt slIe slIt slHa slLb slMk slMd slLa slLe slLi slRt slLaw slInit slOf slWi slWo slB slN slG slP slSp slKi slCt : Array (Option Value)} {tW tM tMost tUn u0 v0 w0 u1 v1 w1 u2 v2 w2 u3 v3 w3 : Tok} {restO restWi restWo restN restS : List Value}
    (X : K.In h) (G : h.Ns mainGlobals mg) (hfa : mg "law" = some (.ref fa)) (TB0 : PySem.W.CodeHd h cLow PLow ∧ h.get? PLow = some { cls := .none, data := .fields #[] }) (TB1 : PySem.W.CodeHd h cAre PAre ∧ h.get? PAre = some { cls := .none, data := .fields #[] }) (TB2 : PySem.W.CodeHd h cAe PAe ∧ h.get? PAe = some { cls := .none, data := .fields #[] }) (TB3 : PySem.W.CodeHd h cSh PSh ∧ h.get? PSh = some { cls := .none, data := .fields #[] })
    (aLow : PySem.W.nsIn K mainGlobals "is_lowercase" = some (some (.ref fLow)))
    (lLow : K.lookup fLow = some ⟨ocLow, odLow, .func (PySem.W.fnOf "is_lowercase" "is_lowercase" (defArgs sLow) (defBody sLow) (defScope sLow) .none kVLow dcLow pmLow anLow (.ref cLow) ctLow), slLow⟩)
    (coLow : PySem.W.codeIn K (.ref cLow) "is_lowercase" = true)
    (kLow : PySem.W.keepIn K (.ref fLow) = true)
    (nLow : K.lookup PLow = none)
    (aText : PySem.W.nsIn K mainGlobals "is_text" = some (some (.ref fText)))
    (lText : K.lookup fText = some ⟨ocText, odText, .func (PySem.W.fnOf "is_text" "is_text" (defArgs sText) (defBody sText) (defScope sText) .none kVText dcText pmText anText cdText ctText), slText⟩)
    (coText : PySem.W.codeIn K cdText "is_text" = true)
    (kText : PySem.W.keepIn K (.ref fText) = true)
    (aAre : PySem.W.nsIn K mainGlobals "are_stamps" = some (some (.ref fAre)))
    (lAre : K.lookup fAre = some ⟨ocAre, odAre, .func (PySem.W.fnOf "are_stamps" "are_stamps" (defArgs sAre) (defBody sAre) (defScope sAre) .none kVAre dcAre pmAre anAre (.ref cAre) ctAre), slAre⟩)
    (coAre : PySem.W.codeIn K (.ref cAre) "are_stamps" = true)
    (kAre : PySem.W.keepIn K (.ref fAre) = true)
    (nAre : K.lookup PAre = none)
    (aAe : PySem.W.nsIn K mainGlobals "are_entries" = some (some (.ref fAe)))
    (lAe : K.lookup fAe = some ⟨ocAe, odAe, .func (PySem.W.fnOf "are_entries" "are_entries" (defArgs sAe) (defBody sAe) (defScope sAe) .none kVAe dcAe pmAe anAe (.ref cAe) ctAe), slAe⟩)
    (coAe : PySem.W.codeIn K (.ref cAe) "are_entries" = true)
    (kAe : PySem.W.keepIn K (.ref fAe) = true)
    (nAe : K.lookup PAe = none)
    (aSh : PySem.W.nsIn K mainGlobals "shows" = some (some (.ref fSh)))
    (lSh : K.lookup fSh = some ⟨ocSh, odSh, .func (PySem.W.fnOf "shows" "shows" (defArgs sSh) (defBody sSh) (defScope sSh) .none kVSh dcSh pmSh anSh (.ref cSh) ctSh), slSh⟩)
    (coSh : PySem.W.codeIn K (.ref cSh) "shows" = true)
    (kSh : PySem.W.keepIn K (.ref fSh) = true)
    (nSh : K.lookup PSh = none)
    (aTape : PySem.W.nsIn K mainGlobals "_law_vat" = some (some (.ref fTape)))
    (lTape : K.lookup fTape = some ⟨ocTape, odTape, .func (PySem.W.fnOf "_law_vat" "_law_vat" (defArgs sTape) (defBody sTape) (defScope sTape) .none kVTape dcTape pmTape anTape cdTape ctTape), slTape⟩)
    (coTape : PySem.W.codeIn K cdTape "_law_vat" = true)
    (kTape : PySem.W.keepIn K (.ref fTape) = true)
    (aNext : PySem.W.nsIn K mainGlobals "_law_sip" = some (some (.ref fNext)))
    (lNext : K.lookup fNext = some ⟨ocNext, odNext, .func (PySem.W.fnOf "_law_sip" "_law_sip" (defArgs sNext) (defBody sNext) (defScope sNext) .none kVNext dcNext pmNext anNext cdNext ctNext), slNext⟩)
    (coNext : PySem.W.codeIn K cdNext "_law_sip" = true)
    (kNext : PySem.W.keepIn K (.ref fNext) = true)
    (aInks : PySem.W.nsIn K mainGlobals "_law_words" = some (some (.ref fInks)))
    (lInks : K.lookup fInks = some ⟨ocInks, odInks, .func (PySem.W.fnOf "_law_words" "_law_words" (defArgs sInks) (defBody sInks) (defScope sInks) .none kVInks dcInks pmInks anInks cdInks ctInks), slInks⟩)
    (coInks : PySem.W.codeIn K cdInks "_law_words" = true)
    (kInks : PySem.W.keepIn K (.ref fInks) = true)
    (aAg : PySem.W.nsIn K mainGlobals "agreeing" = some (some (.ref fAg)))
    (lAg : K.lookup fAg = some ⟨ocAg, odAg, .func (PySem.W.fnOf "agreeing" "agreeing" (defArgs sAg) (defBody sAg) (defScope sAg) .none kVAg dcAg pmAg anAg cdAg ctAg), slAg⟩)
    (coAg : PySem.W.codeIn K cdAg "agreeing" = true)
    (kAg : PySem.W.keepIn K (.ref fAg) = true)
    (aFe : PySem.W.nsIn K mainGlobals "first_entries" = some (some (.ref fFe)))
    (lFe : K.lookup fFe = some ⟨ocFe, odFe, .func (PySem.W.fnOf "first_entries" "first_entries" (defArgs sFe) (defBody sFe) (defScope sFe) .none kVFe dcFe pmFe anFe cdFe ctFe), slFe⟩)
    (coFe : PySem.W.codeIn K cdFe "first_entries" = true)
    (kFe : PySem.W.keepIn K (.ref fFe) = true)
    (aNe : PySem.W.nsIn K mainGlobals "next_entries" = some (some (.ref fNe)))
    (lNe : K.lookup fNe = some ⟨ocNe, odNe, .func (PySem.W.fnOf "next_entries" "next_entries" (defArgs sNe) (defBody sNe) (defScope sNe) .none kVNe dcNe pmNe anNe cdNe ctNe), slNe⟩)
    (coNe : PySem.W.codeIn K cdNe "next_entries" = true)
    (kNe : PySem.W.keepIn K (.ref fNe) = true)
    (aTo : PySem.W.nsIn K mainGlobals "table_of" = some (some (.ref fTo)))
    (lTo : K.lookup fTo = some ⟨ocTo, odTo, .func (PySem.W.fnOf "table_of" "table_of" (defArgs sTo) (defBody sTo) (defScope sTo) .none kVTo dcTo pmTo anTo cdTo ctTo), slTo⟩)
    (coTo : PySem.W.codeIn K cdTo "table_of" = true)
    (kTo : PySem.W.keepIn K (.ref fTo) = true)
    (aInt : PySem.W.nsIn K mainGlobals "is_integer" = some (some (.ref fInt)))
    (lInt : K.lookup fInt = some ⟨ocInt, odInt, .func (PySem.W.fnOf "is_integer" "is_integer" (defArgs sIsI) (defBody sIsI) (defScope sIsI) .none kVInt dcInt pmInt anInt cdInt ctInt), slInt⟩)
    (coInt : PySem.W.codeIn K cdInt "is_integer" = true)
    (kInt : PySem.W.keepIn K (.ref fInt) = true)
    (aIe : PySem.W.nsIn K mainGlobals "is_entry" = some (some (.ref fIe)))
    (lIe : K.lookup fIe = some ⟨ocIe, odIe, .func (PySem.W.fnOf "is_entry" "is_entry" (defArgs sIe) (defBody sIe) (defScope sIe) .none kVIe dcIe pmIe anIe cdIe ctIe), slIe⟩)
    (coIe : PySem.W.codeIn K cdIe "is_entry" = true)
    (kIe : PySem.W.keepIn K (.ref fIe) = true)
    (aIt : PySem.W.nsIn K mainGlobals "is_table" = some (some (.ref fIt)))
    (lIt : K.lookup fIt = some ⟨ocIt, odIt, .func (PySem.W.fnOf "is_table" "is_table" (defArgs sIt) (defBody sIt) (defScope sIt) .none kVIt dcIt pmIt anIt cdIt ctIt), slIt⟩)
    (coIt : PySem.W.codeIn K cdIt "is_table" = true)
    (kIt : PySem.W.keepIn K (.ref fIt) = true)
    (aHa : PySem.W.nsIn K mainGlobals "has_all" = some (some (.ref fHa)))
    (lHa : K.lookup fHa = some ⟨ocHa, odHa, .func (PySem.W.fnOf "has_all" "has_all" (defArgs sHa) (defBody sHa) (defScope sHa) .none kVHa dcHa pmHa anHa cdHa ctHa), slHa⟩)
    (coHa : PySem.W.codeIn K cdHa "has_all" = true)
    (kHa : PySem.W.keepIn K (.ref fHa) = true)
    (aLb : PySem.W.nsIn K mainGlobals "last_bounds" = some (some (.ref fLb)))
    (lLb : K.lookup fLb = some ⟨ocLb, odLb, .func (PySem.W.fnOf "last_bounds" "last_bounds" (defArgs sLb) (defBody sLb) (defScope sLb) .none kVLb dcLb pmLb anLb cdLb ctLb), slLb⟩)
    (coLb : PySem.W.codeIn K cdLb "last_bounds" = true)
    (kLb : PySem.W.keepIn K (.ref fLb) = true)
    (aMk : PySem.W.nsIn K mainGlobals "_law_mark" = some (some (.ref fMk)))
    (lMk : K.lookup fMk = some ⟨ocMk, odMk, .func (PySem.W.fnOf "_law_mark" "_law_mark" (defArgs sMk) (defBody sMk) (defScope sMk) .none kVMk dcMk pmMk anMk cdMk ctMk), slMk⟩)
    (coMk : PySem.W.codeIn K cdMk "_law_mark" = true)
    (kMk : PySem.W.keepIn K (.ref fMk) = true)
    (aMd : PySem.W.nsIn K mainGlobals "_law_made" = some (some (.ref fMd)))
    (lMd : K.lookup fMd = some ⟨ocMd, odMd, .func (PySem.W.fnOf "_law_made" "_law_made" (defArgs sMd) (defBody sMd) (defScope sMd) .none kVMd dcMd pmMd anMd cdMd ctMd), slMd⟩)
    (coMd : PySem.W.codeIn K cdMd "_law_made" = true)
    (kMd : PySem.W.keepIn K (.ref fMd) = true)
    (aLa : PySem.W.nsIn K mainGlobals "_law_agreeing" = some (some (.ref fLa)))
    (lLa : K.lookup fLa = some ⟨ocLa, odLa, .func (PySem.W.fnOf "_law_agreeing" "_law_agreeing" (defArgs sLa) (defBody sLa) (defScope sLa) .none kVLa dcLa pmLa anLa cdLa ctLa), slLa⟩)
    (coLa : PySem.W.codeIn K cdLa "_law_agreeing" = true)
    (kLa : PySem.W.keepIn K (.ref fLa) = true)
    (aLe : PySem.W.nsIn K mainGlobals "_law_least" = some (some (.ref fLe)))
    (lLe : K.lookup fLe = some ⟨ocLe, odLe, .func (PySem.W.fnOf "_law_least" "_law_least" (defArgs sLe) (defBody sLe) (defScope sLe) .none kVLe dcLe pmLe anLe cdLe ctLe), slLe⟩)
    (coLe : PySem.W.codeIn K cdLe "_law_least" = true)
    (kLe : PySem.W.keepIn K (.ref fLe) = true)
    (aLi : PySem.W.nsIn K mainGlobals "_law_listed" = some (some (.ref fLi)))
    (lLi : K.lookup fLi = some ⟨ocLi, odLi, .func (PySem.W.fnOf "_law_listed" "_law_listed" (defArgs sLi) (defBody sLi) (defScope sLi) .none kVLi dcLi pmLi anLi cdLi ctLi), slLi⟩)
    (coLi : PySem.W.codeIn K cdLi "_law_listed" = true)
    (kLi : PySem.W.keepIn K (.ref fLi) = true)
    (aRt : PySem.W.nsIn K mainGlobals "_law_right" = some (some (.ref fRt)))
    (lRt : K.lookup fRt = some ⟨ocRt, odRt, .func (PySem.W.fnOf "_law_right" "_law_right" (defArgs sRx) (defBody sRx) (defScope sRx) .none kVRt dcRt pmRt anRt cdRt ctRt), slRt⟩)
    (coRt : PySem.W.codeIn K cdRt "_law_right" = true)
    (kRt : PySem.W.keepIn K (.ref fRt) = true)
    (aLaw : PySem.W.nsIn K mainGlobals "law" = some (some (.ref fLaw)))
    (lLaw : K.lookup fLaw = some ⟨ocLaw, odLaw, .func (PySem.W.fnOf "law" "law" (defArgs sLy) (defBody sLy) (defScope sLy) .none kVLaw dcLaw pmLaw anLaw cdLaw ctLaw), slLaw⟩)
    (coLaw : PySem.W.codeIn K cdLaw "law" = true)
    (kLaw : PySem.W.keepIn K (.ref fLaw) = true)
    (aWidest : PySem.W.nsIn K mainGlobals "WIDEST" = some (some (.int 8 tW)))
    (aMostL : PySem.W.nsIn K mainGlobals "MOST_LETTERS" = some (some (.int 36 tM)))
    (aUn : PySem.W.nsIn K mainGlobals "UNREADABLE" = some (some (.str "?" tUn)))
    (aC : PySem.W.nsIn K mainGlobals "Stamps" = some (some (.ref C)))
    (rdS : PySem.W.readsIn K C (.type "type") = true)
    (gaS : PySem.W.specialIn K (.ref C) "__getattribute__" = some (some (.builtin "type.__getattribute__")))
    (pgS : PySem.W.plainGet K C Str.empty = true)
    (hdS : PySem.W.hasDictIn K C = true)
    (poS : PySem.W.plainOver K C = true)
    (saS : PySem.W.findIn K (.ref C) "__setattr__" = some (some (.builtin "object.__setattr__")))
    (mkS : PySem.W.makesIn K C = true)
    (kcS : PySem.W.keepIn K (.ref C) = true)
    (iInit : PySem.W.findIn K (.ref C) "__init__" = some (some (.ref fInit)))
    (jInit : PySem.W.isFn K (.ref fInit) = true)
    (lInit : K.lookup fInit = some ⟨ocInit, odInit, .func (PySem.W.fnOf "__init__" "Stamps.__init__" (defArgs sInit) (defBody sInit) (defScope sInit) .none kVInit dcInit pmInit anInit cdInit ctInit), slInit⟩)
    (coInit : PySem.W.codeIn K cdInit "Stamps.__init__" = true)
    (kInit : PySem.W.keepIn K (.ref fInit) = true)
    (nW : PySem.W.findIn K (.ref C) "_words" = some none)
    (mst : PySem.W.findCls K (.ref C) (.type "type") "MOST" = some (.val (.int 6 tMost)))
    (oAOf : PySem.W.findCls K (.ref C) (.type "type") "of" = some (.get (.builtin "classmethod.__get__") (.ref pO) .none (.ref C)))
    (oROf : PySem.W.recIn K pO "classmethod" = some (.ref gO :: restO))
    (oFOf : PySem.W.fnIn K gO = true)
    (lOf : K.lookup gO = some ⟨ocOf, odOf, .func (PySem.W.fnOf "of" "Stamps.of" (defArgs sOf) (defBody sOf) (defScope sOf) .none kVOf dcOf pmOf anOf cdOf ctOf), slOf⟩)
    (coOf : PySem.W.codeIn K cdOf "Stamps.of" = true)
    (kOf : PySem.W.keepIn K (.ref gO) = true)
    (prWi : PySem.W.findIn K (.ref C) "width" = some (some (.ref pWi)))
    (pGWi : PySem.W.specialIn K (.ref pWi) "__get__" = some (some (.builtin "property.__get__")))
    (ptWi : PySem.W.takesIn K (.ref pWi) = some true)
    (pcWi : PySem.W.recIn K pWi "property" = some (.ref fWi :: restWi))
    (lWi : K.lookup fWi = some ⟨ocWi, odWi, .func (PySem.W.fnOf "width" "Stamps.width" (defArgs sWidth) (defBody sWidth) (defScope sWidth) .none kVWi dcWi pmWi anWi cdWi ctWi), slWi⟩)
    (coWi : PySem.W.codeIn K cdWi "Stamps.width" = true)
    (kWi : PySem.W.keepIn K (.ref fWi) = true)
    (prWo : PySem.W.findIn K (.ref C) "words" = some (some (.ref pWo)))
    (pGWo : PySem.W.specialIn K (.ref pWo) "__get__" = some (some (.builtin "property.__get__")))
    (ptWo : PySem.W.takesIn K (.ref pWo) = some true)
    (pcWo : PySem.W.recIn K pWo "property" = some (.ref fWo :: restWo))
    (lWo : K.lookup fWo = some ⟨ocWo, odWo, .func (PySem.W.fnOf "words" "Stamps.words" (defArgs sWords) (defBody sWords) (defScope sWords) .none kVWo dcWo pmWo anWo cdWo ctWo), slWo⟩)
    (coWo : PySem.W.codeIn K cdWo "Stamps.words" = true)
    (kWo : PySem.W.keepIn K (.ref fWo) = true)
    (aD : PySem.W.nsIn K mainGlobals "InvalidStamps" = some (some (.ref D)))
    (xD : PySem.W.excIn K D [.type "ValueError", .type "Exception", .type "BaseException", .type "object"] "ValueError.__new__" = true)
    (kkD : PySem.W.keepIn K (.ref D) = true)
    (bD : PySem.W.subIn K (.ref D) (.type "BaseException") = some true)
    (tyD : PySem.W.typeIn K (.ref D) = some (.type "type"))
    (aDN : PySem.W.nsIn K mainGlobals "InvalidName" = some (some (.ref DN)))
    (xDN : PySem.W.excIn K DN [.type "ValueError", .type "Exception", .type "BaseException", .type "object"] "ValueError.__new__" = true)
    (kkDN : PySem.W.keepIn K (.ref DN) = true)
    (bDN : PySem.W.subIn K (.ref DN) (.type "BaseException") = some true)
    (tyDN : PySem.W.typeIn K (.ref DN) = some (.type "type"))
    (aDTx : PySem.W.nsIn K mainGlobals "InvalidText" = some (some (.ref DTx)))
    (xDTx : PySem.W.excIn K DTx [.type "ValueError", .type "Exception", .type "BaseException", .type "object"] "ValueError.__new__" = true)
    (kkDTx : PySem.W.keepIn K (.ref DTx) = true)
    (bDTx : PySem.W.subIn K (.ref DTx) (.type "BaseException") = some true)
    (tyDTx : PySem.W.typeIn K (.ref DTx) = some (.type "type"))
    (e6 : PySem.W.specialIn K (.builtin "object.__class__") "__get__" = some (some (.builtin "getset_descriptor.__get__")))
    (e7 : PySem.W.takesIn K (.builtin "object.__class__") = some true)
    (ab0 : PySem.W.nsIn K mainGlobals "Line" = some (some (.ref b0)))
    (rdB0 : PySem.W.readsIn K b0 (.type "type") = true)
    (gaB0 : PySem.W.specialIn K (.ref b0) "__getattribute__" = some (some (.builtin "type.__getattribute__")))
    (pgB0 : PySem.W.plainGet K b0 Str.empty = true)
    (hdB0 : PySem.W.hasDictIn K b0 = true)
    (poB0 : PySem.W.plainOver K b0 = true)
    (saB0 : PySem.W.findIn K (.ref b0) "__setattr__" = some (some (.builtin "object.__setattr__")))
    (mkB0 : PySem.W.makesIn K b0 = true)
    (kcB0 : PySem.W.keepIn K (.ref b0) = true)
    (eqB0 : PySem.W.findIn K (.ref b0) "__eq__" = some (some (.builtin "object.__eq__")))
    (neB0 : PySem.W.findIn K (.ref b0) "__ne__" = some (some (.builtin "object.__ne__")))
    (soB0 : PySem.W.subIn K (.ref b0) (.type "object") = some true)
    (iB0 : PySem.W.findIn K (.ref b0) "__init__" = some (some (.ref fB)))
    (nS0 : PySem.W.findIn K (.ref b0) "_stamps" = some none)
    (nP0 : PySem.W.findIn K (.ref b0) "pieces" = some none)
    (nm0 : PySem.W.findCls K (.ref b0) (.type "type") "NAME" = some (.val (.str "line" u0)))
    (cn0 : PySem.W.findIn K (.ref b0) "NAME" = some (some (.str "line" v0)))
    (gc0 : PySem.W.specialIn K (.str "line" v0) "__get__" = some none)
    (ce0 : PySem.W.findIn K (.ref b0) "CELLS" = some (some (.int 120 w0)))
    (cg0 : PySem.W.specialIn K (.int 120 w0) "__get__" = some none)
    (nd0 : PySem.W.findCls K (.ref b0) (.type "type") "named" = some (.get (.builtin "classmethod.__get__") (.ref pN) .none (.ref b0)))
    (pr0 : PySem.W.findIn K (.ref b0) "stamps" = some (some (.ref pS)))
    (kn0 : PySem.W.findIn K (.ref b0) "_knows" = some (some (.ref fKn)))
    (ck0 : PySem.W.findIn K (.ref b0) "_check_stamping" = some (some (.ref fCk)))
    (cs0 : PySem.W.findIn K (.ref b0) "check_strip" = some (some (.ref fCs)))
    (hcb0 : PySem.W.findIn K (.ref b0) "__class__" = some (some (.builtin "object.__class__")))
    (hmb0 : PySem.W.mroIn K b0 (.type "object") = some true)
    (icb0 : PySem.W.isClsIn K b0 = true)
    (tyb0 : PySem.W.typeIn K (.ref b0) = some (.type "type"))
    (ab1 : PySem.W.nsIn K mainGlobals "Window" = some (some (.ref b1)))
    (rdB1 : PySem.W.readsIn K b1 (.type "type") = true)
    (gaB1 : PySem.W.specialIn K (.ref b1) "__getattribute__" = some (some (.builtin "type.__getattribute__")))
    (pgB1 : PySem.W.plainGet K b1 Str.empty = true)
    (hdB1 : PySem.W.hasDictIn K b1 = true)
    (poB1 : PySem.W.plainOver K b1 = true)
    (saB1 : PySem.W.findIn K (.ref b1) "__setattr__" = some (some (.builtin "object.__setattr__")))
    (mkB1 : PySem.W.makesIn K b1 = true)
    (kcB1 : PySem.W.keepIn K (.ref b1) = true)
    (eqB1 : PySem.W.findIn K (.ref b1) "__eq__" = some (some (.builtin "object.__eq__")))
    (neB1 : PySem.W.findIn K (.ref b1) "__ne__" = some (some (.builtin "object.__ne__")))
    (soB1 : PySem.W.subIn K (.ref b1) (.type "object") = some true)
    (iB1 : PySem.W.findIn K (.ref b1) "__init__" = some (some (.ref fB)))
    (nS1 : PySem.W.findIn K (.ref b1) "_stamps" = some none)
    (nP1 : PySem.W.findIn K (.ref b1) "pieces" = some none)
    (nm1 : PySem.W.findCls K (.ref b1) (.type "type") "NAME" = some (.val (.str "window" u1)))
    (cn1 : PySem.W.findIn K (.ref b1) "NAME" = some (some (.str "window" v1)))
    (gc1 : PySem.W.specialIn K (.str "window" v1) "__get__" = some none)
    (ce1 : PySem.W.findIn K (.ref b1) "CELLS" = some (some (.int 120 w1)))
    (cg1 : PySem.W.specialIn K (.int 120 w1) "__get__" = some none)
    (nd1 : PySem.W.findCls K (.ref b1) (.type "type") "named" = some (.get (.builtin "classmethod.__get__") (.ref pN) .none (.ref b1)))
    (pr1 : PySem.W.findIn K (.ref b1) "stamps" = some (some (.ref pS)))
    (kn1 : PySem.W.findIn K (.ref b1) "_knows" = some (some (.ref fKn)))
    (ck1 : PySem.W.findIn K (.ref b1) "_check_stamping" = some (some (.ref fCk)))
    (cs1 : PySem.W.findIn K (.ref b1) "check_strip" = some (some (.ref fCs)))
    (hcb1 : PySem.W.findIn K (.ref b1) "__class__" = some (some (.builtin "object.__class__")))
    (hmb1 : PySem.W.mroIn K b1 (.type "object") = some true)
    (icb1 : PySem.W.isClsIn K b1 = true)
    (tyb1 : PySem.W.typeIn K (.ref b1) = some (.type "type"))
    (ab2 : PySem.W.nsIn K mainGlobals "Ring" = some (some (.ref b2)))
    (rdB2 : PySem.W.readsIn K b2 (.type "type") = true)
    (gaB2 : PySem.W.specialIn K (.ref b2) "__getattribute__" = some (some (.builtin "type.__getattribute__")))
    (pgB2 : PySem.W.plainGet K b2 Str.empty = true)
    (hdB2 : PySem.W.hasDictIn K b2 = true)
    (poB2 : PySem.W.plainOver K b2 = true)
    (saB2 : PySem.W.findIn K (.ref b2) "__setattr__" = some (some (.builtin "object.__setattr__")))
    (mkB2 : PySem.W.makesIn K b2 = true)
    (kcB2 : PySem.W.keepIn K (.ref b2) = true)
    (eqB2 : PySem.W.findIn K (.ref b2) "__eq__" = some (some (.builtin "object.__eq__")))
    (neB2 : PySem.W.findIn K (.ref b2) "__ne__" = some (some (.builtin "object.__ne__")))
    (soB2 : PySem.W.subIn K (.ref b2) (.type "object") = some true)
    (iB2 : PySem.W.findIn K (.ref b2) "__init__" = some (some (.ref fB)))
    (nS2 : PySem.W.findIn K (.ref b2) "_stamps" = some none)
    (nP2 : PySem.W.findIn K (.ref b2) "pieces" = some none)
    (nm2 : PySem.W.findCls K (.ref b2) (.type "type") "NAME" = some (.val (.str "ring" u2)))
    (cn2 : PySem.W.findIn K (.ref b2) "NAME" = some (some (.str "ring" v2)))
    (gc2 : PySem.W.specialIn K (.str "ring" v2) "__get__" = some none)
    (ce2 : PySem.W.findIn K (.ref b2) "CELLS" = some (some (.int 60 w2)))
    (cg2 : PySem.W.specialIn K (.int 60 w2) "__get__" = some none)
    (nd2 : PySem.W.findCls K (.ref b2) (.type "type") "named" = some (.get (.builtin "classmethod.__get__") (.ref pN) .none (.ref b2)))
    (pr2 : PySem.W.findIn K (.ref b2) "stamps" = some (some (.ref pS)))
    (kn2 : PySem.W.findIn K (.ref b2) "_knows" = some (some (.ref fKn)))
    (ck2 : PySem.W.findIn K (.ref b2) "_check_stamping" = some (some (.ref fCk)))
    (cs2 : PySem.W.findIn K (.ref b2) "check_strip" = some (some (.ref fCs)))
    (hcb2 : PySem.W.findIn K (.ref b2) "__class__" = some (some (.builtin "object.__class__")))
    (hmb2 : PySem.W.mroIn K b2 (.type "object") = some true)
    (icb2 : PySem.W.isClsIn K b2 = true)
    (tyb2 : PySem.W.typeIn K (.ref b2) = some (.type "type"))
    (ab3 : PySem.W.nsIn K mainGlobals "Band" = some (some (.ref b3)))
    (rdB3 : PySem.W.readsIn K b3 (.type "type") = true)
    (gaB3 : PySem.W.specialIn K (.ref b3) "__getattribute__" = some (some (.builtin "type.__getattribute__")))
    (pgB3 : PySem.W.plainGet K b3 Str.empty = true)
    (hdB3 : PySem.W.hasDictIn K b3 = true)
    (poB3 : PySem.W.plainOver K b3 = true)
    (saB3 : PySem.W.findIn K (.ref b3) "__setattr__" = some (some (.builtin "object.__setattr__")))
    (mkB3 : PySem.W.makesIn K b3 = true)
    (kcB3 : PySem.W.keepIn K (.ref b3) = true)
    (eqB3 : PySem.W.findIn K (.ref b3) "__eq__" = some (some (.builtin "object.__eq__")))
    (neB3 : PySem.W.findIn K (.ref b3) "__ne__" = some (some (.builtin "object.__ne__")))
    (soB3 : PySem.W.subIn K (.ref b3) (.type "object") = some true)
    (iB3 : PySem.W.findIn K (.ref b3) "__init__" = some (some (.ref fB)))
    (nS3 : PySem.W.findIn K (.ref b3) "_stamps" = some none)
    (nP3 : PySem.W.findIn K (.ref b3) "pieces" = some none)
    (nm3 : PySem.W.findCls K (.ref b3) (.type "type") "NAME" = some (.val (.str "" u3)))
    (cn3 : PySem.W.findIn K (.ref b3) "NAME" = some (some (.str "" v3)))
    (gc3 : PySem.W.specialIn K (.str "" v3) "__get__" = some none)
    (ce3 : PySem.W.findIn K (.ref b3) "CELLS" = some (some (.int 120 w3)))
    (cg3 : PySem.W.specialIn K (.int 120 w3) "__get__" = some none)
    (nd3 : PySem.W.findCls K (.ref b3) (.type "type") "named" = some (.get (.builtin "classmethod.__get__") (.ref pN) .none (.ref b3)))
    (pr3 : PySem.W.findIn K (.ref b3) "stamps" = some (some (.ref pS)))
    (kn3 : PySem.W.findIn K (.ref b3) "_knows" = some (some (.ref fKn)))
    (ck3 : PySem.W.findIn K (.ref b3) "_check_stamping" = some (some (.ref fCk)))
    (cs3 : PySem.W.findIn K (.ref b3) "check_strip" = some (some (.ref fCs)))
    (hcb3 : PySem.W.findIn K (.ref b3) "__class__" = some (some (.builtin "object.__class__")))
    (hmb3 : PySem.W.mroIn K b3 (.type "object") = some true)
    (icb3 : PySem.W.isClsIn K b3 = true)
    (tyb3 : PySem.W.typeIn K (.ref b3) = some (.type "type"))
    (jB : PySem.W.isFn K (.ref fB) = true)
    (lB : K.lookup fB = some ⟨ocB, odB, .func (PySem.W.fnOf "__init__" "Band.__init__" (defArgs sBInit) (defBody sBInit) (defScope sBInit) .none kVB dcB pmB anB cdB ctB), slB⟩)
    (coB : PySem.W.codeIn K cdB "Band.__init__" = true)
    (kB : PySem.W.keepIn K (.ref fB) = true)
    (jKn : PySem.W.isFn K (.ref fKn) = true)
    (kKn : PySem.W.keepIn K (.ref fKn) = true)
    (jCs : PySem.W.isFn K (.ref fCs) = true)
    (kCs : PySem.W.keepIn K (.ref fCs) = true)
    (jCk : PySem.W.isFn K (.ref fCk) = true)
    (kCk : PySem.W.keepIn K (.ref fCk) = true)
    (nR : PySem.W.recIn K pN "classmethod" = some (.ref gN :: restN))
    (nF : PySem.W.fnIn K gN = true)
    (lN : K.lookup gN = some ⟨ocN, odN, .func (PySem.W.fnOf "named" "Band.named" (defArgs sNamed) (defBody sNamed) (defScope sNamed) .none kVN dcN pmN anN cdN ctN), slN⟩)
    (coN : PySem.W.codeIn K cdN "Band.named" = true)
    (kN : PySem.W.keepIn K (.ref gN) = true)
    (p1 : PySem.W.specialIn K (.ref pS) "__get__" = some (some (.builtin "property.__get__")))
    (p2 : PySem.W.takesIn K (.ref pS) = some true)
    (p3 : PySem.W.recIn K pS "property" = some (.ref gS :: restS))
    (lG : K.lookup gS = some ⟨ocG, odG, .func (PySem.W.fnOf "stamps" "Band.stamps" (defArgs sStamps) (defBody sStamps) (defScope sStamps) .none kVG dcG pmG anG cdG ctG), slG⟩)
    (coG : PySem.W.codeIn K cdG "Band.stamps" = true)
    (kG : PySem.W.keepIn K (.ref gS) = true)
    (sb00 : PySem.W.subIn K (.ref b0) (.ref b0) = some true)
    (sb01 : PySem.W.subIn K (.ref b0) (.ref b1) = some false)
    (sb02 : PySem.W.subIn K (.ref b0) (.ref b2) = some false)
    (sb03 : PySem.W.subIn K (.ref b0) (.ref b3) = some true)
    (sb10 : PySem.W.subIn K (.ref b1) (.ref b0) = some false)
    (sb11 : PySem.W.subIn K (.ref b1) (.ref b1) = some true)
    (sb12 : PySem.W.subIn K (.ref b1) (.ref b2) = some false)
    (sb13 : PySem.W.subIn K (.ref b1) (.ref b3) = some true)
    (sb20 : PySem.W.subIn K (.ref b2) (.ref b0) = some false)
    (sb21 : PySem.W.subIn K (.ref b2) (.ref b1) = some false)
    (sb22 : PySem.W.subIn K (.ref b2) (.ref b2) = some true)
    (sb23 : PySem.W.subIn K (.ref b2) (.ref b3) = some true)
    (sb30 : PySem.W.subIn K (.ref b3) (.ref b0) = some false)
    (sb31 : PySem.W.subIn K (.ref b3) (.ref b1) = some false)
    (sb32 : PySem.W.subIn K (.ref b3) (.ref b2) = some false)
    (sb33 : PySem.W.subIn K (.ref b3) (.ref b3) = some true)
    (mF0 : PySem.W.findIn K (.ref b0) "fits" = some (some (.ref fF0)))
    (jF0 : PySem.W.isFn K (.ref fF0) = true)
    (kF0_ : PySem.W.keepIn K (.ref fF0) = true)
    (mS0 : PySem.W.findIn K (.ref b0) "stamped" = some (some (.ref fS0)))
    (jS0 : PySem.W.isFn K (.ref fS0) = true)
    (kS0_ : PySem.W.keepIn K (.ref fS0) = true)
    (mF1 : PySem.W.findIn K (.ref b1) "fits" = some (some (.ref fF1)))
    (jF1 : PySem.W.isFn K (.ref fF1) = true)
    (kF1_ : PySem.W.keepIn K (.ref fF1) = true)
    (mS1 : PySem.W.findIn K (.ref b1) "stamped" = some (some (.ref fS1)))
    (jS1 : PySem.W.isFn K (.ref fS1) = true)
    (kS1_ : PySem.W.keepIn K (.ref fS1) = true)
    (mF2 : PySem.W.findIn K (.ref b2) "fits" = some (some (.ref fF2)))
    (jF2 : PySem.W.isFn K (.ref fF2) = true)
    (kF2_ : PySem.W.keepIn K (.ref fF2) = true)
    (mS2 : PySem.W.findIn K (.ref b2) "stamped" = some (some (.ref fS2)))
    (jS2 : PySem.W.isFn K (.ref fS2) = true)
    (kS2_ : PySem.W.keepIn K (.ref fS2) = true)
    (aCP : PySem.W.nsIn K mainGlobals "Pieces" = some (some (.ref CP)))
    (rdP : PySem.W.readsIn K CP (.type "type") = true)
    (gaP : PySem.W.specialIn K (.ref CP) "__getattribute__" = some (some (.builtin "type.__getattribute__")))
    (pgP : PySem.W.plainGet K CP Str.empty = true)
    (hdP : PySem.W.hasDictIn K CP = true)
    (poP : PySem.W.plainOver K CP = true)
    (saP : PySem.W.findIn K (.ref CP) "__setattr__" = some (some (.builtin "object.__setattr__")))
    (mkP : PySem.W.makesIn K CP = true)
    (kcP : PySem.W.keepIn K (.ref CP) = true)
    (iP : PySem.W.findIn K (.ref CP) "__init__" = some (some (.ref fP)))
    (jP : PySem.W.isFn K (.ref fP) = true)
    (lP : K.lookup fP = some ⟨ocP, odP, .func (PySem.W.fnOf "__init__" "Pieces.__init__" (defArgs sPInit) (defBody sPInit) (defScope sPInit) .none kVP dcP pmP anP cdP ctP), slP⟩)
    (coP : PySem.W.codeIn K cdP "Pieces.__init__" = true)
    (kP : PySem.W.keepIn K (.ref fP) = true)
    (nq1 : PySem.W.findIn K (.ref CP) "span" = some none)
    (nq2 : PySem.W.findIn K (.ref CP) "spots" = some none)
    (nq3 : PySem.W.findIn K (.ref CP) "kinds" = some none)
    (aSp : PySem.W.nsIn K mainGlobals "spots_of" = some (some (.ref fSp)))
    (lSp : K.lookup fSp = some ⟨ocSp, odSp, .func (PySem.W.fnOf "spots_of" "spots_of" (defArgs sSpots) (defBody sSpots) (defScope sSpots) .none kVSp dcSp pmSp anSp cdSp ctSp), slSp⟩)
    (coSp : PySem.W.codeIn K cdSp "spots_of" = true)
    (kSp : PySem.W.keepIn K (.ref fSp) = true)
    (aKi : PySem.W.nsIn K mainGlobals "kinds_of" = some (some (.ref fKi)))
    (lKi : K.lookup fKi = some ⟨ocKi, odKi, .func (PySem.W.fnOf "kinds_of" "kinds_of" (defArgs sKinds) (defBody sKinds) (defScope sKinds) .none kVKi dcKi pmKi anKi cdKi ctKi), slKi⟩)
    (coKi : PySem.W.codeIn K cdKi "kinds_of" = true)
    (kKi : PySem.W.keepIn K (.ref fKi) = true)
    (z_enumerate : PySem.W.nsIn K mainGlobals "enumerate" = some none)
    (mCt0 : PySem.W.findIn K (.ref b0) "check_text" = some (some (.ref fCt)))
    (mCt1 : PySem.W.findIn K (.ref b1) "check_text" = some (some (.ref fCt)))
    (mCt2 : PySem.W.findIn K (.ref b2) "check_text" = some (some (.ref fCt)))
    (jCt : PySem.W.isFn K (.ref fCt) = true)
    (lCt : K.lookup fCt = some ⟨ocCt, odCt, .func (PySem.W.fnOf "check_text" "Band.check_text" (defArgs sChkT) (defBody sChkT) (defScope sChkT) .none kVCt dcCt pmCt anCt cdCt ctCt), slCt⟩)
    (coCt : PySem.W.codeIn K cdCt "Band.check_text" = true)
    (kCt : PySem.W.keepIn K (.ref fCt) = true)
    (z_all : PySem.W.nsIn K mainGlobals "all" = some none)
    (z_len : PySem.W.nsIn K mainGlobals "len" = some none)
    (z_isinstance : PySem.W.nsIn K mainGlobals "isinstance" = some none)
    (z_str : PySem.W.nsIn K mainGlobals "str" = some none)
    (z_list : PySem.W.nsIn K mainGlobals "list" = some none)
    (z_set : PySem.W.nsIn K mainGlobals "set" = some none)
    (z_abs : PySem.W.nsIn K mainGlobals "abs" = some none)
    (z_max : PySem.W.nsIn K mainGlobals "max" = some none)
    (z_min : PySem.W.nsIn K mainGlobals "min" = some none)
    (z_range : PySem.W.nsIn K mainGlobals "range" = some none)
    (z_int : PySem.W.nsIn K mainGlobals "int" = some none)
    (z_repr : PySem.W.nsIn K mainGlobals "repr" = some none)
    (z_sorted : PySem.W.nsIn K mainGlobals "sorted" = some none)
    (z_bool : PySem.W.nsIn K mainGlobals "bool" = some none)
    (z_tuple : PySem.W.nsIn K mainGlobals "tuple" = some none)
    (z_zip : PySem.W.nsIn K mainGlobals "zip" = some none) (l : PySem.W.OpenLaw) (hl : l.prog = P) :
    LawAtG l w K 11 63 "script" mg fa h := by
  subst hl
  have ee := hfa.symm.trans (PySem.W.mg_of X G aLaw)
  cases ee
  have FLow : FunC K "is_lowercase" "is_lowercase" sLow fLow _ cLow := funC_mk lLow coLow kLow
  have FText := fun_mk (st := sText) lText coText kText
  have FAre : FunC K "are_stamps" "are_stamps" sAre fAre _ cAre := funC_mk lAre coAre kAre
  have FAe : FunC K "are_entries" "are_entries" sAe fAe _ cAe := funC_mk lAe coAe kAe
  have FSh : FunC K "shows" "shows" sSh fSh _ cSh := funC_mk lSh coSh kSh
  have FTape := fun_mk (st := sTape) lTape coTape kTape
  have FNext := fun_mk (st := sNext) lNext coNext kNext
  have FInks := fun_mk (st := sInks) lInks coInks kInks
  have FAg := fun_mk (st := sAg) lAg coAg kAg
  have FFe := fun_mk (st := sFe) lFe coFe kFe
  have FNe := fun_mk (st := sNe) lNe coNe kNe
  have FTo := fun_mk (st := sTo) lTo coTo kTo
  have FInt := fun_mk (st := sIsI) lInt coInt kInt
  have FIe := fun_mk (st := sIe) lIe coIe kIe
  have FIt := fun_mk (st := sIt) lIt coIt kIt
  have FHa := fun_mk (st := sHa) lHa coHa kHa
  have FLb := fun_mk (st := sLb) lLb coLb kLb
  have FMk := fun_mk (st := sMk) lMk coMk kMk
  have FMd := fun_mk (st := sMd) lMd coMd kMd
  have FLa := fun_mk (st := sLa) lLa coLa kLa
  have FLe := fun_mk (st := sLe) lLe coLe kLe
  have FLi := fun_mk (st := sLi) lLi coLi kLi
  have FRt := fun_mk (st := sRx) lRt coRt kRt
  have FLaw := fun_mk (st := sLy) lLaw coLaw kLaw
  have FInit := fun_mk (st := sInit) lInit coInit kInit
  have FOf := fun_mk (st := sOf) lOf coOf kOf
  have FWi := fun_mk (st := sWidth) lWi coWi kWi
  have FWo := fun_mk (st := sWords) lWo coWo kWo
  have FB := fun_mk (st := sBInit) lB coB kB
  have FN := fun_mk (st := sNamed) lN coN kN
  have FG := fun_mk (st := sStamps) lG coG kG
  have FP := fun_mk (st := sPInit) lP coP kP
  have FSp := fun_mk (st := sSpots) lSp coSp kSp
  have FKi := fun_mk (st := sKinds) lKi coKi kKi
  have FCt := fun_mk (st := sChkT) lCt coCt kCt
  have X' : Txt K mg C fLow fText fAre fTape fNext fInks := ⟨(PySem.W.mg_none_of X G z_all), (PySem.W.mg_none_of X G z_len), (PySem.W.mg_none_of X G z_isinstance), (PySem.W.mg_none_of X G z_str), (PySem.W.mg_none_of X G z_list), (PySem.W.mg_none_of X G z_set), (PySem.W.mg_none_of X G z_abs), (PySem.W.mg_none_of X G z_max), (PySem.W.mg_none_of X G z_min), (PySem.W.mg_none_of X G z_range),
    (PySem.W.mg_of X G aTape), kTape, (PySem.W.mg_of X G aNext), kNext, (PySem.W.mg_of X G aInks), kInks, (PySem.W.mg_of X G aLow), kLow, (PySem.W.mg_of X G aText), kText, (PySem.W.mg_of X G aAre), kAre, (PySem.W.mg_of X G aC), ⟨_, (PySem.W.mg_of X G aWidest)⟩, ⟨_, (PySem.W.mg_of X G aMostL)⟩, ⟨rdS, gaS⟩, ⟨_, mst, ⟨_, rfl⟩⟩⟩
  have XT : TopT K mg fAg := ⟨(PySem.W.mg_none_of X G z_enumerate), ⟨_, (PySem.W.mg_of X G aUn)⟩, (PySem.W.mg_of X G aAg), kAg⟩
  have XU : TopU K mg fFe fNe := ⟨(PySem.W.mg_of X G aFe), kFe, (PySem.W.mg_of X G aNe), kNe⟩
  have XL : TopL K mg fLa fMk fMd fLe fLi fTo := ⟨(PySem.W.mg_of X G aLa), kLa, (PySem.W.mg_of X G aMk), kMk, (PySem.W.mg_of X G aMd), kMd, (PySem.W.mg_of X G aLe), kLe, (PySem.W.mg_of X G aLi), kLi, (PySem.W.mg_of X G aTo), kTo⟩
  let BAv : BA := ⟨fun i => match i with | 0 => b0 | 1 => b1 | 2 => b2 | _ => b3, (fun i => match i with | 0 => fF0 | 1 => fF1 | _ => fF2), (fun i => match i with | 0 => fS0 | 1 => fS1 | _ => fS2), fB, pN, gN, pS, gS, fKn, fCk, CP, fP, fSp, fKi, fCs⟩
  have BB : Bds K mg BAv := by
    refine ⟨fun i hi => ?_, fun i j hi hj => ?_, fun i j hi hj => ?_, e6, e7, fun i hi => ?_, fun i hi => ?_, (PySem.W.mg_of X G aCP), ⟨mkP, iP, jP, kcP⟩, ⟨⟨pgP, hdP, poP, saP⟩, nq1, nq2, nq3⟩, ⟨(PySem.W.mg_of X G aSp), kSp, (PySem.W.mg_of X G aKi), kKi, (PySem.W.mg_none_of X G z_enumerate)⟩⟩
    · match i, hi with
      | 0, _ => exact ⟨(PySem.W.mg_of X G ab0), ⟨mkB0, iB0, jB, kcB0⟩, ⟨pgB0, hdB0, poB0, saB0⟩, ⟨eqB0, neB0, soB0⟩, nS0, nP0, ⟨rdB0, gaB0⟩, ⟨_, nm0, ⟨_, rfl⟩⟩, ⟨_, cn0, ⟨_, rfl⟩, gc0, by decide +kernel⟩, ⟨_, ce0, ⟨_, rfl⟩, cg0, by decide +kernel⟩, ⟨nd0, ⟨_, nR⟩, nF⟩, ⟨pr0, p1, p2, ⟨_, p3⟩⟩, hcb0, hmb0, ⟨kn0, jKn, kKn⟩, ⟨ck0, jCk, kCk⟩, ⟨cs0, jCs, kCs⟩⟩
      | 1, _ => exact ⟨(PySem.W.mg_of X G ab1), ⟨mkB1, iB1, jB, kcB1⟩, ⟨pgB1, hdB1, poB1, saB1⟩, ⟨eqB1, neB1, soB1⟩, nS1, nP1, ⟨rdB1, gaB1⟩, ⟨_, nm1, ⟨_, rfl⟩⟩, ⟨_, cn1, ⟨_, rfl⟩, gc1, by decide +kernel⟩, ⟨_, ce1, ⟨_, rfl⟩, cg1, by decide +kernel⟩, ⟨nd1, ⟨_, nR⟩, nF⟩, ⟨pr1, p1, p2, ⟨_, p3⟩⟩, hcb1, hmb1, ⟨kn1, jKn, kKn⟩, ⟨ck1, jCk, kCk⟩, ⟨cs1, jCs, kCs⟩⟩
      | 2, _ => exact ⟨(PySem.W.mg_of X G ab2), ⟨mkB2, iB2, jB, kcB2⟩, ⟨pgB2, hdB2, poB2, saB2⟩, ⟨eqB2, neB2, soB2⟩, nS2, nP2, ⟨rdB2, gaB2⟩, ⟨_, nm2, ⟨_, rfl⟩⟩, ⟨_, cn2, ⟨_, rfl⟩, gc2, by decide +kernel⟩, ⟨_, ce2, ⟨_, rfl⟩, cg2, by decide +kernel⟩, ⟨nd2, ⟨_, nR⟩, nF⟩, ⟨pr2, p1, p2, ⟨_, p3⟩⟩, hcb2, hmb2, ⟨kn2, jKn, kKn⟩, ⟨ck2, jCk, kCk⟩, ⟨cs2, jCs, kCs⟩⟩
      | 3, _ => exact ⟨(PySem.W.mg_of X G ab3), ⟨mkB3, iB3, jB, kcB3⟩, ⟨pgB3, hdB3, poB3, saB3⟩, ⟨eqB3, neB3, soB3⟩, nS3, nP3, ⟨rdB3, gaB3⟩, ⟨_, nm3, ⟨_, rfl⟩⟩, ⟨_, cn3, ⟨_, rfl⟩, gc3, by decide +kernel⟩, ⟨_, ce3, ⟨_, rfl⟩, cg3, by decide +kernel⟩, ⟨nd3, ⟨_, nR⟩, nF⟩, ⟨pr3, p1, p2, ⟨_, p3⟩⟩, hcb3, hmb3, ⟨kn3, jKn, kKn⟩, ⟨ck3, jCk, kCk⟩, ⟨cs3, jCs, kCs⟩⟩
    · match i, j, hi, hj with
      | 0, 0, _, _ => exact kit_ref icb0 tyb0 sb00 sb00
      | 0, 1, _, _ => exact kit_ref icb1 tyb1 sb01 sb11
      | 0, 2, _, _ => exact kit_ref icb2 tyb2 sb02 sb22
      | 0, 3, _, _ => exact kit_ref icb3 tyb3 sb03 sb33
      | 1, 0, _, _ => exact kit_ref icb0 tyb0 sb10 sb00
      | 1, 1, _, _ => exact kit_ref icb1 tyb1 sb11 sb11
      | 1, 2, _, _ => exact kit_ref icb2 tyb2 sb12 sb22
      | 1, 3, _, _ => exact kit_ref icb3 tyb3 sb13 sb33
      | 2, 0, _, _ => exact kit_ref icb0 tyb0 sb20 sb00
      | 2, 1, _, _ => exact kit_ref icb1 tyb1 sb21 sb11
      | 2, 2, _, _ => exact kit_ref icb2 tyb2 sb22 sb22
      | 2, 3, _, _ => exact kit_ref icb3 tyb3 sb23 sb33
      | 3, 0, _, _ => exact kit_ref icb0 tyb0 sb30 sb00
      | 3, 1, _, _ => exact kit_ref icb1 tyb1 sb31 sb11
      | 3, 2, _, _ => exact kit_ref icb2 tyb2 sb32 sb22
      | 3, 3, _, _ => exact kit_ref icb3 tyb3 sb33 sb33
    · match i, j, hi, hj with
      | 0, 0, _, _ => exact sb00
      | 0, 1, _, _ => exact sb01
      | 0, 2, _, _ => exact sb02
      | 0, 3, _, _ => exact sb03
      | 1, 0, _, _ => exact sb10
      | 1, 1, _, _ => exact sb11
      | 1, 2, _, _ => exact sb12
      | 1, 3, _, _ => exact sb13
      | 2, 0, _, _ => exact sb20
      | 2, 1, _, _ => exact sb21
      | 2, 2, _, _ => exact sb22
      | 2, 3, _, _ => exact sb23
      | 3, 0, _, _ => exact sb30
      | 3, 1, _, _ => exact sb31
      | 3, 2, _, _ => exact sb32
      | 3, 3, _, _ => exact sb33
    · match i, hi with
      | 0, _ => exact ⟨mF0, jF0, kF0_⟩
      | 1, _ => exact ⟨mF1, jF1, kF1_⟩
      | 2, _ => exact ⟨mF2, jF2, kF2_⟩
    · match i, hi with
      | 0, _ => exact ⟨mS0, jS0, kS0_⟩
      | 1, _ => exact ⟨mS1, jS1, kS1_⟩
      | 2, _ => exact ⟨mS2, jS2, kS2_⟩
  have Er : ErrC K mg "InvalidStamps" D := ⟨xD, (PySem.W.mg_of X G aD), kkD, bD, tyD⟩
  have En : ErrC K mg "InvalidName" DN := ⟨xDN, (PySem.W.mg_of X G aDN), kkDN, bDN, tyDN⟩
  have ETx : ErrC K mg "InvalidText" DTx := ⟨xDTx, (PySem.W.mg_of X G aDTx), kkDTx, bDTx, tyDTx⟩
  have mCt : ∀ i, i < 3 → Meth K (BAv.c i) "check_text" fCt := fun i hi => by
    match i, hi with
    | 0, _ => exact ⟨mCt0, jCt, kCt⟩
    | 1, _ => exact ⟨mCt1, jCt, kCt⟩
    | 2, _ => exact ⟨mCt2, jCt, kCt⟩
  have hint : mg "int" = none := (PySem.W.mg_none_of X G z_int)
  have hrep : mg "repr" = none := (PySem.W.mg_none_of X G z_repr)
  have hsort : mg "sorted" = none := (PySem.W.mg_none_of X G z_sorted)
  have XW : TopY K mg fRt := ⟨(PySem.W.mg_of X G aRt), kRt⟩
  have XS : TopS K mg fInt fIe fAe fIt := ⟨(PySem.W.mg_none_of X G z_int), (PySem.W.mg_none_of X G z_bool), (PySem.W.mg_none_of X G z_tuple), (PySem.W.mg_none_of X G z_zip), (PySem.W.mg_of X G aInt), kInt, (PySem.W.mg_of X G aIe), kIe, (PySem.W.mg_of X G aAe), kAe, (PySem.W.mg_of X G aIt), kIt⟩
  have XR : TopR K mg fHa fLb fSh := ⟨(PySem.W.mg_of X G aHa), kHa, (PySem.W.mg_of X G aLb), kLb, (PySem.W.mg_of X G aSh), kSh⟩
  refine ⟨PySem.W.fnOf "law" "law" (defArgs sLy) (defBody sLy) (defScope sLy) .none kVLaw dcLaw pmLaw anLaw cdLaw ctLaw, [(cLow, PLow), (cAre, PAre), (cAe, PAe), (cSh, PSh)], spLy K [PLow, PAre, PAe, PSh], fun p hp => ?_, fun p hp => ?_, fun p hp => ?_, fun s u => .of_eq rfl, fun H a ns hn hH hS => ?_, fun base KB GB TB => ?_⟩
  · simp only [List.mem_cons, List.not_mem_nil, or_false] at hp
    rcases hp with rfl | rfl | rfl | rfl
    · exact TB0.2
    · exact TB1.2
    · exact TB2.2
    · exact TB3.2
  · simp only [List.mem_cons, List.not_mem_nil, or_false] at hp
    rcases hp with rfl | rfl | rfl | rfl
    · exact nLow
    · exact nAre
    · exact nAe
    · exact nSh
  · simp only [List.mem_cons, List.not_mem_nil, or_false] at hp
    rcases hp with rfl | rfl | rfl | rfl
    · exact TB0.1
    · exact TB1.1
    · exact TB2.1
    · exact TB3.1
  · refine ⟨a, ns, rfl, fun p hp => ?_, hS, hn, fun _ => rfl⟩
    have tr : TriplesOk (#[] : Array Value).toList := by first | trivial | simp [TriplesOk] | exact ⟨⟩
    simp only [List.mem_cons, List.not_mem_nil, or_false] at hp
    rcases hp with rfl | rfl | rfl | rfl
    · exact ⟨#[], hH (cLow, _) (by simp), tr⟩
    · exact ⟨#[], hH (cAre, _) (by simp), tr⟩
    · exact ⟨#[], hH (cAe, _) (by simp), tr⟩
    · exact ⟨#[], hH (cSh, _) (by simp), tr⟩
  · have TTB : ∀ c P', (c, P') ∈ ([(cLow, PLow), (cAre, PAre), (cAe, PAe), (cSh, PSh)] : List (Addr × Addr)) → TabB base mg c P' := fun c P' hm => (fun (z : LamX.TabB base mg c P') => ⟨z.code, z.bm, z.gP⟩) (TB (c, P') hm)
    have Tb : Tab base mg [PLow, PAre, PAe, PSh] cLow PLow cAre PAre := ⟨TTB cLow PLow (by simp), TTB cAre PAre (by simp), by simp, by simp⟩
    have O : Own K C := ⟨⟨pgS, hdS, poS, saS⟩, nW⟩
    have M : Mk K C fInit := ⟨mkS, iInit, jInit, kcS⟩
    have co : ClX.CMet K C (.type "type") "of" pO gO := ⟨oAOf, ⟨_, oROf⟩, oFOf⟩
    have pwo : PropOf K C "words" pWo fWo := ⟨prWo, pGWo, ptWo, ⟨_, pcWo⟩⟩
    have pwi : PropOf K C "width" pWi fWi := ⟨prWi, pGWi, ptWi, ⟨_, pcWi⟩⟩
    have FI1 := ok_init (P := l.prog) (w := w) FInit FAre FText FLow X' Tb O Er
    have OO := ok_of FOf FI1 M X' Er
    have FI0 : FnOk l.prog w K mg base CX0 4 BAv.fB _ ["self", "stamps"] (spBInit K C BAv) := ok_binit FB FWo FP FSp FKi X' O pwo BB
    have NN := ok_named (P := l.prog) (w := w) (base := base) FN FB FI0 BB En
    have FE := ok_fe (P := l.prog) (w := w) (base := base) FFe FAg FG FWo X' XT O pwo BB
    have NE := ok_ne (P := l.prog) (w := w) (base := base) FNe FAg FG FWo FWi X' XT O pwo pwi BB
    have CT : ∀ i, i < 3 → FnOk l.prog w K mg base (L2.CX l.prog w) 4 fCt _ ["self", "text"] (spChkT K [PLow, PAre, PAe, PSh] BAv DTx i) := fun i hi => ok_chkt hi FCt FText FLow X' Tb BB ETx
    have TO := ok_to FTo FCt CT FFe FE FNe NE XU BB mCt
    have MDD := ok_md (T := [PLow, PAre, PAe, PSh]) FMd FOf FN OO NN BB X' co hint
    have LEE := ok_le (P := l.prog) (w := w) (base := base) FLe FLa X' XT XL hint
    have LI := ok_li (P := l.prog) (w := w) (base := base) FLi X' hsort
    have TAe : TabB base mg cAe PAe := TTB cAe PAe (by simp)
    have TSh : TabB base mg cSh PSh := TTB cSh PSh (by simp)
    have IT := ok_it (P := l.prog) (w := w) (T := [PLow, PAre, PAe, PSh]) FIt FAe FIe FInt X' XS TAe (by simp)
    have LB := ok_lb (P := l.prog) (w := w) (base := base) FLb FG FWi X' O pwi BB
    have SH := ok_sh FSh FCt CT FFe FE FNe NE FG FWo FIt IT FHa FLb LB X' XT XU XS XR O pwo BB mCt TSh (by simp)
    have RT := ok_rx FRt FMd MDD FTo TO FLi LI FLe LEE FNext FSh.toFun SH X' XL XR hrep
    exact ok_ly FLaw FMd MDD FTo TO FSh.toFun SH XR FTape FNext FInks FMk FRt RT X' XT XL XW hint
end Ov

set_option Elab.async false
set_option linter.all false
set_option maxRecDepth 100000
set_option maxHeartbeats 0
namespace Ov
open PySem PySem.Spec PyProof.Rows L2 GxR
theorem factsA {w : World} {K : PySem.W.Frag} {h : Heap} {mg : Str → Option Value} {fa : Addr} (X : K.In h) (G : h.Ns mainGlobals mg) (hfa : mg "law" = some (.ref fa)) (c : SaysP fnA tfA exA h K) (l : PySem.W.OpenLaw) (hl : l.prog = PySem.Challenge.rw_overstamps_k42_numbers_of_parts_shown.prog) : LawAtG l w K 11 63 "script" mg fa h := by
  obtain ⟨g0, m0⟩ := He.ba (show ((fs0 K).all id && _) = true from c.more)
  obtain ⟨g1, m1⟩ := He.ba (show ((fs1 K).all id && _) = true from m0)
  obtain ⟨g2, m2⟩ := He.ba (show ((fs2 K).all id && _) = true from m1)
  obtain ⟨g3, m3⟩ := He.ba (show ((fs3 K).all id && _) = true from m2)
  obtain ⟨g4, m4⟩ := He.ba (show ((fs4 K).all id && _) = true from m3)
  obtain ⟨g5, m5⟩ := He.ba (show ((fs5 K).all id && _) = true from m4)
  have g6 : (fs6 K).all id = true := m5
  have aLow : PySem.W.nsIn K mainGlobals "is_lowercase" = some (some (.ref (q_fLow K))) := of_decide_eq_true (all_at g0 0 rfl)
  have aText : PySem.W.nsIn K mainGlobals "is_text" = some (some (.ref (q_fText K))) := of_decide_eq_true (all_at g0 1 rfl)
  have aAre : PySem.W.nsIn K mainGlobals "are_stamps" = some (some (.ref (q_fAre K))) := of_decide_eq_true (all_at g0 2 rfl)
  have aAe : PySem.W.nsIn K mainGlobals "are_entries" = some (some (.ref (q_fAe K))) := of_decide_eq_true (all_at g0 3 rfl)
  have aSh : PySem.W.nsIn K mainGlobals "shows" = some (some (.ref (q_fSh K))) := of_decide_eq_true (all_at g0 4 rfl)
  have aTape : PySem.W.nsIn K mainGlobals "_law_vat" = some (some (.ref (q_fTape K))) := of_decide_eq_true (all_at g0 5 rfl)
  have aNext : PySem.W.nsIn K mainGlobals "_law_sip" = some (some (.ref (q_fNext K))) := of_decide_eq_true (all_at g0 6 rfl)
  have aInks : PySem.W.nsIn K mainGlobals "_law_words" = some (some (.ref (q_fInks K))) := of_decide_eq_true (all_at g0 7 rfl)
  have aAg : PySem.W.nsIn K mainGlobals "agreeing" = some (some (.ref (q_fAg K))) := of_decide_eq_true (all_at g0 8 rfl)
  have aFe : PySem.W.nsIn K mainGlobals "first_entries" = some (some (.ref (q_fFe K))) := of_decide_eq_true (all_at g0 9 rfl)
  have aNe : PySem.W.nsIn K mainGlobals "next_entries" = some (some (.ref (q_fNe K))) := of_decide_eq_true (all_at g0 10 rfl)
  have aTo : PySem.W.nsIn K mainGlobals "table_of" = some (some (.ref (q_fTo K))) := of_decide_eq_true (all_at g0 11 rfl)
  have aInt : PySem.W.nsIn K mainGlobals "is_integer" = some (some (.ref (q_fInt K))) := of_decide_eq_true (all_at g0 12 rfl)
  have aIe : PySem.W.nsIn K mainGlobals "is_entry" = some (some (.ref (q_fIe K))) := of_decide_eq_true (all_at g0 13 rfl)
  have aIt : PySem.W.nsIn K mainGlobals "is_table" = some (some (.ref (q_fIt K))) := of_decide_eq_true (all_at g0 14 rfl)
  have aHa : PySem.W.nsIn K mainGlobals "has_all" = some (some (.ref (q_fHa K))) := of_decide_eq_true (all_at g0 15 rfl)
  have aLb : PySem.W.nsIn K mainGlobals "last_bounds" = some (some (.ref (q_fLb K))) := of_decide_eq_true (all_at g0 16 rfl)
  have aMk : PySem.W.nsIn K mainGlobals "_law_mark" = some (some (.ref (q_fMk K))) := of_decide_eq_true (all_at g0 17 rfl)
  have aMd : PySem.W.nsIn K mainGlobals "_law_made" = some (some (.ref (q_fMd K))) := of_decide_eq_true (all_at g0 18 rfl)
  have aLa : PySem.W.nsIn K mainGlobals "_law_agreeing" = some (some (.ref (q_fLa K))) := of_decide_eq_true (all_at g0 19 rfl)
  have aLe : PySem.W.nsIn K mainGlobals "_law_least" = some (some (.ref (q_fLe K))) := of_decide_eq_true (all_at g0 20 rfl)
  have aLi : PySem.W.nsIn K mainGlobals "_law_listed" = some (some (.ref (q_fLi K))) := of_decide_eq_true (all_at g0 21 rfl)
  have aRt : PySem.W.nsIn K mainGlobals "_law_right" = some (some (.ref (q_fRt K))) := of_decide_eq_true (all_at g0 22 rfl)
  have aLaw : PySem.W.nsIn K mainGlobals "law" = some (some (.ref (q_fLaw K))) := of_decide_eq_true (all_at g0 23 rfl)
  have aWidest : PySem.W.nsIn K mainGlobals "WIDEST" = some (some (.int 8 (q_tW K))) := of_decide_eq_true (all_at g0 24 rfl)
  have aMostL : PySem.W.nsIn K mainGlobals "MOST_LETTERS" = some (some (.int 36 (q_tM K))) := of_decide_eq_true (all_at g0 25 rfl)
  have aUn : PySem.W.nsIn K mainGlobals "UNREADABLE" = some (some (.str "?" (q_tUn K))) := of_decide_eq_true (all_at g0 26 rfl)
  have aC : PySem.W.nsIn K mainGlobals "Stamps" = some (some (.ref (q_C K))) := of_decide_eq_true (all_at g0 27 rfl)
  have rdS : PySem.W.readsIn K (q_C K) (.type "type") = true := of_decide_eq_true (all_at g0 28 rfl)
  have gaS : PySem.W.specialIn K (.ref (q_C K)) "__getattribute__" = some (some (.builtin "type.__getattribute__")) := of_decide_eq_true (all_at g0 29 rfl)
  have pgS : PySem.W.plainGet K (q_C K) Str.empty = true := of_decide_eq_true (all_at g0 30 rfl)
  have hdS : PySem.W.hasDictIn K (q_C K) = true := of_decide_eq_true (all_at g0 31 rfl)
  have poS : PySem.W.plainOver K (q_C K) = true := of_decide_eq_true (all_at g0 32 rfl)
  have saS : PySem.W.findIn K (.ref (q_C K)) "__setattr__" = some (some (.builtin "object.__setattr__")) := of_decide_eq_true (all_at g0 33 rfl)
  have mkS : PySem.W.makesIn K (q_C K) = true := of_decide_eq_true (all_at g0 34 rfl)
  have kcS : PySem.W.keepIn K (.ref (q_C K)) = true := of_decide_eq_true (all_at g0 35 rfl)
  have iInit : PySem.W.findIn K (.ref (q_C K)) "__init__" = some (some (.ref (q_fInit K))) := of_decide_eq_true (all_at g0 36 rfl)
  have jInit : PySem.W.isFn K (.ref (q_fInit K)) = true := of_decide_eq_true (all_at g0 37 rfl)
  have nW : PySem.W.findIn K (.ref (q_C K)) "_words" = some none := of_decide_eq_true (all_at g0 38 rfl)
  have mst : PySem.W.findCls K (.ref (q_C K)) (.type "type") "MOST" = some (.val (.int 6 (q_tMost K))) := of_decide_eq_true (all_at g0 39 rfl)
  have oAOf : PySem.W.findCls K (.ref (q_C K)) (.type "type") "of" = some (.get (.builtin "classmethod.__get__") (.ref (q_pO K)) .none (.ref (q_C K))) := of_decide_eq_true (all_at g1 0 rfl)
  have oROf : PySem.W.recIn K (q_pO K) "classmethod" = some (.ref (q_gO K) :: (q_restO K)) := of_decide_eq_true (all_at g1 1 rfl)
  have oFOf : PySem.W.fnIn K (q_gO K) = true := of_decide_eq_true (all_at g1 2 rfl)
  have prWi : PySem.W.findIn K (.ref (q_C K)) "width" = some (some (.ref (q_pWi K))) := of_decide_eq_true (all_at g1 3 rfl)
  have pGWi : PySem.W.specialIn K (.ref (q_pWi K)) "__get__" = some (some (.builtin "property.__get__")) := of_decide_eq_true (all_at g1 4 rfl)
  have ptWi : PySem.W.takesIn K (.ref (q_pWi K)) = some true := of_decide_eq_true (all_at g1 5 rfl)
  have pcWi : PySem.W.recIn K (q_pWi K) "property" = some (.ref (q_fWi K) :: (q_restWi K)) := of_decide_eq_true (all_at g1 6 rfl)
  have prWo : PySem.W.findIn K (.ref (q_C K)) "words" = some (some (.ref (q_pWo K))) := of_decide_eq_true (all_at g1 7 rfl)
  have pGWo : PySem.W.specialIn K (.ref (q_pWo K)) "__get__" = some (some (.builtin "property.__get__")) := of_decide_eq_true (all_at g1 8 rfl)
  have ptWo : PySem.W.takesIn K (.ref (q_pWo K)) = some true := of_decide_eq_true (all_at g1 9 rfl)
  have pcWo : PySem.W.recIn K (q_pWo K) "property" = some (.ref (q_fWo K) :: (q_restWo K)) := of_decide_eq_true (all_at g1 10 rfl)
  have aD : PySem.W.nsIn K mainGlobals "InvalidStamps" = some (some (.ref (q_D K))) := of_decide_eq_true (all_at g1 11 rfl)
  have xD : PySem.W.excIn K (q_D K) [.type "ValueError", .type "Exception", .type "BaseException", .type "object"] "ValueError.__new__" = true := of_decide_eq_true (all_at g1 12 rfl)
  have kkD : PySem.W.keepIn K (.ref (q_D K)) = true := of_decide_eq_true (all_at g1 13 rfl)
  have bD : PySem.W.subIn K (.ref (q_D K)) (.type "BaseException") = some true := of_decide_eq_true (all_at g1 14 rfl)
  have tyD : PySem.W.typeIn K (.ref (q_D K)) = some (.type "type") := of_decide_eq_true (all_at g1 15 rfl)
  have aDN : PySem.W.nsIn K mainGlobals "InvalidName" = some (some (.ref (q_DN K))) := of_decide_eq_true (all_at g1 16 rfl)
  have xDN : PySem.W.excIn K (q_DN K) [.type "ValueError", .type "Exception", .type "BaseException", .type "object"] "ValueError.__new__" = true := of_decide_eq_true (all_at g1 17 rfl)
  have kkDN : PySem.W.keepIn K (.ref (q_DN K)) = true := of_decide_eq_true (all_at g1 18 rfl)
  have bDN : PySem.W.subIn K (.ref (q_DN K)) (.type "BaseException") = some true := of_decide_eq_true (all_at g1 19 rfl)
  have tyDN : PySem.W.typeIn K (.ref (q_DN K)) = some (.type "type") := of_decide_eq_true (all_at g1 20 rfl)
  have aDTx : PySem.W.nsIn K mainGlobals "InvalidText" = some (some (.ref (q_DTx K))) := of_decide_eq_true (all_at g1 21 rfl)
  have xDTx : PySem.W.excIn K (q_DTx K) [.type "ValueError", .type "Exception", .type "BaseException", .type "object"] "ValueError.__new__" = true := of_decide_eq_true (all_at g1 22 rfl)
  have kkDTx : PySem.W.keepIn K (.ref (q_DTx K)) = true := of_decide_eq_true (all_at g1 23 rfl)
  have bDTx : PySem.W.subIn K (.ref (q_DTx K)) (.type "BaseException") = some true := of_decide_eq_true (all_at g1 24 rfl)
  have tyDTx : PySem.W.typeIn K (.ref (q_DTx K)) = some (.type "type") := of_decide_eq_true (all_at g1 25 rfl)
  have e6 : PySem.W.specialIn K (.builtin "object.__class__") "__get__" = some (some (.builtin "getset_descriptor.__get__")) := of_decide_eq_true (all_at g1 26 rfl)
  have e7 : PySem.W.takesIn K (.builtin "object.__class__") = some true := of_decide_eq_true (all_at g1 27 rfl)
  have ab0 : PySem.W.nsIn K mainGlobals "Line" = some (some (.ref (q_b0 K))) := of_decide_eq_true (all_at g1 28 rfl)
  have rdB0 : PySem.W.readsIn K (q_b0 K) (.type "type") = true := of_decide_eq_true (all_at g1 29 rfl)
  have gaB0 : PySem.W.specialIn K (.ref (q_b0 K)) "__getattribute__" = some (some (.builtin "type.__getattribute__")) := of_decide_eq_true (all_at g1 30 rfl)
  have pgB0 : PySem.W.plainGet K (q_b0 K) Str.empty = true := of_decide_eq_true (all_at g1 31 rfl)
  have hdB0 : PySem.W.hasDictIn K (q_b0 K) = true := of_decide_eq_true (all_at g1 32 rfl)
  have poB0 : PySem.W.plainOver K (q_b0 K) = true := of_decide_eq_true (all_at g1 33 rfl)
  have saB0 : PySem.W.findIn K (.ref (q_b0 K)) "__setattr__" = some (some (.builtin "object.__setattr__")) := of_decide_eq_true (all_at g1 34 rfl)
  have mkB0 : PySem.W.makesIn K (q_b0 K) = true := of_decide_eq_true (all_at g1 35 rfl)
  have kcB0 : PySem.W.keepIn K (.ref (q_b0 K)) = true := of_decide_eq_true (all_at g1 36 rfl)
  have eqB0 : PySem.W.findIn K (.ref (q_b0 K)) "__eq__" = some (some (.builtin "object.__eq__")) := of_decide_eq_true (all_at g1 37 rfl)
  have neB0 : PySem.W.findIn K (.ref (q_b0 K)) "__ne__" = some (some (.builtin "object.__ne__")) := of_decide_eq_true (all_at g1 38 rfl)
  have soB0 : PySem.W.subIn K (.ref (q_b0 K)) (.type "object") = some true := of_decide_eq_true (all_at g1 39 rfl)
  have iB0 : PySem.W.findIn K (.ref (q_b0 K)) "__init__" = some (some (.ref (q_fB K))) := of_decide_eq_true (all_at g2 0 rfl)
  have nS0 : PySem.W.findIn K (.ref (q_b0 K)) "_stamps" = some none := of_decide_eq_true (all_at g2 1 rfl)
  have nP0 : PySem.W.findIn K (.ref (q_b0 K)) "pieces" = some none := of_decide_eq_true (all_at g2 2 rfl)
  have nm0 : PySem.W.findCls K (.ref (q_b0 K)) (.type "type") "NAME" = some (.val (.str "line" (q_u0 K))) := of_decide_eq_true (all_at g2 3 rfl)
  have cn0 : PySem.W.findIn K (.ref (q_b0 K)) "NAME" = some (some (.str "line" (q_v0 K))) := of_decide_eq_true (all_at g2 4 rfl)
  have gc0 : PySem.W.specialIn K (.str "line" (q_v0 K)) "__get__" = some none := of_decide_eq_true (all_at g2 5 rfl)
  have ce0 : PySem.W.findIn K (.ref (q_b0 K)) "CELLS" = some (some (.int 120 (q_w0 K))) := of_decide_eq_true (all_at g2 6 rfl)
  have cg0 : PySem.W.specialIn K (.int 120 (q_w0 K)) "__get__" = some none := of_decide_eq_true (all_at g2 7 rfl)
  have nd0 : PySem.W.findCls K (.ref (q_b0 K)) (.type "type") "named" = some (.get (.builtin "classmethod.__get__") (.ref (q_pN K)) .none (.ref (q_b0 K))) := of_decide_eq_true (all_at g2 8 rfl)
  have pr0 : PySem.W.findIn K (.ref (q_b0 K)) "stamps" = some (some (.ref (q_pS K))) := of_decide_eq_true (all_at g2 9 rfl)
  have kn0 : PySem.W.findIn K (.ref (q_b0 K)) "_knows" = some (some (.ref (q_fKn K))) := of_decide_eq_true (all_at g2 10 rfl)
  have ck0 : PySem.W.findIn K (.ref (q_b0 K)) "_check_stamping" = some (some (.ref (q_fCk K))) := of_decide_eq_true (all_at g2 11 rfl)
  have cs0 : PySem.W.findIn K (.ref (q_b0 K)) "check_strip" = some (some (.ref (q_fCs K))) := of_decide_eq_true (all_at g2 12 rfl)
  have hcb0 : PySem.W.findIn K (.ref (q_b0 K)) "__class__" = some (some (.builtin "object.__class__")) := of_decide_eq_true (all_at g2 13 rfl)
  have hmb0 : PySem.W.mroIn K (q_b0 K) (.type "object") = some true := of_decide_eq_true (all_at g2 14 rfl)
  have icb0 : PySem.W.isClsIn K (q_b0 K) = true := of_decide_eq_true (all_at g2 15 rfl)
  have tyb0 : PySem.W.typeIn K (.ref (q_b0 K)) = some (.type "type") := of_decide_eq_true (all_at g2 16 rfl)
  have ab1 : PySem.W.nsIn K mainGlobals "Window" = some (some (.ref (q_b1 K))) := of_decide_eq_true (all_at g2 17 rfl)
  have rdB1 : PySem.W.readsIn K (q_b1 K) (.type "type") = true := of_decide_eq_true (all_at g2 18 rfl)
  have gaB1 : PySem.W.specialIn K (.ref (q_b1 K)) "__getattribute__" = some (some (.builtin "type.__getattribute__")) := of_decide_eq_true (all_at g2 19 rfl)
  have pgB1 : PySem.W.plainGet K (q_b1 K) Str.empty = true := of_decide_eq_true (all_at g2 20 rfl)
  have hdB1 : PySem.W.hasDictIn K (q_b1 K) = true := of_decide_eq_true (all_at g2 21 rfl)
  have poB1 : PySem.W.plainOver K (q_b1 K) = true := of_decide_eq_true (all_at g2 22 rfl)
  have saB1 : PySem.W.findIn K (.ref (q_b1 K)) "__setattr__" = some (some (.builtin "object.__setattr__")) := of_decide_eq_true (all_at g2 23 rfl)
  have mkB1 : PySem.W.makesIn K (q_b1 K) = true := of_decide_eq_true (all_at g2 24 rfl)
  have kcB1 : PySem.W.keepIn K (.ref (q_b1 K)) = true := of_decide_eq_true (all_at g2 25 rfl)
  have eqB1 : PySem.W.findIn K (.ref (q_b1 K)) "__eq__" = some (some (.builtin "object.__eq__")) := of_decide_eq_true (all_at g2 26 rfl)
  have neB1 : PySem.W.findIn K (.ref (q_b1 K)) "__ne__" = some (some (.builtin "object.__ne__")) := of_decide_eq_true (all_at g2 27 rfl)
  have soB1 : PySem.W.subIn K (.ref (q_b1 K)) (.type "object") = some true := of_decide_eq_true (all_at g2 28 rfl)
  have iB1 : PySem.W.findIn K (.ref (q_b1 K)) "__init__" = some (some (.ref (q_fB K))) := of_decide_eq_true (all_at g2 29 rfl)
  have nS1 : PySem.W.findIn K (.ref (q_b1 K)) "_stamps" = some none := of_decide_eq_true (all_at g2 30 rfl)
  have nP1 : PySem.W.findIn K (.ref (q_b1 K)) "pieces" = some none := of_decide_eq_true (all_at g2 31 rfl)
  have nm1 : PySem.W.findCls K (.ref (q_b1 K)) (.type "type") "NAME" = some (.val (.str "window" (q_u1 K))) := of_decide_eq_true (all_at g2 32 rfl)
  have cn1 : PySem.W.findIn K (.ref (q_b1 K)) "NAME" = some (some (.str "window" (q_v1 K))) := of_decide_eq_true (all_at g2 33 rfl)
  have gc1 : PySem.W.specialIn K (.str "window" (q_v1 K)) "__get__" = some none := of_decide_eq_true (all_at g2 34 rfl)
  have ce1 : PySem.W.findIn K (.ref (q_b1 K)) "CELLS" = some (some (.int 120 (q_w1 K))) := of_decide_eq_true (all_at g2 35 rfl)
  have cg1 : PySem.W.specialIn K (.int 120 (q_w1 K)) "__get__" = some none := of_decide_eq_true (all_at g2 36 rfl)
  have nd1 : PySem.W.findCls K (.ref (q_b1 K)) (.type "type") "named" = some (.get (.builtin "classmethod.__get__") (.ref (q_pN K)) .none (.ref (q_b1 K))) := of_decide_eq_true (all_at g2 37 rfl)
  have pr1 : PySem.W.findIn K (.ref (q_b1 K)) "stamps" = some (some (.ref (q_pS K))) := of_decide_eq_true (all_at g2 38 rfl)
  have kn1 : PySem.W.findIn K (.ref (q_b1 K)) "_knows" = some (some (.ref (q_fKn K))) := of_decide_eq_true (all_at g2 39 rfl)
  have ck1 : PySem.W.findIn K (.ref (q_b1 K)) "_check_stamping" = some (some (.ref (q_fCk K))) := of_decide_eq_true (all_at g3 0 rfl)
  have cs1 : PySem.W.findIn K (.ref (q_b1 K)) "check_strip" = some (some (.ref (q_fCs K))) := of_decide_eq_true (all_at g3 1 rfl)
  have hcb1 : PySem.W.findIn K (.ref (q_b1 K)) "__class__" = some (some (.builtin "object.__class__")) := of_decide_eq_true (all_at g3 2 rfl)
  have hmb1 : PySem.W.mroIn K (q_b1 K) (.type "object") = some true := of_decide_eq_true (all_at g3 3 rfl)
  have icb1 : PySem.W.isClsIn K (q_b1 K) = true := of_decide_eq_true (all_at g3 4 rfl)
  have tyb1 : PySem.W.typeIn K (.ref (q_b1 K)) = some (.type "type") := of_decide_eq_true (all_at g3 5 rfl)
  have ab2 : PySem.W.nsIn K mainGlobals "Ring" = some (some (.ref (q_b2 K))) := of_decide_eq_true (all_at g3 6 rfl)
  have rdB2 : PySem.W.readsIn K (q_b2 K) (.type "type") = true := of_decide_eq_true (all_at g3 7 rfl)
  have gaB2 : PySem.W.specialIn K (.ref (q_b2 K)) "__getattribute__" = some (some (.builtin "type.__getattribute__")) := of_decide_eq_true (all_at g3 8 rfl)
  have pgB2 : PySem.W.plainGet K (q_b2 K) Str.empty = true := of_decide_eq_true (all_at g3 9 rfl)
  have hdB2 : PySem.W.hasDictIn K (q_b2 K) = true := of_decide_eq_true (all_at g3 10 rfl)
  have poB2 : PySem.W.plainOver K (q_b2 K) = true := of_decide_eq_true (all_at g3 11 rfl)
  have saB2 : PySem.W.findIn K (.ref (q_b2 K)) "__setattr__" = some (some (.builtin "object.__setattr__")) := of_decide_eq_true (all_at g3 12 rfl)
  have mkB2 : PySem.W.makesIn K (q_b2 K) = true := of_decide_eq_true (all_at g3 13 rfl)
  have kcB2 : PySem.W.keepIn K (.ref (q_b2 K)) = true := of_decide_eq_true (all_at g3 14 rfl)
  have eqB2 : PySem.W.findIn K (.ref (q_b2 K)) "__eq__" = some (some (.builtin "object.__eq__")) := of_decide_eq_true (all_at g3 15 rfl)
  have neB2 : PySem.W.findIn K (.ref (q_b2 K)) "__ne__" = some (some (.builtin "object.__ne__")) := of_decide_eq_true (all_at g3 16 rfl)
  have soB2 : PySem.W.subIn K (.ref (q_b2 K)) (.type "object") = some true := of_decide_eq_true (all_at g3 17 rfl)
  have iB2 : PySem.W.findIn K (.ref (q_b2 K)) "__init__" = some (some (.ref (q_fB K))) := of_decide_eq_true (all_at g3 18 rfl)
  have nS2 : PySem.W.findIn K (.ref (q_b2 K)) "_stamps" = some none := of_decide_eq_true (all_at g3 19 rfl)
  have nP2 : PySem.W.findIn K (.ref (q_b2 K)) "pieces" = some none := of_decide_eq_true (all_at g3 20 rfl)
  have nm2 : PySem.W.findCls K (.ref (q_b2 K)) (.type "type") "NAME" = some (.val (.str "ring" (q_u2 K))) := of_decide_eq_true (all_at g3 21 rfl)
  have cn2 : PySem.W.findIn K (.ref (q_b2 K)) "NAME" = some (some (.str "ring" (q_v2 K))) := of_decide_eq_true (all_at g3 22 rfl)
  have gc2 : PySem.W.specialIn K (.str "ring" (q_v2 K)) "__get__" = some none := of_decide_eq_true (all_at g3 23 rfl)
  have ce2 : PySem.W.findIn K (.ref (q_b2 K)) "CELLS" = some (some (.int 60 (q_w2 K))) := of_decide_eq_true (all_at g3 24 rfl)
  have cg2 : PySem.W.specialIn K (.int 60 (q_w2 K)) "__get__" = some none := of_decide_eq_true (all_at g3 25 rfl)
  have nd2 : PySem.W.findCls K (.ref (q_b2 K)) (.type "type") "named" = some (.get (.builtin "classmethod.__get__") (.ref (q_pN K)) .none (.ref (q_b2 K))) := of_decide_eq_true (all_at g3 26 rfl)
  have pr2 : PySem.W.findIn K (.ref (q_b2 K)) "stamps" = some (some (.ref (q_pS K))) := of_decide_eq_true (all_at g3 27 rfl)
  have kn2 : PySem.W.findIn K (.ref (q_b2 K)) "_knows" = some (some (.ref (q_fKn K))) := of_decide_eq_true (all_at g3 28 rfl)
  have ck2 : PySem.W.findIn K (.ref (q_b2 K)) "_check_stamping" = some (some (.ref (q_fCk K))) := of_decide_eq_true (all_at g3 29 rfl)
  have cs2 : PySem.W.findIn K (.ref (q_b2 K)) "check_strip" = some (some (.ref (q_fCs K))) := of_decide_eq_true (all_at g3 30 rfl)
  have hcb2 : PySem.W.findIn K (.ref (q_b2 K)) "__class__" = some (some (.builtin "object.__class__")) := of_decide_eq_true (all_at g3 31 rfl)
  have hmb2 : PySem.W.mroIn K (q_b2 K) (.type "object") = some true := of_decide_eq_true (all_at g3 32 rfl)
  have icb2 : PySem.W.isClsIn K (q_b2 K) = true := of_decide_eq_true (all_at g3 33 rfl)
  have tyb2 : PySem.W.typeIn K (.ref (q_b2 K)) = some (.type "type") := of_decide_eq_true (all_at g3 34 rfl)
  have ab3 : PySem.W.nsIn K mainGlobals "Band" = some (some (.ref (q_b3 K))) := of_decide_eq_true (all_at g3 35 rfl)
  have rdB3 : PySem.W.readsIn K (q_b3 K) (.type "type") = true := of_decide_eq_true (all_at g3 36 rfl)
  have gaB3 : PySem.W.specialIn K (.ref (q_b3 K)) "__getattribute__" = some (some (.builtin "type.__getattribute__")) := of_decide_eq_true (all_at g3 37 rfl)
  have pgB3 : PySem.W.plainGet K (q_b3 K) Str.empty = true := of_decide_eq_true (all_at g3 38 rfl)
  have hdB3 : PySem.W.hasDictIn K (q_b3 K) = true := of_decide_eq_true (all_at g3 39 rfl)
  have poB3 : PySem.W.plainOver K (q_b3 K) = true := of_decide_eq_true (all_at g4 0 rfl)
  have saB3 : PySem.W.findIn K (.ref (q_b3 K)) "__setattr__" = some (some (.builtin "object.__setattr__")) := of_decide_eq_true (all_at g4 1 rfl)
  have mkB3 : PySem.W.makesIn K (q_b3 K) = true := of_decide_eq_true (all_at g4 2 rfl)
  have kcB3 : PySem.W.keepIn K (.ref (q_b3 K)) = true := of_decide_eq_true (all_at g4 3 rfl)
  have eqB3 : PySem.W.findIn K (.ref (q_b3 K)) "__eq__" = some (some (.builtin "object.__eq__")) := of_decide_eq_true (all_at g4 4 rfl)
  have neB3 : PySem.W.findIn K (.ref (q_b3 K)) "__ne__" = some (some (.builtin "object.__ne__")) := of_decide_eq_true (all_at g4 5 rfl)
  have soB3 : PySem.W.subIn K (.ref (q_b3 K)) (.type "object") = some true := of_decide_eq_true (all_at g4 6 rfl)
  have iB3 : PySem.W.findIn K (.ref (q_b3 K)) "__init__" = some (some (.ref (q_fB K))) := of_decide_eq_true (all_at g4 7 rfl)
  have nS3 : PySem.W.findIn K (.ref (q_b3 K)) "_stamps" = some none := of_decide_eq_true (all_at g4 8 rfl)
  have nP3 : PySem.W.findIn K (.ref (q_b3 K)) "pieces" = some none := of_decide_eq_true (all_at g4 9 rfl)
  have nm3 : PySem.W.findCls K (.ref (q_b3 K)) (.type "type") "NAME" = some (.val (.str "" (q_u3 K))) := of_decide_eq_true (all_at g4 10 rfl)
  have cn3 : PySem.W.findIn K (.ref (q_b3 K)) "NAME" = some (some (.str "" (q_v3 K))) := of_decide_eq_true (all_at g4 11 rfl)
  have gc3 : PySem.W.specialIn K (.str "" (q_v3 K)) "__get__" = some none := of_decide_eq_true (all_at g4 12 rfl)
  have ce3 : PySem.W.findIn K (.ref (q_b3 K)) "CELLS" = some (some (.int 120 (q_w3 K))) := of_decide_eq_true (all_at g4 13 rfl)
  have cg3 : PySem.W.specialIn K (.int 120 (q_w3 K)) "__get__" = some none := of_decide_eq_true (all_at g4 14 rfl)
  have nd3 : PySem.W.findCls K (.ref (q_b3 K)) (.type "type") "named" = some (.get (.builtin "classmethod.__get__") (.ref (q_pN K)) .none (.ref (q_b3 K))) := of_decide_eq_true (all_at g4 15 rfl)
  have pr3 : PySem.W.findIn K (.ref (q_b3 K)) "stamps" = some (some (.ref (q_pS K))) := of_decide_eq_true (all_at g4 16 rfl)
  have kn3 : PySem.W.findIn K (.ref (q_b3 K)) "_knows" = some (some (.ref (q_fKn K))) := of_decide_eq_true (all_at g4 17 rfl)
  have ck3 : PySem.W.findIn K (.ref (q_b3 K)) "_check_stamping" = some (some (.ref (q_fCk K))) := of_decide_eq_true (all_at g4 18 rfl)
  have cs3 : PySem.W.findIn K (.ref (q_b3 K)) "check_strip" = some (some (.ref (q_fCs K))) := of_decide_eq_true (all_at g4 19 rfl)
  have hcb3 : PySem.W.findIn K (.ref (q_b3 K)) "__class__" = some (some (.builtin "object.__class__")) := of_decide_eq_true (all_at g4 20 rfl)
  have hmb3 : PySem.W.mroIn K (q_b3 K) (.type "object") = some true := of_decide_eq_true (all_at g4 21 rfl)
  have icb3 : PySem.W.isClsIn K (q_b3 K) = true := of_decide_eq_true (all_at g4 22 rfl)
  have tyb3 : PySem.W.typeIn K (.ref (q_b3 K)) = some (.type "type") := of_decide_eq_true (all_at g4 23 rfl)
  have jB : PySem.W.isFn K (.ref (q_fB K)) = true := of_decide_eq_true (all_at g4 24 rfl)
  have jKn : PySem.W.isFn K (.ref (q_fKn K)) = true := of_decide_eq_true (all_at g4 25 rfl)
  have kKn : PySem.W.keepIn K (.ref (q_fKn K)) = true := of_decide_eq_true (all_at g4 26 rfl)
  have jCs : PySem.W.isFn K (.ref (q_fCs K)) = true := of_decide_eq_true (all_at g4 27 rfl)
  have kCs : PySem.W.keepIn K (.ref (q_fCs K)) = true := of_decide_eq_true (all_at g4 28 rfl)
  have jCk : PySem.W.isFn K (.ref (q_fCk K)) = true := of_decide_eq_true (all_at g4 29 rfl)
  have kCk : PySem.W.keepIn K (.ref (q_fCk K)) = true := of_decide_eq_true (all_at g4 30 rfl)
  have nR : PySem.W.recIn K (q_pN K) "classmethod" = some (.ref (q_gN K) :: (q_restN K)) := of_decide_eq_true (all_at g4 31 rfl)
  have nF : PySem.W.fnIn K (q_gN K) = true := of_decide_eq_true (all_at g4 32 rfl)
  have p1 : PySem.W.specialIn K (.ref (q_pS K)) "__get__" = some (some (.builtin "property.__get__")) := of_decide_eq_true (all_at g4 33 rfl)
  have p2 : PySem.W.takesIn K (.ref (q_pS K)) = some true := of_decide_eq_true (all_at g4 34 rfl)
  have p3 : PySem.W.recIn K (q_pS K) "property" = some (.ref (q_gS K) :: (q_restS K)) := of_decide_eq_true (all_at g4 35 rfl)
  have sb00 : PySem.W.subIn K (.ref (q_b0 K)) (.ref (q_b0 K)) = some true := of_decide_eq_true (all_at g4 36 rfl)
  have sb01 : PySem.W.subIn K (.ref (q_b0 K)) (.ref (q_b1 K)) = some false := of_decide_eq_true (all_at g4 37 rfl)
  have sb02 : PySem.W.subIn K (.ref (q_b0 K)) (.ref (q_b2 K)) = some false := of_decide_eq_true (all_at g4 38 rfl)
  have sb03 : PySem.W.subIn K (.ref (q_b0 K)) (.ref (q_b3 K)) = some true := of_decide_eq_true (all_at g4 39 rfl)
  have sb10 : PySem.W.subIn K (.ref (q_b1 K)) (.ref (q_b0 K)) = some false := of_decide_eq_true (all_at g5 0 rfl)
  have sb11 : PySem.W.subIn K (.ref (q_b1 K)) (.ref (q_b1 K)) = some true := of_decide_eq_true (all_at g5 1 rfl)
  have sb12 : PySem.W.subIn K (.ref (q_b1 K)) (.ref (q_b2 K)) = some false := of_decide_eq_true (all_at g5 2 rfl)
  have sb13 : PySem.W.subIn K (.ref (q_b1 K)) (.ref (q_b3 K)) = some true := of_decide_eq_true (all_at g5 3 rfl)
  have sb20 : PySem.W.subIn K (.ref (q_b2 K)) (.ref (q_b0 K)) = some false := of_decide_eq_true (all_at g5 4 rfl)
  have sb21 : PySem.W.subIn K (.ref (q_b2 K)) (.ref (q_b1 K)) = some false := of_decide_eq_true (all_at g5 5 rfl)
  have sb22 : PySem.W.subIn K (.ref (q_b2 K)) (.ref (q_b2 K)) = some true := of_decide_eq_true (all_at g5 6 rfl)
  have sb23 : PySem.W.subIn K (.ref (q_b2 K)) (.ref (q_b3 K)) = some true := of_decide_eq_true (all_at g5 7 rfl)
  have sb30 : PySem.W.subIn K (.ref (q_b3 K)) (.ref (q_b0 K)) = some false := of_decide_eq_true (all_at g5 8 rfl)
  have sb31 : PySem.W.subIn K (.ref (q_b3 K)) (.ref (q_b1 K)) = some false := of_decide_eq_true (all_at g5 9 rfl)
  have sb32 : PySem.W.subIn K (.ref (q_b3 K)) (.ref (q_b2 K)) = some false := of_decide_eq_true (all_at g5 10 rfl)
  have sb33 : PySem.W.subIn K (.ref (q_b3 K)) (.ref (q_b3 K)) = some true := of_decide_eq_true (all_at g5 11 rfl)
  have mF0 : PySem.W.findIn K (.ref (q_b0 K)) "fits" = some (some (.ref (q_fF0 K))) := of_decide_eq_true (all_at g5 12 rfl)
  have jF0 : PySem.W.isFn K (.ref (q_fF0 K)) = true := of_decide_eq_true (all_at g5 13 rfl)
  have kF0_ : PySem.W.keepIn K (.ref (q_fF0 K)) = true := of_decide_eq_true (all_at g5 14 rfl)
  have mS0 : PySem.W.findIn K (.ref (q_b0 K)) "stamped" = some (some (.ref (q_fS0 K))) := of_decide_eq_true (all_at g5 15 rfl)
  have jS0 : PySem.W.isFn K (.ref (q_fS0 K)) = true := of_decide_eq_true (all_at g5 16 rfl)
  have kS0_ : PySem.W.keepIn K (.ref (q_fS0 K)) = true := of_decide_eq_true (all_at g5 17 rfl)
  have mF1 : PySem.W.findIn K (.ref (q_b1 K)) "fits" = some (some (.ref (q_fF1 K))) := of_decide_eq_true (all_at g5 18 rfl)
  have jF1 : PySem.W.isFn K (.ref (q_fF1 K)) = true := of_decide_eq_true (all_at g5 19 rfl)
  have kF1_ : PySem.W.keepIn K (.ref (q_fF1 K)) = true := of_decide_eq_true (all_at g5 20 rfl)
  have mS1 : PySem.W.findIn K (.ref (q_b1 K)) "stamped" = some (some (.ref (q_fS1 K))) := of_decide_eq_true (all_at g5 21 rfl)
  have jS1 : PySem.W.isFn K (.ref (q_fS1 K)) = true := of_decide_eq_true (all_at g5 22 rfl)
  have kS1_ : PySem.W.keepIn K (.ref (q_fS1 K)) = true := of_decide_eq_true (all_at g5 23 rfl)
  have mF2 : PySem.W.findIn K (.ref (q_b2 K)) "fits" = some (some (.ref (q_fF2 K))) := of_decide_eq_true (all_at g5 24 rfl)
  have jF2 : PySem.W.isFn K (.ref (q_fF2 K)) = true := of_decide_eq_true (all_at g5 25 rfl)
  have kF2_ : PySem.W.keepIn K (.ref (q_fF2 K)) = true := of_decide_eq_true (all_at g5 26 rfl)
  have mS2 : PySem.W.findIn K (.ref (q_b2 K)) "stamped" = some (some (.ref (q_fS2 K))) := of_decide_eq_true (all_at g5 27 rfl)
  have jS2 : PySem.W.isFn K (.ref (q_fS2 K)) = true := of_decide_eq_true (all_at g5 28 rfl)
  have kS2_ : PySem.W.keepIn K (.ref (q_fS2 K)) = true := of_decide_eq_true (all_at g5 29 rfl)
  have aCP : PySem.W.nsIn K mainGlobals "Pieces" = some (some (.ref (q_CP K))) := of_decide_eq_true (all_at g5 30 rfl)
  have rdP : PySem.W.readsIn K (q_CP K) (.type "type") = true := of_decide_eq_true (all_at g5 31 rfl)
  have gaP : PySem.W.specialIn K (.ref (q_CP K)) "__getattribute__" = some (some (.builtin "type.__getattribute__")) := of_decide_eq_true (all_at g5 32 rfl)
  have pgP : PySem.W.plainGet K (q_CP K) Str.empty = true := of_decide_eq_true (all_at g5 33 rfl)
  have hdP : PySem.W.hasDictIn K (q_CP K) = true := of_decide_eq_true (all_at g5 34 rfl)
  have poP : PySem.W.plainOver K (q_CP K) = true := of_decide_eq_true (all_at g5 35 rfl)
  have saP : PySem.W.findIn K (.ref (q_CP K)) "__setattr__" = some (some (.builtin "object.__setattr__")) := of_decide_eq_true (all_at g5 36 rfl)
  have mkP : PySem.W.makesIn K (q_CP K) = true := of_decide_eq_true (all_at g5 37 rfl)
  have kcP : PySem.W.keepIn K (.ref (q_CP K)) = true := of_decide_eq_true (all_at g5 38 rfl)
  have iP : PySem.W.findIn K (.ref (q_CP K)) "__init__" = some (some (.ref (q_fP K))) := of_decide_eq_true (all_at g5 39 rfl)
  have jP : PySem.W.isFn K (.ref (q_fP K)) = true := of_decide_eq_true (all_at g6 0 rfl)
  have nq1 : PySem.W.findIn K (.ref (q_CP K)) "span" = some none := of_decide_eq_true (all_at g6 1 rfl)
  have nq2 : PySem.W.findIn K (.ref (q_CP K)) "spots" = some none := of_decide_eq_true (all_at g6 2 rfl)
  have nq3 : PySem.W.findIn K (.ref (q_CP K)) "kinds" = some none := of_decide_eq_true (all_at g6 3 rfl)
  have aSp : PySem.W.nsIn K mainGlobals "spots_of" = some (some (.ref (q_fSp K))) := of_decide_eq_true (all_at g6 4 rfl)
  have aKi : PySem.W.nsIn K mainGlobals "kinds_of" = some (some (.ref (q_fKi K))) := of_decide_eq_true (all_at g6 5 rfl)
  have z_enumerate : PySem.W.nsIn K mainGlobals "enumerate" = some none := of_decide_eq_true (all_at g6 6 rfl)
  have mCt0 : PySem.W.findIn K (.ref (q_b0 K)) "check_text" = some (some (.ref (q_fCt K))) := of_decide_eq_true (all_at g6 7 rfl)
  have mCt1 : PySem.W.findIn K (.ref (q_b1 K)) "check_text" = some (some (.ref (q_fCt K))) := of_decide_eq_true (all_at g6 8 rfl)
  have mCt2 : PySem.W.findIn K (.ref (q_b2 K)) "check_text" = some (some (.ref (q_fCt K))) := of_decide_eq_true (all_at g6 9 rfl)
  have jCt : PySem.W.isFn K (.ref (q_fCt K)) = true := of_decide_eq_true (all_at g6 10 rfl)
  have z_all : PySem.W.nsIn K mainGlobals "all" = some none := of_decide_eq_true (all_at g6 11 rfl)
  have z_len : PySem.W.nsIn K mainGlobals "len" = some none := of_decide_eq_true (all_at g6 12 rfl)
  have z_isinstance : PySem.W.nsIn K mainGlobals "isinstance" = some none := of_decide_eq_true (all_at g6 13 rfl)
  have z_str : PySem.W.nsIn K mainGlobals "str" = some none := of_decide_eq_true (all_at g6 14 rfl)
  have z_list : PySem.W.nsIn K mainGlobals "list" = some none := of_decide_eq_true (all_at g6 15 rfl)
  have z_set : PySem.W.nsIn K mainGlobals "set" = some none := of_decide_eq_true (all_at g6 16 rfl)
  have z_abs : PySem.W.nsIn K mainGlobals "abs" = some none := of_decide_eq_true (all_at g6 17 rfl)
  have z_max : PySem.W.nsIn K mainGlobals "max" = some none := of_decide_eq_true (all_at g6 18 rfl)
  have z_min : PySem.W.nsIn K mainGlobals "min" = some none := of_decide_eq_true (all_at g6 19 rfl)
  have z_range : PySem.W.nsIn K mainGlobals "range" = some none := of_decide_eq_true (all_at g6 20 rfl)
  have z_int : PySem.W.nsIn K mainGlobals "int" = some none := of_decide_eq_true (all_at g6 21 rfl)
  have z_repr : PySem.W.nsIn K mainGlobals "repr" = some none := of_decide_eq_true (all_at g6 22 rfl)
  have z_sorted : PySem.W.nsIn K mainGlobals "sorted" = some none := of_decide_eq_true (all_at g6 23 rfl)
  have z_bool : PySem.W.nsIn K mainGlobals "bool" = some none := of_decide_eq_true (all_at g6 24 rfl)
  have z_tuple : PySem.W.nsIn K mainGlobals "tuple" = some none := of_decide_eq_true (all_at g6 25 rfl)
  have z_zip : PySem.W.nsIn K mainGlobals "zip" = some none := of_decide_eq_true (all_at g6 26 rfl)
  obtain ⟨ocLow, odLow, kVLow, dcLow, pmLow, anLow, cdLow, ctLow, slLow, l0Low, c0Low, k0Low⟩ := c.def_ 0 (d := d_Low) rfl
  obtain rfl : cdLow = .ref (q_cLow K) := codeP_eq l0Low c0Low
  have lLow : K.lookup (q_fLow K) = some ⟨ocLow, odLow, .func (PySem.W.fnOf "is_lowercase" "is_lowercase" (defArgs sLow) (defBody sLow) (defScope sLow) .none kVLow dcLow pmLow anLow (.ref (q_cLow K)) ctLow), slLow⟩ := l0Low
  have coLow : PySem.W.codeIn K (.ref (q_cLow K)) "is_lowercase" = true := c0Low
  have kLow : PySem.W.keepIn K (.ref (q_fLow K)) = true := k0Low
  obtain ⟨ocText, odText, kVText, dcText, pmText, anText, cdText, ctText, slText, l0Text, c0Text, k0Text⟩ := c.def_ 1 (d := d_Text) rfl
  have lText : K.lookup (q_fText K) = some ⟨ocText, odText, .func (PySem.W.fnOf "is_text" "is_text" (defArgs sText) (defBody sText) (defScope sText) .none kVText dcText pmText anText cdText ctText), slText⟩ := l0Text
  have coText : PySem.W.codeIn K cdText "is_text" = true := c0Text
  have kText : PySem.W.keepIn K (.ref (q_fText K)) = true := k0Text
  obtain ⟨ocAre, odAre, kVAre, dcAre, pmAre, anAre, cdAre, ctAre, slAre, l0Are, c0Are, k0Are⟩ := c.def_ 2 (d := d_Are) rfl
  obtain rfl : cdAre = .ref (q_cAre K) := codeP_eq l0Are c0Are
  have lAre : K.lookup (q_fAre K) = some ⟨ocAre, odAre, .func (PySem.W.fnOf "are_stamps" "are_stamps" (defArgs sAre) (defBody sAre) (defScope sAre) .none kVAre dcAre pmAre anAre (.ref (q_cAre K)) ctAre), slAre⟩ := l0Are
  have coAre : PySem.W.codeIn K (.ref (q_cAre K)) "are_stamps" = true := c0Are
  have kAre : PySem.W.keepIn K (.ref (q_fAre K)) = true := k0Are
  obtain ⟨ocAe, odAe, kVAe, dcAe, pmAe, anAe, cdAe, ctAe, slAe, l0Ae, c0Ae, k0Ae⟩ := c.def_ 3 (d := d_Ae) rfl
  obtain rfl : cdAe = .ref (q_cAe K) := codeP_eq l0Ae c0Ae
  have lAe : K.lookup (q_fAe K) = some ⟨ocAe, odAe, .func (PySem.W.fnOf "are_entries" "are_entries" (defArgs sAe) (defBody sAe) (defScope sAe) .none kVAe dcAe pmAe anAe (.ref (q_cAe K)) ctAe), slAe⟩ := l0Ae
  have coAe : PySem.W.codeIn K (.ref (q_cAe K)) "are_entries" = true := c0Ae
  have kAe : PySem.W.keepIn K (.ref (q_fAe K)) = true := k0Ae
  obtain ⟨ocSh, odSh, kVSh, dcSh, pmSh, anSh, cdSh, ctSh, slSh, l0Sh, c0Sh, k0Sh⟩ := c.def_ 4 (d := d_Sh) rfl
  obtain rfl : cdSh = .ref (q_cSh K) := codeP_eq l0Sh c0Sh
  have lSh : K.lookup (q_fSh K) = some ⟨ocSh, odSh, .func (PySem.W.fnOf "shows" "shows" (defArgs sSh) (defBody sSh) (defScope sSh) .none kVSh dcSh pmSh anSh (.ref (q_cSh K)) ctSh), slSh⟩ := l0Sh
  have coSh : PySem.W.codeIn K (.ref (q_cSh K)) "shows" = true := c0Sh
  have kSh : PySem.W.keepIn K (.ref (q_fSh K)) = true := k0Sh
  obtain ⟨ocTape, odTape, kVTape, dcTape, pmTape, anTape, cdTape, ctTape, slTape, l0Tape, c0Tape, k0Tape⟩ := c.def_ 5 (d := d_Tape) rfl
  have lTape : K.lookup (q_fTape K) = some ⟨ocTape, odTape, .func (PySem.W.fnOf "_law_vat" "_law_vat" (defArgs sTape) (defBody sTape) (defScope sTape) .none kVTape dcTape pmTape anTape cdTape ctTape), slTape⟩ := l0Tape
  have coTape : PySem.W.codeIn K cdTape "_law_vat" = true := c0Tape
  have kTape : PySem.W.keepIn K (.ref (q_fTape K)) = true := k0Tape
  obtain ⟨ocNext, odNext, kVNext, dcNext, pmNext, anNext, cdNext, ctNext, slNext, l0Next, c0Next, k0Next⟩ := c.def_ 6 (d := d_Next) rfl
  have lNext : K.lookup (q_fNext K) = some ⟨ocNext, odNext, .func (PySem.W.fnOf "_law_sip" "_law_sip" (defArgs sNext) (defBody sNext) (defScope sNext) .none kVNext dcNext pmNext anNext cdNext ctNext), slNext⟩ := l0Next
  have coNext : PySem.W.codeIn K cdNext "_law_sip" = true := c0Next
  have kNext : PySem.W.keepIn K (.ref (q_fNext K)) = true := k0Next
  obtain ⟨ocInks, odInks, kVInks, dcInks, pmInks, anInks, cdInks, ctInks, slInks, l0Inks, c0Inks, k0Inks⟩ := c.def_ 7 (d := d_Inks) rfl
  have lInks : K.lookup (q_fInks K) = some ⟨ocInks, odInks, .func (PySem.W.fnOf "_law_words" "_law_words" (defArgs sInks) (defBody sInks) (defScope sInks) .none kVInks dcInks pmInks anInks cdInks ctInks), slInks⟩ := l0Inks
  have coInks : PySem.W.codeIn K cdInks "_law_words" = true := c0Inks
  have kInks : PySem.W.keepIn K (.ref (q_fInks K)) = true := k0Inks
  obtain ⟨ocAg, odAg, kVAg, dcAg, pmAg, anAg, cdAg, ctAg, slAg, l0Ag, c0Ag, k0Ag⟩ := c.def_ 8 (d := d_Ag) rfl
  have lAg : K.lookup (q_fAg K) = some ⟨ocAg, odAg, .func (PySem.W.fnOf "agreeing" "agreeing" (defArgs sAg) (defBody sAg) (defScope sAg) .none kVAg dcAg pmAg anAg cdAg ctAg), slAg⟩ := l0Ag
  have coAg : PySem.W.codeIn K cdAg "agreeing" = true := c0Ag
  have kAg : PySem.W.keepIn K (.ref (q_fAg K)) = true := k0Ag
  obtain ⟨ocFe, odFe, kVFe, dcFe, pmFe, anFe, cdFe, ctFe, slFe, l0Fe, c0Fe, k0Fe⟩ := c.def_ 9 (d := d_Fe) rfl
  have lFe : K.lookup (q_fFe K) = some ⟨ocFe, odFe, .func (PySem.W.fnOf "first_entries" "first_entries" (defArgs sFe) (defBody sFe) (defScope sFe) .none kVFe dcFe pmFe anFe cdFe ctFe), slFe⟩ := l0Fe
  have coFe : PySem.W.codeIn K cdFe "first_entries" = true := c0Fe
  have kFe : PySem.W.keepIn K (.ref (q_fFe K)) = true := k0Fe
  obtain ⟨ocNe, odNe, kVNe, dcNe, pmNe, anNe, cdNe, ctNe, slNe, l0Ne, c0Ne, k0Ne⟩ := c.def_ 10 (d := d_Ne) rfl
  have lNe : K.lookup (q_fNe K) = some ⟨ocNe, odNe, .func (PySem.W.fnOf "next_entries" "next_entries" (defArgs sNe) (defBody sNe) (defScope sNe) .none kVNe dcNe pmNe anNe cdNe ctNe), slNe⟩ := l0Ne
  have coNe : PySem.W.codeIn K cdNe "next_entries" = true := c0Ne
  have kNe : PySem.W.keepIn K (.ref (q_fNe K)) = true := k0Ne
  obtain ⟨ocTo, odTo, kVTo, dcTo, pmTo, anTo, cdTo, ctTo, slTo, l0To, c0To, k0To⟩ := c.def_ 11 (d := d_To) rfl
  have lTo : K.lookup (q_fTo K) = some ⟨ocTo, odTo, .func (PySem.W.fnOf "table_of" "table_of" (defArgs sTo) (defBody sTo) (defScope sTo) .none kVTo dcTo pmTo anTo cdTo ctTo), slTo⟩ := l0To
  have coTo : PySem.W.codeIn K cdTo "table_of" = true := c0To
  have kTo : PySem.W.keepIn K (.ref (q_fTo K)) = true := k0To
  obtain ⟨ocInt, odInt, kVInt, dcInt, pmInt, anInt, cdInt, ctInt, slInt, l0Int, c0Int, k0Int⟩ := c.def_ 12 (d := d_Int) rfl
  have lInt : K.lookup (q_fInt K) = some ⟨ocInt, odInt, .func (PySem.W.fnOf "is_integer" "is_integer" (defArgs sIsI) (defBody sIsI) (defScope sIsI) .none kVInt dcInt pmInt anInt cdInt ctInt), slInt⟩ := l0Int
  have coInt : PySem.W.codeIn K cdInt "is_integer" = true := c0Int
  have kInt : PySem.W.keepIn K (.ref (q_fInt K)) = true := k0Int
  obtain ⟨ocIe, odIe, kVIe, dcIe, pmIe, anIe, cdIe, ctIe, slIe, l0Ie, c0Ie, k0Ie⟩ := c.def_ 13 (d := d_Ie) rfl
  have lIe : K.lookup (q_fIe K) = some ⟨ocIe, odIe, .func (PySem.W.fnOf "is_entry" "is_entry" (defArgs sIe) (defBody sIe) (defScope sIe) .none kVIe dcIe pmIe anIe cdIe ctIe), slIe⟩ := l0Ie
  have coIe : PySem.W.codeIn K cdIe "is_entry" = true := c0Ie
  have kIe : PySem.W.keepIn K (.ref (q_fIe K)) = true := k0Ie
  obtain ⟨ocIt, odIt, kVIt, dcIt, pmIt, anIt, cdIt, ctIt, slIt, l0It, c0It, k0It⟩ := c.def_ 14 (d := d_It) rfl
  have lIt : K.lookup (q_fIt K) = some ⟨ocIt, odIt, .func (PySem.W.fnOf "is_table" "is_table" (defArgs sIt) (defBody sIt) (defScope sIt) .none kVIt dcIt pmIt anIt cdIt ctIt), slIt⟩ := l0It
  have coIt : PySem.W.codeIn K cdIt "is_table" = true := c0It
  have kIt : PySem.W.keepIn K (.ref (q_fIt K)) = true := k0It
  obtain ⟨ocHa, odHa, kVHa, dcHa, pmHa, anHa, cdHa, ctHa, slHa, l0Ha, c0Ha, k0Ha⟩ := c.def_ 15 (d := d_Ha) rfl
  have lHa : K.lookup (q_fHa K) = some ⟨ocHa, odHa, .func (PySem.W.fnOf "has_all" "has_all" (defArgs sHa) (defBody sHa) (defScope sHa) .none kVHa dcHa pmHa anHa cdHa ctHa), slHa⟩ := l0Ha
  have coHa : PySem.W.codeIn K cdHa "has_all" = true := c0Ha
  have kHa : PySem.W.keepIn K (.ref (q_fHa K)) = true := k0Ha
  obtain ⟨ocLb, odLb, kVLb, dcLb, pmLb, anLb, cdLb, ctLb, slLb, l0Lb, c0Lb, k0Lb⟩ := c.def_ 16 (d := d_Lb) rfl
  have lLb : K.lookup (q_fLb K) = some ⟨ocLb, odLb, .func (PySem.W.fnOf "last_bounds" "last_bounds" (defArgs sLb) (defBody sLb) (defScope sLb) .none kVLb dcLb pmLb anLb cdLb ctLb), slLb⟩ := l0Lb
  have coLb : PySem.W.codeIn K cdLb "last_bounds" = true := c0Lb
  have kLb : PySem.W.keepIn K (.ref (q_fLb K)) = true := k0Lb
  obtain ⟨ocMk, odMk, kVMk, dcMk, pmMk, anMk, cdMk, ctMk, slMk, l0Mk, c0Mk, k0Mk⟩ := c.def_ 17 (d := d_Mk) rfl
  have lMk : K.lookup (q_fMk K) = some ⟨ocMk, odMk, .func (PySem.W.fnOf "_law_mark" "_law_mark" (defArgs sMk) (defBody sMk) (defScope sMk) .none kVMk dcMk pmMk anMk cdMk ctMk), slMk⟩ := l0Mk
  have coMk : PySem.W.codeIn K cdMk "_law_mark" = true := c0Mk
  have kMk : PySem.W.keepIn K (.ref (q_fMk K)) = true := k0Mk
  obtain ⟨ocMd, odMd, kVMd, dcMd, pmMd, anMd, cdMd, ctMd, slMd, l0Md, c0Md, k0Md⟩ := c.def_ 18 (d := d_Md) rfl
  have lMd : K.lookup (q_fMd K) = some ⟨ocMd, odMd, .func (PySem.W.fnOf "_law_made" "_law_made" (defArgs sMd) (defBody sMd) (defScope sMd) .none kVMd dcMd pmMd anMd cdMd ctMd), slMd⟩ := l0Md
  have coMd : PySem.W.codeIn K cdMd "_law_made" = true := c0Md
  have kMd : PySem.W.keepIn K (.ref (q_fMd K)) = true := k0Md
  obtain ⟨ocLa, odLa, kVLa, dcLa, pmLa, anLa, cdLa, ctLa, slLa, l0La, c0La, k0La⟩ := c.def_ 19 (d := d_La) rfl
  have lLa : K.lookup (q_fLa K) = some ⟨ocLa, odLa, .func (PySem.W.fnOf "_law_agreeing" "_law_agreeing" (defArgs sLa) (defBody sLa) (defScope sLa) .none kVLa dcLa pmLa anLa cdLa ctLa), slLa⟩ := l0La
  have coLa : PySem.W.codeIn K cdLa "_law_agreeing" = true := c0La
  have kLa : PySem.W.keepIn K (.ref (q_fLa K)) = true := k0La
  obtain ⟨ocLe, odLe, kVLe, dcLe, pmLe, anLe, cdLe, ctLe, slLe, l0Le, c0Le, k0Le⟩ := c.def_ 20 (d := d_Le) rfl
  have lLe : K.lookup (q_fLe K) = some ⟨ocLe, odLe, .func (PySem.W.fnOf "_law_least" "_law_least" (defArgs sLe) (defBody sLe) (defScope sLe) .none kVLe dcLe pmLe anLe cdLe ctLe), slLe⟩ := l0Le
  have coLe : PySem.W.codeIn K cdLe "_law_least" = true := c0Le
  have kLe : PySem.W.keepIn K (.ref (q_fLe K)) = true := k0Le
  obtain ⟨ocLi, odLi, kVLi, dcLi, pmLi, anLi, cdLi, ctLi, slLi, l0Li, c0Li, k0Li⟩ := c.def_ 21 (d := d_Li) rfl
  have lLi : K.lookup (q_fLi K) = some ⟨ocLi, odLi, .func (PySem.W.fnOf "_law_listed" "_law_listed" (defArgs sLi) (defBody sLi) (defScope sLi) .none kVLi dcLi pmLi anLi cdLi ctLi), slLi⟩ := l0Li
  have coLi : PySem.W.codeIn K cdLi "_law_listed" = true := c0Li
  have kLi : PySem.W.keepIn K (.ref (q_fLi K)) = true := k0Li
  obtain ⟨ocRt, odRt, kVRt, dcRt, pmRt, anRt, cdRt, ctRt, slRt, l0Rt, c0Rt, k0Rt⟩ := c.def_ 22 (d := d_Rt) rfl
  have lRt : K.lookup (q_fRt K) = some ⟨ocRt, odRt, .func (PySem.W.fnOf "_law_right" "_law_right" (defArgs sRx) (defBody sRx) (defScope sRx) .none kVRt dcRt pmRt anRt cdRt ctRt), slRt⟩ := l0Rt
  have coRt : PySem.W.codeIn K cdRt "_law_right" = true := c0Rt
  have kRt : PySem.W.keepIn K (.ref (q_fRt K)) = true := k0Rt
  obtain ⟨ocLaw, odLaw, kVLaw, dcLaw, pmLaw, anLaw, cdLaw, ctLaw, slLaw, l0Law, c0Law, k0Law⟩ := c.def_ 23 (d := d_Law) rfl
  have lLaw : K.lookup (q_fLaw K) = some ⟨ocLaw, odLaw, .func (PySem.W.fnOf "law" "law" (defArgs sLy) (defBody sLy) (defScope sLy) .none kVLaw dcLaw pmLaw anLaw cdLaw ctLaw), slLaw⟩ := l0Law
  have coLaw : PySem.W.codeIn K cdLaw "law" = true := c0Law
  have kLaw : PySem.W.keepIn K (.ref (q_fLaw K)) = true := k0Law
  obtain ⟨ocInit, odInit, kVInit, dcInit, pmInit, anInit, cdInit, ctInit, slInit, l0Init, c0Init, k0Init⟩ := c.def_ 24 (d := d_Init) rfl
  have lInit : K.lookup (q_fInit K) = some ⟨ocInit, odInit, .func (PySem.W.fnOf "__init__" "Stamps.__init__" (defArgs sInit) (defBody sInit) (defScope sInit) .none kVInit dcInit pmInit anInit cdInit ctInit), slInit⟩ := l0Init
  have coInit : PySem.W.codeIn K cdInit "Stamps.__init__" = true := c0Init
  have kInit : PySem.W.keepIn K (.ref (q_fInit K)) = true := k0Init
  obtain ⟨ocOf, odOf, kVOf, dcOf, pmOf, anOf, cdOf, ctOf, slOf, l0Of, c0Of, k0Of⟩ := c.def_ 25 (d := d_Of) rfl
  have lOf : K.lookup (q_gO K) = some ⟨ocOf, odOf, .func (PySem.W.fnOf "of" "Stamps.of" (defArgs sOf) (defBody sOf) (defScope sOf) .none kVOf dcOf pmOf anOf cdOf ctOf), slOf⟩ := l0Of
  have coOf : PySem.W.codeIn K cdOf "Stamps.of" = true := c0Of
  have kOf : PySem.W.keepIn K (.ref (q_gO K)) = true := k0Of
  obtain ⟨ocWi, odWi, kVWi, dcWi, pmWi, anWi, cdWi, ctWi, slWi, l0Wi, c0Wi, k0Wi⟩ := c.def_ 26 (d := d_Wi) rfl
  have lWi : K.lookup (q_fWi K) = some ⟨ocWi, odWi, .func (PySem.W.fnOf "width" "Stamps.width" (defArgs sWidth) (defBody sWidth) (defScope sWidth) .none kVWi dcWi pmWi anWi cdWi ctWi), slWi⟩ := l0Wi
  have coWi : PySem.W.codeIn K cdWi "Stamps.width" = true := c0Wi
  have kWi : PySem.W.keepIn K (.ref (q_fWi K)) = true := k0Wi
  obtain ⟨ocWo, odWo, kVWo, dcWo, pmWo, anWo, cdWo, ctWo, slWo, l0Wo, c0Wo, k0Wo⟩ := c.def_ 27 (d := d_Wo) rfl
  have lWo : K.lookup (q_fWo K) = some ⟨ocWo, odWo, .func (PySem.W.fnOf "words" "Stamps.words" (defArgs sWords) (defBody sWords) (defScope sWords) .none kVWo dcWo pmWo anWo cdWo ctWo), slWo⟩ := l0Wo
  have coWo : PySem.W.codeIn K cdWo "Stamps.words" = true := c0Wo
  have kWo : PySem.W.keepIn K (.ref (q_fWo K)) = true := k0Wo
  obtain ⟨ocB, odB, kVB, dcB, pmB, anB, cdB, ctB, slB, l0B, c0B, k0B⟩ := c.def_ 28 (d := d_B) rfl
  have lB : K.lookup (q_fB K) = some ⟨ocB, odB, .func (PySem.W.fnOf "__init__" "Band.__init__" (defArgs sBInit) (defBody sBInit) (defScope sBInit) .none kVB dcB pmB anB cdB ctB), slB⟩ := l0B
  have coB : PySem.W.codeIn K cdB "Band.__init__" = true := c0B
  have kB : PySem.W.keepIn K (.ref (q_fB K)) = true := k0B
  obtain ⟨ocN, odN, kVN, dcN, pmN, anN, cdN, ctN, slN, l0N, c0N, k0N⟩ := c.def_ 29 (d := d_N) rfl
  have lN : K.lookup (q_gN K) = some ⟨ocN, odN, .func (PySem.W.fnOf "named" "Band.named" (defArgs sNamed) (defBody sNamed) (defScope sNamed) .none kVN dcN pmN anN cdN ctN), slN⟩ := l0N
  have coN : PySem.W.codeIn K cdN "Band.named" = true := c0N
  have kN : PySem.W.keepIn K (.ref (q_gN K)) = true := k0N
  obtain ⟨ocG, odG, kVG, dcG, pmG, anG, cdG, ctG, slG, l0G, c0G, k0G⟩ := c.def_ 30 (d := d_G) rfl
  have lG : K.lookup (q_gS K) = some ⟨ocG, odG, .func (PySem.W.fnOf "stamps" "Band.stamps" (defArgs sStamps) (defBody sStamps) (defScope sStamps) .none kVG dcG pmG anG cdG ctG), slG⟩ := l0G
  have coG : PySem.W.codeIn K cdG "Band.stamps" = true := c0G
  have kG : PySem.W.keepIn K (.ref (q_gS K)) = true := k0G
  obtain ⟨ocP, odP, kVP, dcP, pmP, anP, cdP, ctP, slP, l0P, c0P, k0P⟩ := c.def_ 31 (d := d_P) rfl
  have lP : K.lookup (q_fP K) = some ⟨ocP, odP, .func (PySem.W.fnOf "__init__" "Pieces.__init__" (defArgs sPInit) (defBody sPInit) (defScope sPInit) .none kVP dcP pmP anP cdP ctP), slP⟩ := l0P
  have coP : PySem.W.codeIn K cdP "Pieces.__init__" = true := c0P
  have kP : PySem.W.keepIn K (.ref (q_fP K)) = true := k0P
  obtain ⟨ocSp, odSp, kVSp, dcSp, pmSp, anSp, cdSp, ctSp, slSp, l0Sp, c0Sp, k0Sp⟩ := c.def_ 32 (d := d_Sp) rfl
  have lSp : K.lookup (q_fSp K) = some ⟨ocSp, odSp, .func (PySem.W.fnOf "spots_of" "spots_of" (defArgs sSpots) (defBody sSpots) (defScope sSpots) .none kVSp dcSp pmSp anSp cdSp ctSp), slSp⟩ := l0Sp
  have coSp : PySem.W.codeIn K cdSp "spots_of" = true := c0Sp
  have kSp : PySem.W.keepIn K (.ref (q_fSp K)) = true := k0Sp
  obtain ⟨ocKi, odKi, kVKi, dcKi, pmKi, anKi, cdKi, ctKi, slKi, l0Ki, c0Ki, k0Ki⟩ := c.def_ 33 (d := d_Ki) rfl
  have lKi : K.lookup (q_fKi K) = some ⟨ocKi, odKi, .func (PySem.W.fnOf "kinds_of" "kinds_of" (defArgs sKinds) (defBody sKinds) (defScope sKinds) .none kVKi dcKi pmKi anKi cdKi ctKi), slKi⟩ := l0Ki
  have coKi : PySem.W.codeIn K cdKi "kinds_of" = true := c0Ki
  have kKi : PySem.W.keepIn K (.ref (q_fKi K)) = true := k0Ki
  obtain ⟨ocCt, odCt, kVCt, dcCt, pmCt, anCt, cdCt, ctCt, slCt, l0Ct, c0Ct, k0Ct⟩ := c.def_ 34 (d := d_Ct) rfl
  have lCt : K.lookup (q_fCt K) = some ⟨ocCt, odCt, .func (PySem.W.fnOf "check_text" "Band.check_text" (defArgs sChkT) (defBody sChkT) (defScope sChkT) .none kVCt dcCt pmCt anCt cdCt ctCt), slCt⟩ := l0Ct
  have coCt : PySem.W.codeIn K cdCt "Band.check_text" = true := c0Ct
  have kCt : PySem.W.keepIn K (.ref (q_fCt K)) = true := k0Ct
  have ptb0 : (fun K => (q_cLow K, q_PLow K) : TabP) ∈ tfA := by unfold tfA; simp
  have nLow : K.lookup (q_PLow K) = none := c.out _ ptb0
  have TB0 : PySem.W.CodeHd h (q_cLow K) (q_PLow K) ∧ h.get? (q_PLow K) = some { cls := .none, data := .fields #[] } := ⟨PySem.W.codeHd_of_K X (c.hd _ ptb0), c.empty _ ptb0⟩
  have ptb1 : (fun K => (q_cAre K, q_PAre K) : TabP) ∈ tfA := by unfold tfA; simp
  have nAre : K.lookup (q_PAre K) = none := c.out _ ptb1
  have TB1 : PySem.W.CodeHd h (q_cAre K) (q_PAre K) ∧ h.get? (q_PAre K) = some { cls := .none, data := .fields #[] } := ⟨PySem.W.codeHd_of_K X (c.hd _ ptb1), c.empty _ ptb1⟩
  have ptb2 : (fun K => (q_cAe K, q_PAe K) : TabP) ∈ tfA := by unfold tfA; simp
  have nAe : K.lookup (q_PAe K) = none := c.out _ ptb2
  have TB2 : PySem.W.CodeHd h (q_cAe K) (q_PAe K) ∧ h.get? (q_PAe K) = some { cls := .none, data := .fields #[] } := ⟨PySem.W.codeHd_of_K X (c.hd _ ptb2), c.empty _ ptb2⟩
  have ptb3 : (fun K => (q_cSh K, q_PSh K) : TabP) ∈ tfA := by unfold tfA; simp
  have nSh : K.lookup (q_PSh K) = none := c.out _ ptb3
  have TB3 : PySem.W.CodeHd h (q_cSh K) (q_PSh K) ∧ h.get? (q_PSh K) = some { cls := .none, data := .fields #[] } := ⟨PySem.W.codeHd_of_K X (c.hd _ ptb3), c.empty _ ptb3⟩
  exact all_mk X G hfa TB0 TB1 TB2 TB3 aLow lLow coLow kLow nLow aText lText coText kText aAre lAre coAre kAre nAre aAe lAe coAe kAe nAe aSh lSh coSh kSh nSh aTape lTape coTape kTape aNext lNext coNext kNext aInks lInks coInks kInks aAg lAg coAg kAg aFe lFe coFe kFe aNe lNe coNe kNe aTo lTo coTo kTo aInt lInt coInt kInt aIe lIe coIe kIe aIt lIt coIt kIt aHa lHa coHa kHa aLb lLb coLb kLb aMk lMk coMk kMk aMd lMd coMd kMd aLa lLa coLa kLa aLe lLe coLe kLe aLi lLi coLi kLi aRt lRt coRt kRt aLaw lLaw coLaw kLaw aWidest aMostL aUn aC rdS gaS pgS hdS poS saS mkS kcS iInit jInit lInit coInit kInit nW mst oAOf oROf oFOf lOf coOf kOf prWi pGWi ptWi pcWi lWi coWi kWi prWo pGWo ptWo pcWo lWo coWo kWo aD xD kkD bD tyD aDN xDN kkDN bDN tyDN aDTx xDTx kkDTx bDTx tyDTx e6 e7 ab0 rdB0 gaB0 pgB0 hdB0 poB0 saB0 mkB0 kcB0 eqB0 neB0 soB0 iB0 nS0 nP0 nm0 cn0 gc0 ce0 cg0 nd0 pr0 kn0 ck0 cs0 hcb0 hmb0 icb0 tyb0 ab1 rdB1 gaB1 pgB1 hdB1 poB1 saB1 mkB1 kcB1 eqB1 neB1 soB1 iB1 nS1 nP1 nm1 cn1 gc1 ce1 cg1 nd1 pr1 kn1 ck1 cs1 hcb1 hmb1 icb1 tyb1 ab2 rdB2 gaB2 pgB2 hdB2 poB2 saB2 mkB2 kcB2 eqB2 neB2 soB2 iB2 nS2 nP2 nm2 cn2 gc2 ce2 cg2 nd2 pr2 kn2 ck2 cs2 hcb2 hmb2 icb2 tyb2 ab3 rdB3 gaB3 pgB3 hdB3 poB3 saB3 mkB3 kcB3 eqB3 neB3 soB3 iB3 nS3 nP3 nm3 cn3 gc3 ce3 cg3 nd3 pr3 kn3 ck3 cs3 hcb3 hmb3 icb3 tyb3 jB lB coB kB jKn kKn jCs kCs jCk kCk nR nF lN coN kN p1 p2 p3 lG coG kG sb00 sb01 sb02 sb03 sb10 sb11 sb12 sb13 sb20 sb21 sb22 sb23 sb30 sb31 sb32 sb33 mF0 jF0 kF0_ mS0 jS0 kS0_ mF1 jF1 kF1_ mS1 jS1 kS1_ mF2 jF2 kF2_ mS2 jS2 kS2_ aCP rdP gaP pgP hdP poP saP mkP kcP iP jP lP coP kP nq1 nq2 nq3 aSp lSp coSp kSp aKi lKi coKi kKi z_enumerate mCt0 mCt1 mCt2 jCt lCt coCt kCt z_all z_len z_isinstance z_str z_list z_set z_abs z_max z_min z_range z_int z_repr z_sorted z_bool z_tuple z_zip l hl
end Ov

set_option Elab.async false
set_option linter.all false
open PySem PySem.W PySem.Calls PyProof.Rows
set_option maxRecDepth 100000 in
set_option maxHeartbeats 0 in
theorem PySem.Challenge.cw_overstamps_k42_numbers_of_parts_shown_holds : PySem.Challenge.rw_overstamps_k42_numbers_of_parts_shown.Holds := by
  w_on; o_law
  refine HandSHeadRun.head_any (r := OpenLaw.row PySem.Challenge.rw_overstamps_k42_numbers_of_parts_shown) (q := view (OpenLaw.row PySem.Challenge.rw_overstamps_k42_numbers_of_parts_shown).prog [73]) (H := Ov.hkA) (ob := Ov.obA) (M := 20000) (loose := Ov.namesA) (d := HandSHeadRun.topDef (OpenLaw.row PySem.Challenge.rw_overstamps_k42_numbers_of_parts_shown).prog 73) (kwd := []) Ov.obA_eq
    (by kernel_rfl) (fun s => by kernel_rfl) Ov.runA (by kernel_rfl) (by kernel_rfl) (by kernel_rfl) (by rfl) (by first | assumption | decide +kernel) (by decide +kernel) ⟨rfl, rfl, rfl, rfl, rfl, by decide +kernel⟩ ?hw ?hc
  case hw => w_witness2
  case hc =>
    refine Ov.walk_TGP (l := PySem.Challenge.rw_overstamps_k42_numbers_of_parts_shown) (n := 63) (k := 11) (x := "script") rfl (by decide) (by kernel_rfl) ⟨rfl, by decide, by decide⟩ ?F
    intro w mg fa h Y G hmg0
    obtain ⟨K, KX, c⟩ := Y
    have hmg : mg ("law" : PySem.Str) = some (.ref fa) := by
      have e : (HandSHeadRun.topDef (OpenLaw.row PySem.Challenge.rw_overstamps_k42_numbers_of_parts_shown).prog 73).name = ("law" : PySem.Str) := by kernel_rfl
      rw [← e]
      exact hmg0
    exact ⟨K, KX, Ov.factsA KX G hmg c PySem.Challenge.rw_overstamps_k42_numbers_of_parts_shown rfl⟩
