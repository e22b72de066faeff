import PyProof.Rows.All
import Wide.All
import OpenK.AllK
import Wide.FinOn
import PyProof.EqAt
import PyProof.EqKinds
import PyProof.TupleCall
import KE.KNest
import HandS.Base
import HandS.Call
import HandS.List
import HandS.Comp
import HandS.Text
import HandS.Iter
import HandS.AnyAll
import HandS.GenOver
import HandS.Words
import PyProof.InstEq
import PyProof.ReprRoads
import PyProof.StrOps2
import HandS.Exc
import HandS.ExcOwn
import HandS.Star
import HandS.ClsMeth
import HandS.Property
import HandS.IsInst
import HandS.OwnEq
import HandS.Wide
import Flt.Len
import PyProof.Rows.SetFrom
import HandS.Strs
import HandS.ForMost
import HandS.ForExc
import HandS.MakeKw
import HandS.Defaults
import HandS.ExcIs
import KE.KIsAll
import HandS.EndTab
import HandS.EndOwn
import HandS.Codes
import HandS.TryOnly
import PySem.Challenge.RW_overstamps_k04_bands_by_name
set_option Elab.async false
set_option linter.all false
set_option maxRecDepth 100000
set_option maxHeartbeats 4000000
/-! all, any over a generator expression whose element runs like any expression (own defs called, tables grown). -/
namespace Ov
open PySem PySem.Spec PyProof.Rows L2 GxR

/-! ### the consumer -/
/-- the protocol: a truth value is handed out; Dn b: what is to hold when the consumer stops with the answer b; stop: at which value it stops -/
def YB (a : Addr) (g : Nat) (stop : Bool) (Dn : Bool → Shared → Prop) : Protocol := fun _ _ v s1 kap =>
  ∃ b, v = Value.bool b ∧ s1.heap.NoLimit ∧ s1.heap.IsGen a g ∧ AllBare s1.gens ∧
    (b = stop → ∀ G, AllBare G → Dn stop { s1 with gens := G }) ∧ (b ≠ stop → ∀ G, AllBare G → kap (.send .none) { s1 with gens := G })
def RB (stop : Bool) (Dn : Bool → Shared → Prop) : GenEnd := fun _ _ r s1 => r = .ok .next ∧ AllBare s1.gens ∧ ∀ (h' : Heap) (G : Array GenState), (∀ b o, s1.heap.get? b = some o → h'.get? b = some o) → AllBare G → Dn (!stop) { s1 with heap := h', gens := G }

theorem bare_set {s : Shared} {g : Nat} {x : GenState} (h : AllBare s.gens) (hx : x.bare = true) : AllBare (s.setGen g x).gens := fun y hy => by
  obtain ⟨i, hi, e⟩ := Array.mem_iff_getElem.mp hy
  have hi' : i < s.gens.size := by
    have q : (s.setGen g x).gens.size = s.gens.size := GenW.setGen_size s g x
    rw [q] at hi; exact hi
  by_cases z : i = g
  · subst z
    have q : (s.setGen i x).gens[i]? = some x := by
      show (s.gens.setIfInBounds i x)[i]? = some x
      simp [hi']
    have q2 : (s.setGen i x).gens[i]? = some y := by rw [Array.getElem?_eq_getElem hi, e]
    rw [q] at q2; cases q2; exact hx
  · have q : (s.setGen g x).gens[i]? = s.gens[i]? := by
      show (s.gens.setIfInBounds g x)[i]? = _
      rw [Array.getElem?_setIfInBounds_ne (Ne.symm z)]
    have q2 : s.gens[i]? = some y := by rw [← q, Array.getElem?_eq_getElem hi, e]
    exact h y (Array.mem_of_getElem? q2)
theorem set_at {s : Shared} {g : Nat} {x : GenState} (h : g < s.gens.size) : (s.setGen g x).gens[g]? = some x := by
  show (s.gens.setIfInBounds g x)[g]? = some x
  simp [h]

section
variable {P : Program} {w : World} {A : Around}
theorem all_drain {R : Result → Shared → Prop} {a : Addr} {g : Nat} {Dn : Bool → Shared → Prop} (hh : A.handled = none) (hd : A.depth < recursionLimit)
    (hR : ∀ b s', Dn b s' → R (.ok (.ret (.bool b))) s') :
    ∀ (m : Nat) (s : Shared), s.heap.IsGen a g → s.heap.NoLimit → AllBare s.gens →
      (∃ gs, s.gens[g]? = some gs ∧ gs.Goes (model P w) A.in1.in1 (RB false Dn) (YB a g false Dn) m (.send .none) (s.setGen g .running)) →
      codeAny (model P w) A (.builtin "all.loop" ⟨[.ref a], []⟩) R s := by
  intro m
  induction m with
  | zero =>
    intro s hg hl hb ⟨gs, hgs, hgo⟩
    have hgl : g < s.gens.size := (Array.getElem?_eq_some_iff.mp hgs).1
    refine codeAny_builtin F.entry_all_loop ?_
    rw [Around.under_plainId F.plain_all_loop _]
    show wpAny _ A.in1 (pyNext (.ref a) >>= _) _ _ s
    refine wpAny_bind (GenW.wpAny_gsz (n := g + 1) hgl (wpAny_pyNext_genexpQ (A := A.in1) (P := fun n s₀ s₁ => AllBare s₁.gens ∧ ∀ (h' : Heap) (G : Array GenState), (∀ b o, s₁.heap.get? b = some o → h'.get? b = some o) → AllBare G → Dn (!false) { s₁ with heap := h', gens := G }) hh hl hd hg hgs hgo (fun v s₁ gs' hbare hv => ?_) (fun s₁ hp h' hk => ?_)))
    · intro hsz
      obtain ⟨b, rfl, hl1, hg1, hb1, hs1, hk1⟩ := hv
      cases b with
      | true => exact False.elim (hk1 (by decide) _ hb1)
      | false =>
        refine wpAny_bind (wpAny_holding (wpAny_truthy_bool ?_))
        refine wpAny_bind (wpAny_letGo ?_)
        simp only [Bool.false_eq_true, if_false]
        refine wpAny_bind (wpAny_rule (wpAny_pure ?_))
        exact hR false _ (hs1 rfl _ (bare_set hb1 hbare))
    · intro hsz
      refine wpAny_bind (wpAny_rule (wpAny_pure ?_))
      exact hR true _ (hp.2 h' _ hk (bare_set hp.1 rfl))
  | succ m ih =>
    intro s hg hl hb ⟨gs, hgs, hgo⟩
    have hgl : g < s.gens.size := (Array.getElem?_eq_some_iff.mp hgs).1
    refine codeAny_builtin F.entry_all_loop ?_
    rw [Around.under_plainId F.plain_all_loop _]
    show wpAny _ A.in1 (pyNext (.ref a) >>= _) _ _ s
    refine wpAny_bind (GenW.wpAny_gsz (n := g + 1) hgl (wpAny_pyNext_genexpQ (A := A.in1) (P := fun n s₀ s₁ => AllBare s₁.gens ∧ ∀ (h' : Heap) (G : Array GenState), (∀ b o, s₁.heap.get? b = some o → h'.get? b = some o) → AllBare G → Dn (!false) { s₁ with heap := h', gens := G }) hh hl hd hg hgs hgo (fun v s₁ gs' hbare hv => ?_) (fun s₁ hp h' hk => ?_)))
    · intro hsz
      obtain ⟨b, rfl, hl1, hg1, hb1, hs1, hk1⟩ := hv
      have hsz1 : g < s₁.gens.size := by
        have q : (s₁.setGen g gs').gens.size = s₁.gens.size := GenW.setGen_size _ _ _
        have hsz' : g + 1 ≤ (s₁.setGen g gs').gens.size := hsz
        omega
      cases b with
      | true =>
        refine wpAny_bind (wpAny_holding (wpAny_truthy_bool ?_))
        refine wpAny_bind (wpAny_letGo ?_)
        simp only [if_true]
        refine wpAny_pure ⟨plainId_quiet F.plain_all_loop _, ih (s₁.setGen g gs') hg1 hl1 (bare_set hb1 hbare) ⟨gs', set_at hsz1, ?_⟩⟩
        have z := hk1 (by decide) (((s₁.setGen g gs').setGen g .running).gens) (bare_set (bare_set hb1 hbare) rfl)
        exact z
      | false =>
        refine wpAny_bind (wpAny_holding (wpAny_truthy_bool ?_))
        refine wpAny_bind (wpAny_letGo ?_)
        simp only [Bool.false_eq_true, if_false]
        refine wpAny_bind (wpAny_rule (wpAny_pure ?_))
        exact hR false _ (hs1 rfl _ (bare_set hb1 hbare))
    · intro hsz
      refine wpAny_bind (wpAny_rule (wpAny_pure ?_))
      exact hR true _ (hp.2 h' _ hk (bare_set hp.1 rfl))
end
end Ov

set_option Elab.async false
set_option linter.all false
set_option maxRecDepth 100000
set_option maxHeartbeats 4000000
namespace Ov
open PySem PySem.Spec PyProof.Rows L2 GxR
/-- the values of the captured names -/
def caps (σ : L2.St) (pick : List Nat) : L2.St := pick.map fun j => (σ[j]?).join
/-- the context of the generator's block -/
abbrev cxG (X : Cx) (s : Shared) (H : Hp) (N : List Str) (cenv : Env) (A : Around) (fp : List Addr) (pn : List (Addr × Obj)) : Cx :=
  { X with A := A, N := N, s_0 := s, H_0 := H, env := cenv, outer := X.stack, stack := cenv :: X.stack, ex := fp, fn := fun _ => false, calm := true, pn := pn, xe := fun _ _ => False }
/-- the names of the block: its variable x, the captured ones cs with their places in the def's names -/
structure GenN (X : Cx) (scope : Scope) (x : Str) (cs : List Str) (pick : List Nat) : Prop where
  gen : GenS X.env scope x
  uniq : ∀ y ∈ scope.names, scope.names.lookup y.1 = some y.2
  nd : (x :: cs).Nodup
  len : cs.length = pick.length
  at_ : ∀ (i : Nat) (y : Str), cs[i]? = some y → scope.names.lookup y = some .free ∧ (X.env.scope.names.lookup y = some .cell ∨ X.env.scope.names.lookup y = some .free) ∧ ∃ j, pick[i]? = some j ∧ X.N[j]? = some y
section
variable {X : Cx} {pins : List (Addr × Obj)} {σ : L2.St} {H : Hp} {s : Shared}
theorem clo_get {cells : List (Str × Addr)} {names : List (Str × NameKind)} (h : ∀ y ∈ names, y.2 = .free → ∃ c, cells.lookup y.1 = some c) {y : Str} {c : Addr} (e : (cloFrom cells names []).lookup y = some c) : (y, NameKind.free) ∈ names ∧ cells.lookup y = some c := by
  rcases cloFrom_mem (PySem.mem_of_lookup e) with hm | ⟨h1, rfl⟩
  · cases hm
  · obtain ⟨c, hc⟩ := h _ h1 rfl
    rw [hc]
    exact ⟨h1, rfl⟩
theorem clo_has {cells : List (Str × Addr)} {names : List (Str × NameKind)} (h : ∀ y ∈ names, y.2 = .free → ∃ c, cells.lookup y.1 = some c) {y : Str} (hy : (y, NameKind.free) ∈ names) : ∃ c, (cloFrom cells names []).lookup y = some c ∧ cells.lookup y = some c := by
  obtain ⟨c', e'⟩ := mem_lookup (cloFrom_has (cells := cells) (acc := []) hy)
  exact ⟨c', e', (clo_get h e').2⟩
/-- the block's start: the frame at s.heap's size, empty of x; the generator's own object at a -/
theorem gen_start {scope : Scope} {x : Str} {cs : List Str} {pick : List Nat} {fp : List Addr} {A : Around} {code itv : Value} {go : Obj} {gs : Array GenState} {tk : Nat} {h' : Heap} {a : Addr}
    (I : Inv X pins σ H s) (G : GenN X scope x cs pick) (hA : A.handled = none) (hfr : A.frames = some (genEnv scope (cloFrom X.env.cells scope.names []) s.heap.objs.size code builtinsNs X.env :: X.stack))
    (hfp : ∀ b ∈ fp, FpOk X pins H b ∧ b < s.heap.objs.size)
    (hn : h'.Ns s.heap.objs.size fun y => if y = ".0" then some itv else none) (hk : ∀ b o, s.heap.get? b = some o → h'.get? b = some o) (ha : s.heap.objs.size < a) (hgo : h'.get? a = some go) (hgd : ∀ v, go.data ≠ .cell v)
    (hb : AllBare gs) :
    Inv (cxG X s H (x :: cs) (genEnv scope (cloFrom X.env.cells scope.names []) s.heap.objs.size code builtinsNs X.env) A fp [(a, go)]) [] (none :: caps σ pick) H { s with heap := h', gens := gs, toks := tk } := by
  have hfree : ∀ y ∈ scope.names, y.2 = .free → ∃ c, X.env.cells.lookup y.1 = some c := G.gen.free
  have okB : (cxG X s H (x :: cs) (genEnv scope (cloFrom X.env.cells scope.names []) s.heap.objs.size code builtinsNs X.env) A fp [(a, go)]).Ok := by
    refine ⟨I.ok.mod, G.gen.kind, I.ok.glob, rfl, Nat.le_refl _, fun y z c e1 e2 => ?_, fun y hy => ?_, fun y c z _ => ?_, fun _ => hA, hfr, .inr ⟨rfl, rfl⟩, fun b hb => ⟨?_, fun y c e z => ?_⟩, I.bs, Nat.le_trans I.ok.bsz I.sz, fun b o e hb => ?_, fun b hb z => ?_, I.stack, I.stkFree⟩
    · exact I.ok.inj y z c (clo_get hfree e1).2 (clo_get hfree e2).2
    · have hy : scope.names.lookup y = some .cell ∨ scope.names.lookup y = some .free := hy
      rcases hy with hy | hy
      · exact absurd rfl (G.gen.cell _ (PySem.mem_of_lookup hy))
      · obtain ⟨c, h1, _⟩ := clo_has hfree (PySem.mem_of_lookup hy)
        exact ⟨c, h1⟩
    · exact absurd (show false = true from z) (by decide)
    · exact Nat.ne_of_lt (hfp b hb).2
    · exact (hfp b hb).1.2.2.2.2.1 y c (clo_get hfree e).2 z
    · rcases (hfp b hb).1.2.2.2.1 with z | z
      · exact I.ok.noex b o e z
      · exact absurd (Nat.lt_of_lt_of_le (Heap.lt_size e) (Nat.le_trans I.ok.bsz z)) (Nat.lt_irrefl _)
    · rcases List.mem_cons.mp (I.stkSub b z) with z | z
      · exact (hfp b hb).1.2.1 z
      · exact (hfp b hb).1.2.2.1 z
  refine ⟨okB, rfl, hb, Un.kept hk, ⟨_, hn, fun i y av e1 e2 e3 => ?_⟩, fun y c e => ?_, I.hok.fresh (Nat.le_refl _), fun y c e => I.freeC y c (clo_get hfree e).2, fun p hp => ?_, I.hok.kept hk, ?_⟩
  · cases i with
    | zero => cases e2
    | succ i =>
      have e1 : cs[i]? = some y := e1
      obtain ⟨q1, q2, j, hj, hN⟩ := G.at_ i y e1
      have e2 : (caps σ pick)[i]? = some (some av) := e2
      unfold caps at e2
      rw [List.getElem?_map, hj] at e2
      have e2 : (σ[j]?).join = some av := Option.some.inj e2
      have e2' : σ[j]? = some (some av) := by
        cases q : σ[j]? with
        | none => rw [q] at e2; cases e2
        | some o =>
          rw [q] at e2
          have : o = some av := e2
          rw [this]
      obtain ⟨m, hm, hl⟩ := I.loc
      have hvis : Vis X.env.scope y := q2.elim (fun k => .inr (.inl k)) (fun k => .inr (.inr k))
      obtain ⟨u, r, q⟩ := hl j y av hN e2' hvis
      refine ⟨u, r, .inr ⟨.inr q1, ?_⟩⟩
      obtain ⟨c, h1, h2⟩ := clo_has hfree (PySem.mem_of_lookup q1)
      refine ⟨c, h1, ?_⟩
      rcases q with ⟨k, _⟩ | ⟨_, c', e', z⟩
      · have k : X.env.scope.names.lookup y = some .local := k
        rcases q2 with k' | k' <;> rw [k'] at k <;> cases k
      · rw [h2] at e'; cases e'
        exact z.keeps hk
  · obtain ⟨w, z⟩ := I.cell y c (clo_get hfree e).2
    exact ⟨w, z.keeps hk⟩
  · have e : p = (a, go) := by simpa using hp
    subst e
    refine ⟨hgo, I.hok.fresh (Nat.le_of_lt ha), Nat.ne_of_gt ha, ?_, hgd⟩
    intro z
    rcases List.mem_cons.mp (I.stkSub a z) with z | z
    · have := I.lt
      rw [← z] at this
      exact absurd (Nat.lt_trans this ha) (Nat.lt_irrefl _)
    · exact I.nofs (Nat.le_of_lt ha) z
  · show (none :: caps σ pick).length = (x :: cs).length
    unfold caps
    rw [List.length_cons, List.length_cons, List.length_map, G.len]
end
end Ov

set_option Elab.async false
set_option linter.all false
set_option maxRecDepth 100000
set_option maxHeartbeats 4000000
namespace Ov
open PySem PySem.Spec PyProof.Rows L2 GxR
/-- the reading of a turn for all: the element's answer b; true: on; false: the answer -/
def turnAll (J : It) (te : TE) (W : Nat → Nat → Hp → Prop) (caps : L2.St) (Q : VK) : Prop := ∀ i m H, W i m H →
  (J.stop i H ∧ Q (.bl true) H) ∨ (J.go i H ∧ ∀ x H', J.yld i H x H' → te (some x :: caps) H' fun y H'' => ∃ b, y = .bl b ∧ if b = true then ∃ m', m' < m ∧ W (i + 1) m' H'' else Q (.bl false) H'')
section
variable {X : Cx} {σ : L2.St} {H : Hp} {s : Shared}
/-- the context's own: nothing is raised, the generator's object is pinned -/
structure Gen (G : Cx) (A : Around) (a : Addr) (g : Nat) (x : Str) (go : Obj) : Prop where
  over : G.A = A.deeper G.env
  calm : G.calm = true
  xe : G.xe = fun _ _ => False
  nd : G.N.Nodup
  at0 : G.N[0]? = some x
  loc : G.env.scope.names.lookup x = some .local
  co : G.env.scope.isCoroutine = false
  pn : G.pn = [(a, go)]
  gen : ∀ h : Heap, h.get? a = some go → h.IsGen a g
theorem seg_all {G : Cx} {A : Around} {a : Addr} {g : Nat} {x : Str} {go : Obj} (S : Gen G A a g x go) {elt iter : Expr} {px pos : Pos} {scope : Scope} {te : TE} {J : It} {fp : List Addr} {it : Addr} {tn : Nat → Heap → Prop} {W : Nat → Nat → Hp → Prop} {cp : L2.St} {Q : VK} {Dn : Bool → Shared → Prop}
    (T : Turn G.prog G.w G.K (.Name x px) J fp it tn) (he : PE G elt te) (turn : turnAll J te W cp Q) (hex : G.ex = fp) (hfa : ∀ b ∈ fp, a ≠ b)
    (hD : ∀ b H' s' v, Inv G [] (v :: cp) H' s' → Q (.bl b) H' → Dn b s') :
    ∀ (n i m : Nat) (s₀ s : Shared) (v : Option V) (H : Hp), m < n → Inv G [] (v :: cp) H s → tn i s.heap → (∀ b ∈ fp, H b = none) → W i m H →
      Seg (model G.prog G.w) A (RB false Dn) (YB a g false Dn) n s₀ (.compLoop (.GeneratorExp elt [⟨.Name x px, iter, [], 0⟩] scope pos) 0 (.ref it) .none G.env)
        ((model G.prog G.w).den (.compLoop (.GeneratorExp elt [⟨.Name x px, iter, [], 0⟩] scope pos) 0 (.ref it) .none G.env)) [] s := by
  have stat : ∀ {σ' : L2.St} {H' : Hp} {s' : Shared}, Inv G [] σ' H' s' → (∀ b ∈ fp, H' b = none) → ∀ b ∈ fp, FpOk G [] H' b := fun {σ' H' s'} I' hn b hb => by
    have hb' : b ∈ G.ex := by rw [hex]; exact hb
    refine ⟨hn b hb, (I'.ok.exf b hb').1, I'.ok.exfs b hb', .inl hb', fun x c e => (I'.ok.exf b hb').2 x c e, fun p hp z => ?_⟩
    have hp' : p ∈ G.pn := by simpa using hp
    rw [S.pn] at hp'
    rw [List.mem_singleton.mp hp'] at z
    exact hfa b hb z
  intro n
  induction n with
  | zero => intro i m s₀ s v H hm; exact absurd hm (Nat.not_lt_zero _)
  | succ n ih =>
    intro i m s₀ s v H hm I st hf w
    show Seg _ A _ _ _ s₀ _ ((compTurn (.GeneratorExp elt [⟨.Name x px, iter, [], 0⟩] scope pos) 0 (.ref it) .none G.env).onRaise (leaving G.env)) [] s
    rw [compTurn_gen, Sem.onRaise_eq_wrap]
    have ov : A.over (.compLoop (.GeneratorExp elt [⟨.Name x px, iter, [], 0⟩] scope pos) 0 (.ref it) .none G.env) [] = G.A := by rw [S.over]; rfl
    refine seg_bind_wrap (wpAny_standAt ?_)
    rcases turn i m H w with ⟨stop, q⟩ | ⟨go', step⟩
    · refine seg_bind_wrap ?_
      rw [ov]
      refine wpAny_mono (T.done G rfl rfl rfl S.calm i [] s (v :: cp) H (fun _ _ => False) I (stat I hf) st stop) (fun r s1 hr => ?_) fun _ _ z => z.elim
      obtain ⟨rfl, I1⟩ := hr
      refine seg_end (.ok .next) ⟨rfl, I1.bare, fun h' gs hk hb => ?_⟩
      exact hD true H _ v (I1.call' (ch := []) rfl (Un.kept hk) (I1.hok.kept hk) hb fun b z => by simp at z) q
    · refine seg_bind_wrap ?_
      rw [ov]
      refine wpAny_mono (T.item G rfl rfl rfl S.calm i [] s (v :: cp) H (fun _ _ => False) I (stat I hf) st go') (fun r s1 hr => ?_) fun _ _ z => z.elim
      obtain ⟨u, rfl, h1⟩ := hr
      refine seg_bind_wrap ?_
      rw [ov]
      refine wpAny_mono h1 (fun _ s2 h2 => ?_) fun _ _ z => z.elim
      obtain ⟨y, H2, I2, r2, y2, st2, n2⟩ := h2
      have I2' := I2.pinned (stat I2 n2) (T.obj _ _ st2)
      refine seg_bind_wrap ?_
      rw [ov]
      refine wpAny_mono ((pg_name (X := G) (i := 0) (pos := px) S.nd S.at0 (.inl S.loc) (.inr S.loc)).run _ s2 (v :: cp) H2 y u (fun σ' H' => σ' = some y :: cp ∧ H' = H2) I2' r2 ⟨rfl, rfl⟩) (fun _ s3 h3 => ?_) fun _ _ z => by rw [S.xe] at z; exact z.elim
      obtain ⟨σ3, H3, I3, rfl, rfl⟩ := h3
      refine seg_bind_wrap ?_
      simp only [List.forIn_nil]
      refine wpAny_pure ?_
      simp only [if_true]
      have hy : ∀ v, yieldOut G.env v = yieldValue v := fun v => by simp only [yieldOut, S.co, Bool.false_eq_true, if_false]
      simp only [hy]
      rw [Sem.bind_eq_wrap', Sem.bind_eq_wrap', Sem.wrap_wrap, Sem.wrap_wrap]
      refine seg_wrap ?_
      rw [ov]
      refine wpAny_mono (he.run _ s3 (some y :: cp) H3 _ I3 (step y H3 y2)) (fun z s4 h4 => ?_) fun _ _ z => by rw [S.xe] at z; exact z.elim
      obtain ⟨zv, H4, I4, r4, b, rfl, q4⟩ := h4
      have ez : z = Value.bool b := r4
      subst ez
      have pin' : ∀ c ∈ fp, ∀ o, s2.heap.get? c = some o → s4.heap.get? c = some o ∧ H4 c = none := fun c hc o e =>
        let z := I4.pin (c, o) (List.mem_append_right _ (List.mem_append_right _ (mem_pinsAt hc e)))
        ⟨z.1, z.2.1⟩
      have st4 : tn (i + 1) s4.heap := T.keep _ _ _ st2 fun c hc o e => (pin' c hc o e).1
      have f4 : ∀ c ∈ fp, H4 c = none := fun c hc => by
        obtain ⟨o, e, _⟩ := T.obj _ _ st2 c hc
        exact (pin' c hc o e).2
      have I5 : Inv G [] (some y :: cp) H4 s4 := I4.unpinned (pins := [])
      have hgo : s4.heap.get? a = some go := (I5.pin (a, go) (by rw [S.pn]; simp)).1
      refine seg_at (seg_yield rfl rfl rfl ⟨b, rfl, I5.nolimit, S.gen _ hgo, I5.bare, fun eb gs hb => ?_, fun nb gs hb => ?_⟩)
      · subst eb
        exact hD false H4 _ (some y) (I5.call' (ch := []) rfl Un.refl I5.hok hb fun b z => by simp at z) q4
      · have eb : b = true := by cases b with
          | true => rfl
          | false => exact absurd rfl nb
        subst eb
        obtain ⟨m', hm', w'⟩ := (if_pos rfl : (if true = true then _ else _) = _) ▸ q4
        refine seg_again rfl (ih (i + 1) m' _ _ (some y) H4 (by omega) (I5.call' (ch := []) rfl Un.refl I5.hok hb fun b z => by simp at z) st4 f4 w')

theorem seg_allStart {G : Cx} {A : Around} {a : Addr} {g : Nat} {x : Str} {go : Obj} (S : Gen G A a g x go) {elt iter : Expr} {px pos : Pos} {scope : Scope} {te : TE} {J : It} {fp : List Addr} {it : Addr} {tn : Nat → Heap → Prop} {W : Nat → Nat → Hp → Prop} {cp : L2.St} {Q : VK} {Dn : Bool → Shared → Prop}
    (T : Turn G.prog G.w G.K (.Name x px) J fp it tn) (he : PE G elt te) (turn : turnAll J te W cp Q) (hex : G.ex = fp) (hfa : ∀ b ∈ fp, a ≠ b)
    (hD : ∀ b H' s' v, Inv G [] (v :: cp) H' s' → Q (.bl b) H' → Dn b s') (n m : Nat) (s₀ s : Shared) (v : Option V) (H : Hp) (hm : m < n) (I : Inv G [] (v :: cp) H s) (st : tn 0 s.heap) (hf : ∀ b ∈ fp, H b = none) (w : W 0 m H) :
      Seg (model G.prog G.w) A (RB false Dn) (YB a g false Dn) n s₀ (.compStart (.GeneratorExp elt [⟨.Name x px, iter, [], 0⟩] scope pos) 0 (.ref it) .none G.env)
        ((model G.prog G.w).den (.compStart (.GeneratorExp elt [⟨.Name x px, iter, [], 0⟩] scope pos) 0 (.ref it) .none G.env)) [] s := by
  have loop := seg_all (iter := iter) (pos := pos) (scope := scope) S T he turn hex hfa hD n 0 m s₀ s v H hm I st hf w
  show Seg _ A _ _ _ s₀ _ ((compStart (.GeneratorExp elt [⟨.Name x px, iter, [], 0⟩] scope pos) 0 (.ref it) .none G.env).onRaise (leaving G.env)) [] s
  unfold compStart
  rw [Sem.onRaise_eq_wrap]
  show Seg _ A _ _ _ s₀ _ ((ask >>= _).wrap _ _ _ _) [] s
  refine seg_bind_wrap (wpAny_askSetting ?_)
  split
  · exact seg_again rfl loop
  · first
      | exact seg_bind_wrap (wpAny_rule (seg_bind_wrap (wpAny_standAt (seg_bind_wrap (T.self _ 0 s _ _ st (seg_again rfl loop))))))
      | (refine seg_bind_wrap (wpAny_rule ?_); show Seg _ A _ _ _ s₀ _ ((standAt iter.pos >>= _).wrap _ _ _ _) [] s; exact seg_bind_wrap (wpAny_standAt (seg_bind_wrap (T.self _ 0 s _ _ st (seg_again rfl loop)))))

/-- all(elt for x in iter): J walks; W by the turn and a measure -/
def tAllG (P : Addr) (wi : TI) (pick : List Nat) (te : TE) : TE := fun σ H Q => wi σ H fun J H1 => TabG H1 P ∧ ∀ H2, Tabbed P H1 H2 → ∃ W : Nat → Nat → Hp → Prop, (∃ m, W 0 m H2) ∧ turnAll J te W (caps σ pick) Q

theorem fpOk_tab {pins : List (Addr × Obj)} {H1 H2 : Hp} {P b : Addr} {ps : Array Value} (hP : H1 P = some (.tbl ps)) (hT : ∀ b, b ≠ P → H2 b = H1 b) (f : FpOk X pins H1 b) : FpOk X pins H2 b := by
  refine ⟨?_, f.2⟩
  rw [hT b (fun z => by have := f.1; rw [z, hP] at this; cases this)]
  exact f.1

theorem pe_allG {c P : Addr} {elt iter : Expr} {x : Str} {px p pos gpos : Pos} {scope : Scope} {cs : List Str} {pick : List Nat} {wi : TI} {te : TE} {k : Nat}
    (hc : X.calm = true) (hr : Room (k + 1) X.A) (hg : Gl X "all") (hm : X.mg "all" = none) (hb : bootBuiltins "all" = some (.builtin "all")) (TB : TabB X.base X.mg c P) (hcode : X.env.code = .ref c) (S : GenN X scope x cs pick)
    (hi : PI X (.Name x px) iter wi)
    (he : ∀ (s : Shared) (H : Hp) (code : Value) (C : Addr) (A : Around) (fp : List Addr) (pn : List (Addr × Obj)), Room k A → PE (cxG X s H (x :: cs) (genEnv scope (cloFrom X.env.cells scope.names []) C code builtinsNs X.env) A fp pn) elt te)
    (hs : ∀ v, genFold iter X.env v = pure v := by intro _; rfl)
    (hst : starEach [.GeneratorExp elt [⟨.Name x px, iter, [], 0⟩] scope gpos] X.env = (false, eval (.GeneratorExp elt [⟨.Name x px, iter, [], 0⟩] scope gpos) X.env) :: starEach [] X.env := by rfl) :
    PE X (.Call (.Name "all" p) [.GeneratorExp elt [⟨.Name x px, iter, [], 0⟩] scope gpos] [] pos) (tAllG P wi pick te) := by
  refine ⟨fun pins s σ H Q I h => ?_⟩
  refine wpAny_Call_Name_kw (ld_blt I hg hm hb ?_)
  refine PyProof.Rows.callWith_builtin1 ?_ hst (by rfl)
  rw [hst]
  show wpAny _ _ (spliced ((false, eval (.GeneratorExp elt [⟨.Name x px, iter, [], 0⟩] scope gpos) X.env) :: backTo pos (starEach [] X.env))) _ _ s
  refine Calls.spliced_cons ?_
  refine wpAny_GeneratorExp_make S.gen.co (closure_ok S.gen.free) S.gen.cell S.gen.dot S.gen.kind (by have := hr.dp; omega) ?_ hs
  refine thn (hi.run pins s σ H _ I h) fun xv s1 h1 => thn h1 fun itv s2 h2 => ?_
  obtain ⟨it, fp, tn, J, H2, rfl, I2, T, st2, f2, ⟨ps, hP, ht⟩, hW⟩ := h2
  refine ⟨I2.nolimit, ?_⟩
  have hPs : s2.heap.get? P = some { cls := .none, data := .fields ps } := I2.hok P _ hP
  have hPlt : P < s2.heap.objs.size := Heap.lt_size hPs
  have cd : PySem.W.CodeHd s2.heap c P := TB.code.keeps fun b u e => I2.bk b u e
  -- behind the code object
  have cont : ∀ (code : Value) (h3 : Heap) (tk : Nat) (ps' : Array Value), Heap.ExtBut P s2.heap h3 → h3.get? P = some { cls := .none, data := .fields ps' } → (∃ more, ps' = ps ++ more) → TriplesOk ps'.toList →
      wpAny (model X.prog X.w) X.A (builtinsFor X.env.globals X.env.builtins) (fun bi s₄ =>
        ∀ h', h'.Ns s₄.heap.objs.size (fun y => if y = ".0" then some (.ref it) else none) → Heap.SameBut s₄.heap.objs.size (s₄.heap.push { cls := .type "frame", data := .dict #[] }) h' →
          wpAny (model X.prog X.w) X.A (spliced (backTo pos (starEach [] X.env))) (fun us s' => wpAny (model X.prog X.w) X.A (call (.builtin "all") (.ref h'.objs.size :: us)) (EP X pins σ Q) X.xe s') X.xe { s₄ with
            gens := s₄.gens.push (.fresh (.compStart (.GeneratorExp elt [⟨.Name x px, iter, [], 0⟩] scope gpos) 0 (.ref it) .none (genEnv scope (cloFrom X.env.cells scope.names []) s₄.heap.objs.size code bi X.env))),
            toks := s₄.toks + 1 + 1 + 1,
            heap := h'.push { cls := .type "generator", data := .fields #[.int s₄.gens.size 0, .str "<genexpr>" (s₄.toks + 1), .str (X.env.qual ++ "<genexpr>") (s₄.toks + 1 + 1)] } }) X.xe { s2 with heap := h3, toks := tk } := by
    intro code h3 tk ps' hx hP3 hmore ht3
    obtain ⟨more, em⟩ := hmore
    subst em
    obtain ⟨bm, ob, e1, e2, e3, e4, e5, e6, e7, e8⟩ := TB.bm
    have keep3 : ∀ b u, b ≠ P → s2.heap.get? b = some u → h3.get? b = some u := fun b u hb e => hx b u hb e
    refine wpAny_builtinsFor (m := X.mg) (by rw [I2.ok.glob]; exact (I2.mod.glob.keeps I2.bk).extBut hx TB.gP) e1 e2 (keep3 _ _ e4 (I2.bk _ _ e5)) e6 e7 e8 ?_
    intro h' hn' hs'
    have I3 : Inv X pins σ (upd H2 P (.tbl (ps ++ more))) { s2 with heap := h3, toks := tk } := inv_tab (more := more) (h' := h3) (g' := s2.gens) (d' := s2.drawn) (t' := tk) I2 hP keep3 hP3 I2.bare
    generalize hs3 : ({ s2 with heap := h3, toks := tk } : Shared) = s3 at I3 ⊢
    have hh3 : s3.heap = h3 := by rw [← hs3]
    have hg3 : s3.gens = s2.gens := by rw [← hs3]
    have hn' : h'.Ns s3.heap.objs.size (fun y => if y = ".0" then some (.ref it) else none) := hh3.symm ▸ hn'
    have hs' : Heap.SameBut s3.heap.objs.size (s3.heap.push { cls := .type "frame", data := .dict #[] }) h' := hh3.symm ▸ hs'
    have hsz : h'.objs.size = s3.heap.objs.size + 1 := by rw [hs'.1, Heap.size_push]
    have keep' : ∀ b o, s3.heap.get? b = some o → h'.get? b = some o := fun b o e => hs'.extBut b o (Nat.ne_of_lt (Heap.lt_size e)) (Heap.get?_push_of_some _ e)
    have hT23 : Tabbed P H2 (upd H2 P (.tbl (ps ++ more))) := ⟨⟨_, upd_same, ht3⟩, fun b hb => upd_ne hb⟩
    obtain ⟨W, ⟨m0, w0⟩, turn⟩ := hW _ hT23
    generalize hH3 : upd H2 P (.tbl (ps ++ more)) = H3 at I3 w0 hT23
    have nfpP : ∀ b ∈ fp, b ≠ P := fun b hb z => by have := (f2 b hb).1; rw [z, hP] at this; cases this
    have st3 : tn 0 s3.heap := T.keep _ _ _ st2 fun b hb o e => by rw [hh3]; exact keep3 b o (nfpP b hb) e
    have f3 : ∀ b ∈ fp, FpOk X pins H3 b ∧ b < s3.heap.objs.size := fun b hb => by
      refine ⟨fpOk_tab hP hT23.2 (f2 b hb), ?_⟩
      obtain ⟨o, e, _⟩ := T.obj _ _ st3 b hb
      exact Heap.lt_size e
    generalize hgo : ({ cls := .type "generator", data := .fields #[.int s3.gens.size 0, .str "<genexpr>" (s3.toks + 1), .str (X.env.qual ++ "<genexpr>") (s3.toks + 1 + 1)] } : Obj) = go
    generalize hcenv : genEnv scope (cloFrom X.env.cells scope.names []) s3.heap.objs.size code builtinsNs X.env = cenv
    have keep5 : ∀ b o, s3.heap.get? b = some o → (h'.push go).get? b = some o := fun b o e => Heap.get?_push_of_some _ (keep' b o e)
    have hga : (h'.push go).get? h'.objs.size = some go := Heap.get?_push_size _ (by subst hgo; rfl)
    have hgd : ∀ v, go.data ≠ .cell v := fun v => by rw [← hgo]; exact fun z => by cases z
    have hgen : ∀ h : Heap, h.get? h'.objs.size = some go → h.IsGen h'.objs.size s3.gens.size := fun h e => ⟨go, _, _, e, by subst hgo; rfl, by subst hgo; rfl, by subst hgo; rfl⟩
    have bareG : AllBare (s3.gens.push (.fresh (.compStart (.GeneratorExp elt [⟨.Name x px, iter, [], 0⟩] scope gpos) 0 (.ref it) .none cenv))) := I3.bare.push rfl
    refine Calls.spliced_nil ?_
    refine call_function_tree F.kind_all F.plain_all F.entry_all (F.args_all1 _) ?_
    unfold Builtin.«all»
    refine wpAny_bind (m := oneArg "all" _) (wpAny_pure ?_)
    refine wpAny_bind (wpAny_pyIter_gen (hgen _ hga) ?_)
    refine wpAny_pure ⟨plainId_quiet F.plain_all_loop _, ?_⟩
    have hA : X.A.in1.in1.handled = none := hr.hd
    have hfr : (X.A.in1.in1.deeper cenv).frames = some (cenv :: X.stack) := Around.frames_deeper (A := X.A.in1.in1) I3.ok.frames
    have start : ∀ gs : Array GenState, AllBare gs → Inv (cxG X s3 H3 (x :: cs) cenv (X.A.in1.in1.deeper cenv) fp [(h'.objs.size, go)]) [] (none :: caps σ pick) H3 { s3 with heap := h'.push go, gens := gs, toks := s3.toks + 1 + 1 + 1 } := fun gs hb => by
      subst hcenv
      exact gen_start I3 S hA hfr f3 (hn'.push _) keep5 (by omega) hga hgd hb
    have rm : Room k (X.A.in1.in1.deeper cenv) := ⟨hr.hd, by have := hr.dp; show X.A.depth + 1 + 3 * k + 5 < _; omega, by have := hr.un; show X.A.units + 1 + 1 + 3 + 16 * k + 200 < _; omega⟩
    have hel : PE (cxG X s3 H3 (x :: cs) cenv (X.A.in1.in1.deeper cenv) fp [(h'.objs.size, go)]) elt te := by
      subst hcenv
      exact he s3 H3 code s3.heap.objs.size _ fp _ rm
    refine all_drain (P := X.prog) (w := X.w) (A := X.A) (Dn := fun b s' => EP X pins σ Q (.bool b) s') hr.hd (by have := hr.dp; omega) (fun b s' hb => hb) (m0 + 1) _ (hgen _ hga) (I3.nolimit.keeps keep5) bareG ⟨_, Array.getElem?_push_size .., rfl, ?_⟩
    have GG : Gen (cxG X s3 H3 (x :: cs) cenv (X.A.in1.in1.deeper cenv) fp [(h'.objs.size, go)]) X.A.in1.in1 h'.objs.size s3.gens.size x go := by
      refine ⟨rfl, rfl, rfl, S.nd, rfl, ?_, ?_, rfl, hgen⟩
      · subst hcenv; exact S.gen.loc
      · subst hcenv; exact S.gen.co
    refine seg_allStart (iter := iter) (pos := gpos) (scope := scope) GG T hel turn rfl (fun b hb z => ?_) (fun b H' s' v I' q => ?_) (m0 + 1) m0 _ _ none H3 (Nat.lt_succ_self _) (start _ (bare_set bareG rfl)) (T.keep _ _ _ st3 fun b hb o e => keep5 b o e) (fun b hb => (f3 b hb).1.1) w0
    · have z1 : h'.objs.size < s3.heap.objs.size := by
        rw [show h'.objs.size = b from z]
        exact (f3 b hb).2
      have z2 : (h'.objs.size : Nat) = s3.heap.objs.size + 1 := hsz
      omega
    · exact ⟨.bl b, H', I3.call' (ch := fp) I'.os I'.base I'.hok I'.bare fun b hb => ⟨(f3 b hb).1.2.2.2.1, (f3 b hb).1.2.1, (f3 b hb).1.2.2.2.2.1, (f3 b hb).1.2.2.2.2.2⟩, rfl, q⟩
  cases hf : codeAmong gpos ps.toList with
  | none =>
    refine wpAny_genexprCodeX hcode (cd.code hPs ht) (cd.tab hPs) hf fun c' h' tk hx hge hlt hco' _ htab' _ => ?_
    obtain ⟨o1, vs, f1, tf, fl, tg, inF, tx, tt, op, _, _, _, _, _, _, _, _, _, htr, _⟩ := hco'
    exact cont _ h' tk _ hx htab'.2 ⟨_, rfl⟩ htr
  | some cv =>
    refine wpAny_genexprCode_hit hcode (cd.code hPs ht) hf ?_
    exact cont cv s2.heap s2.toks ps (Heap.ExtBut.refl _ _) hPs ⟨#[], by simp⟩ ht
end
end Ov

set_option Elab.async false
set_option linter.all false
set_option maxRecDepth 100000
set_option maxHeartbeats 4000000
/-! rules that the layer lacks: powers of great ints, <= of texts, text * int, == of own instances by identity, an own __add__, an own __len__, C(*xs), repr of a list of texts -/
namespace Ov
open PySem PySem.Spec PyProof.Rows L2
/-! ### == by identity -/
section
variable {prog : Program} {w : World} {A : Around} {E : Value → Shared → Prop} {s : Shared} {K : PySem.W.Frag} {x y C : Addr} {ox oy : Obj} {od od' : Option Obj}
theorem call_objEq {Q : Value → Shared → Prop} (X : K.In s.heap) (I : PySem.W.InstAt s.heap x ox C od) (J : PySem.W.InstAt s.heap y oy C od') (hsub : PySem.W.subIn K (.ref C) (.type "object") = some true)
    (h : Q (if x = y then .bool true else .notImplemented) s) : wpAny (model prog w) A (call (.builtin "object.__eq__") [.ref x, .ref y]) Q E s := by
  refine wpAny_call (codeAny_call_builtin F.cmp_object.eq.plain F.cmpEntry_eq ?_)
  have fin : wpAny (model prog w) A.in1 (Builtin.«object.__eq__» ⟨[.ref x, .ref y], []⟩) (fun fin s' => match fin with | .done f => (wants Q E) (.ok f) s' | .again c' => c'.quiet = true ∧ codeAny (model prog w) A c' (wants Q E) s') (fun e s' => (wants Q E) (.error e) s') s := by
    by_cases hxy : x = y
    · subst hxy
      exact objEq_entry_same (by rw [if_pos rfl] at h; exact h)
    · refine objEq_entry_other hxy I.at_ J.at_ ?_ (by rw [if_neg hxy] at h; exact h)
      rw [I.cls]
      intro z; cases z
  simp only [checkBuiltinCall, F.cmpKind_eq, F.cmpSplit_eq]
  refine wpAny_bind ?_
  unfold isInstance
  refine wpAny_bind (I.type.here ?_)
  refine (PySem.W.looks_subIn X hsub).here ?_
  cases hsig : Manifest.signature? "object.__eq__" with
  | none => exact wpAny_pure fin
  | some sig =>
    have ha := F.cmpArgs_eq (.ref x) (.ref y)
    simp only [argsOk, hsig] at ha
    have h2 : Bind.checkArgs "object.__eq__" sig ⟨[.ref x, .ref y], []⟩ = pure () := ha
    show wpAny _ A.in1 (Bind.checkArgs "object.__eq__" sig ⟨[.ref x, .ref y], []⟩) _ _ _
    rw [h2]; exact wpAny_pure fin
theorem special_eq {Q : Option Value → Shared → Prop} (X : K.In s.heap) (I : PySem.W.InstAt s.heap x ox C od) (J : PySem.W.InstAt s.heap y oy C od') (hs : PySem.W.findIn K (.ref C) "__eq__" = some (some (.builtin "object.__eq__"))) (hsub : PySem.W.subIn K (.ref C) (.type "object") = some true)
    (h : Q (some (if x = y then .bool true else .notImplemented)) s) : wpAny (model prog w) A (callSpecialIfBound? (.ref x) "__eq__" [.ref y]) Q E s := by
  simp only [callSpecialIfBound?, bindSpecialIfBound?]
  refine wpAny_holding (wpAny_bind (wpAny_bind (wpAny_bind (I.type.here ((PySem.W.looks_findIn X hs).here ?_)))))
  have fin : wpAny (model prog w) A (call (.builtin "object.__eq__") ([.ref x] ++ [.ref y]) >>= fun v => pure (some v)) Q E s := wpAny_bind (call_objEq X I J hsub (wpAny_pure h))
  simp only [F.cmp_object.eq.bind]
  refine wpAny_bind (wpAny_askSetting (wpAny_ite ?_))
  split
  · exact wpAny_bind (wpAny_pure (wpAny_pure fin))
  · exact wpAny_tryCatch (wpAny_bind (wpAny_pure (wpAny_pure fin)))
theorem try_eq {Q : Option Value → Shared → Prop} (X : K.In s.heap) (I : PySem.W.InstAt s.heap x ox C od) (J : PySem.W.InstAt s.heap y oy C od') (hs : PySem.W.findIn K (.ref C) "__eq__" = some (some (.builtin "object.__eq__"))) (hsub : PySem.W.subIn K (.ref C) (.type "object") = some true)
    (h : Q (if x = y then some (.bool true) else none) s) : wpAny (model prog w) A (tryCompare (.ref x) "__eq__" (.ref y)) Q E s := by
  unfold tryCompare
  refine wpAny_bind (special_eq X I J hs hsub ?_)
  by_cases hxy : x = y
  · rw [if_pos hxy] at h ⊢
    exact wpAny_pure h
  · rw [if_neg hxy] at h ⊢
    exact wpAny_pure h
theorem eq_id {Q : Value → Shared → Prop} (hu : A.units < cLine) (X : K.In s.heap) (I : PySem.W.InstAt s.heap x ox C od) (J : PySem.W.InstAt s.heap y oy C od') (hs : PySem.W.findIn K (.ref C) "__eq__" = some (some (.builtin "object.__eq__"))) (hsub : PySem.W.subIn K (.ref C) (.type "object") = some true)
    (h : Q (.bool (decide (x = y))) s) : wpAny (model prog w) A (compareOp .Eq (.ref x) (.ref y)) Q E s := by
  show wpAny _ _ (richCompare .Eq (.ref x) (.ref y)) _ _ _
  unfold richCompare
  simp only [oneThing_ref, cmpInfo_Eq]
  refine wpAny_holding (wpAny_bind (wpAny_cRoomFor hu ?_))
  refine wpAny_bind (I.type.here (wpAny_bind (J.type.here ?_)))
  rw [if_neg (by simp)]
  refine wpAny_bind (wpAny_pure ?_)
  simp only [Bool.false_eq_true, if_false]
  refine wpAny_bind (try_eq X I J hs hsub ?_)
  by_cases hxy : x = y
  · rw [if_pos hxy]
    subst hxy
    exact wpAny_pure (by simpa using h)
  · rw [if_neg hxy]
    have hyx : ¬ y = x := fun z => hxy z.symm
    simp only [Bool.not_false, if_true]
    refine wpAny_bind (try_eq X J I hs hsub ?_)
    rw [if_neg hyx]
    refine wpAny_bind (wpAny_rule ?_)
    refine wpAny_bind (wpAny_isSame_ref_other hxy I.at_ J.at_ (by rw [I.cls]; intro z; cases z) ?_)
    exact wpAny_pure (by simpa [hxy] using h)
end

/-! ### the same over the layer; powers; texts -/
section
variable {X : Cx}
/-- the class has no == of its own -/
structure NoEq (K : PySem.W.Frag) (C : Addr) : Prop where
  eq : PySem.W.findIn K (.ref C) "__eq__" = some (some (.builtin "object.__eq__"))
  sub : PySem.W.subIn K (.ref C) (.type "object") = some true
theorem op_eqId {C : Addr} (hu : X.A.units < cLine) (n : NoEq X.K C) : OpR X (compareOp .Eq) (fun x y H Q => ∃ a b dx dy fs gs, x = .ref a ∧ y = .ref b ∧ H a = some (.ins C dx fs) ∧ H b = some (.ins C dy gs) ∧ Q (.bl (decide (a = b))) H) := by
  intro pins s σ H x y v u Q I rx ry h
  obtain ⟨a, b, dx, dy, fs, gs, rfl, rfl, ha, hb, q⟩ := h
  obtain rfl : v = Value.ref a := rx
  obtain rfl : u = Value.ref b := ry
  obtain ⟨mA, O, _⟩ := ins_get I.hok ha
  obtain ⟨od, J, _⟩ := O.look
  obtain ⟨mB, O', _⟩ := ins_get I.hok hb
  obtain ⟨od', J', _⟩ := O'.look
  exact eq_id hu I.kIn J J' n.eq n.sub ⟨.bl _, H, I, rfl, q⟩
/-- a power of a great number -/
def CPowW (i j : Int) : Prop := 0 ≤ j ∧ (Builtin.Int.intBits i : Int) * j ≤ 2 ^ 27
theorem op_powW : OpR X (binaryOp .Pow) (rI CPowW fun i j => .int (i ^ j.toNat)) := opI fun _ _ _ _ _ _ _ hc q => pow_int hc.1 hc.2 q
theorem bits_le {i : Int} {b : Nat} (h : i.natAbs < 2 ^ b) (h0 : 0 < b) : Builtin.Int.intBits i ≤ b := by
  have x := PySem.Flt.log2_lt_of h0 h
  unfold Builtin.Int.intBits
  split <;> omega
theorem op_le_str : OpR X (compareOp .LtE) (fun x y H Q => ∃ i j, x = .str i ∧ y = .str j ∧ Q (.bl (!decide (j.cps.toList < i.cps.toList))) H) := by
  intro pins s σ H x y v u Q I rx ry h
  obtain ⟨i, j, rfl, rfl, q⟩ := h
  obtain ⟨t, rfl⟩ := rx
  obtain ⟨t', rfl⟩ := ry
  exact PySem.P.le_str ⟨.bl _, H, I, rfl, q⟩
end
/-! ### C(*xs) -/
def tMakeS (X : Cx) (C : Addr) (sp : Sp) (E : XK) (tc te : TE) : TE := fun σ H Q => tc σ H fun c H0 => c = .ref C ∧ te σ H0 fun y H1 => ∃ a xs, y = V.ref a ∧ (SqT X.K H1 a xs ∨ SqL X.K H1 a xs) ∧
  ∀ x dx, H1 x = none → H1 dx = none → dx ≠ x → sp (V.ref x :: xs) (upd (upd H1 dx (.own x)) x (.ins C dx [])) (fun v H2 => v = .non ∧ Q (.ref x) H2) E
section
variable {X : Cx} {CX : CXT} {k : Nat} {f C : Addr} {sp : Sp} {E : XK} {x : Str} {e : Expr} {tc te : TE} {p pos sp_ : Pos}
/-- c(*xs), c a name whose value is the class -/
theorem pe_makeS (M : Mk X.K C f) (F : FnR X.prog X.w X.K X.mg X.base CX k f sp) (hr : Room (k + 1) X.A) (hx : Passes CX X E) (hn : PE X (.Name x p) tc) (he : PE X e te)
    (hst : starEach [.Starred e sp_] X.env = [(true, eval e X.env)] := by rfl) : PE X (.Call (.Name x p) [.Starred e sp_] [] pos) (tMakeS X C sp E tc te) := by
  refine ⟨fun pins s σ H Q I h => ?_⟩
  refine wpAny_Call_Name_kw (thn (hn.run pins s σ H _ I h) fun c s0 ⟨cv, H0, I0, rc, ec, h⟩ => ?_)
  subst ec
  obtain rfl : c = Value.ref C := rc
  refine PySem.W.callWith_S (h₀ := X.base) I0.ok.mod.kin M.kp (thn (he.run pins s0 σ H0 _ I0 h) fun v s1 ⟨y, H1, I1, ry, a, xs, ey, hxs, q⟩ => ?_) hst
  subst ey
  obtain rfl : v = Value.ref a := ry
  exact StX.star_any I1 hxs fun us s2 I2 rv => ⟨I2.kIn, StX.run_makeR M F hr hx I2 rv q⟩
end
end Ov

set_option Elab.async false
set_option linter.all false
set_option maxRecDepth 100000
set_option maxHeartbeats 4000000
/-! len(set(xs)), xs a tuple of any number of texts (below 4000) -/
namespace Ov
open PySem PySem.Spec PyProof.Rows L2
/-- the texts without those that were there before -/
def addS (z : List Str) (v : Str) : List Str := if z.any (· == v) = true then z else z ++ [v]
def once (xs : List Str) : List Str := xs.foldl addS []
theorem addS_len (z : List Str) (v : Str) : (addS z v).length = if z.any (· == v) = true then z.length else z.length + 1 := by
  unfold addS; split <;> simp
theorem addS_any (z : List Str) (v k : Str) : (addS z v).any (· == k) = (z.any (· == k) || decide (k = v)) := by
  unfold addS
  by_cases h : z.any (· == v) = true
  · rw [if_pos h]
    by_cases e : k = v
    · subst e; rw [h]; simp
    · simp [e]
  · rw [if_neg h, List.any_append]
    by_cases e : k = v
    · subst e; simp
    · have hb : (v == k) = false := by simpa [beq_iff_eq] using (fun h' : v = k => e h'.symm)
      simp [hb, e]
theorem once_take {xs : List Str} {i : Nat} (h : i < xs.length) : once (xs.take (i + 1)) = addS (once (xs.take i)) (xs.getD i Str.empty) := by
  unfold once
  rw [List.take_succ, List.foldl_append, List.getElem?_eq_getElem h]
  simp [List.getD, List.getElem?_eq_getElem h]
theorem once_le (xs : List Str) : (once xs).length ≤ xs.length := by
  have key : ∀ (l z : List Str), (l.foldl addS z).length ≤ z.length + l.length := by
    intro l
    induction l with
    | nil => intro z; simp
    | cons a l ih =>
      intro z
      rw [List.foldl_cons, List.length_cons]
      refine Nat.le_trans (ih _) ?_
      rw [addS_len]
      split <;> omega
  have := key xs []
  simpa [once] using this
/-- as many as there are, exactly if no two are alike -/
theorem once_nodup (xs : List Str) : (once xs).length = xs.length ↔ xs.Nodup := by
  have key : ∀ (l z : List Str), ((l.foldl addS z).length = z.length + l.length ↔ (l.Nodup ∧ ∀ a ∈ l, ¬ z.any (· == a) = true)) := by
    intro l
    induction l with
    | nil => intro z; simp
    | cons a l ih =>
      intro z
      rw [List.foldl_cons, List.length_cons, List.nodup_cons]
      have bound : ∀ (l z : List Str), (l.foldl addS z).length ≤ z.length + l.length := by
        intro l
        induction l with
        | nil => intro z; simp
        | cons a l ih =>
          intro z
          rw [List.foldl_cons, List.length_cons]
          refine Nat.le_trans (ih _) ?_
          rw [addS_len]
          split <;> omega
      by_cases h : z.any (· == a) = true
      · have e : addS z a = z := if_pos h
        rw [e]
        have := bound l z
        constructor
        · intro q; omega
        · rintro ⟨_, q⟩; exact absurd h (q a List.mem_cons_self)
      · have e : addS z a = z ++ [a] := if_neg h
        rw [e]
        have ih' := ih (z ++ [a])
        rw [List.length_append, List.length_singleton] at ih'
        rw [show z.length + (l.length + 1) = z.length + 1 + l.length by omega, ih']
        constructor
        · rintro ⟨h1, h2⟩
          refine ⟨⟨fun hm => ?_, h1⟩, fun b hb => ?_⟩
          · have := h2 a hm
            rw [List.any_append] at this
            simp at this
          · rcases List.mem_cons.mp hb with e | hb
            · rw [e]; exact h
            · have := h2 b hb
              rw [List.any_append] at this
              intro q
              rw [q] at this
              simp at this
        · rintro ⟨⟨h1, h2⟩, h3⟩
          refine ⟨h2, fun b hb => ?_⟩
          rw [List.any_append]
          have q := h3 b (List.mem_cons_of_mem _ hb)
          have nb : (a == b) = false := by
            rw [beq_eq_false_iff_ne]
            intro e
            exact h1 (e ▸ hb)
          simp only [Bool.not_eq_true] at q ⊢
          rw [q]
          simp [nb]
  have := key xs []
  simpa [once] using this

section
variable {prog : Program} {w : World} {A : Around} {R : Result → Shared → Prop} {I : Addr} {fp wr : List Addr} {G : Array GenState → Array GenState → Prop} {n : Nat} {P : Nat → Value → Prop} {St : Nat → Shared → Prop}
theorem set_loop (W : WalksS prog w A.in1 I fp wr G n P St) (S : Addr) (hSf : S ∉ fp) (xs : List Str) (hsz : xs.length = n) (hn : n + 1 < scanBound)
    (hval : ∀ i v, P i v → ∃ t, v = .str (xs.getD i Str.empty) t) :
    ∀ (k i : Nat) (s : Shared), n - i = k → i ≤ n → St i s →
      s.heap.SetOf (PySem.strKind prog w) S (fun k' => (once (xs.take i)).any (· == k')) (once (xs.take i)).length →
      (∀ s', Moved (S :: wr) G s s' → s'.heap.SetOf (PySem.strKind prog w) S (fun k' => (once xs).any (· == k')) (once xs).length → R (.ok (.ret .none)) s') →
      codeAny (model prog w) A (.builtin "set.update.loop" ⟨[.ref S, .ref I], []⟩) R s := by
  have hSw : S ∉ wr := fun h => hSf (W.sub _ h)
  have hsub : ∀ b ∈ wr, b ∈ S :: wr := fun b hb => List.mem_cons_of_mem _ hb
  intro k
  induction k with
  | zero =>
    intro i s hk hi hst hS hR
    have hin : i = n := by omega
    subst hin
    refine codeAny_builtin PyProof.Rows.F.entry_set_update_loop ?_
    rw [Around.under_plainId PyProof.Rows.F.plain_set_update_loop _]
    show wpAny _ A.in1 (pyNext (.ref I) >>= _) _ _ s
    refine wpAny_bind (W.done s _ _ hst fun s' hm => ?_)
    show wpAny _ A.in1 (ret Value.none) _ _ s'
    rw [← hsz, List.take_length] at hS
    exact wpAny_pure (hR s' (hm.mono hsub) (by
      obtain ⟨o, es, ep, t, ho, rest⟩ := hS
      exact ⟨o, es, ep, t, hm.heap S _ hSw ho, rest⟩))
  | succ k ih =>
    intro i s hk hi hst hS hR
    have hlt : i < n := by omega
    refine codeAny_builtin PyProof.Rows.F.entry_set_update_loop ?_
    rw [Around.under_plainId PyProof.Rows.F.plain_set_update_loop _]
    show wpAny _ A.in1 (pyNext (.ref I) >>= _) _ _ s
    refine wpAny_bind (W.item i s _ _ hlt hst fun v s' hP hst' hm => ?_)
    obtain ⟨t, rfl⟩ := hval i v hP
    have hS' : s'.heap.SetOf (PySem.strKind prog w) S (fun k' => (once (xs.take i)).any (· == k')) (once (xs.take i)).length := by
      obtain ⟨o, es, ep, tb, ho, rest⟩ := hS
      exact ⟨o, es, ep, tb, hm.heap S _ hSw ho, rest⟩
    have hle : (once (xs.take i)).length ≤ i := Nat.le_trans (once_le _) (by rw [List.length_take]; omega)
    show wpAny _ A.in1 (holding [Value.str (xs.getD i Str.empty) t] (setAdd S (.str (xs.getD i Str.empty) t)) >>= _) _ _ s'
    refine wpAny_bind (wpAny_holding ?_)
    unfold setAdd
    refine wpAny_holding ?_
    refine wpAny_bind ((PySem.strKind prog w).pyHash (k := xs.getD i Str.empty) (strKind_is _ _ _ _) ?_)
    refine wpAny_setAddHashed_of (knd := PySem.strKind prog w) (s := { s' with toks := s'.toks + 1 }) (strKind_is _ _ _ _) rfl hS' (by omega) fun h' hsb hS2 => ?_
    have hSi : h'.SetOf (PySem.strKind prog w) S (fun k' => (once (xs.take (i + 1))).any (· == k')) (once (xs.take (i + 1))).length := by
      rw [once_take (by omega)]
      exact SetOf_congr hS2 (fun k' => by rw [addS_any]) (by rw [addS_len])
    refine wpAny_pure ⟨plainId_quiet PyProof.Rows.F.plain_set_update_loop _, ih (i + 1) _ (by omega) hlt (W.frame _ s' _ _ hst' (Nat.le_succ _) fun b hb o e => ?_) hSi fun s'' hm'' hS'' => ?_⟩
    · rw [hsb.2 b (fun h : b = S => hSf (by rw [← h]; exact hb))]; exact e
    · refine hR s'' (Moved.trans W.gtrans ((hm.mono hsub).then_heap (Nat.le_succ _) fun b o hb e => ?_) hm'') hS''
      rw [hsb.2 b (fun h : b = S => hb (by rw [h]; exact List.mem_cons_self))]; exact e
end
section
variable {prog : Program} {w : World} {A : Around} {E : Value → Shared → Prop} {s : Shared}
theorem set_of_tuple {l : Addr} {items : Array Value} {xs : List Str} {Q : Value → Shared → Prop}
    (hh : A.handled = none) (hl : s.heap.IsTuple l items) (hi : PyProof.Rows.StrsAre items.toList xs) (hn1 : xs.length + 1 < scanBound)
    (h : ∀ (h' : Heap) (tk : Nat), h'.SetOf (PySem.strKind prog w) s.heap.objs.size (fun k' => (once xs).any (· == k')) (once xs).length →
      (∀ b o, b < s.heap.objs.size → s.heap.get? b = some o → h'.get? b = some o) → Q (.ref s.heap.objs.size) { s with heap := h', toks := tk }) :
    wpAny (model prog w) A (call (.type "set") [.ref l]) Q E s := by
  obtain ⟨c, tl, hmro⟩ := PySem.F.called_set.mro
  have hmade := PySem.F.called_set.made
  have hsub := PySem.F.called_set.sub
  have h1 := PySem.F.called_set.notType
  have h2 := PySem.F.called_set.canCreate
  have hct := PySem.F.typeCall_set_1 (.ref l)
  refine wpAny_call (codeAny_of_tree ?_)
  show wpAny _ _ (callAny (.type "set") _) _ _ _
  refine wpAny_pure ⟨Code.quiet_builtin _ (by decide +kernel), codeAny_builtin PySem.F.entry_type_call ?_⟩
  rw [Around.under_plain (weight_type_call_type "set" [.ref l] []) rfl]
  repeat (any_goals (first | assumption | wp_step))
  refine codeAny_mono (code_set_new_1 (.ref l) (E := E) (Q₁ := fun obj s₁ => ∃ led : Bool, obj = .ref s.heap.objs.size ∧ s₁ = { s with heap := s.heap.push { cls := .type "set", dict := none, data := .set #[] 0 (.fresh 0 0 led) } }) fun led => ⟨led, rfl, rfl⟩) fun r s₁ hr => ?_
  cases r with
  | error e => exact hr
  | ok fl =>
    cases fl with
    | ret obj =>
      obtain ⟨led, rfl, rfl⟩ := hr
      have hS : (s.heap.push { cls := .type "set", dict := none, data := .set #[] 0 (.fresh 0 0 led) }).get? s.heap.objs.size = some { cls := .type "set", dict := none, data := .set #[] 0 (.fresh 0 0 led) } := Heap.get?_push_size _ rfl
      have hT : Shared.TypeIs { s with heap := s.heap.push { cls := .type "set", dict := none, data := .set #[] 0 (.fresh 0 0 led) } } (.ref s.heap.objs.size) "set" := ⟨_, hS, rfl⟩
      have hli := PySem.F.called_set.init.lookup
      have hbi := PySem.F.called_set.init.bind (.ref s.heap.objs.size)
      repeat (any_goals (first | assumption | wp_step))
      refine codeAny_mono (codeAny_call_builtin (R := wants (fun r s₂ => r = .none ∧ ∃ h' tk, s₂ = { s with heap := h', toks := tk } ∧
          h'.SetOf (PySem.strKind prog w) s.heap.objs.size (fun k' => (once xs).any (· == k')) (once xs).length ∧
          (∀ b o, b < s.heap.objs.size → s.heap.get? b = some o → h'.get? b = some o)) E) PySem.F.called_set.init.plain PySem.F.entry_set_init (check_set_init_1 hT ?_)) fun r₂ s₂ hr₂ => ?_
      · obtain ⟨ol, hol, hcl, nl, hdl⟩ := hl
        obtain ⟨ocls, odict, odata, oslots⟩ := ol
        simp only at hcl hdl
        subst hcl; subst hdl
        have hol' : (s.heap.push { cls := .type "set", dict := none, data := .set #[] 0 (.fresh 0 0 led) }).get? l = some { cls := .type "tuple", dict := odict, data := .seq items nl, slots := oslots } := Heap.get?_push_of_some _ hol
        have hsls := PySem.F.sub_tuple_set
        have hslf := PySem.F.sub_tuple_frozenset
        have hne : (Value.type "tuple" == Value.type "dict") = false := by decide
        have hl1 : (s.heap.push { cls := .type "set", dict := none, data := .set #[] 0 (.fresh 0 0 led) }).IsTuple l items := ⟨_, hol', rfl, nl, rfl⟩
        unfold Builtin.«set.__init__» noKeywords Builtin.Frozenset.updateFrom
        generalize hPI : pyIter = PI
        wp_walk
        subst hPI
        refine wpAny_pyIter_tuple hl1 ?_
        refine wpAny_bind (wpAny_runValue ?_)
        have hlS : l < s.heap.objs.size := Heap.lt_size hol
        have hh3 : A.in1.in1.in1.handled = none := by simp [hh]
        have hneI : l ≠ (s.heap.push { cls := .type "set", dict := none, data := .set #[] 0 (.fresh 0 0 led) }).objs.size := by
          rw [Heap.size_push]; exact Nat.ne_of_lt (Nat.lt_succ_of_lt hlS)
        have hSf : s.heap.objs.size ∉ [(s.heap.push { cls := .type "set", dict := none, data := .set #[] 0 (.fresh 0 0 led) }).objs.size, l] := by
          rw [Heap.size_push]; simp only [List.mem_cons, List.mem_singleton, List.not_mem_nil, or_false, not_or]
          exact ⟨Nat.ne_of_lt (Nat.lt_succ_self _), Nat.ne_of_gt hlS⟩
        have hsz : xs.length = items.size := by rw [← StrsAre.len_eq hi, Array.length_toList]
        have hval : ∀ (i : Nat) (v : Value), items[i]? = some v → ∃ t, v = .str (xs.getD i Str.empty) t := fun i v hv => SS.strs_at hi i v (by rw [Array.getElem?_toList]; exact hv)
        refine set_loop ((Walks.tuple hh3 _ l hneI items).toS) s.heap.objs.size
          hSf xs hsz (by rw [← hsz]; exact hn1) hval (items.size - 0) 0 _ (by omega) (Nat.zero_le _)
          ⟨⟨_, Heap.get?_push_size _ rfl, rfl, rfl⟩, (hl1.push _)⟩ ?hS0 ?hR
        case hS0 =>
          have hget : ((s.heap.push { cls := .type "set", dict := none, data := .set #[] 0 (.fresh 0 0 led) }).push { cls := .type "tuple_iterator", data := .fields #[.ref l, .int 0 0] }).get? s.heap.objs.size
              = some { cls := .type "set", dict := none, data := .set #[] 0 (.fresh 0 0 led) } := Heap.get?_push_of_some _ hS
          exact PyProof.Rows.SetOf_congr ((PyProof.Rows.setObjOf_fresh (knd := PySem.strKind prog w) led).setOf hget (by unfold scanBound; omega)) (fun _ => rfl) rfl
        case hR =>
          intro s' hm hS'
          obtain ⟨h', g', d', tk', os'⟩ := s'
          have eg : g' = s.gens := hm.gens
          have ed : d' = s.drawn := hm.drawn
          have eo : os' = s.os := hm.os
          subst eg; subst ed; subst eo
          show wpAny _ _ _ _ _ _
          refine wpAny_pure ?_
          show wpAny _ _ (ret Value.none) _ _ _
          refine wpAny_pure ⟨rfl, h', tk', rfl, hS', fun b o hb e => ?_⟩
          have hb1 : b ≠ s.heap.objs.size := Nat.ne_of_lt hb
          have hb2 : b ≠ (s.heap.push { cls := .type "set", dict := none, data := .set #[] 0 (.fresh 0 0 led) }).objs.size := by
            rw [Heap.size_push]; exact Nat.ne_of_lt (Nat.lt_succ_of_lt hb)
          exact hm.heap b o (by simp only [List.mem_cons, List.mem_singleton, List.not_mem_nil, or_false, not_or]; exact ⟨hb1, hb2⟩) (Heap.get?_push_of_some _ (Heap.get?_push_of_some _ e))
      · cases r₂ with
        | error e => exact hr₂
        | ok fl₂ =>
          cases fl₂ with
          | ret r =>
            obtain ⟨rfl, h', tk, rfl, hS', hk'⟩ := hr₂
            repeat (any_goals (first | assumption | wp_step))
            exact h _ _ hS' hk'
          | _ => exact hr₂.elim
    | _ => exact hr.elim
end
/-- len(set(xs)), xs a tuple of texts -/
def tLenOnce (K : PySem.W.Frag) (ta : TE) : TE := fun σ H Q => ta σ H fun x H1 => ∃ (l : Addr) (xs : List Str), x = .ref l ∧ SqT K H1 l (xs.map V.str) ∧ xs.length ≤ 4000 ∧ Q (.int ((once xs).length : Nat)) H1
theorem pe_lenOnce {X : Cx} {a : Expr} {ta : TE} {p p2 q pos : Pos} (hc : X.calm = true) (hg : Gl X "len") (hm : X.mg "len" = none) (hg2 : Gl X "set") (hm2 : X.mg "set" = none) (ha : PE X a ta)
    (na : starEach [a] X.env = (false, eval a X.env) :: starEach [] X.env := by rfl) : PE X (.Call (.Name "len" p) [.Call (.Name "set" p2) [a] [] q] [] pos) (tLenOnce X.K ta) := by
  refine ⟨fun pins s σ H Q I h => ?_⟩
  refine Call_ (ld_blt I hg hm boot_len ?_)
  refine PyProof.Rows.callWith_builtin1 (PyProof.Rows.args_cons ?_ rfl) rfl rfl
  refine Call_ (ld_blt I hg2 hm2 boot_set ?_)
  refine PyProof.Rows.callWith_type1 (PyProof.Rows.args_cons (thn (ha.run pins s σ H _ I h) fun v s1 ⟨x, H1, I1, r1, q1⟩ => PyProof.Rows.args_nil ?_) na) na rfl
  obtain ⟨l, xs, rfl, hq, h1, q1⟩ := q1
  cases r1
  obtain ⟨its, r, pl, hz⟩ := I1.tuple hq
  refine set_of_tuple (I1.ok.hd hc) pl (by simpa using strsAre_of r) (by unfold scanBound; omega) fun h' tk hS hk => ?_
  refine PyProof.Rows.args_nil ?_
  have hle := once_le xs
  obtain ⟨o, es, ep, t, ho, hex, hd, _, _, _, hf, hn⟩ := hS
  have I2 : Inv X pins σ H1 { s1 with heap := h', toks := tk } := I1.kept fun b o e => hk b o (Heap.lt_size e) e
  exact call_len_set ho hex hd hf (by rw [hn] <;> omega) ⟨.int (once xs).length, H1, I2.tok _, ⟨_, by rw [hn]⟩, q1⟩
end Ov

set_option Elab.async false
set_option linter.all false
set_option maxRecDepth 100000
set_option maxHeartbeats 4000000
namespace Ov
open PySem PySem.Spec PyProof.Rows L2 GxR
/-! ### all, by its items -/
theorem all_str {x : Str} {te : TE} {cp : L2.St} {Q : VK} {H2 : Hp} (f : Nat → Bool) (he : ∀ c, ∀ R : VK, R (.bl (f c)) H2 → te (some (.str ⟨#[c]⟩) :: cp) H2 R) (q : Q (.bl (x.cps.toList.all f)) H2) :
    ∃ W : Nat → Nat → Hp → Prop, (∃ m, W 0 m H2) ∧ turnAll (Its x) te W cp Q := by
  refine ⟨fun i m H => H = H2 ∧ m = x.cps.size - i ∧ i ≤ x.cps.size ∧ (x.cps.toList.take i).all f = true, ⟨x.cps.size, rfl, by simp, Nat.zero_le _, rfl⟩, ?_⟩
  rintro i m H ⟨rfl, rfl, hi, ha⟩
  by_cases hlt : i < x.cps.size
  · refine .inr ⟨hlt, fun v H' hy => ?_⟩
    obtain ⟨rfl, c, hc, rfl⟩ := hy
    refine he c _ ⟨f c, rfl, ?_⟩
    have hcl : x.cps.toList[i]? = some c := by rw [Array.getElem?_toList]; exact hc
    cases hf : f c with
    | true =>
      refine iteT ⟨x.cps.size - (i + 1), by omega, rfl, rfl, hlt, ?_⟩
      rw [List.take_succ, hcl, List.all_append, ha]
      simp [hf]
    | false =>
      refine iteF ?_
      have e : x.cps.toList.all f = false := by
        rw [List.all_eq_false]
        exact ⟨c, List.mem_of_getElem? hcl, by simp [hf]⟩
      rw [← e]; exact q
  · have e : i = x.cps.size := by omega
    subst e
    refine .inl ⟨Nat.le_refl _, ?_⟩
    have e2 : x.cps.toList.take x.cps.size = x.cps.toList := by rw [List.take_of_length_le (by simp)]
    rw [e2] at ha
    rw [ha] at q
    exact q
theorem all_tup {K : PySem.W.Frag} {a : Addr} {xs : List V} {te : TE} {cp : L2.St} {Q : VK} {H2 : Hp} (f : V → Bool) (Pv : Hp → Prop) (h0 : Pv H2) (hs : ∀ H, Pv H → SqT K H a xs)
    (he : ∀ x ∈ xs, ∀ H, Pv H → ∀ R : VK, (∀ H', Pv H' → R (.bl (f x)) H') → te (some x :: cp) H R) (q : ∀ H, Pv H → Q (.bl (xs.all f)) H) :
    ∃ W : Nat → Nat → Hp → Prop, (∃ m, W 0 m H2) ∧ turnAll (Itt K a) te W cp Q := by
  refine ⟨fun i m H => Pv H ∧ m = xs.length - i ∧ i ≤ xs.length ∧ (xs.take i).all f = true, ⟨xs.length, h0, by simp, Nat.zero_le _, rfl⟩, ?_⟩
  rintro i m H ⟨hp, rfl, hi, ha⟩
  by_cases hlt : i < xs.length
  · refine .inr ⟨⟨xs, xs[i], hs H hp, List.getElem?_eq_getElem hlt⟩, fun v H' hy => ?_⟩
    obtain ⟨rfl, hy⟩ := hy
    have hv := hy xs (hs _ hp)
    refine he v (List.mem_of_getElem? hv) _ hp _ fun H'' hp'' => ⟨f v, rfl, ?_⟩
    cases hf : f v with
    | true =>
      refine iteT ⟨xs.length - (i + 1), by omega, hp'', rfl, hlt, ?_⟩
      rw [List.take_succ, hv, List.all_append, ha]
      simp [hf]
    | false =>
      refine iteF ?_
      have e : xs.all f = false := by
        rw [List.all_eq_false]
        exact ⟨v, List.mem_of_getElem? hv, by simp [hf]⟩
      rw [← e]; exact q _ hp''
  · have e : i = xs.length := by omega
    subst e
    refine .inl ⟨⟨xs, hs _ hp, Nat.le_refl _⟩, ?_⟩
    rw [List.take_length] at ha
    rw [← ha]
    exact q _ hp
/-! ### a def whose code object is known -/
structure FunC (K : PySem.W.Frag) (x qual : Str) (st : Stmt) (f : Addr) (fd : FuncData) (c : Addr) : Prop where
  ex : ∃ (oc : Value) (od : Option Addr) (kV doc pm : Value) (an : Option Addr) (ct : Value) (osl : Array (Option Value)),
    fd = PySem.W.fnOf x qual (defArgs st) (defBody st) (defScope st) .none kV doc pm an (.ref c) ct ∧ K.lookup f = some ⟨oc, od, .func fd, osl⟩ ∧ PySem.W.codeIn K (.ref c) qual = true
  kp : PySem.W.keepIn K (.ref f) = true
section
variable {P : Program} {w : World} {K : PySem.W.Frag} {mg : Str → Option Value} {base : Heap}
theorem FunC.ok {x qual : Str} {st : Stmt} {f c : Addr} {fd : FuncData} {N ps : List Str} {k : Nat} {sp : Sp} (F : FunC K x qual st f fd c) (S : FnScope N ps (defScope st)) (len : ∀ vs H Q E, sp vs H Q E → vs.length = ps.length)
    (hbody : ∀ (A : Around) (outer : List Env) (s : Shared) (H : Hp) (vs : List V) (Q : VK) (E : XK), Room k (A.deeper (envOfC qual (defScope st) s.heap.objs.size f (.ref c))) → sp vs H Q E →
      ∃ t, PSs (cxOf CX0 P w K mg base N qual (defScope st) f (.ref c) A outer s H E).nox (defBody st) t ∧ t { nx := fun _ H' => Q .non H', rt := Q } (start N vs) H) : FnOk P w K mg base CX0 (k + 1) f fd ps sp := by
  obtain ⟨oc, od, kV, doc, pm, an, ct, osl, rfl, lk, hcd⟩ := F.ex
  refine fn_of lk hcd S len fun A outer s H vs Q E hr hsp => ?_
  obtain ⟨t, h, q⟩ := hbody A outer s H vs Q E hr hsp
  exact ⟨t, h.nox, q⟩
theorem FunC.toFun {x qual : Str} {st : Stmt} {f c : Addr} {fd : FuncData} (F : FunC K x qual st f fd c) : Fun K x qual st f fd := by
  obtain ⟨oc, od, kV, doc, pm, an, ct, osl, e, lk, hcd⟩ := F.ex
  exact ⟨⟨oc, od, kV, doc, pm, an, _, ct, osl, e, lk, hcd⟩, F.kp⟩
theorem funC_mk {x qual : Str} {st : Stmt} {f c : Addr} {oc : Value} {od an : Option Addr} {osl : Array (Option Value)} {kV doc pm ct : Value} (l : K.lookup f = some ⟨oc, od, .func (PySem.W.fnOf x qual (defArgs st) (defBody st) (defScope st) .none kV doc pm an (.ref c) ct), osl⟩)
    (hc : PySem.W.codeIn K (.ref c) qual = true) (k : PySem.W.keepIn K (.ref f) = true) : FunC K x qual st f (PySem.W.fnOf x qual (defArgs st) (defBody st) (defScope st) .none kV doc pm an (.ref c) ct) c := ⟨⟨oc, od, kV, doc, pm, an, ct, osl, rfl, l, hc⟩, k⟩
end
/-! ### heaps that differ in the tables of the defs alone -/
/-- the tables at T may grow; nothing else has changed -/
def Tbs (T : List Addr) (H H' : Hp) : Prop := (∀ P ∈ T, TabG H' P) ∧ ∀ b, b ∉ T → H' b = H b
/-- .. what stood stands -/
def Kep (T : List Addr) (H H' : Hp) : Prop := (∀ P ∈ T, TabG H' P) ∧ ∀ b o, b ∉ T → H b = some o → H' b = some o
theorem Tbs.refl {T : List Addr} {H : Hp} (h : ∀ P ∈ T, TabG H P) : Tbs T H H := ⟨h, fun _ _ => rfl⟩
theorem Tbs.trans {T : List Addr} {H H1 H2 : Hp} (a : Tbs T H H1) (b : Tbs T H1 H2) : Tbs T H H2 := ⟨b.1, fun c hc => (b.2 c hc).trans (a.2 c hc)⟩
theorem Tbs.kep {T : List Addr} {H H' : Hp} (a : Tbs T H H') : Kep T H H' := ⟨a.1, fun b o hb e => (a.2 b hb).trans e⟩
theorem Kep.refl {T : List Addr} {H : Hp} (h : ∀ P ∈ T, TabG H P) : Kep T H H := ⟨h, fun _ _ _ e => e⟩
theorem Kep.trans {T : List Addr} {H H1 H2 : Hp} (a : Kep T H H1) (b : Kep T H1 H2) : Kep T H H2 := ⟨b.1, fun c o hc e => b.2 c o hc (a.2 c o hc e)⟩
theorem Tbs.of1 {T : List Addr} {H H' : Hp} {P : Addr} (h : ∀ p ∈ T, TabG H p) (hP : P ∈ T) (t : Tabbed P H H') : Tbs T H H' := by
  refine ⟨fun p hp => ?_, fun b hb => t.2 b fun z => hb (by rw [z]; exact hP)⟩
  by_cases e : p = P
  · rw [e]; exact t.1
  · obtain ⟨ps, h1, h2⟩ := h p hp
    exact ⟨ps, (t.2 p e).trans h1, h2⟩
/-- a tracked thing of another kind is no table -/
theorem not_tab {T : List Addr} {H : Hp} {b : Addr} {o : HO} (h : ∀ p ∈ T, TabG H p) (e : H b = some o) (n : ∀ ps, o ≠ .tbl ps) : b ∉ T := fun z => by
  obtain ⟨ps, h1, _⟩ := h b z
  rw [e] at h1
  exact n ps (Option.some.inj h1)
theorem free_tab {T : List Addr} {H : Hp} {b : Addr} (h : ∀ p ∈ T, TabG H p) (e : H b = none) : b ∉ T := fun z => by
  obtain ⟨ps, h1, _⟩ := h b z
  rw [e] at h1
  cases h1
theorem Kep.at {T : List Addr} {H H' : Hp} {b : Addr} {o : HO} (a : Kep T H H') (h : ∀ p ∈ T, TabG H p) (e : H b = some o) (n : ∀ ps, o ≠ .tbl ps) : H' b = some o := a.2 b o (not_tab h e n) e
/-- a new thing -/
theorem Kep.new {T : List Addr} {H : Hp} {p : Addr} {o : HO} (h : ∀ q ∈ T, TabG H q) (e : H p = none) : Kep T H (upd H p o) := by
  refine ⟨fun q hq => ?_, fun b u _ hb => ?_⟩
  · obtain ⟨ps, h1, h2⟩ := h q hq
    exact ⟨ps, (upd_ne (ne_of_none h1 e)).trans h1, h2⟩
  · exact (upd_ne (ne_of_none hb e)).trans hb
/-- a list that was not there at H may be written -/
theorem Kep.put {T : List Addr} {H H1 : Hp} {p : Addr} {o : HO} (a : Kep T H H1) (e : H p = none) (n : p ∉ T) : Kep T H (upd H1 p o) := by
  refine ⟨fun q hq => ?_, fun b u hb hu => ?_⟩
  · obtain ⟨ps, h1, h2⟩ := a.1 q hq
    exact ⟨ps, (upd_ne (fun z => n (by rw [← z]; exact hq))).trans h1, h2⟩
  · exact (upd_ne (ne_of_none hu e)).trans (a.2 b u hb hu)
theorem Kep.seqL {T : List Addr} {K : PySem.W.Frag} {H H' : Hp} {a : Addr} {xs : List V} (k : Kep T H H') (h : ∀ p ∈ T, TabG H p) (e : SqL K H a xs) : SqL K H' a xs := by
  rcases e with (e | ⟨o, e⟩) | e
  · exact .inl (.inl (k.at h e fun _ z => by cases z))
  · exact .inl (.inr ⟨o, k.at h e fun _ z => by cases z⟩)
  · exact .inr e
theorem Kep.seqT {T : List Addr} {K : PySem.W.Frag} {H H' : Hp} {a : Addr} {xs : List V} (k : Kep T H H') (h : ∀ p ∈ T, TabG H p) (e : SqT K H a xs) : SqT K H' a xs := by
  rcases e with (e | ⟨o, e⟩) | e
  · exact .inl (.inl (k.at h e fun _ z => by cases z))
  · exact .inl (.inr ⟨o, k.at h e fun _ z => by cases z⟩)
  · exact .inr e
theorem Kep.free {T : List Addr} {H H' : Hp} {b : Addr} (k : Kep T H H') (h : ∀ p ∈ T, TabG H p) (e : H' b = none) : H b = none := by
  cases q : H b with
  | none => rfl
  | some o =>
    by_cases hb : b ∈ T
    · obtain ⟨ps, h1, _⟩ := k.1 b hb
      rw [h1] at e; cases e
    · rw [k.2 b o hb q] at e; cases e
end Ov
namespace Ov
open PySem PySem.Spec PyProof.Rows L2 GxR
theorem one_lt (a b : Nat) : ([a] < [b]) ↔ a < b := by
  rw [List.cons_lt_cons_iff]
  constructor
  · rintro (h | ⟨_, h⟩)
    · exact h
    · exact absurd h (by simp)
  · exact .inl
/-! ### a generator's names, by a check -/
def genC (N : List Str) (sc scope : Scope) (x : Str) (cs : List Str) (pick : List Nat) : Bool :=
  (scope.kind == .function) && (scope.isCoroutine == false) && (scope.names.all fun y => y.2 != .cell) && (scope.names.lookup (".0" : Str) == some NameKind.local) && (scope.names.lookup x == some NameKind.local) &&
  (scope.names.all fun y => y.2 != .free || (sc.names.lookup y.1 == some NameKind.cell)) && (scope.names.all fun y => scope.names.lookup y.1 == some y.2) && decide ((x :: cs).Nodup) && (cs.length == pick.length) &&
  ((cs.zip pick).all fun p => (scope.names.lookup p.1 == some NameKind.free) && (sc.names.lookup p.1 == some NameKind.cell) && (N[p.2]? == some p.1))
theorem genN_by {X : Cx} {N : List Str} {sc scope : Scope} {x : Str} {cs : List Str} {pick : List Nat} (hN : X.N = N) (hs : X.env.scope = sc) (hc : ∀ y, sc.names.lookup y = some .cell → ∃ c, X.env.cells.lookup y = some c) (h : genC N sc scope x cs pick = true) : GenN X scope x cs pick := by
  unfold genC at h
  simp only [Bool.and_eq_true, beq_iff_eq, decide_eq_true_eq] at h
  obtain ⟨⟨⟨⟨⟨⟨⟨⟨⟨h1, h2⟩, h3⟩, h4⟩, h5⟩, h6⟩, h7⟩, h8⟩, h9⟩, h10⟩ := h
  refine ⟨⟨h1, h2, fun y hy e => ?_, h4, h5, fun y hy e => ?_⟩, fun y hy => ?_, h8, h9, fun i y hi => ?_⟩
  · have := List.all_eq_true.mp h3 y hy
    rw [e] at this
    exact absurd this (by decide)
  · have := List.all_eq_true.mp h6 y hy
    rw [e] at this
    simp only [bne_self_eq_false, Bool.false_or, beq_iff_eq] at this
    exact hc y.1 this
  · exact beq_iff_eq.mp (List.all_eq_true.mp h7 y hy)
  · obtain ⟨j, hj⟩ : ∃ j, pick[i]? = some j := by
      have : i < pick.length := by rw [← h9]; exact (List.getElem?_eq_some_iff.mp hi).1
      exact ⟨_, List.getElem?_eq_getElem this⟩
    have hz : (cs.zip pick)[i]? = some (y, j) := by
      rw [List.getElem?_zip_eq_some]
      exact ⟨hi, hj⟩
    have := List.all_eq_true.mp h10 (y, j) (List.mem_of_getElem? hz)
    simp only [Bool.and_eq_true, beq_iff_eq] at this
    obtain ⟨⟨q1, q2⟩, q3⟩ := this
    exact ⟨q1, .inl (by rw [hs]; exact q2), j, hj, by rw [hN]; exact q3⟩
end Ov

set_option Elab.async false
set_option linter.all false
set_option maxRecDepth 100000
set_option maxHeartbeats 4000000
/-! == and != of instances of own classes without == of their own, of two classes -/
namespace Ov
open PySem PySem.Spec PyProof.Rows L2
section
variable {prog : Program} {w : World} {A : Around} {E : Value → Shared → Prop} {s : Shared} {K : PySem.W.Frag} {x y C D : Addr} {ox oy : Obj} {od od' : Option Obj}
/-- no == and no != of their own -/
structure NoEq2 (K : PySem.W.Frag) (C : Addr) : Prop where
  eq : PySem.W.findIn K (.ref C) "__eq__" = some (some (.builtin "object.__eq__"))
  ne : PySem.W.findIn K (.ref C) "__ne__" = some (some (.builtin "object.__ne__"))
  sub : PySem.W.subIn K (.ref C) (.type "object") = some true
theorem chk2 {id n : String} (hk : builtinKind id = some .slot) (hsp : splitId id = some ("object", n)) (ha : argsOk id ⟨[.ref x, .ref y], []⟩) {Q : Unit → Shared → Prop} (X : K.In s.heap) (I : PySem.W.InstAt s.heap x ox C od) (hsub : PySem.W.subIn K (.ref C) (.type "object") = some true) (fin : Q () s) :
    wpAny (model prog w) A (checkBuiltinCall id ⟨[.ref x, .ref y], []⟩) Q E s := by
  simp only [checkBuiltinCall, hk, hsp]
  refine wpAny_bind ?_
  unfold isInstance
  refine wpAny_bind (I.type.here ?_)
  refine (PySem.W.looks_subIn X hsub).here ?_
  cases hsig : Manifest.signature? id with
  | none => exact wpAny_pure fin
  | some sig =>
    simp only [argsOk, hsig] at ha
    have h2 : Bind.checkArgs id sig ⟨[.ref x, .ref y], []⟩ = pure () := ha
    show wpAny _ A (Bind.checkArgs id sig ⟨[.ref x, .ref y], []⟩) _ _ _
    rw [h2]; exact wpAny_pure fin
theorem call_objEq2 {Q : Value → Shared → Prop} (X : K.In s.heap) (I : PySem.W.InstAt s.heap x ox C od) (J : PySem.W.InstAt s.heap y oy D od') (n : NoEq2 K C)
    (h : Q (if x = y then .bool true else .notImplemented) s) : wpAny (model prog w) A (call (.builtin "object.__eq__") [.ref x, .ref y]) Q E s := by
  refine wpAny_call (codeAny_call_builtin F.cmp_object.eq.plain F.cmpEntry_eq (chk2 F.cmpKind_eq F.cmpSplit_eq (F.cmpArgs_eq _ _) X I n.sub ?_))
  by_cases hxy : x = y
  · subst hxy
    exact objEq_entry_same (by rw [if_pos rfl] at h; exact h)
  · refine objEq_entry_other hxy I.at_ J.at_ ?_ (by rw [if_neg hxy] at h; exact h)
    rw [I.cls]
    intro z; cases z
theorem special2 {f : String} {name : Str} (hs : PySem.W.findIn K (.ref C) name = some (some (.builtin f))) (hbind : ∀ self : Value, bindSpecial (.builtin f) self = pure (.builtin f, [self])) {Q : Option Value → Shared → Prop} (X : K.In s.heap) (I : PySem.W.InstAt s.heap x ox C od)
    (h : wpAny (model prog w) A (call (.builtin f) [.ref x, .ref y]) (fun v s' => Q (some v) s') E s) : wpAny (model prog w) A (callSpecialIfBound? (.ref x) name [.ref y]) Q E s := by
  simp only [callSpecialIfBound?, bindSpecialIfBound?]
  refine wpAny_holding (wpAny_bind (wpAny_bind (wpAny_bind (I.type.here ((PySem.W.looks_findIn X hs).here ?_)))))
  have fin : wpAny (model prog w) A (call (.builtin f) ([.ref x] ++ [.ref y]) >>= fun v => pure (some v)) Q E s := wpAny_bind (wpAny_mono h (fun v s' hq => wpAny_pure hq) fun _ _ e => e)
  simp only [hbind]
  refine wpAny_bind (wpAny_askSetting (wpAny_ite ?_))
  split
  · exact wpAny_bind (wpAny_pure (wpAny_pure fin))
  · exact wpAny_tryCatch (wpAny_bind (wpAny_pure (wpAny_pure fin)))
theorem try_eq2 {Q : Option Value → Shared → Prop} (X : K.In s.heap) (I : PySem.W.InstAt s.heap x ox C od) (J : PySem.W.InstAt s.heap y oy D od') (n : NoEq2 K C)
    (h : Q (if x = y then some (.bool true) else none) s) : wpAny (model prog w) A (tryCompare (.ref x) "__eq__" (.ref y)) Q E s := by
  unfold tryCompare
  refine wpAny_bind (special2 n.eq F.cmp_object.eq.bind X I (call_objEq2 X I J n ?_))
  by_cases hxy : x = y
  · rw [if_pos hxy] at h ⊢
    exact wpAny_pure h
  · rw [if_neg hxy] at h ⊢
    exact wpAny_pure h
theorem special_t {Q : Option Value → Shared → Prop} (hxy : x = y) (X : K.In s.heap) (I : PySem.W.InstAt s.heap x ox C od) (J : PySem.W.InstAt s.heap y oy D od') (n : NoEq2 K C) (h : Q (some (.bool true)) s) : wpAny (model prog w) A (callSpecialIfBound? (.ref x) "__eq__" [.ref y]) Q E s :=
  special2 n.eq F.cmp_object.eq.bind X I (call_objEq2 X I J n (by rw [if_pos hxy]; exact h))
theorem special_f {Q : Option Value → Shared → Prop} (hxy : x ≠ y) (X : K.In s.heap) (I : PySem.W.InstAt s.heap x ox C od) (J : PySem.W.InstAt s.heap y oy D od') (n : NoEq2 K C) (h : Q (some .notImplemented) s) : wpAny (model prog w) A (callSpecialIfBound? (.ref x) "__eq__" [.ref y]) Q E s :=
  special2 n.eq F.cmp_object.eq.bind X I (call_objEq2 X I J n (by rw [if_neg hxy]; exact h))
theorem objNe_entry2 {Q : Fin → Shared → Prop} (hu : A.units < cLine) (X : K.In s.heap) (I : PySem.W.InstAt s.heap x ox C od) (J : PySem.W.InstAt s.heap y oy D od') (n : NoEq2 K C)
    (h : Q (.done (.ret (if x = y then .bool false else .notImplemented))) s) : wpAny (model prog w) A (Builtin.«object.__ne__» ⟨[.ref x, .ref y], []⟩) Q E s := by
  unfold Builtin.«object.__ne__»
  by_cases hxy : x = y
  · rw [if_pos hxy] at h
    repeat (first | with_reducible refine wpAny_cRoomFor hu ?_ | with_reducible refine special_t hxy X I J n ?_ | wp_step)
    exact h
  · rw [if_neg hxy] at h
    repeat (first | with_reducible refine wpAny_cRoomFor hu ?_ | with_reducible refine special_f hxy X I J n ?_ | wp_step)
    exact h
theorem try_ne2 {Q : Option Value → Shared → Prop} (hu : A.units + 1 < cLine) (X : K.In s.heap) (I : PySem.W.InstAt s.heap x ox C od) (J : PySem.W.InstAt s.heap y oy D od') (n : NoEq2 K C)
    (h : Q (if x = y then some (.bool false) else none) s) : wpAny (model prog w) A (tryCompare (.ref x) "__ne__" (.ref y)) Q E s := by
  unfold tryCompare
  refine wpAny_bind (special2 n.ne F.cmp_object.ne.bind X I (wpAny_call (codeAny_call_builtin F.cmp_object.ne.plain F.cmpEntry_ne (chk2 F.cmpKind_ne F.cmpSplit_ne (F.cmpArgs_ne _ _) X I n.sub (objNe_entry2 (A := A.in1) hu X I J n ?_)))))
  by_cases hxy : x = y
  · rw [if_pos hxy] at h ⊢
    exact wpAny_pure h
  · rw [if_neg hxy] at h ⊢
    exact wpAny_pure h
theorem eq_id2 {Q : Value → Shared → Prop} {b : Bool} (hu : A.units < cLine) (X : K.In s.heap) (I : PySem.W.InstAt s.heap x ox C od) (J : PySem.W.InstAt s.heap y oy D od') (n : NoEq2 K C) (m : NoEq2 K D) (hsub : C ≠ D → PySem.W.subIn K (.ref D) (.ref C) = some b)
    (h : Q (.bool (decide (x = y))) s) : wpAny (model prog w) A (compareOp .Eq (.ref x) (.ref y)) Q E s := by
  show wpAny _ _ (richCompare .Eq (.ref x) (.ref y)) _ _ _
  unfold richCompare
  simp only [oneThing_ref, cmpInfo_Eq]
  refine wpAny_holding (wpAny_bind (wpAny_cRoomFor hu ?_))
  refine wpAny_bind (I.type.here (wpAny_bind (J.type.here ?_)))
  by_cases hCD : C = D
  · subst hCD
    rw [if_neg (by simp)]
    refine wpAny_bind (wpAny_pure ?_)
    simp only [Bool.false_eq_true, if_false]
    refine wpAny_bind (try_eq2 X I J n ?_)
    by_cases hxy : x = y
    · rw [if_pos hxy]
      subst hxy
      exact wpAny_pure (by simpa using h)
    · rw [if_neg hxy]
      have hyx : ¬ y = x := fun z => hxy z.symm
      simp only [Bool.not_false, if_true]
      refine wpAny_bind (try_eq2 X J I n ?_)
      rw [if_neg hyx]
      refine wpAny_bind (wpAny_rule ?_)
      refine wpAny_bind (wpAny_isSame_ref_other hxy I.at_ J.at_ (by rw [I.cls]; intro z; cases z) ?_)
      exact wpAny_pure (by simpa [hxy] using h)
  · have hxy : ¬ x = y := fun z => by
      subst z
      have e1 := I.at_.symm.trans J.at_
      cases e1
      have e2 := I.cls.symm.trans J.cls
      cases e2
      exact hCD rfl
    have hyx : ¬ y = x := fun z => hxy z.symm
    rw [if_pos (by simp [hCD])]
    refine wpAny_bind ((PySem.W.looks_subIn X (hsub hCD)).here ?_)
    cases b with
    | true =>
      simp only [if_true]
      refine wpAny_bind (try_eq2 X J I m ?_)
      rw [if_neg hyx]
      refine wpAny_bind (try_eq2 X I J n ?_)
      rw [if_neg hxy]
      simp only [Bool.not_true, Bool.false_eq_true, if_false]
      refine wpAny_bind (wpAny_rule ?_)
      refine wpAny_bind (wpAny_isSame_ref_other hxy I.at_ J.at_ (by rw [I.cls]; intro z; cases z) ?_)
      exact wpAny_pure (by simpa [hxy] using h)
    | false =>
      simp only [Bool.false_eq_true, if_false]
      refine wpAny_bind (try_eq2 X I J n ?_)
      rw [if_neg hxy]
      simp only [Bool.not_false, if_true]
      refine wpAny_bind (try_eq2 X J I m ?_)
      rw [if_neg hyx]
      refine wpAny_bind (wpAny_rule ?_)
      refine wpAny_bind (wpAny_isSame_ref_other hxy I.at_ J.at_ (by rw [I.cls]; intro z; cases z) ?_)
      exact wpAny_pure (by simpa [hxy] using h)
theorem ne_id2 {Q : Value → Shared → Prop} {b : Bool} (hu : A.units + 1 < cLine) (X : K.In s.heap) (I : PySem.W.InstAt s.heap x ox C od) (J : PySem.W.InstAt s.heap y oy D od') (n : NoEq2 K C) (m : NoEq2 K D) (hsub : C ≠ D → PySem.W.subIn K (.ref D) (.ref C) = some b)
    (h : Q (.bool (!decide (x = y))) s) : wpAny (model prog w) A (compareOp .NotEq (.ref x) (.ref y)) Q E s := by
  show wpAny _ _ (richCompare .NotEq (.ref x) (.ref y)) _ _ _
  unfold richCompare
  simp only [oneThing_ref, cmpInfo_NotEq]
  refine wpAny_holding (wpAny_bind (wpAny_cRoomFor (Nat.lt_of_succ_lt hu) ?_))
  refine wpAny_bind (I.type.here (wpAny_bind (J.type.here ?_)))
  by_cases hCD : C = D
  · subst hCD
    rw [if_neg (by simp)]
    refine wpAny_bind (wpAny_pure ?_)
    simp only [Bool.false_eq_true, if_false]
    refine wpAny_bind (try_ne2 hu X I J n ?_)
    by_cases hxy : x = y
    · rw [if_pos hxy]
      subst hxy
      exact wpAny_pure (by simpa using h)
    · rw [if_neg hxy]
      have hyx : ¬ y = x := fun z => hxy z.symm
      simp only [Bool.not_false, if_true]
      refine wpAny_bind (try_ne2 hu X J I n ?_)
      rw [if_neg hyx]
      refine wpAny_bind (wpAny_rule ?_)
      refine wpAny_bind (wpAny_isSame_ref_other hxy I.at_ J.at_ (by rw [I.cls]; intro z; cases z) ?_)
      exact wpAny_pure (by simpa [hxy] using h)
  · have hxy : ¬ x = y := fun z => by
      subst z
      have e1 := I.at_.symm.trans J.at_
      cases e1
      have e2 := I.cls.symm.trans J.cls
      cases e2
      exact hCD rfl
    have hyx : ¬ y = x := fun z => hxy z.symm
    rw [if_pos (by simp [hCD])]
    refine wpAny_bind ((PySem.W.looks_subIn X (hsub hCD)).here ?_)
    cases b with
    | true =>
      simp only [if_true]
      refine wpAny_bind (try_ne2 hu X J I m ?_)
      rw [if_neg hyx]
      refine wpAny_bind (try_ne2 hu X I J n ?_)
      rw [if_neg hxy]
      simp only [Bool.not_true, Bool.false_eq_true, if_false]
      refine wpAny_bind (wpAny_rule ?_)
      refine wpAny_bind (wpAny_isSame_ref_other hxy I.at_ J.at_ (by rw [I.cls]; intro z; cases z) ?_)
      exact wpAny_pure (by simpa [hxy] using h)
    | false =>
      simp only [Bool.false_eq_true, if_false]
      refine wpAny_bind (try_ne2 hu X I J n ?_)
      rw [if_neg hxy]
      simp only [Bool.not_false, if_true]
      refine wpAny_bind (try_ne2 hu X J I m ?_)
      rw [if_neg hyx]
      refine wpAny_bind (wpAny_rule ?_)
      refine wpAny_bind (wpAny_isSame_ref_other hxy I.at_ J.at_ (by rw [I.cls]; intro z; cases z) ?_)
      exact wpAny_pure (by simpa [hxy] using h)

end
/-! ### over the layer -/
section
variable {X : Cx}
/-- == of instances of two such classes -/
def rEqId (C D : Addr) (f : Bool → Bool) : R2 := fun x y H Q => ∃ a b dx dy fs gs, x = .ref a ∧ y = .ref b ∧ H a = some (.ins C dx fs) ∧ H b = some (.ins D dy gs) ∧ Q (.bl (f (decide (a = b)))) H
structure Pair2 (K : PySem.W.Frag) (C D : Addr) : Prop where
  l : NoEq2 K C
  r : NoEq2 K D
  sub : C ≠ D → ∃ b, PySem.W.subIn K (.ref D) (.ref C) = some b
/-- .. of classes that a test tells -/
def rEqS (K : PySem.W.Frag) (f : Bool → Bool) : R2 := fun x y H Q => ∃ C D, Pair2 K C D ∧ rEqId C D f x y H Q
theorem op_eqS (hu : X.A.units < cLine) : OpR X (compareOp .Eq) (rEqS X.K id) := by
  intro pins s σ H x y v u Q I rx ry h
  obtain ⟨C, D, p, a, b, dx, dy, fs, gs, rfl, rfl, ha, hb, q⟩ := h
  obtain rfl : v = Value.ref a := rx
  obtain rfl : u = Value.ref b := ry
  obtain ⟨mA, O, _⟩ := ins_get I.hok ha
  obtain ⟨od, J, _⟩ := O.look
  obtain ⟨mB, O', _⟩ := ins_get I.hok hb
  obtain ⟨od', J', _⟩ := O'.look
  by_cases hCD : C = D
  · exact eq_id2 (b := true) hu I.kIn J J' p.l p.r (fun z => absurd hCD z) ⟨.bl _, H, I, rfl, q⟩
  · obtain ⟨b, hb⟩ := p.sub hCD
    exact eq_id2 hu I.kIn J J' p.l p.r (fun _ => hb) ⟨.bl _, H, I, rfl, q⟩
theorem op_neS (hu : X.A.units + 1 < cLine) : OpR X (compareOp .NotEq) (rEqS X.K (!·)) := by
  intro pins s σ H x y v u Q I rx ry h
  obtain ⟨C, D, p, a, b, dx, dy, fs, gs, rfl, rfl, ha, hb, q⟩ := h
  obtain rfl : v = Value.ref a := rx
  obtain rfl : u = Value.ref b := ry
  obtain ⟨mA, O, _⟩ := ins_get I.hok ha
  obtain ⟨od, J, _⟩ := O.look
  obtain ⟨mB, O', _⟩ := ins_get I.hok hb
  obtain ⟨od', J', _⟩ := O'.look
  by_cases hCD : C = D
  · exact ne_id2 (b := true) hu I.kIn J J' p.l p.r (fun z => absurd hCD z) ⟨.bl _, H, I, rfl, q⟩
  · obtain ⟨b, hb⟩ := p.sub hCD
    exact ne_id2 hu I.kIn J J' p.l p.r (fun _ => hb) ⟨.bl _, H, I, rfl, q⟩
end
end Ov

set_option Elab.async false
set_option linter.all false
set_option maxRecDepth 100000
set_option maxHeartbeats 4000000
/-! calls with keywords alone: C(k = v), C.m(k = v) with a classmethod m -/
namespace Ov
open PySem PySem.Spec PyProof.Rows L2 GxR ClX
section
variable {X : Cx} {CX : CXT} {k n : Nat} {f C : Addr} {fd : FuncData} {ps ks : List Str} {sp : Sp} {E : XK} {x : Str} {p pos : Pos} {e : Expr} {es : List Expr} {kws : List Keyword} {t tk : TA} {g : List Value → List Value → List Value} {gV : List V → List V → List V}
def tMake0K (C : Addr) (m : Nat) (sp : Sp) (gV : List V → List V → List V) (E : XK) (tk : TA) : TE := fun σ H Q => tk σ H fun zs H2 => zs.length = m ∧
  ∀ x dx, H2 x = none → H2 dx = none → dx ≠ x → sp (gV [V.ref x] zs) (upd (upd H2 dx (.own x)) x (.ins C dx [])) (fun v H3 => v = .non ∧ Q (.ref x) H3) E
theorem pe_make0K (M : Mk X.K C f) (F : FnOk X.prog X.w X.K X.mg X.base CX k f fd ps sp) (hr : Room (k + 1) X.A) (hg : Gl X x) (hm : X.mg x = some (.ref C)) (hb : KBn X.K fd ps 1 ks g gV) (hx : Passes CX X E)
    (hkw : PK X kws tk) (hall : (backToKw pos (keywordEach kws X.env)).all (·.1.isSome) = true := by rfl) (hks : (backToKw pos (keywordEach kws X.env)).filterMap (·.1) = ks := by rfl)
    (hdb : (x == ("__debug__" : Str)) = false := by decide)
    (hpl : ((backTo pos (starEach [] X.env)).any (·.1) || (backToKw pos (keywordEach kws X.env)).any (·.1.isNone)) = false := by rfl) :
    PE X (.Call (.Name x p) [] kws pos) (tMake0K C ks.length sp gV E tk) := by
  refine ⟨fun pins s σ H Q I h => ?_⟩
  refine wpAny_Call_Name_kw (ld_glob I hg hm ?_ hdb)
  refine PySem.W.callWith_KW0 (h₀ := X.base) I.ok.mod.kin M.kp hall ?_ hpl
  refine thn (hkw.run pos pins s σ H _ I h) fun ws s2 ⟨zs, H2, I2, rz, l2, q2⟩ => ⟨I2.kIn, ?_⟩
  rw [hks]
  exact run_makeN M F hr hb hx I2 .nil rz rfl l2 q2
def tCMethK (C : Addr) (m : Nat) (sp : Sp) (gV : List V → List V → List V) (E : XK) (ta : TE) (tk : TA) : TE := fun σ H Q => ta σ H fun x H1 => x = .ref C ∧ tk σ H1 fun zs H2 => zs.length = m ∧ sp (gV [V.ref C] zs) H2 Q E
theorem run_cmK {pins : List (Addr × Obj)} {σ : L2.St} {H : Hp} {s : Shared} {q c : Addr} {Q : VK} {ws : List Value} {zs : List V} (F : FnOk X.prog X.w X.K X.mg X.base CX k c fd ps sp) (hr : Room k X.A) (hb : KBn X.K fd ps 1 ks g gV) (hx : Passes CX X E) (I : Inv X ((q, PySem.W.methodObj (.ref c) (.ref C)) :: pins) σ H s)
    (r : Vals zs ws) (l2 : zs.length = ks.length) (h : sp (gV [V.ref C] zs) H Q E) : wpAny (model X.prog X.w) X.A (call (.ref q) [] (ks.zip ws)) (EP X pins σ Q) X.xe s := by
  have z : wpAny (model X.prog X.w) X.A (call (.ref q) [] (ks.zip ws)) (EP X ((q, PySem.W.methodObj (.ref c) (.ref C)) :: pins) σ Q) X.xe s := by
    refine wpAny_call (PySem.W.method_call (pin_at I) (codeAny_mono (F.run X.A X.stack s H ⟨.ref C :: [], ks.zip ws⟩ (g [.ref C] ws) (gV [V.ref C] zs) Q E hr I.env0 (hb.to s [.ref C] ws I.kIn rfl (r.length.symm.trans l2)) (hb.rel (.cons rfl .nil) r) h) fun r s' hq => ?_))
    cases r with
    | error e => exact hx _ σ H s e s' I hq
    | ok fl =>
      cases fl with
      | ret u => exact I.after hq
      | next => exact False.elim hq
      | brk => exact False.elim hq
      | cont => exact False.elim hq
  exact thn z fun _ _ y => unpinE y
theorem pe_cmethK {mc : Value} {m : Str} {q c : Addr} {o : Expr} {apos : Pos} {ta : TE} {pl : Sem Bool} (he : PE X o ta) (r : CRead X.K C mc) (cm : CMet X.K C mc m q c) (F : FnOk X.prog X.w X.K X.mg X.base CX k c fd ps sp) (hr : Room k X.A) (hb : KBn X.K fd ps 1 ks g gV) (hx : Passes CX X E)
    (hkw : PK X kws tk) (hall : (backToKw pos (keywordEach kws X.env)).all (·.1.isSome) = true := by rfl) (hks : (backToKw pos (keywordEach kws X.env)).filterMap (·.1) = ks := by rfl)
    (hpl : ((backTo pos (starEach [] X.env)).any (·.1) || (backToKw pos (keywordEach kws X.env)).any (·.1.isNone)) = false := by rfl)
    (ht : eval (.Call (.Attribute o m apos) [] kws pos) X.env = (do
      let ov ← eval o X.env
      standAt apos.atName
      let (f, first) ← holding [ov] (getMethod ov m pl)
      callWith pos f first (backTo pos (starEach [] X.env)) (backToKw pos (keywordEach kws X.env))) := by rfl) :
    PE X (.Call (.Attribute o m apos) [] kws pos) (tCMethK C ks.length sp gV E ta tk) := by
  refine ⟨fun pins s σ H Q I h => ?_⟩
  refine PySem.W.methodCall_KW (pl := pl) (thn (he.run pins s σ H _ I h) fun u s1 ⟨x, H1, I1, rx, ex, q⟩ => ?_) ht
  subst ex
  obtain rfl : u = Value.ref C := rx
  refine getmethcm_ok I1 r cm fun s2 I2 => ?_
  refine PySem.W.callWith_of hpl (P := PySem.W.MethP X.K s1.heap.objs.size c (.ref C)) (PySem.W.keeps_M cm.fi) ?_
  refine evalArgs_kw2_nil hall ?_
  refine thn (hkw.run pos _ s2 σ H1 _ I2 q) fun ws s3 ⟨zs, H2, I3, rz, l2, q2⟩ => ⟨⟨pin_at I3, I3.kIn⟩, ?_⟩
  rw [hks]
  exact run_cmK F hr hb hx I3 rz l2 q2
end
/-! ### .. in the body of a try: what is wished of an error may speak of the slots -/
section
variable {X : Cx} {CX : CXT} {k n : Nat} {f C : Addr} {fd : FuncData} {ps ks : List Str} {sp : Sp} {E : L2.St → XK} {x : Str} {p pos : Pos} {e : Expr} {es : List Expr} {kws : List Keyword} {t tk : TA} {g : List Value → List Value → List Value} {gV : List V → List V → List V}
def tCMethS (C : Addr) (sp : Sp) (E : L2.St → XK) (ta : TE) (t : TA) : TE := fun σ H Q => ta σ H fun x H1 => x = .ref C ∧ t σ H1 fun vs H2 => sp (.ref C :: vs) H2 Q (E σ)
theorem pe_cmethS {mc : Value} {m : Str} {q c : Addr} {o : Expr} {apos : Pos} {ta : TE} {pl : Sem Bool} (he : PE X o ta) (r : CRead X.K C mc) (cm : CMet X.K C mc m q c) (F : FnR X.prog X.w X.K X.mg X.base CX k c sp) (hr : Room k X.A) (hx : ∀ σ, PassesAt CX X σ (E σ)) (ha : PA X (e :: es) t)
    (hst : starEach (e :: es) X.env = (false, eval e X.env) :: starEach es X.env := by rfl) (hpl : (backTo pos (starEach es X.env)).any (·.1) = false := by rfl)
    (ht : eval (.Call (.Attribute o m apos) (e :: es) [] pos) X.env = (do
      let ov ← eval o X.env
      standAt apos.atName
      let (f, first) ← holding [ov] (getMethod ov m pl)
      callWith pos f first (backTo pos (starEach (e :: es) X.env)) (backToKw pos (keywordEach [] X.env))) := by rfl) :
    PE X (.Call (.Attribute o m apos) (e :: es) [] pos) (tCMethS C sp E ta t) := by
  refine ⟨fun pins s σ H Q I h => ?_⟩
  refine PySem.W.methodCall_KW (pl := pl) (thn (he.run pins s σ H _ I h) fun u s1 ⟨x, H1, I1, rx, ex, q0⟩ => ?_) ht
  subst ex
  obtain rfl : u = Value.ref C := rx
  refine getmethcm_ok I1 r cm fun s2 I2 => ?_
  refine callwith_cm I2 (base_none I1 (Nat.le_refl _)) cm.fi (thn (ha.run pos _ s2 σ H1 _ I2 q0) fun us s3 ⟨vs, H2, I3, rv, q2⟩ => ⟨⟨pin_at I3, I3.kIn⟩, ?_⟩) hst hpl
  have z : wpAny (model X.prog X.w) X.A (call (.ref s1.heap.objs.size) ([] ++ us)) (EP X ((s1.heap.objs.size, PySem.W.methodObj (.ref c) (.ref C)) :: pins) σ Q) X.xe s3 := by
    refine wpAny_call (PySem.W.method_call (pin_at I3) (codeAny_mono (F X.A X.stack s3 H2 (.ref C :: us) (V.ref C :: vs) Q (E σ) hr I3.env0 (.cons rfl rv) q2) fun r s' hq => ?_))
    cases r with
    | error e => exact hx σ _ H2 s3 e s' I3 hq
    | ok fl =>
      cases fl with
      | ret u => exact I3.after hq
      | next => exact False.elim hq
      | brk => exact False.elim hq
      | cont => exact False.elim hq
  exact thn z fun _ _ y => unpinE y
def tCMethKS (C : Addr) (m : Nat) (sp : Sp) (gV : List V → List V → List V) (E : L2.St → XK) (ta : TE) (tk : TA) : TE := fun σ H Q => ta σ H fun x H1 => x = .ref C ∧ tk σ H1 fun zs H2 => zs.length = m ∧ sp (gV [V.ref C] zs) H2 Q (E σ)
theorem pe_cmethKS {mc : Value} {m : Str} {q c : Addr} {o : Expr} {apos : Pos} {ta : TE} {pl : Sem Bool} (he : PE X o ta) (r : CRead X.K C mc) (cm : CMet X.K C mc m q c) (F : FnOk X.prog X.w X.K X.mg X.base CX k c fd ps sp) (hr : Room k X.A) (hb : KBn X.K fd ps 1 ks g gV) (hx : ∀ σ, PassesAt CX X σ (E σ))
    (hkw : PK X kws tk) (hall : (backToKw pos (keywordEach kws X.env)).all (·.1.isSome) = true := by rfl) (hks : (backToKw pos (keywordEach kws X.env)).filterMap (·.1) = ks := by rfl)
    (hpl : ((backTo pos (starEach [] X.env)).any (·.1) || (backToKw pos (keywordEach kws X.env)).any (·.1.isNone)) = false := by rfl)
    (ht : eval (.Call (.Attribute o m apos) [] kws pos) X.env = (do
      let ov ← eval o X.env
      standAt apos.atName
      let (f, first) ← holding [ov] (getMethod ov m pl)
      callWith pos f first (backTo pos (starEach [] X.env)) (backToKw pos (keywordEach kws X.env))) := by rfl) :
    PE X (.Call (.Attribute o m apos) [] kws pos) (tCMethKS C ks.length sp gV E ta tk) := by
  refine ⟨fun pins s σ H Q I h => ?_⟩
  refine PySem.W.methodCall_KW (pl := pl) (thn (he.run pins s σ H _ I h) fun u s1 ⟨x, H1, I1, rx, ex, q0⟩ => ?_) ht
  subst ex
  obtain rfl : u = Value.ref C := rx
  refine getmethcm_ok I1 r cm fun s2 I2 => ?_
  refine PySem.W.callWith_of hpl (P := PySem.W.MethP X.K s1.heap.objs.size c (.ref C)) (PySem.W.keeps_M cm.fi) ?_
  refine evalArgs_kw2_nil hall ?_
  refine thn (hkw.run pos _ s2 σ H1 _ I2 q0) fun ws s3 ⟨zs, H2, I3, rz, l2, q2⟩ => ⟨⟨pin_at I3, I3.kIn⟩, ?_⟩
  rw [hks]
  have z : wpAny (model X.prog X.w) X.A (call (.ref s1.heap.objs.size) [] (ks.zip ws)) (EP X ((s1.heap.objs.size, PySem.W.methodObj (.ref c) (.ref C)) :: pins) σ Q) X.xe s3 := by
    refine wpAny_call (PySem.W.method_call (pin_at I3) (codeAny_mono (F.run X.A X.stack s3 H2 ⟨.ref C :: [], ks.zip ws⟩ (g [.ref C] ws) (gV [V.ref C] zs) Q (E σ) hr I3.env0 (hb.to s3 [.ref C] ws I3.kIn rfl (rz.length.symm.trans l2)) (hb.rel (.cons rfl .nil) rz) q2) fun r s' hq => ?_))
    cases r with
    | error e => exact hx σ _ H2 s3 e s' I3 hq
    | ok fl =>
      cases fl with
      | ret u => exact I3.after hq
      | next => exact False.elim hq
      | brk => exact False.elim hq
      | cont => exact False.elim hq
  exact thn z fun _ _ y => unpinE y
end
theorem valsGet : ∀ {vs : List V} {us : List Value} (_ : Vals vs us) (i : Nat), RelV (vs.getD i .non) (us.getD i .none)
  | _, _, .nil, i => by simp; rfl
  | _, _, .cons r t, 0 => by simpa using r
  | _, _, .cons r t, i + 1 => by simpa using valsGet t i
end Ov

set_option Elab.async false
set_option linter.all false
set_option maxRecDepth 100000
set_option maxHeartbeats 4000000
/-! isinstance of a caught error: one class, a tuple of classes; its class is told where the reading is -/
namespace Ov
open PySem PySem.Spec PyProof.Rows L2 GxR
def rIsEX (K : PySem.W.Frag) (cls : Value) (d : Option Addr) (a : Addr) : List V → Hp → VK → Prop := fun xs H Q => ∃ D, cls = .ref D ∧ d = none ∧ ExcC K D ∧
  ((∃ (c : V) (cv : Value) (b : Bool), xs = [.ref a, c] ∧ ClsV c cv ∧ PySem.W.kitOne K (.ref D) cv = some b ∧ Q (.bl b) H) ∨
   (∃ (tp : Addr) (cs : List V) (us : List Value) (b : Bool), xs = [.ref a, .ref tp] ∧ H tp = some (.tup cs) ∧ Paired ClsV cs us ∧ PySem.W.kitAny K (.ref D) us = some b ∧ Q (.bl b) H))
theorem call_isEX {X : Cx} {a : Addr} {cls : Value} {d : Option Addr} {oe : Obj} {pn : List (Addr × Obj)} (hz : Zc cls d oe) (hf : ∃ vs, oe.data = .fields vs) : CallR (X.suite a ((a, oe) :: pn)) (.builtin "isinstance") (rIsEX X.K cls d a) := by
  intro pins s σ H xs us Q I r h
  obtain ⟨D, rfl, rfl, C, h⟩ := h
  obtain ⟨hget, _⟩ := I.pin (a, oe) (List.mem_append.mpr (.inl List.mem_cons_self))
  obtain ⟨vs, hv⟩ := hf
  have J : PySem.W.InstAt s.heap a oe D none := by
    obtain ⟨oc, od, oda, osl⟩ := oe
    obtain ⟨h1, h2⟩ := hz
    dsimp only at h1 h2 hv
    subst h1 h2 hv
    exact ⟨hget, rfl, rfl, trivial⟩
  have Z : PySem.W.KitX X.K (.ref a) (.ref D) (fun h => PySem.W.InstAt h a oe D none) := PySem.W.handS_kitx_exc C.hg C.hk C.hs C.hd C.ha C.hn C.ht C.hm
  rcases h with ⟨c, cv, b, rfl, hcv, e, q⟩ | ⟨tp, cs, ts, b, rfl, hT, k, e, q⟩
  · obtain ⟨u1, u2, rfl, r1, r2⟩ := vals2 r
    obtain rfl : u1 = Value.ref a := r1
    have ec := hcv.eq r2
    subst ec
    exact PySem.W.kia_one Z I.kIn J e (fun z => nomatch z) fun tk => ⟨.bl b, H, I.kept (t' := tk) fun _ _ z => z, rfl, q⟩
  · obtain ⟨u1, u2, rfl, r1, r2⟩ := vals2 r
    obtain rfl : u1 = Value.ref a := r1
    cases (show u2 = Value.ref tp from r2)
    obtain ⟨_, its, rv, o, h1, h2, n, h3⟩ := (show ObjOk X.prog X.w H s.heap tp (.tup cs) from I.hok tp _ hT)
    have e3 := ClsV.all k rv
    subst e3
    obtain ⟨oc, od, dt, sl⟩ := o
    simp only at h2 h3
    subst h2 h3
    exact PySem.W.kia_tup Z I.kIn J h1 e (fun z => nomatch z) fun tk => ⟨.bl b, H, I.kept (t' := tk) fun _ _ z => z, rfl, q⟩
end Ov

set_option Elab.async false
set_option linter.all false
set_option maxRecDepth 100000
set_option maxHeartbeats 4000000
/-! a walk over enumerate; a property of an object whose class the reading tells; lists of bools -/
namespace Ov
open PySem PySem.Spec PyProof.Rows L2 GxR
theorem for_enumL {K : PySem.W.Frag} {a : Addr} {xs : List V} {g : TG} {tb : TS} {D : Ends} {σ : L2.St} {H : Hp} (Pv : Nat → L2.St → Hp → Prop) (h0 : Pv 0 σ H) (hl : ∀ i σ H, i ≤ xs.length → Pv i σ H → SqL K H a xs)
    (hs : ∀ i x σ H T, xs[i]? = some x → Pv i σ H → H T = none → g (.ref T) σ (upd H T (.tup [.int (i : Nat), x])) fun σ2 H2 => tb { D with nx := Pv (i + 1), ct := Pv (i + 1), bk := D.nx } σ2 H2) (hd : ∀ σ H, Pv xs.length σ H → D.nx σ H) :
    ∃ W : Nat → Nat → L2.St → Hp → Prop, (∃ m, W 0 m σ H) ∧ ∀ i m σ H, W i m σ H →
      ((Ite K a).stop i H ∧ D.nx σ H) ∨ ((Ite K a).go i H ∧ ∃ N : L2.St → Hp → Prop, (∀ σ' H', N σ' H' → ∃ m', m' < m ∧ W (i + 1) m' σ' H') ∧ ∀ x H', (Ite K a).yld i H x H' → g x σ H' fun σ2 H2 => tb { D with nx := N, ct := N, bk := D.nx } σ2 H2) := by
  refine ⟨fun i m σ H => m = xs.length - i ∧ i ≤ xs.length ∧ Pv i σ H, ⟨xs.length, by simp, Nat.zero_le _, h0⟩, ?_⟩
  rintro i m σ H ⟨rfl, hi, p⟩
  have q := hl i σ H hi p
  by_cases hlt : i < xs.length
  · refine .inr ⟨⟨xs, xs[i], q, by simp [hlt]⟩, Pv (i + 1), fun σ' H' p' => ⟨xs.length - (i + 1), by omega, rfl, hlt, p'⟩, fun x H' y => ?_⟩
    obtain ⟨T, x', e, hT, e2, y⟩ := y
    subst e e2
    exact hs i x' σ H T (y xs q) p hT
  · have e : i = xs.length := by omega
    subst e
    exact .inl ⟨⟨xs, q, Nat.le_refl _⟩, hd σ H p⟩
def tPropX (K : PySem.W.Frag) (f : Str) (p g : Addr) (sp : Sp) (dvs : List V) (E : XK) (ta : TE) : TE := fun σ H Q => ta σ H fun x H1 => ∃ a C dx fs, x = .ref a ∧ Cls K C ∧ PropOf K C f p g ∧ H1 a = some (.ins C dx fs) ∧ sp (.ref a :: dvs) H1 Q E
theorem pe_propX {X : Cx} {CX : CXT} {k : Nat} {p g : Addr} {f : Str} {fd : FuncData} {ps : List Str} {sp : Sp} {dvs : List V} {ds : List Value} {E : XK} {e : Expr} {pos : Pos} {ta : TE} (he : PE X e ta) (F : FnOk X.prog X.w X.K X.mg X.base CX k g fd ps sp) (hr : Room (k + 1) X.A) (hb : Binds X.K fd ps ds) (hd : Vals dvs ds) (hx : Passes CX X.nox E)
    (hab : attributeBase e f X.env (eval e X.env) = eval e X.env := by rfl) : PE X (.Attribute e f pos) (tPropX X.K f p g sp dvs E ta) := by
  refine ⟨fun pins s σ H Q I h => ?_⟩
  refine attr_of hab (thn (he.run pins s σ H _ I h) fun u s1 ⟨x, H1, I1, rx, a, C, dx, fs, ex, c, hp, ea, q⟩ => ?_)
  subst ex
  obtain rfl : u = Value.ref a := rx
  exact getprop_ok I1 ea c hp F hr hb hd hx q
/-- a list of bools as data -/
theorem dp_bools {K : PySem.W.Frag} {H : Hp} : ∀ bs : List Bool, DpAll K H (bs.map V.bl) (bs.map PyData.bool)
  | [] => .nil
  | b :: r => .cons (.bl b) (dp_bools r)
theorem eqv_4 (a b c d : Bool) : PyData.eqv (.list ([a, b, c, d].map PyData.bool)) (.list ([a, b, c, d].map PyData.bool)) = true := by
  cases a <;> cases b <;> cases c <;> cases d <;> decide
theorem shaped_4 (a b c d : Bool) : SeqAt.shaped (.list ([a, b, c, d].map PyData.bool)) = true := by
  cases a <;> cases b <;> cases c <;> cases d <;> decide
end Ov

set_option Elab.async false
set_option linter.all false
set_option maxRecDepth 100000
set_option maxHeartbeats 4000000
/-! the end of a law with the tables of defs at the top -/
namespace Ov
open PySem PySem.Spec PyProof.Rows L2 GxR
def TabsT (q : Program) (K : PySem.W.Frag) (h : Heap) : Prop := ∀ (x : Str) (c P : Addr), ((recsOf q).find? (fun e => e.name == x)).isSome = true → PySem.W.tabIn K x = some (c, P) → PySem.W.CodeHd h c P ∧ h.get? P = some { cls := .none, data := .fields #[] }
theorem walk_T {l : PySem.W.OpenLaw} {n k : Nat} {q : Program} {loose : List Str} {XP : (Str → Option Value) → Heap → Prop} {YP : World → Heap → Prop} {d : DefRec} {K : Params → PySem.W.Frag} {x : Str}
    (hn : l.most = some n) (hn2 : n ≤ sizeLine) (hdf : d.params.defaults = []) (hr : Room k callerA) (hY : ∀ (w : World) (h : Heap), YP w h → (K w.params).In h)
    (F : ∀ (w : World) (mg : Str → Option Value) (fa : Addr) (h : Heap), YP w h → (K w.params).In h → h.Ns mainGlobals mg → mg d.name = some (.ref fa) → TabsT q (K w.params) h → LamX.LawAtS l w (K w.params) CX0 k n x mg fa h) :
    PySem.W.WalkO q loose XP YP l.row.toRowW d [] (fun f vs => PySem.call f vs) := by
  refine Att.attach_callB hn hdf fun w s₀ s₁ mg mb fa o pm cd doc a vs ns G Y ho hd hcd hmg hobj hints hlen hbits hg => ?_
  have KX := hY w _ Y
  have tabs : TabsT q (K w.params) s₁.heap := fun x c P h1 h2 => by
    obtain ⟨d', hd'⟩ := Option.isSome_iff_exists.mp h1
    exact PySem.W.tab_of G.T KX hd' h2
  obtain ⟨fd, cs, sp, hT, nT, C, hb, hsp, hF⟩ := F w mg fa _ Y KX G.T.g hmg tabs
  exact LamX.law_callTs KX G.T.g G.T.b G.T.builtins G.T.nolimit hg hT nT C G.T.bmain hobj hints (Nat.le_trans hlen hn2) hr hF hb (fun H hH hS => hsp H a ns hlen hbits hH hS) fun H e s' z => z
end Ov

set_option Elab.async false
set_option linter.all false
set_option maxRecDepth 100000
set_option maxHeartbeats 4000000
namespace Ov
open PySem PySem.Spec PyProof.Rows L2 GxR
theorem iteT' {b : Bool} {A B : Prop} (e : b = true) (h : A) : if b = true then A else B := by rw [if_pos e]; exact h
theorem iteF' {b : Bool} {A B : Prop} (e : b = false) (h : B) : if b = true then A else B := by rw [if_neg (by rw [e]; decide)]; exact h
def top (i : Nat) : Stmt := PySem.Challenge.pw_overstamps_k04_bands_by_name.main.body.getD i (.Pass ⟨0, 0, 0, 0⟩)
abbrev sLow : Stmt := top 34
abbrev sText : Stmt := top 35
abbrev sAre : Stmt := top 37
abbrev sInit : Stmt := inClass (top 39) 1
abbrev sOf : Stmt := inClass (top 39) 2
abbrev sTape : Stmt := top 46
abbrev sNext : Stmt := top 47
abbrev sInks : Stmt := top 48
/-! ### what the top has left -/
structure Txt (K : PySem.W.Frag) (mg : Str → Option Value) (C fLow fText fAre fTape fNext fInks : Addr) : Prop where
  all : mg "all" = none
  len : mg "len" = none
  isi : mg "isinstance" = none
  str : mg "str" = none
  lst : mg "list" = none
  set : mg "set" = none
  abs : mg "abs" = none
  max : mg "max" = none
  min : mg "min" = none
  rng : mg "range" = none
  gTape : mg "_law_tape" = some (.ref fTape)
  kTape : PySem.W.keepIn K (.ref fTape) = true
  gNext : mg "_law_next" = some (.ref fNext)
  kNext : PySem.W.keepIn K (.ref fNext) = true
  gInks : mg "_law_inks" = some (.ref fInks)
  kInks : PySem.W.keepIn K (.ref fInks) = true
  gLow : mg "is_lowercase" = some (.ref fLow)
  kLow : PySem.W.keepIn K (.ref fLow) = true
  gText : mg "is_text" = some (.ref fText)
  kText : PySem.W.keepIn K (.ref fText) = true
  gAre : mg "are_stamps" = some (.ref fAre)
  kAre : PySem.W.keepIn K (.ref fAre) = true
  gC : mg "Stamps" = some (.ref C)
  widest : ∃ t, mg "WIDEST" = some (.int 8 t)
  letters : ∃ t, mg "MOST_LETTERS" = some (.int 36 t)
  rd : ClX.CRead K C (.type "type")
  most : ∃ t, ClX.CVal K C (.type "type") "MOST" (.int 6) (.int 6 t)
/-- where the tables stand -/
structure Tab (base : Heap) (mg : Str → Option Value) (T : List Addr) (cLow PLow cAre PAre : Addr) : Prop where
  low : TabB base mg cLow PLow
  are : TabB base mg cAre PAre
  lowT : PLow ∈ T
  areT : PAre ∈ T
def lowB (z : Str) : Bool := z.cps.toList.all fun c => decide (97 ≤ c) && decide (c ≤ 122)
section
variable {P : Program} {w : World} {K : PySem.W.Frag} {mg : Str → Option Value} {base : Heap} {T : List Addr} {C fLow fText fAre fTape fNext fInks cLow PLow cAre PAre : Addr}
/-! ### is_lowercase -/
def spLow (T : List Addr) : Sp := fun vs H Q _ => ∃ z : Str, vs = [.str z] ∧ (∀ p ∈ T, TabG H p) ∧ ∀ H2, Tbs T H H2 → Q (.bl (lowB z)) H2
theorem scLow : FnScope ["text"] ["text"] (defScope sLow) := ⟨rfl, rfl, rfl, by decide +kernel, rfl, by decide +kernel, by decide +kernel⟩
theorem sign_le (c : Nat) : (!decide (([c] : List Nat) < ("a" : Str).cps.toList)) = decide (97 ≤ c) := by
  have e : ("a" : Str).cps.toList = [97] := by rfl
  rw [e]
  have h := one_lt c 97
  by_cases q : 97 ≤ c
  · have : ¬ ([c] < [97]) := fun z => by have := h.mp z; omega
    simp [q, this]
  · have : [c] < [97] := h.mpr (by omega)
    simp [q, this]
theorem sign_ge (c : Nat) : (!decide (("z" : Str).cps.toList < ([c] : List Nat))) = decide (c ≤ 122) := by
  have e : ("z" : Str).cps.toList = [122] := by rfl
  rw [e]
  have h := one_lt 122 c
  by_cases q : c ≤ 122
  · have : ¬ ([122] < [c]) := fun z => by have := h.mp z; omega
    simp [q, this]
  · have : [122] < [c] := h.mpr (by omega)
    simp [q, this]
theorem ok_low {f : Addr} {fd : FuncData} (F : FunC K "is_lowercase" "is_lowercase" sLow f fd cLow) (X : Txt K mg C fLow fText fAre fTape fNext fInks) (B : Tab base mg T cLow PLow cAre PAre) : FnOk P w K mg base CX0 2 f fd ["text"] (spLow T) := by
  refine F.ok scLow (fun vs H Q E h => ?_) (fun A outer s H vs Q E hr h => ?_)
  · obtain ⟨z, rfl, _⟩ := h
    rfl
  · obtain ⟨z, rfl, hT, k⟩ := h
    refine ⟨_, pss_one (ps_ret (pe_allG (k := 0) (cs := []) (pick := []) rfl hr (by rfl) X.all (by decide +kernel) B.low rfl (genN_by (sc := defScope sLow) (N := ["text"]) rfl rfl (fun y h => cell_has h) (by decide +kernel))
      (pi_str (pv 0)) (fun s H code C A fp pn hr => pe_chain op_le_str op_le_str pe_str (pv 0) pe_str))), ?_⟩
    refine ⟨_, rfl, z, rfl, hT _ B.lowT, fun H2 h2 => ?_⟩
    refine all_str (fun c => decide (97 ≤ c) && decide (c ≤ 122)) (fun c R hR => ?_) (k _ (Tbs.of1 hT B.lowT h2))
    refine ⟨_, rfl, _, _, rfl, rfl, _, rfl, ?_⟩
    have e1 := sign_le c
    have e2 := sign_ge c
    by_cases h1 : 97 ≤ c
    · refine iteT' (by rw [e1]; simpa using h1) ?_
      refine ⟨_, _, rfl, rfl, ?_⟩
      rw [e2]
      simpa [h1] using hR
    · refine iteF' (by rw [e1]; simpa using h1) ?_
      simpa [h1] using hR
/-! ### is_text -/
def textB (z : Str) (m : Int) : Bool := decide (1 ≤ (z.length : Int)) && decide ((z.length : Int) ≤ m) && lowB z
def spText (K : PySem.W.Frag) (T : List Addr) : Sp := fun vs H Q _ => ∃ (x : V) (m : Int), vs = [x, .int m] ∧ (∀ p ∈ T, TabG H p) ∧
  ((∃ z : Str, x = .str z ∧ z.length ≤ sizeLine ∧ ∀ H2, Tbs T H H2 → Q (.bl (textB z m)) H2) ∨ (∃ t, TyX K H x t ∧ PySem.W.kitOne K t (.type "str") = some false ∧ Q (.bl false) H))
theorem scText : FnScope ["thing", "most"] ["thing", "most"] (defScope sText) := ⟨rfl, rfl, rfl, by decide +kernel, rfl, by decide +kernel, by decide +kernel⟩
theorem ok_text {f : Addr} {fd fdL : FuncData} (F : L2.Fun K "is_text" "is_text" sText f fd) (FL : FunC K "is_lowercase" "is_lowercase" sLow fLow fdL cLow) (X : Txt K mg C fLow fText fAre fTape fNext fInks) (B : Tab base mg T cLow PLow cAre PAre) : FnOk P w K mg base CX0 3 f fd ["thing", "most"] (spText K T) := by
  refine F.ok scText (fun vs H Q E h => ?_) (fun cdv A outer s H vs Q E hr h => ?_)
  · obtain ⟨x, m, rfl, _⟩ := h
    rfl
  · obtain ⟨x, m, rfl, hT, k⟩ := h
    refine ⟨_, pss_one (ps_ret (pe_and (pe_callB call_isi (by rfl) X.isi boot_isinstance (pa_cons (pv 0) (pa_cons (pe_bltn (v := .ty "str") (by rfl) X.str PySem.Pv.boot_str rfl) pa_nil)))
      (pe_and (pe_chain op_le op_le pe_int (pe_callB call_len_str (by rfl) X.len boot_len (pa_cons (pv 0) pa_nil)) (pv 1))
        (pe_one (pe_call (ok_low FL X B) hr (by rfl) X.gLow X.kLow (FL.toFun.binds fun _ _ _ _ _ _ us hl => match us, hl with | [_], _ => rfl) .nil L2.pass0 (pa_cons (pv 0) pa_nil)))))), ?_⟩
    rcases k with ⟨z, rfl, hz, k⟩ | ⟨t, ht, hk, k⟩
    · refine ⟨_, rfl, _, _, _, _, _, rfl, .ty _, .base (.str _), kit_ty (r := true) (by decide +kernel), true, rfl, ?_⟩
      refine iteT ?_
      refine ⟨_, rfl, z, rfl, hz, _, _, rfl, rfl, _, rfl, ?_⟩
      by_cases h1 : 1 ≤ (z.length : Int)
      · refine iteT' (by simpa using h1) ?_
        refine ⟨_, rfl, _, _, rfl, rfl, _, rfl, ?_⟩
        by_cases h2 : (z.length : Int) ≤ m
        · refine iteT' (by simpa using h2) ?_
          refine ⟨_, rfl, z, rfl, hT, fun H2 q => ?_⟩
          have := k H2 q
          unfold textB at this
          simpa [h1, h2] using this
        · refine iteF' (by simpa using h2) ?_
          have := k H (.refl hT)
          unfold textB at this
          simpa [h1, h2] using this
      · refine iteF' (by simpa using h1) ?_
        refine ⟨_, rfl, ?_⟩
        refine iteF ?_
        have := k H (.refl hT)
        unfold textB at this
        simpa [h1] using this
    · refine ⟨_, rfl, _, _, _, _, _, rfl, .ty _, ht, hk, false, rfl, ?_⟩
      exact iteF k
/-! ### are_stamps -/
def isTextV : V → Bool
  | .str z => textB z 8
  | _ => false
def strV : V → Str
  | .str z => z
  | _ => Str.empty
/-- the words, once each of them is a text -/
def tailB (ws : List Str) : Bool := ws.all (fun z => decide (z.length = (ws.headD Str.empty).length)) && (decide ((once ws).length = ws.length) && decide ((ws.headD Str.empty).length * ws.length ≤ 36))
def stampsV (xs : List V) : Bool := decide (1 ≤ xs.length) && (decide (xs.length ≤ 6) && (xs.all isTextV && tailB (xs.map strV)))
theorem isTextV_str {x : V} (h : isTextV x = true) : x = .str (strV x) ∧ (strV x).length ≤ 8 := by
  cases x with
  | str z =>
    refine ⟨rfl, ?_⟩
    unfold isTextV textB at h
    simp only [Bool.and_eq_true, decide_eq_true_eq] at h
    show z.length ≤ 8
    omega
  | _ => cases h
theorem all_str_eq {xs : List V} (h : xs.all isTextV = true) : xs = (xs.map strV).map V.str ∧ ∀ z ∈ xs.map strV, z.length ≤ 8 := by
  rw [List.all_eq_true] at h
  refine ⟨?_, fun z hz => ?_⟩
  · rw [List.map_map]
    conv => lhs; rw [← List.map_id xs]
    exact List.map_congr_left fun x hx => (isTextV_str (h x hx)).1
  · obtain ⟨x, hx, rfl⟩ := List.mem_map.mp hz
    exact (isTextV_str (h x hx)).2
def spAre (K : PySem.W.Frag) (T : List Addr) : Sp := fun vs H Q _ => ∃ (a : Addr) (xs : List V), vs = [.ref a] ∧ (∀ p ∈ T, TabG H p) ∧ SqT K H a xs ∧ xs.length ≤ 4000 ∧
  (∀ x ∈ xs, (∃ z : Str, x = .str z ∧ z.length ≤ sizeLine) ∨ (isTextV x = false ∧ ∃ t, PySem.W.kitOne K t (.type "str") = some false ∧ ∀ H2, Tbs T H H2 → TyX K H2 x t)) ∧ ∀ H2, Tbs T H H2 → Q (.bl (stampsV xs)) H2
theorem scAre : FnScope ["words", "width"] ["words"] (defScope sAre) := ⟨rfl, rfl, rfl, by decide +kernel, rfl, by decide +kernel, by decide +kernel⟩
theorem ok_are {f : Addr} {fd fdT fdL : FuncData} (F : FunC K "are_stamps" "are_stamps" sAre f fd cAre) (FT : L2.Fun K "is_text" "is_text" sText fText fdT) (FL : FunC K "is_lowercase" "is_lowercase" sLow fLow fdL cLow) (X : Txt K mg C fLow fText fAre fTape fNext fInks) (B : Tab base mg T cLow PLow cAre PAre) : FnOk P w K mg base CX0 5 f fd ["words"] (spAre K T) := by
  refine F.ok scAre (fun vs H Q E h => ?_) (fun A outer s H vs Q E hr h => ?_)
  · obtain ⟨a, xs, rfl, _⟩ := h
    rfl
  · obtain ⟨a, xs, rfl, hT, hs, hn, hx, k⟩ := h
    obtain ⟨t8, g8⟩ := X.widest
    obtain ⟨t36, g36⟩ := X.letters
    refine ⟨_, pss_cons (ps_if (pt_not (pt_chain op_le op_le pe_int (pe_callB call_len_seq (by rfl) X.len boot_len (pa_cons (pv 0) pa_nil)) (ClX.pe_cval (pe_glob (v := .ref C) (by rfl) X.gC rfl)))) (pss_one (ps_ret pe_bl)) pss_nil)
      (pss_cons (ps_if (pt_not (pt_val (pe_allG (k := 3) (cs := []) (pick := []) rfl hr (by rfl) X.all (by decide +kernel) B.are rfl (genN_by (sc := defScope sAre) (N := ["words", "width"]) rfl rfl (fun y h => cell_has h) (by decide +kernel))
        (pi_tup (pv 0)) (fun s H code C A fp pn hr => pe_call (ok_text FT FL X B) hr (by rfl) X.gText X.kText (FT.binds fun _ _ _ _ _ _ us hl => match us, hl with | [_, _], _ => rfl) .nil L2.pass0 (pa_cons (pv 0) (pa_cons (pe_glob (v := .int 8) (by rfl) g8 ⟨_, rfl⟩) pa_nil)))))) (pss_one (ps_ret pe_bl)) pss_nil)
      (pss_cons (ps_set (i := 1) scAre.nd rfl (.inr rfl) (pe_callB call_len_str (by rfl) X.len boot_len (pa_cons (pe_ix ix_seq (pv 0) pe_int fun _ _ => rfl) pa_nil)))
      (pss_cons (ps_if (pt_not (pt_val (pe_allG (k := 3) (cs := ["width"]) (pick := [1]) rfl hr (by rfl) X.all (by decide +kernel) B.are rfl (genN_by (sc := defScope sAre) (N := ["words", "width"]) rfl rfl (fun y h => cell_has h) (by decide +kernel))
        (pi_tup (pv 0)) (fun s H code C A fp pn hr => pe_cmpR op_eq (pe_callB call_len_str (by rfl) X.len boot_len (pa_cons (pv 0) pa_nil)) (pv 1) (by rfl))))) (pss_one (ps_ret pe_bl)) pss_nil)
      (pss_one (ps_ret (pe_and (pe_cmpR op_eq (pe_lenOnce rfl (by rfl) X.len (by rfl) X.set (pv 0)) (pe_callB call_len_seq (by rfl) X.len boot_len (pa_cons (pv 0) pa_nil)) (by rfl))
        (pe_one (pe_cmpR op_le (pe_op op_mul (pv 1) (pe_callB call_len_seq (by rfl) X.len boot_len (pa_cons (pv 0) pa_nil))) (pe_glob (v := .int 36) (by rfl) g36 ⟨_, rfl⟩) (by rfl))))))))), ?_⟩
    obtain ⟨tm, hm⟩ := X.most
    refine ⟨_, rfl, a, xs, rfl, .inr hs, _, _, rfl, rfl, _, rfl, ?_⟩
    by_cases h1 : 1 ≤ xs.length
    case neg =>
      refine iteF' (by simp; omega) ⟨_, rfl, iteT ?_⟩
      have := k H (.refl hT)
      unfold stampsV at this
      rw [decide_eq_false h1, Bool.false_and] at this
      exact this
    refine iteT' (by simp; omega) ⟨C, _, _, _, rfl, X.rd, hm, _, _, rfl, rfl, _, rfl, ?_⟩
    by_cases h2 : xs.length ≤ 6
    case neg =>
      refine iteT' (by simp; omega) ?_
      have := k H (.refl hT)
      unfold stampsV at this
      rw [decide_eq_false h2, Bool.false_and, Bool.and_false] at this
      exact this
    refine iteF' (by simp; omega) ?_
    refine ⟨_, rfl, a, rfl, ⟨xs, hs⟩, hT _ B.areT, fun H2 h2' => ?_⟩
    refine all_tup isTextV (Tbs T H) (Tbs.of1 hT B.areT h2') (fun H1 q => q.kep.seqT hT hs) (fun x hxm H1 q R hR => ?_) (fun H1 q => ?_)
    · refine ⟨x, rfl, x, 8, rfl, q.1, ?_⟩
      rcases hx x hxm with ⟨z, rfl, hz⟩ | ⟨hf, t, hk, ht⟩
      · exact .inl ⟨z, rfl, hz, fun H3 q3 => hR H3 (q.trans q3)⟩
      · refine .inr ⟨t, ht H1 q, hk, ?_⟩
        rw [hf] at hR
        exact hR H1 q
    refine ⟨_, rfl, ?_⟩
    cases hall : xs.all isTextV with
    | false =>
      refine iteT ?_
      have := k H1 q
      unfold stampsV at this
      rw [hall, Bool.false_and, Bool.and_false, Bool.and_false] at this
      exact this
    | true =>
    refine iteF ?_
    obtain ⟨hws, hle⟩ := all_str_eq hall
    generalize hw : xs.map strV = ws at hws hle
    have hl : ws.length = xs.length := by rw [← hw, List.length_map]
    have hb : stampsV xs = tailB ws := by
      unfold stampsV
      rw [decide_eq_true h1, decide_eq_true h2, hall, hw]; rfl
    rw [hb] at k
    subst hws
    clear hall hb hx
    obtain ⟨z0, zs, rfl⟩ : ∃ z0 zs, ws = z0 :: zs := by
      cases ws with
      | nil => simp at h1
      | cons z0 zs => exact ⟨z0, zs, rfl⟩
    have hz0 : z0.length ≤ 8 := hle z0 List.mem_cons_self
    have hs1 : SqT K H1 a ((z0 :: zs).map V.str) := q.kep.seqT hT hs
    have h8 : (8 : Nat) ≤ sizeLine := by decide
    have hsz : ∀ z ∈ z0 :: zs, z.length ≤ sizeLine := fun z hz => Nat.le_trans (hle z hz) h8
    refine ⟨_, rfl, .inr (.inl ⟨a, _, 0, .str z0, rfl, rfl, hs1, by simp [atI, ixN], z0, rfl, hsz z0 List.mem_cons_self, ?_⟩)⟩
    refine ⟨_, rfl, a, rfl, ⟨_, hs1⟩, q.1 _ B.areT, fun H3 h3 => ?_⟩
    refine all_tup (fun x => decide ((strV x).length = z0.length)) (Tbs T H) (q.trans (Tbs.of1 q.1 B.areT h3)) (fun H1 q => q.kep.seqT hT hs) (fun x hxm H1 q R hR => ?_) (fun H4 q4 => ?_)
    · obtain ⟨z, hz, rfl⟩ := List.mem_map.mp hxm
      refine ⟨_, rfl, z, rfl, hsz z hz, _, rfl, rfl, ?_⟩
      have := hR H1 q
      have e : decide (V.int (z.length : Nat) = V.int (z0.length : Nat)) = decide ((strV (V.str z)).length = z0.length) := by
        show _ = decide (z.length = z0.length)
        rw [Bool.eq_iff_iff]
        simp
        omega
      rw [← e] at this
      exact this
    refine ⟨_, rfl, ?_⟩
    have e1 : ((z0 :: zs).map V.str).all (fun x => decide ((strV x).length = z0.length)) = (z0 :: zs).all (fun z => decide (z.length = z0.length)) := by
      rw [List.all_map]; rfl
    have hs4 : SqT K H4 a ((z0 :: zs).map V.str) := q4.kep.seqT hT hs
    have k4 : Q (.bl ((z0 :: zs).all (fun z => decide (z.length = z0.length)) && (decide ((once (z0 :: zs)).length = (z0 :: zs).length) && decide (z0.length * (z0 :: zs).length ≤ 36)))) H4 := k H4 q4
    rw [e1]
    cases hal : (z0 :: zs).all (fun z => decide (z.length = z0.length)) with
    | false =>
      refine iteT ?_
      rw [hal, Bool.false_and] at k4
      exact k4
    | true =>
      rw [hal, Bool.true_and] at k4
      refine iteF ?_
      have hln : ((z0 :: zs).map V.str).length = (z0 :: zs).length := List.length_map ..
      refine ⟨_, rfl, a, z0 :: zs, rfl, hs4, by rw [← hln]; exact hn, _, rfl, a, _, rfl, .inr hs4, rfl, _, rfl, ?_⟩
      have e2 : decide (V.int ((once (z0 :: zs)).length : Nat) = V.int (((z0 :: zs).map V.str).length : Nat)) = decide ((once (z0 :: zs)).length = (z0 :: zs).length) := by
        rw [hln, Bool.eq_iff_iff]
        simp
        omega
      rw [e2]
      by_cases h5 : (once (z0 :: zs)).length = (z0 :: zs).length
      case neg =>
        refine iteF' (decide_eq_false h5) ?_
        rw [decide_eq_false h5, Bool.false_and] at k4
        exact k4
      refine iteT' (decide_eq_true h5) ?_
      rw [decide_eq_true h5, Bool.true_and] at k4
      refine ⟨_, rfl, _, rfl, a, _, rfl, .inr hs4, _, _, rfl, rfl, .inl ⟨by omega, by omega⟩, _, _, rfl, rfl, ?_⟩
      have e3 : decide ((z0.length : Int) * (((z0 :: zs).map V.str).length : Nat) ≤ 36) = decide (z0.length * (z0 :: zs).length ≤ 36) := by
        rw [hln, Bool.eq_iff_iff]
        simp only [decide_eq_true_eq]
        constructor <;> intro h
        · exact_mod_cast h
        · exact_mod_cast h
      rw [← e3] at k4
      exact k4
end
/-! ### Stamps -/
structure ErrC (K : PySem.W.Frag) (mg : Str → Option Value) (x : Str) (D : Addr) : Prop where
  e : PySem.W.excIn K D [.type "ValueError", .type "Exception", .type "BaseException", .type "object"] "ValueError.__new__" = true
  g : mg x = some (.ref D)
  k : PySem.W.keepIn K (.ref D) = true
  b : PySem.W.subIn K (.ref D) (.type "BaseException") = some true
  t : PySem.W.typeIn K (.ref D) = some (.type "type")
/-- what stood stands, but for the tables and the object at a -/
def KepX (T : List Addr) (a : Addr) (H H' : Hp) : Prop := (∀ P ∈ T, TabG H' P) ∧ ∀ b o, b ∉ T → b ≠ a → H b = some o → H' b = some o
/-- an object of the program: a text, or something else -/
def Wd (K : PySem.W.Frag) (T : List Addr) (H : Hp) (x : V) : Prop := (∃ z : Str, x = .str z ∧ z.length ≤ sizeLine) ∨ (isTextV x = false ∧ ∃ t, PySem.W.kitOne K t (.type "str") = some false ∧ ∀ H2, Kep T H H2 → TyX K H2 x t)
/-- stamps stand at a: their list at l -/
def Stp (H : Hp) (C a l dx : Addr) (xs : List V) : Prop := H a = some (.ins C dx [("_words", .ref l)]) ∧ H l = some (.lst xs)
def spInit (K : PySem.W.Frag) (T : List Addr) (C D : Addr) : Sp := fun vs H Q E => ∃ (a dx : Addr) (xs : List V), vs = V.ref a :: xs ∧ H a = some (.ins C dx []) ∧ (∀ p ∈ T, TabG H p) ∧ xs.length ≤ 4000 ∧ (∀ x ∈ xs, Wd K T H x) ∧
  (stampsV xs = true → ∀ H3 l, H l = none → l ∉ T → l ≠ a → Stp H3 C a l dx xs → KepX T a H H3 → Q .non H3) ∧ (stampsV xs = false → ∀ H3, Kep T H H3 → E (.ref D) none H3)
theorem scInit : FnScope ["self", "words"] ((["self"] : List Str) ++ (["words"] : List Str)) (defScope sInit) := ⟨rfl, rfl, rfl, by decide +kernel, rfl, by decide +kernel, by decide +kernel⟩
structure Own (K : PySem.W.Frag) (C : Addr) : Prop where
  cls : Cls K C
  noW : NoAttr K C "_words"
section
variable {P : Program} {w : World} {K : PySem.W.Frag} {mg : Str → Option Value} {base : Heap} {T : List Addr} {C D fLow fText fAre fTape fNext fInks fInit cLow PLow cAre PAre : Addr}
theorem Kep.ty {H H1 H2 : Hp} (h : Kep T H H1) (h2 : Tbs T H1 H2) : Kep T H H2 := h.trans h2.kep
theorem ok_init {fd fdA fdT fdL : FuncData} (F : L2.Fun K "__init__" "Stamps.__init__" sInit fInit fd) (FA : FunC K "are_stamps" "are_stamps" sAre fAre fdA cAre) (FT : L2.Fun K "is_text" "is_text" sText fText fdT) (FL : FunC K "is_lowercase" "is_lowercase" sLow fLow fdL cLow) (X : Txt K mg C fLow fText fAre fTape fNext fInks) (B : Tab base mg T cLow PLow cAre PAre) (O : Own K C) (Er : ErrC K mg "InvalidStamps" D) :
    FnR P w K mg base (L2.CX P w) 6 fInit (spInit K T C D) := by
  obtain ⟨oc, od, kV, doc, pm, an, cdv, ct, osl, rfl, lk, hcd⟩ := F.ex
  have R := StX.fn_star (CX := L2.CX P w) (P := P) (w := w) (mg := mg) (base := base) (ps := ["self"]) (pv := "words") (N := ["self", "words"]) (k := 5)
    (sp := fun vs H Q E => ∃ (a p dx : Addr) (xs : List V), vs = [.ref a, .ref p] ∧ H p = some (.tup xs) ∧ H a = some (.ins C dx []) ∧ p ∉ T ∧ (∀ p ∈ T, TabG H p) ∧ xs.length ≤ 4000 ∧ (∀ x ∈ xs, Wd K T H x) ∧
      (stampsV xs = true → ∀ H3 l, H l = none → l ∉ T → l ≠ a → Stp H3 C a l dx xs → KepX T a H H3 → Q .non H3) ∧ (stampsV xs = false → ∀ H3, Kep T H H3 → E (.ref D) none H3))
    lk hcd scInit StX.cxUp (StX.bind_star1 (B := fun us => bindArgs _ ⟨us, []⟩) (fun _ => rfl) (fun _ _ _ => rfl)) (fun A outer s H vs Q E hr h => ?_)
  · intro A outer s H us vs Q E hr e0 r h
    refine R A outer s H us vs Q E hr e0 r ?_
    obtain ⟨a, dx, xs, rfl, ha, hT, hn, hx, k1, k2⟩ := h
    have hz : xs.length ≤ sizeLine := Nat.le_trans hn (by decide)
    refine ⟨[.ref a], xs, rfl, rfl, hz, fun p hp => ?_⟩
    have hpT : p ∉ T := free_tab hT hp
    have kn : Kep T H (upd H p (.tup xs)) := Kep.new hT hp
    have hpa : a ≠ p := ne_of_none ha hp
    refine ⟨a, p, dx, xs, rfl, upd_same, (upd_ne hpa).trans ha, hpT, kn.1, hn, fun x hx' => ?_, fun hv H3 l hl hlT hla st kx => ?_, fun hv H3 k => k2 hv H3 (kn.trans k)⟩
    · rcases hx x hx' with z | ⟨z1, t, z2, z3⟩
      · exact .inl z
      · exact .inr ⟨z1, t, z2, fun H2 q => z3 H2 (kn.trans q)⟩
    · have hl' : H l = none := kn.free hT hl
      exact k1 hv H3 l hl' hlT hla st ⟨kx.1, fun b o hb hba e => kx.2 b o hb hba (kn.2 b o hb e)⟩
  · obtain ⟨a, p, dx, xs, rfl, hp, ha, hpT, hT, hn, hx, k1, k2⟩ := h
    refine ⟨_, pss_cons (ps_if (pt_not (pt_val (pe_call (ok_are FA FT FL X B) hr (by rfl) X.gAre X.kAre (FA.toFun.binds fun _ _ _ _ _ _ us hl => match us, hl with | [_], _ => rfl) .nil L2.pass0 (pa_cons (pv 1) pa_nil))))
      (pss_one (ps_raise rfl (takes_of rfl rfl rfl rfl) (pmk_own PySem.F.excBase_ValueError Er.e Er.g Er.k (raises_own Er.b Er.t) (by rfl)))) pss_nil)
      (pss_one (ps_fld (pv 0) (pe_callTy call_list_of (by rfl) X.lst (by decide +kernel) (pa_cons (pv 1) pa_nil)) (by rfl))), ?_⟩
    refine ⟨_, rfl, p, xs, rfl, hT, .inl (.inl hp), hn, fun x hx' => ?_, fun H2 h2 => ⟨_, rfl, ?_⟩⟩
    · rcases hx x hx' with z | ⟨z1, t, z2, z3⟩
      · exact .inl z
      · exact .inr ⟨z1, t, z2, fun H2 q => z3 H2 q.kep⟩
    have hp2 : H2 p = some (.tup xs) := h2.kep.at hT hp fun _ z => by cases z
    have ha2 : H2 a = some (.ins C dx []) := h2.kep.at hT ha fun _ z => by cases z
    cases hv : stampsV xs with
    | false => exact iteT (k2 hv H2 h2.kep)
    | true =>
      refine iteF ?_
      refine ⟨_, rfl, p, xs, rfl, .inr (.inl (.inl hp2)), fun l hl => ⟨_, rfl, a, C, dx, [], rfl, ?_, O.cls, O.noW, by decide, ?_⟩⟩
      · exact (upd_ne (ne_of_none ha2 hl)).trans ha2
      · have hla : l ≠ a := fun z => by rw [z, ha2] at hl; cases hl
        have hlT : l ∉ T := free_tab h2.1 hl
        have haT : a ∉ T := not_tab hT ha fun _ z => by cases z
        refine k1 hv _ l (h2.kep.free hT hl) hlT hla ⟨upd_same, (upd_ne hla).trans upd_same⟩ ⟨fun q hq => ?_, fun b o hb hba e => ?_⟩
        · obtain ⟨ps, h1, h2'⟩ := h2.1 q hq
          exact ⟨ps, (upd_ne (show q ≠ a from fun z => haT (z ▸ hq))).trans ((upd_ne (show q ≠ l from fun z => hlT (z ▸ hq))).trans h1), h2'⟩
        · have e2 := h2.kep.2 b o hb e
          exact (upd_ne hba).trans ((upd_ne (ne_of_none e2 hl)).trans e2)
theorem KepX.kep {H H1 H3 : Hp} {a : Addr} (k : Kep T H H1) (ha : H a = none) (x : KepX T a H1 H3) : Kep T H H3 := ⟨x.1, fun b o hb e => x.2 b o hb (ne_of_none e ha) (k.2 b o hb e)⟩
theorem Wd.kep {H H1 : Hp} {x : V} (k : Kep T H H1) (h : Wd K T H x) : Wd K T H1 x := by
  rcases h with z | ⟨z1, t, z2, z3⟩
  · exact .inl z
  · exact .inr ⟨z1, t, z2, fun H2 q => z3 H2 (k.trans q)⟩
/-- a new object with its dict -/
theorem Kep.made {H : Hp} {x dx C : Addr} (hT : ∀ p ∈ T, TabG H p) (hx : H x = none) (hdx : H dx = none) (hne : dx ≠ x) : Kep T H (upd (upd H dx (.own x)) x (.ins C dx [])) :=
  (Kep.new hT hdx).trans (Kep.new (Kep.new hT hdx).1 ((upd_ne hne.symm).trans hx))
/-- C(*xs) for stamps: what it asks -/
def Makes (K : PySem.W.Frag) (T : List Addr) (C D : Addr) (H : Hp) (xs : List V) (Q : VK) (E : XK) : Prop := (∀ p ∈ T, TabG H p) ∧ xs.length ≤ 4000 ∧ (∀ x ∈ xs, Wd K T H x) ∧
  (stampsV xs = true → ∀ H3 a l dx, H a = none → H l = none → H dx = none → a ∉ T → l ∉ T → Stp H3 C a l dx xs → Kep T H H3 → Q (.ref a) H3) ∧ (stampsV xs = false → ∀ H3, Kep T H H3 → E (.ref D) none H3)
theorem Makes.init {H : Hp} {xs : List V} {Q : VK} {E : XK} (m : Makes K T C D H xs Q E) {x dx : Addr} (hx : H x = none) (hdx : H dx = none) (hne : dx ≠ x) :
    spInit K T C D (V.ref x :: xs) (upd (upd H dx (.own x)) x (.ins C dx [])) (fun v H2 => v = .non ∧ Q (.ref x) H2) E := by
  obtain ⟨hT, hn, hw, k1, k2⟩ := m
  have kn : Kep T H (upd (upd H dx (.own x)) x (.ins C dx [])) := Kep.made hT hx hdx hne
  exact ⟨x, dx, xs, rfl, upd_same, kn.1, hn, fun y hy => (hw y hy).kep kn, fun hv H3 l hl hlT hla st kx => ⟨rfl, k1 hv H3 x l dx hx (kn.free hT hl) hdx (free_tab hT hx) hlT st (KepX.kep kn hx kx)⟩, fun hv H3 k => k2 hv H3 (kn.trans k)⟩
def spOf (K : PySem.W.Frag) (T : List Addr) (C D : Addr) : Sp := fun vs H Q E => ∃ y, vs = [V.ref C, y] ∧
  ((∃ p xs, y = V.ref p ∧ H p = some (.lst xs) ∧ Makes K T C D H xs Q E) ∨ (∃ t, TyX K H y t ∧ PySem.W.kitOne K t (.type "list") = some false ∧ E (.ref D) none H))
theorem scOf : FnScope ["cls", "words"] ["cls", "words"] (defScope sOf) := ⟨rfl, rfl, rfl, by decide +kernel, rfl, by decide +kernel, by decide +kernel⟩
theorem ok_of {f : Addr} {fd : FuncData} (F : L2.Fun K "of" "Stamps.of" sOf f fd) (FI : FnR P w K mg base (L2.CX P w) 6 fInit (spInit K T C D)) (M : Mk K C fInit) (X : Txt K mg C fLow fText fAre fTape fNext fInks) (Er : ErrC K mg "InvalidStamps" D) :
    FnOk P w K mg base (L2.CX P w) 8 f fd ["cls", "words"] (spOf K T C D) := by
  refine F.okX scOf (fun vs H Q E h => ?_) (fun cdv A outer s H vs Q E hr h => ?_)
  · obtain ⟨y, rfl, _⟩ := h
    rfl
  · obtain ⟨y, rfl, h⟩ := h
    refine ⟨_, pss_cons (ps_if (pt_not (pt_val (pe_callB call_isi (by rfl) X.isi boot_isinstance (pa_cons (pv 1) (pa_cons (pe_bltn (v := .ty "list") (by rfl) X.lst (by decide +kernel) rfl) pa_nil)))))
      (pss_one (ps_raise rfl (takes_of rfl rfl rfl rfl) (pmk_own PySem.F.excBase_ValueError Er.e Er.g Er.k (raises_own Er.b Er.t) (by rfl)))) pss_nil)
      (pss_one (ps_ret (pe_makeS M FI hr (passes_call (E := E) (takes_of rfl rfl rfl rfl) (fun _ _ _ _ h => h)) (pv 0) (pv 1)))), ?_⟩
    rcases h with ⟨p, xs, rfl, hp, m⟩ | ⟨t, ht, hk, he⟩
    · refine ⟨_, rfl, _, _, _, _, _, rfl, .ty _, .base (.lst hp), kit_ty (r := true) (by decide +kernel), true, rfl, iteF ?_⟩
      refine ⟨_, rfl, rfl, _, rfl, p, xs, rfl, .inr (.inl (.inl hp)), fun x dx hx hdx hne => m.init hx hdx hne⟩
    · refine ⟨_, rfl, _, _, _, _, _, rfl, .ty _, ht, hk, false, rfl, iteT ?_⟩
      exact he
end
/-! ### the law's tape -/
/-- a tape at t that was asked n times at most -/
def Tp (H : Hp) (t : Addr) (n : Nat) : Prop := ∃ a b c : Int, H t = some (.lst [.int a, .int b, .int c]) ∧ 0 ≤ a ∧ 0 ≤ b ∧ b < 10 ^ 40 ∧ 0 ≤ c ∧ c ≤ n
/-- all but the thing at t is as it was -/
def But (t : Addr) (H H' : Hp) : Prop := ∀ b, b ≠ t → H' b = H b
theorem But.put {H : Hp} {t : Addr} {o : HO} : But t H (upd H t o) := fun _ hb => upd_ne hb
theorem But.trans {H H1 H2 : Hp} {t : Addr} (a : But t H H1) (b : But t H1 H2) : But t H H2 := fun c hc => (b c hc).trans (a c hc)
def spTape (K : PySem.W.Frag) : Sp := fun vs H Q _ => ∃ (p : Addr) (ns : List Int) (k : Int), vs = [.ref p, .int k] ∧ SqL K H p (ns.map V.int) ∧ 0 ≤ k ∧ k ≤ 63 ∧ ∀ t H', H t = none → Tp H' t 0 → But t H H' → Q (.ref t) H'
def spNext : Sp := fun vs H Q _ => ∃ (t : Addr) (many : Int) (n : Nat), vs = [.ref t, .int many] ∧ Tp H t n ∧ n < 2 ^ 40 ∧ 0 < many ∧ many < 1000000 ∧ ∀ d H', 0 ≤ d → d < many → Tp H' t (n + 1) → But t H H' → Q (.int d) H'
section
variable {P : Program} {w : World} {K : PySem.W.Frag} {mg : Str → Option Value} {base : Heap} {T : List Addr} {C D fLow fText fAre fTape fNext fInks fInit cLow PLow cAre PAre : Addr}
theorem scTape : FnScope ["script", "k", "cell"] ["script", "k"] (defScope sTape) := ⟨rfl, rfl, rfl, by decide +kernel, rfl, by decide +kernel, by decide +kernel⟩
theorem ok_tape {f : Addr} {fd : FuncData} (F : L2.Fun K "_law_tape" "_law_tape" sTape f fd) (X : Txt K mg C fLow fText fAre fTape fNext fInks) : FnOk P w K mg base CX0 1 f fd ["script", "k"] (spTape K) := by
  refine F.ok scTape (fun vs H Q E h => ?_) (fun cdv A outer s H vs Q E hr h => ?_)
  · obtain ⟨p, ns, k, rfl, _⟩ := h
    rfl
  · obtain ⟨p, ns, k, rfl, hs, h0, h63, q⟩ := h
    refine ⟨_, C8.pss_cut (ps_set (i := 2) scTape.nd rfl (.inl rfl) (pe_ifExp (pt_cmpR op_lt (pv 1) (pe_callB call_len_seq (by rfl) X.len boot_len (pa_cons (pv 0) pa_nil)) (by rfl))
        (pe_callB call_abs (by rfl) X.abs (by decide +kernel) (pa_cons (pe_ix ix_seq (pv 0) (pv 1) fun _ _ => rfl) pa_nil)) pe_int))
      (pss_one (ps_ret (pe_lst (pa_cons (pe_callB (call_max2 rfl) (by rfl) X.max (by decide +kernel) (pa_cons pe_int (pa_cons (pe_op op_sub (pv 2) (pe_op op_pow pe_int pe_int)) pa_nil)))
        (pa_cons (pe_op op_add (pe_op op_mul (pe_op op_mod (pv 2) (pe_op op_add (pe_op op_pow pe_int pe_int) pe_int)) pe_int) (pv 1)) (pa_cons pe_int pa_nil)))))), ?_⟩
    refine ⟨fun σ' H' => H' = H ∧ ∃ cell : Int, 0 ≤ cell ∧ σ' = [some (.ref p), some (.int k), some (.int cell)], ?_, ?_⟩
    · refine ⟨_, rfl, _, rfl, p, _, rfl, .inl hs, _, _, rfl, rfl, _, rfl, ?_⟩
      rw [List.length_map]
      refine ite2 (fun hk => ?_) (fun hk => ?_)
      · have hk : k < (ns.length : Int) := by simpa using hk
        have hi : k.toNat < ns.length := by omega
        refine ⟨_, rfl, _, rfl, .inl ⟨p, _, k, .int ns[k.toNat], rfl, rfl, hs, ?_, _, rfl, rfl, _, ?_, rfl⟩⟩
        · have e : k = (k.toNat : Int) := by omega
          have z : atI (ns.map V.int) (k.toNat : Int) = some (.int ns[k.toNat]) := atI_nat (by rw [List.getElem?_map, List.getElem?_eq_getElem hi]; rfl)
          rw [← e] at z
          exact z
        · split <;> omega
      · exact ⟨rfl, 0, by decide, rfl⟩
    · rintro σ' H' ⟨rfl, cell, hc, rfl⟩
      refine ⟨_, rfl, _, _, rfl, rfl, ⟨by decide, by decide, by decide⟩, _, _, rfl, rfl, _, _, rfl, ?_⟩
      refine ⟨_, rfl, _, _, rfl, rfl, ⟨by decide, by decide, by decide⟩, _, _, rfl, rfl, _, _, rfl, rfl, (by decide : (0 : Int) < 10 ^ Int.toNat 37 + 43), _, _, rfl, rfl, .inr ⟨by decide, by decide⟩, _, rfl, _, _, rfl, rfl, ?_⟩
      refine ⟨(by decide : 3 ≤ sizeLine), fun t ht => q t _ ht ⟨_, _, _, upd_same, ?_, ?_, ?_, by decide, by decide⟩ But.put⟩
      · split <;> omega
      · show 0 ≤ cell % (10 ^ Int.toNat 37 + 43) * 83 + k
        have := Int.emod_nonneg cell (b := 10 ^ Int.toNat 37 + 43) (by decide)
        omega
      · show cell % (10 ^ Int.toNat 37 + 43) * 83 + k < 10 ^ 40
        have h1 := Int.emod_lt_of_pos cell (b := 10 ^ Int.toNat 37 + 43) (by decide)
        have e1 : (10 : Int) ^ Int.toNat 37 + 43 = 10000000000000000000000000000000000043 := by decide
        have e2 : (10 : Int) ^ 40 = 10000000000000000000000000000000000000000 := by decide
        rw [e1] at h1 ⊢
        rw [e2]
        omega
end
end Ov

set_option Elab.async false
set_option linter.all false
set_option maxRecDepth 100000
set_option maxHeartbeats 4000000
namespace Ov
open PySem PySem.Spec PyProof.Rows L2 GxR
section
variable {P : Program} {w : World} {K : PySem.W.Frag} {mg : Str → Option Value} {base : Heap} {T : List Addr} {C D fLow fText fAre fTape fNext fInks fInit cLow PLow cAre PAre : Addr}
theorem scNext : FnScope ["tape", "many", "digit", "mixed"] ["tape", "many"] (defScope sNext) := ⟨rfl, rfl, rfl, by decide +kernel, rfl, by decide +kernel, by decide +kernel⟩
theorem pow3_bits {x : Int} (h0 : 0 ≤ x) (h : x < 2 ^ 140) : CPowW x 3 := by
  refine ⟨by decide, ?_⟩
  have e : (2 : Int) ^ 140 = 1393796574908163946345982392040522594123776 := by decide
  have e2 : (2 : Nat) ^ 140 = 1393796574908163946345982392040522594123776 := by decide
  have hb : Builtin.Int.intBits x ≤ 140 := bits_le (by rw [e2]; omega) (by decide)
  have e3 : (2 : Int) ^ 27 = 134217728 := by decide
  rw [e3]
  omega
theorem ok_next {f : Addr} {fd : FuncData} (F : L2.Fun K "_law_next" "_law_next" sNext f fd) (X : Txt K mg C fLow fText fAre fTape fNext fInks) : FnOk P w K mg base CX0 1 f fd ["tape", "many"] spNext := by
  refine F.ok scNext (fun vs H Q E h => ?_) (fun cdv A outer s H vs Q E hr h => ?_)
  · obtain ⟨t, m, n, rfl, _⟩ := h
    rfl
  · obtain ⟨t, m, n, rfl, ⟨a, b, c, ht, ha, hb, hb2, hc, hcn⟩, hn, hm, hm2, q⟩ := h
    refine ⟨_, pss_cons (ps_if (pt_cmpR op_gt (pe_ix ix_seq (pv 0) pe_int fun _ _ => rfl) pe_int (by rfl))
        (pss_cons (ps_set (i := 2) scNext.nd rfl (.inl rfl) (pe_op op_mod (pe_ix ix_seq (pv 0) pe_int fun _ _ => rfl) (pv 1)))
          (pss_cons (ps_asg (pe_op op_fdiv (pe_ix ix_seq (pv 0) pe_int fun _ _ => rfl) (pv 1)) (pg_sub (pv 0) pe_int set_list)) (pss_one (ps_ret (pv 2))))) pss_nil)
      (pss_cons (ps_asg (pe_op op_add (pe_ix ix_seq (pv 0) pe_int fun _ _ => rfl) pe_int) (pg_sub (pv 0) pe_int set_list))
      (pss_cons (ps_set (i := 3) scNext.nd rfl (.inl rfl) (pe_op op_mod (pe_op op_powW (pe_op op_add (pe_ix ix_seq (pv 0) pe_int fun _ _ => rfl) (pe_op op_mul pe_int (pe_ix ix_seq (pv 0) pe_int fun _ _ => rfl))) pe_int) (pe_op op_add (pe_op op_pow pe_int pe_int) pe_int)))
      (pss_cons (ps_set (i := 3) scNext.nd rfl (.inl rfl) (pe_op op_mod (pe_op op_powW (pe_op op_add (pv 3) (pe_op op_mul pe_int (pe_ix ix_seq (pv 0) pe_int fun _ _ => rfl))) pe_int) (pe_op op_add (pe_op op_pow pe_int pe_int) pe_int)))
      (pss_one (ps_ret (pe_op op_mod (pe_op op_fdiv (pv 3) pe_int) (pv 1))))))), ?_⟩
    have at0 : ∀ {x y z : V}, atI [x, y, z] 0 = some x := fun {x y z} => by simp [atI, ixN]
    have at1 : ∀ {x y z : V}, atI [x, y, z] 1 = some y := fun {x y z} => by simp [atI, ixN]
    have at2 : ∀ {x y z : V}, atI [x, y, z] 2 = some z := fun {x y z} => by simp [atI, ixN]
    refine ⟨_, rfl, .inl ⟨t, _, 0, .int a, rfl, rfl, .inl (.inl ht), at0, _, _, rfl, rfl, _, rfl, ?_⟩⟩
    refine ite2 (fun hk => ?_) (fun hk => ?_)
    · refine ⟨_, rfl, .inl ⟨t, _, 0, .int a, rfl, rfl, .inl (.inl ht), at0, _, rfl, _, _, rfl, rfl, hm, ?_⟩⟩
      refine ⟨_, rfl, .inl ⟨t, _, 0, .int a, rfl, rfl, .inl (.inl ht), at0, _, rfl, _, _, rfl, rfl, ⟨hm, by omega⟩, ?_⟩⟩
      refine ⟨_, rfl, t, _, 0, 0, rfl, rfl, ht, by simp [ixN], _, rfl, ?_⟩
      exact q _ _ (Int.emod_nonneg _ (by omega)) (Int.emod_lt_of_pos _ hm) ⟨_, _, _, upd_same, Int.ediv_nonneg ha (by omega), hb, hb2, hc, by omega⟩ But.put
    · refine ⟨_, rfl, .inl ⟨t, _, 2, .int c, rfl, rfl, .inl (.inl ht), at2, _, _, rfl, rfl, ?_⟩⟩
      refine ⟨_, rfl, t, _, 2, 2, rfl, rfl, ht, by simp [ixN], ?_⟩
      have h2 : upd H t (.lst [.int a, .int b, .int (c + 1)]) t = some (.lst [.int a, .int b, .int (c + 1)]) := upd_same
      have e40 : (10 : Int) ^ 40 = 10000000000000000000000000000000000000000 := by decide
      have e140 : (2 : Int) ^ 140 = 1393796574908163946345982392040522594123776 := by decide
      have en : (2 : Nat) ^ 40 = 1099511627776 := by decide
      rw [en] at hn
      rw [e40] at hb2
      refine ⟨_, rfl, .inl ⟨t, _, 1, .int b, rfl, rfl, .inl (.inl h2), at1, _, rfl, .inl ⟨t, _, 2, .int (c + 1), rfl, rfl, .inl (.inl h2), at2, _, _, rfl, rfl, .inl ⟨by decide, by decide⟩, _, _, rfl, rfl, ?_⟩⟩⟩
      refine ⟨_, _, rfl, rfl, pow3_bits (by omega) (by rw [e140]; omega), _, _, rfl, rfl, ⟨by decide, by decide, by decide⟩, _, _, rfl, rfl, _, _, rfl, rfl, (by decide : (0 : Int) < 10 ^ Int.toNat 40 + 121), ?_⟩
      generalize hm1 : ((b + 32416187567 * (c + 1)) ^ Int.toNat 3) % (10 ^ Int.toNat 40 + 121) = m1
      have m1a : 0 ≤ m1 := by rw [← hm1]; exact Int.emod_nonneg _ (by decide)
      have m1b : m1 < 10000000000000000000000000000000000000121 := by
        rw [← hm1]
        exact Int.emod_lt_of_pos _ (by decide)
      refine ⟨_, rfl, _, rfl, .inl ⟨t, _, 2, .int (c + 1), rfl, rfl, .inl (.inl h2), at2, _, _, rfl, rfl, .inl ⟨by decide, by decide⟩, _, _, rfl, rfl, ?_⟩⟩
      refine ⟨_, _, rfl, rfl, pow3_bits (by omega) (by rw [e140]; omega), _, _, rfl, rfl, ⟨by decide, by decide, by decide⟩, _, _, rfl, rfl, _, _, rfl, rfl, (by decide : (0 : Int) < 10 ^ Int.toNat 39 + 3), ?_⟩
      generalize ((m1 + 27644437 * (c + 1)) ^ Int.toNat 3) % (10 ^ Int.toNat 39 + 3) = m2
      refine ⟨_, rfl, _, _, rfl, rfl, ⟨by decide, by decide⟩, _, rfl, _, _, rfl, rfl, hm, ?_⟩
      exact q _ _ (Int.emod_nonneg _ (by omega)) (Int.emod_lt_of_pos _ hm) ⟨_, _, _, upd_same, ha, hb, by rw [e40]; exact hb2, by omega, by omega⟩ But.put
end
end Ov

set_option Elab.async false
set_option linter.all false
set_option maxRecDepth 100000
set_option maxHeartbeats 4000000
namespace Ov
open PySem PySem.Spec PyProof.Rows L2 GxR
/-- what stood stands, but for the thing at t -/
def Bt (t : Addr) (H H' : Hp) : Prop := ∀ b o, b ≠ t → H b = some o → H' b = some o
theorem Bt.refl {t : Addr} {H : Hp} : Bt t H H := fun _ _ _ h => h
theorem Bt.trans {t : Addr} {H H1 H2 : Hp} (a : Bt t H H1) (b : Bt t H1 H2) : Bt t H H2 := fun c o hc e => b c o hc (a c o hc e)
theorem But.bt {t : Addr} {H H1 : Hp} (a : But t H H1) : Bt t H H1 := fun c o hc e => (a c hc).trans e
theorem Bt.new {t : Addr} {H : Hp} {p : Addr} {o : HO} (e : H p = none) : Bt t H (upd H p o) := fun b u _ hb => (upd_ne (ne_of_none hb e)).trans hb
theorem Bt.put {t : Addr} {H H1 : Hp} {p : Addr} {o : HO} (a : Bt t H H1) (e : H p = none) : Bt t H (upd H1 p o) := fun b u hb hu => (upd_ne (ne_of_none hu e)).trans (a b u hb hu)
theorem Tp.at {t : Addr} {H H' : Hp} {n : Nat} (h : Tp H t n) (e : H' t = H t) : Tp H' t n := by
  obtain ⟨a, b, c, h1, h2⟩ := h
  exact ⟨a, b, c, e.trans h1, h2⟩
theorem Tp.new {t : Addr} {H : Hp} {n : Nat} {p : Addr} {o : HO} (h : Tp H t n) (e : H p = none) : Tp (upd H p o) t n := h.at (by
  obtain ⟨a, b, c, h1, h2⟩ := h
  exact upd_ne (ne_of_none h1 e))
theorem Tp.ne {t : Addr} {H : Hp} {n : Nat} {p : Addr} (h : Tp H t n) (e : H p = none) : t ≠ p := by
  obtain ⟨a, b, c, h1, h2⟩ := h
  exact ne_of_none h1 e
theorem Tp.mono {t : Addr} {H : Hp} {n m : Nat} (h : Tp H t n) (e : n ≤ m) : Tp H t m := by
  obtain ⟨a, b, c, h1, h2, h3, h4, h5, h6⟩ := h
  exact ⟨a, b, c, h1, h2, h3, h4, h5, by omega⟩
theorem Bt.free {t : Addr} {H H1 : Hp} (a : Bt t H H1) {p : Addr} (hp : p ≠ t) (e : H1 p = none) : H p = none := by
  cases q : H p with
  | none => rfl
  | some o => rw [a p o hp q] at e; cases e
def lowL (l : List Nat) : Bool := l.all fun c => decide (97 ≤ c) && decide (c ≤ 122)
theorem join_nil : ∀ ls : List (List Nat), TL.joinL [] ls = ls.flatten
  | [] => rfl
  | [p] => by simp [TL.joinL]
  | p :: q :: r => by
    have := join_nil (q :: r)
    simp only [TL.joinL, List.nil_append, this, List.flatten_cons]
theorem join_cps (e : Str) (he : e.cps.toList = []) (ys : List Str) : (Txt.join e ys).cps.toList = (ys.map fun z => z.cps.toList).flatten := by
  show (Builtin.Str.glued e ys).cps.toList = _
  rw [StrLaws.glued_eq_join]
  have := TL.tl_join e ys
  unfold TL.tl at this
  rw [this, he, join_nil]
/-- one lowercase letter -/
def One (z : Str) : Prop := ∃ c, z.cps.toList = [c] ∧ 97 ≤ c ∧ c ≤ 122
theorem join_ones (e : Str) (he : e.cps.toList = []) : ∀ ys : List Str, (∀ z ∈ ys, One z) → (Txt.join e ys).length = ys.length ∧ lowB (Txt.join e ys) = true := by
  intro ys h
  have key : ((ys.map fun z => z.cps.toList).flatten).length = ys.length ∧ ((ys.map fun z => z.cps.toList).flatten).all (fun c => decide (97 ≤ c) && decide (c ≤ 122)) = true := by
    induction ys with
    | nil => exact ⟨rfl, rfl⟩
    | cons z r ih =>
      obtain ⟨i1, i2⟩ := ih fun y hy => h y (List.mem_cons_of_mem _ hy)
      obtain ⟨c, hc, h1, h2⟩ := h z List.mem_cons_self
      simp only [List.map_cons, List.flatten_cons, hc, List.length_append, List.all_append, i1, i2]
      refine ⟨by simp; omega, by simp [h1, h2]⟩
  rw [← join_cps e he] at key
  refine ⟨?_, key.2⟩
  rw [← key.1]
  simp [Str.length]
def spInks (K : PySem.W.Frag) : Sp := fun vs H Q _ => ∃ (t : Addr) (most : Int) (n : Nat), vs = [.ref t, .int most] ∧ Tp H t n ∧ n + 60 < 2 ^ 40 ∧ 0 < most ∧ most ≤ 8 ∧
  ∀ (l : Addr) (ws : List Str) H', H l = none → H' l = some (.lst (ws.map V.str)) → stampsV (ws.map V.str) = true → Tp H' t (n + 60) → Bt t H H' → Q (.ref l) H'
section
variable {P : Program} {w : World} {K : PySem.W.Frag} {mg : Str → Option Value} {base : Heap} {T : List Addr} {C D fLow fText fAre fTape fNext fInks fInit cLow PLow cAre PAre : Addr}
theorem pool_at (d : Int) (h0 : 0 ≤ d) (h4 : d < 4) : ∃ z : Str, atI [V.str "ab", V.str "abc", V.str "aab", V.str "abcdefghijklmnopqrstuvwxyz"] d = some (.str z) ∧ 1 ≤ z.length ∧ z.length ≤ 26 ∧ lowB z = true := by
  have : d = 0 ∨ d = 1 ∨ d = 2 ∨ d = 3 := by omega
  rcases this with rfl | rfl | rfl | rfl
  · exact ⟨"ab", by simp [atI, ixN], by decide +kernel, by decide +kernel, by decide +kernel⟩
  · exact ⟨"abc", by simp [atI, ixN], by decide +kernel, by decide +kernel, by decide +kernel⟩
  · exact ⟨"aab", by simp [atI, ixN], by decide +kernel, by decide +kernel, by decide +kernel⟩
  · exact ⟨"abcdefghijklmnopqrstuvwxyz", by simp [atI, ixN], by decide +kernel, by decide +kernel, by decide +kernel⟩
theorem pool_ch {z : Str} (hl : lowB z = true) {d : Int} (h0 : 0 ≤ d) (hd : d < z.length) : ∃ c, atI z.cps.toList d = some c ∧ One ⟨#[c]⟩ := by
  have hk : d.toNat < z.cps.toList.length := by
    have : z.cps.toList.length = z.length := by simp [Str.length]
    omega
  have e : d = (d.toNat : Int) := by omega
  have z1 : atI z.cps.toList (d.toNat : Int) = some z.cps.toList[d.toNat] := atI_nat (List.getElem?_eq_getElem hk)
  rw [← e] at z1
  have := List.all_eq_true.mp hl _ (List.getElem_mem hk)
  simp only [Bool.and_eq_true, decide_eq_true_eq] at this
  exact ⟨_, z1, _, rfl, this.1, this.2⟩
/-- the words made so far -/
structure Ws (W : Nat) (i : Nat) (ws : List Str) : Prop where
  len : ws.length ≤ i
  some : 0 < i → 0 < ws.length
  nd : ws.Nodup
  all : ∀ z ∈ ws, z.length = W ∧ lowB z = true
theorem Ws.ok {W i : Nat} {ws : List Str} (h : Ws W i ws) (h1 : 1 ≤ W) (h8 : W ≤ 8) (hi : 0 < i) (hi6 : i ≤ 6) (h36 : W * i ≤ 36) : stampsV (ws.map V.str) = true := by
  have hl := h.some hi
  have hli := h.len
  have e : (ws.map V.str).map strV = ws := by rw [List.map_map]; exact List.map_id ws
  have hd : (ws.headD Str.empty).length = W := by
    cases ws with
    | nil => simp at hl
    | cons z r => exact (h.all z List.mem_cons_self).1
  unfold stampsV
  rw [e, List.length_map, decide_eq_true (by omega : 1 ≤ ws.length), decide_eq_true (by omega : ws.length ≤ 6), Bool.true_and, Bool.true_and, Bool.and_eq_true]
  refine ⟨?_, ?_⟩
  · rw [List.all_eq_true]
    intro x hx
    obtain ⟨z, hz, rfl⟩ := List.mem_map.mp hx
    obtain ⟨q1, q2⟩ := h.all z hz
    show textB z 8 = true
    unfold textB
    rw [q2, q1]
    simp
    omega
  · unfold tailB
    rw [hd, Bool.and_eq_true, Bool.and_eq_true]
    refine ⟨?_, decide_eq_true ((once_nodup ws).mpr h.nd), decide_eq_true ?_⟩
    · rw [List.all_eq_true]
      intro z hz
      exact decide_eq_true (h.all z hz).1
    · exact Nat.le_trans (Nat.mul_le_mul_left W hli) h36
theorem inV_str (z : Str) (ws : List Str) : inV (.str z) (ws.map V.str) = true ↔ z ∈ ws := by
  unfold inV
  rw [List.any_map, List.any_eq_true]
  constructor
  · rintro ⟨y, hy, e⟩
    have : y = z := by simpa [eqV] using e
    exact this ▸ hy
  · intro h
    exact ⟨z, h, by simp [eqV]⟩
abbrev NInks : List Str := ["tape", "most", "width", "pool", "found", "turn", "ink", "spot"]
theorem scInks : FnScope NInks ["tape", "most"] (defScope sInks) := ⟨rfl, rfl, rfl, by decide +kernel, rfl, by decide +kernel, by decide +kernel⟩
theorem pe_next {X : Cx} {f : Addr} {fd : FuncData} (F : FnOk X.prog X.w X.K X.mg X.base CX0 1 f fd ["tape", "many"] spNext) (hb : Binds X.K fd ["tape", "many"] []) (hr : Room 1 X.A) (hg : Gl X "_law_next") (hm : X.mg "_law_next" = some (.ref f)) (hk : PySem.W.keepIn X.K (.ref f) = true)
    {e1 e2 : Expr} {p pos : Pos} {ta : TA} (ha : PA X [e1, e2] ta) (he : starEach [e1, e2] X.env = (false, eval e1 X.env) :: starEach [e2] X.env := by rfl) (hpl : (backTo pos (starEach [e2] X.env)).any (·.1) = false := by rfl) : PE X (.Call (.Name "_law_next" p) [e1, e2] [] pos) (tCall spNext [] E0 ta) :=
  pe_call F hr hg hm hk hb .nil L2.pass0 ha (by decide) he hpl
theorem ok_inks {f : Addr} {fd fdN : FuncData} (F : L2.Fun K "_law_inks" "_law_inks" sInks f fd) (FN : L2.Fun K "_law_next" "_law_next" sNext fNext fdN) (X : Txt K mg C fLow fText fAre fTape fNext fInks) : FnOk P w K mg base CX0 2 f fd ["tape", "most"] (spInks K) := by
  have N1 : FnOk P w K mg base CX0 1 fNext fdN ["tape", "many"] spNext := ok_next FN X
  have bN : Binds K fdN ["tape", "many"] [] := FN.binds fun _ _ _ _ _ _ us hl => match us, hl with | [_, _], _ => rfl
  refine F.ok scInks (fun vs H Q E h => ?_) (fun cdv A outer s H vs Q E hr h => ?_)
  · obtain ⟨t, m, n, rfl, _⟩ := h
    rfl
  · obtain ⟨t, m, n, rfl, ht, hn, hm, hm8, q⟩ := h
    refine ⟨_, pss_cons (ps_set (i := 2) scInks.nd rfl (.inl rfl) (pe_op op_add pe_int (pe_next N1 bN hr (by rfl) X.gNext X.kNext (pa_cons (pv 0) (pa_cons (pv 1) pa_nil)))))
      (pss_cons (ps_set (i := 3) scInks.nd rfl (.inr rfl) (pe_ix ix_seq (pe_lst (pa_cons pe_str (pa_cons pe_str (pa_cons pe_str (pa_cons pe_str pa_nil))))) (pe_next N1 bN hr (by rfl) X.gNext X.kNext (pa_cons (pv 0) (pa_cons pe_int pa_nil))) fun _ _ => rfl))
      (pss_cons (ps_set (i := 4) scInks.nd rfl (.inl rfl) (pe_lst pa_nil))
      (pss_cons (ps_for PassesOwn.never rfl (pi_range1 (by rfl) X.rng (pa_cons (pe_op op_add pe_int (pe_next N1 bN hr (by rfl) X.gNext X.kNext (pa_cons (pv 0) (pa_cons (pe_callB (call_min2 rfl) (by rfl) X.min boot_min (pa_cons pe_int (pa_cons (pe_op op_fdiv pe_int (pv 2)) pa_nil))) pa_nil)))) pa_nil))
          (pg_name (i := 5) scInks.nd rfl (Or.inl rfl))
        (pss_cons (ps_set (i := 6) scInks.nd rfl (.inl rfl) (pe_join pe_str (pe_lc (own := [("spot", 7)]) (g := gName 7) (tt := tYes) (by rfl) scInks.nd (pi_range1 (by rfl) X.rng (pa_cons (pv 2) pa_nil)) (blkOk_by (own := [("spot", 7)]) (N := NInks) (sc := defScope sInks) (by decide +kernel))
            (fun _ _ _ _ _ => pg_name (i := 7) scInks.nd rfl (Or.inl rfl)) (fun _ _ _ _ _ => pts_nil)
            (fun s H C cl fp => pe_ix (show IxR _ (rIx K) from ix_seq) (pv 3) (pe_next N1 bN hr (by rfl) X.gNext X.kNext (pa_cons (pv 0) (pa_cons (pe_callB call_len_str (by rfl) X.len boot_len (pa_cons (pv 3) pa_nil)) pa_nil))) fun _ _ => rfl))))
          (pss_one (ps_if (pt_cmpR op_notIn_seq (pv 6) (pv 4) (by rfl)) (pss_one (ps_expr (pe_bm PySem.F.plainAttrs_list PySem.F.slot_list_append PySem.F.type_list_append mt_append (pv 4) (pa_cons (pv 6) pa_nil)))) pss_nil))))
      (pss_one (ps_ret (pv 4)))))), ?_⟩
    refine ⟨_, rfl, _, rfl, t, m, n, rfl, ht, by omega, hm, by omega, fun d1 H1 d10 d1m t1 b1 => ⟨_, _, rfl, rfl, ?_⟩⟩
    obtain ⟨W, hW⟩ : ∃ W : Nat, 1 + d1 = (W : Int) := ⟨(1 + d1).toNat, by omega⟩
    have W1 : 1 ≤ W := by omega
    have W8 : W ≤ 8 := by omega
    refine ⟨(by decide : 4 ≤ sizeLine), fun pl hpl => ?_⟩
    refine ⟨_, rfl, t, 4, n + 1, rfl, t1.new hpl, by omega, by decide, by decide, fun d2 H2 d20 d24 t2 b2 => ?_⟩
    obtain ⟨z, hz, z1, z26, zl⟩ := pool_at d2 d20 d24
    refine .inl ⟨pl, _, d2, .str z, rfl, rfl, .inl (.inl ((b2 pl (t1.ne hpl).symm).trans upd_same)), hz, ?_⟩
    refine ⟨(by decide : 0 ≤ sizeLine), fun fl hfl => ?_⟩
    have e36 : (36 : Int) / (1 + d1) = ((36 / W : Nat) : Int) := by rw [hW]; first | exact (Int.natCast_ediv 36 W).symm | exact (Int.ofNat_ediv 36 W).symm | rfl
    have w4 : 4 ≤ 36 / W := by
      have : W * 4 ≤ 36 := by omega
      exact (Nat.le_div_iff_mul_le (by omega)).mpr (by omega)
    have w36 : W * (36 / W) ≤ 36 := Nat.mul_div_le 36 W
    have M1 : (0 : Int) < (if (36 : Int) / (1 + d1) < 6 then (36 : Int) / (1 + d1) else 6) := by rw [e36]; split <;> omega
    have M6 : (if (36 : Int) / (1 + d1) < 6 then (36 : Int) / (1 + d1) else 6) ≤ 6 := by rw [e36]; split <;> omega
    have M36 : (if (36 : Int) / (1 + d1) < 6 then (36 : Int) / (1 + d1) else 6) ≤ ((36 / W : Nat) : Int) := by rw [e36]; split <;> omega
    refine ⟨_, rfl, _, rfl, _, _, rfl, rfl, ⟨by omega, by omega⟩, _, _, rfl, t, _, n + 2, rfl, t2.new hfl, by omega, M1, by omega, fun d3 H3 d30 d3m t3 b3 => ?_⟩
    generalize (if (36 : Int) / (1 + d1) < 6 then (36 : Int) / (1 + d1) else 6) = M at M1 M6 M36 d3m
    obtain ⟨R, hR⟩ : ∃ R : Nat, 1 + d3 = (R : Int) := ⟨(1 + d3).toNat, by omega⟩
    have R1 : 0 < R := by omega
    have R6 : R ≤ 6 := by omega
    have R36 : W * R ≤ 36 := Nat.le_trans (Nat.mul_le_mul_left W (by omega : R ≤ 36 / W)) w36
    refine ⟨_, _, rfl, rfl, _, rfl, by omega, by omega, ?_⟩
    have bt3 : Bt t H H3 := b1.bt.trans ((Bt.new hpl).trans (b2.bt.trans ((Bt.new hfl).trans b3.bt)))
    have flt : fl ≠ t := (t2.ne hfl).symm
    have hfl0 : H fl = none := (b1.bt.trans ((Bt.new hpl).trans b2.bt)).free flt hfl
    have zsz : z.length ≤ sizeLine := Nat.le_trans z26 (by decide)
    refine for_range (lo := 0) (n := (1 + d3).toNat) (fun i σ H' => ∃ v5 v6 ws, σ = [some (.ref t), some (.int m), some (.int (1 + d1)), some (.str z), some (.ref fl), v5, v6, none] ∧ H' fl = some (.lst (ws.map V.str)) ∧ Ws W i ws ∧ Tp H' t (n + 3 + i * W) ∧ Bt t H H')
      ⟨none, none, [], rfl, (b3 fl flt).trans upd_same, ⟨Nat.le_refl _, fun z => absurd z (Nat.lt_irrefl _), List.nodup_nil, fun z hz => by simp at hz⟩, t3.mono (by omega), bt3⟩ (fun i σ H4 hi hp => ?_) (fun σ H' hp => ?_)
    · obtain ⟨v5, v6, ws, rfl, hf4, hws, t4, bt4⟩ := hp
      have hiR : i < R := by omega
      have hiW : i * W ≤ 36 := Nat.le_trans (Nat.mul_le_mul_right W (by omega : i ≤ R)) (by rw [Nat.mul_comm]; exact R36)
      refine ⟨⟨_, rfl⟩, _, rfl, 1 + d1, rfl, by omega, by omega, fun D hD => ?_⟩
      have Dt : D ≠ t := (t4.ne hD).symm
      refine lc_range (lo := 0) (n := (1 + d1).toNat) (fun j H5 => ∃ ys : List Str, H5 D = some (.lst (ys.map V.str)) ∧ ys.length = j ∧ (∀ y ∈ ys, One y) ∧ Tp H5 t (n + 3 + i * W + j) ∧ Bt t H4 H5)
        ⟨[], upd_same, rfl, fun y hy => by simp at hy, t4.new hD, Bt.new hD⟩ (fun j H5 hj hp => ?_) (fun H5 hp => ?_)
      · obtain ⟨ys, hD5, hyl, hy1, t5, bt5⟩ := hp
        refine ⟨rfl, ?_⟩
        unfold tYes
        refine iteT' (b := true) rfl ?_
        refine ⟨_, rfl, _, rfl, _, rfl, z, rfl, zsz, t, z.length, n + 3 + i * W + j, rfl, t5, by omega, by omega, by omega, fun d H6 hd0 hdz t6 b6 => ?_⟩
        obtain ⟨c, hc, hone⟩ := pool_ch zl hd0 hdz
        have e6 : H6 D = some (.lst (ys.map V.str)) := (b6 D Dt).trans hD5
        refine .inr (.inr ⟨z, d, c, rfl, rfl, zsz, hc, ys.map V.str, e6, by rw [List.length_map, hyl]; exact Nat.lt_of_lt_of_le (by omega : j < 9) (by decide), ys ++ [⟨#[c]⟩], ?_, by simp [hyl], fun y hy => ?_, ?_, ?_⟩)
        · rw [List.map_append]; exact upd_same
        · rcases List.mem_append.mp hy with h | h
          · exact hy1 y h
          · rw [List.mem_singleton.mp h]; exact hone
        · exact t6.at (upd_ne Dt.symm)
        · exact (bt5.trans b6.bt).put hD
      · obtain ⟨ys, hD5, hyl, hy1, t5, bt5⟩ := hp
        obtain ⟨j1, j2⟩ := join_ones "" rfl ys hy1
        have ysum : ∀ ys : List Str, (∀ y ∈ ys, One y) → (ys.map (·.length)).sum = ys.length := fun ys h => by
          induction ys with
          | nil => rfl
          | cons y r ih =>
            obtain ⟨c, hc, _⟩ := h y List.mem_cons_self
            have e1 : y.length = 1 := by
              have : y.cps.toList.length = 1 := by rw [hc]; rfl
              simpa [Str.length] using this
            rw [List.map_cons, List.sum_cons, ih fun z hz => h z (List.mem_cons_of_mem _ hz), List.length_cons, e1]
            omega
        refine ⟨"", D, ys, rfl, rfl, .inl (.inl (.inl hD5)), ?_, ?_⟩
        · rw [ysum ys hy1]
          show ys.length + ys.length * 0 ≤ 16777216
          omega
        generalize hk : Txt.join ("" : Str) ys = ink at j1 j2
        have ilen : ink.length = W := by omega
        have hf5 : H5 fl = some (.lst (ws.map V.str)) := bt5 fl _ flt hf4
        refine ⟨_, rfl, _, rfl, fl, _, rfl, .inl (.inl (.inl hf5)), rfl, ?_, _, rfl, ?_⟩
        · rw [List.all_map]; exact List.all_eq_true.mpr fun _ _ => rfl
        · by_cases hin : ink ∈ ws
          · refine iteF' (by rw [(inV_str ink ws).mpr hin]; rfl) ?_
            refine ⟨_, _, ws, rfl, hf5, ⟨Nat.le_succ_of_le hws.len, fun _ => List.length_pos_of_mem hin, hws.nd, hws.all⟩, t5.mono ?_, bt4.trans bt5⟩
            rw [Nat.succ_mul]; omega
          · have hnin : inV (.str ink) (ws.map V.str) = false := by
              cases h : inV (.str ink) (ws.map V.str) with
              | false => rfl
              | true => exact absurd ((inV_str ink ws).mp h) hin
            refine iteT' (by rw [hnin]; rfl) ?_
            have wl := hws.len
            refine ⟨_, rfl, .inl ⟨rfl, _, .inl (.inl hf5)⟩, _, rfl, fl, _, _, rfl, rfl, hf5, by rw [List.length_map]; exact Nat.lt_of_lt_of_le (by omega : ws.length < 9) (by decide), ?_⟩
            refine ⟨_, _, ws ++ [ink], rfl, by rw [List.map_append]; exact upd_same, ⟨by rw [List.length_append, List.length_singleton]; omega, fun _ => by rw [List.length_append, List.length_singleton]; omega, ?_, fun y hy => ?_⟩, (t5.at (upd_ne flt.symm)).mono ?_, (bt4.trans bt5).put hfl0⟩
            · rw [List.nodup_append]
              exact ⟨hws.nd, by simp, fun a ha b hb e => hin (by rw [List.mem_singleton.mp hb] at e; exact e ▸ ha)⟩
            · rcases List.mem_append.mp hy with h | h
              · exact hws.all y h
              · rw [List.mem_singleton.mp h]; exact ⟨ilen, j2⟩
            · rw [Nat.succ_mul]; omega
    · obtain ⟨v5, v6, ws, rfl, hf4, hws, t4, bt4⟩ := hp
      refine ⟨_, rfl, ?_⟩
      refine q fl ws H' hfl0 hf4 (hws.ok W1 W8 (by omega) (by omega) ?_) (t4.mono ?_) bt4
      · have : (1 + d3).toNat = R := by omega
        rw [this]; exact R36
      · have : (1 + d3).toNat = R := by omega
        rw [this, Nat.mul_comm]; omega
end
end Ov

set_option Elab.async false
set_option linter.all false
set_option maxRecDepth 100000
set_option maxHeartbeats 4000000
namespace Ov
open PySem PySem.Spec PyProof.Rows L2 GxR
abbrev sBInit : Stmt := inClass (top 41) 3
abbrev sNamed : Stmt := inClass (top 41) 4
abbrev sStamps : Stmt := inClass (top 41) 5
abbrev sLNamed : Stmt := top 49
abbrev sKind : Stmt := top 50
abbrev sRight : Stmt := top 51
abbrev sLaw : Stmt := top 52
/-! ### the bands -/
def lab (z : Str) : Option Nat := if z = "line" then some 0 else if z = "window" then some 1 else if z = "ring" then some 2 else none
def labN : Nat → Str
  | 0 => "line"
  | 1 => "window"
  | 2 => "ring"
  | _ => ""
def clsN : Nat → Str
  | 0 => "Line"
  | 1 => "Window"
  | 2 => "Ring"
  | _ => "Band"
structure Kls (K : PySem.W.Frag) (mg : Str → Option Value) (i : Nat) (C fB pN gN pS gS : Addr) : Prop where
  g : mg (clsN i) = some (.ref C)
  mak : Mk K C fB
  cls : Cls K C
  eq : NoEq2 K C
  noS : NoAttr K C "_stamps"
  rd : ClX.CRead K C (.type "type")
  name : ∃ t, ClX.CVal K C (.type "type") "NAME" (.str (labN i)) (.str (labN i) t)
  con : ∃ t, Con K C "NAME" (.str (labN i)) (.str (labN i) t)
  nmd : ClX.CMet K C (.type "type") "named" pN gN
  prop : PropOf K C "stamps" pS gS
  ha : PySem.W.findIn K (.ref C) "__class__" = some (some (.builtin "object.__class__"))
  hm : PySem.W.mroIn K C (.type "object") = some true
/-- the four classes -/
structure Bds (K : PySem.W.Frag) (mg : Str → Option Value) (c : Nat → Addr) (fB pN gN pS gS : Addr) : Prop where
  k : ∀ i, i < 4 → Kls K mg i (c i) fB pN gN pS gS
  kit : ∀ i j, i < 4 → j < 4 → PySem.W.kitOne K (.ref (c i)) (.ref (c j)) = some (decide (i = j ∨ j = 3))
  sub : ∀ i j, i < 4 → j < 4 → PySem.W.subIn K (.ref (c i)) (.ref (c j)) = some (decide (i = j ∨ j = 3))
  hn : PySem.W.specialIn K (.builtin "object.__class__") "__get__" = some (some (.builtin "getset_descriptor.__get__"))
  htk : PySem.W.takesIn K (.builtin "object.__class__") = some true
/-- a band of the i-th class over ms stands at a -/
def Bnd (c : Nat → Addr) (H : Hp) (a : Addr) (i : Nat) (ms : V) : Prop := ∃ dx, H a = some (.ins (c i) dx [("_stamps", ms)])
section
variable {P : Program} {w : World} {K : PySem.W.Frag} {mg : Str → Option Value} {base : Heap} {T : List Addr} {c : Nat → Addr} {C D fLow fText fAre fTape fNext fInks fInit cLow PLow cAre PAre fB pN gN pS gS : Addr}
def spBInit (K : PySem.W.Frag) : Sp := fun vs H Q _ => ∃ (a C dx : Addr) (v : V), vs = [.ref a, v] ∧ H a = some (.ins C dx []) ∧ Cls K C ∧ NoAttr K C "_stamps" ∧ Q .non (upd H a (.ins C dx [("_stamps", v)]))
theorem scBInit : FnScope ["self", "stamps"] ["self", "stamps"] (defScope sBInit) := ⟨rfl, rfl, rfl, by decide +kernel, rfl, by decide +kernel, by decide +kernel⟩
theorem ok_binit {f : Addr} {fd : FuncData} (F : L2.Fun K "__init__" "Band.__init__" sBInit f fd) : FnOk P w K mg base CX0 1 f fd ["self", "stamps"] (spBInit K) := by
  refine F.ok scBInit (fun vs H Q E h => ?_) (fun cdv A outer s H vs Q E hr h => ?_)
  · obtain ⟨a, C, dx, v, rfl, _⟩ := h
    rfl
  · obtain ⟨a, C, dx, v, rfl, ha, hc, hn, q⟩ := h
    exact ⟨_, pss_one (ps_fld (pv 0) (pv 1) (by rfl)), ⟨_, rfl, _, rfl, a, C, dx, [], rfl, ha, hc, hn, by decide, q⟩⟩
def spGet (K : PySem.W.Frag) : Sp := fun vs H Q _ => ∃ (a C dx : Addr) (v : V), vs = [.ref a] ∧ H a = some (.ins C dx [("_stamps", v)]) ∧ Cls K C ∧ NoAttr K C "_stamps" ∧ Q v H
theorem scGet : FnScope ["self"] ["self"] (defScope sStamps) := ⟨rfl, rfl, rfl, by decide +kernel, rfl, by decide +kernel, by decide +kernel⟩
theorem ok_get {f : Addr} {fd : FuncData} (F : L2.Fun K "stamps" "Band.stamps" sStamps f fd) : FnOk P w K mg base CX0 1 f fd ["self"] (spGet K) := by
  refine F.ok scGet (fun vs H Q E h => ?_) (fun cdv A outer s H vs Q E hr h => ?_)
  · obtain ⟨a, C, dx, v, rfl, _⟩ := h
    rfl
  · obtain ⟨a, C, dx, v, rfl, ha, hc, hn, q⟩ := h
    exact ⟨_, pss_one (ps_ret (pe_fld (pv 0) (by rfl))), ⟨_, rfl, a, C, dx, _, _, rfl, ha, hc, hn, rfl, q⟩⟩
/-- what making a band of the i-th class gives -/
def Mades (c : Nat → Addr) (H : Hp) (i : Nat) (ms : V) (Q : VK) : Prop := ∀ a H3, H a = none → Bnd c H3 a i ms → L2.Same H H3 → Q (.ref a) H3
theorem same_new {H : Hp} {p : Addr} {o : HO} (e : H p = none) : L2.Same H (upd H p o) := fun b u hb => (upd_ne (ne_of_none hb e)).trans hb
theorem Mades.make {H : Hp} {i : Nat} {ms : V} {Q : VK} (B : Bds K mg c fB pN gN pS gS) (hi : i < 4) (m : Mades c H i ms Q) {x dx : Addr} (hx : H x = none) (hdx : H dx = none) (hne : dx ≠ x) :
    spBInit K [V.ref x, ms] (upd (upd H dx (.own x)) x (.ins (c i) dx [])) (fun v H2 => v = .non ∧ Q (.ref x) H2) E0 := by
  refine ⟨x, c i, dx, ms, rfl, upd_same, (B.k i hi).cls, (B.k i hi).noS, rfl, m x _ hx ⟨dx, upd_same⟩ fun b o e => ?_⟩
  have hb : b ≠ x := ne_of_none e hx
  have hb2 : b ≠ dx := ne_of_none e hdx
  exact (upd_ne hb).trans ((upd_ne hb).trans ((upd_ne hb2).trans e))
def spNamed (c : Nat → Addr) (DN : Addr) : Sp := fun vs H Q E => ∃ (x : V) (z : Str) (ms : V), vs = [x, .str z, ms] ∧ (∀ i, lab z = some i → Mades c H i ms Q) ∧ (lab z = none → E (.ref DN) none H)
theorem scNamed : FnScope ["cls", "name", "stamps"] ["cls", "name", "stamps"] (defScope sNamed) := ⟨rfl, rfl, rfl, by decide +kernel, rfl, by decide +kernel, by decide +kernel⟩
theorem ok_named {f DN : Addr} {fd fdB : FuncData} (F : L2.Fun K "named" "Band.named" sNamed f fd) (FB : L2.Fun K "__init__" "Band.__init__" sBInit fB fdB) (B : Bds K mg c fB pN gN pS gS) (Er : ErrC K mg "InvalidName" DN) :
    FnOk P w K mg base (L2.CX P w) 3 f fd ["cls", "name", "stamps"] (spNamed c DN) := by
  have FI : FnOk P w K mg base CX0 1 fB fdB ["self", "stamps"] (spBInit K) := ok_binit FB
  have bI : Binds K fdB ["self", "stamps"] [] := FB.binds fun _ _ _ _ _ _ us hl => match us, hl with | [_, _], _ => rfl
  have k0 := B.k 0 (by decide)
  have k1 := B.k 1 (by decide)
  have k2 := B.k 2 (by decide)
  refine F.okX scNamed (fun vs H Q E h => ?_) (fun cdv A outer s H vs Q E hr h => ?_)
  · obtain ⟨x, z, ms, rfl, _⟩ := h
    rfl
  · obtain ⟨x, z, ms, rfl, h1, h2⟩ := h
    obtain ⟨t0, n0⟩ := k0.name
    obtain ⟨t1, n1⟩ := k1.name
    obtain ⟨t2, n2⟩ := k2.name
    refine ⟨_, pss_cons (ps_if (pt_cmpR op_eq (pv 1) (ClX.pe_cval (pe_glob (v := .ref (c 0)) (by rfl) k0.g rfl)) (by rfl)) (pss_one (ps_ret (pe_make k0.mak FI hr (by rfl) k0.g bI .nil L2.pass0 (pa_cons (pv 2) pa_nil)))) pss_nil)
      (pss_cons (ps_if (pt_cmpR op_eq (pv 1) (ClX.pe_cval (pe_glob (v := .ref (c 1)) (by rfl) k1.g rfl)) (by rfl)) (pss_one (ps_ret (pe_make k1.mak FI hr (by rfl) k1.g bI .nil L2.pass0 (pa_cons (pv 2) pa_nil)))) pss_nil)
      (pss_cons (ps_if (pt_cmpR op_eq (pv 1) (ClX.pe_cval (pe_glob (v := .ref (c 2)) (by rfl) k2.g rfl)) (by rfl)) (pss_one (ps_ret (pe_make k2.mak FI hr (by rfl) k2.g bI .nil L2.pass0 (pa_cons (pv 2) pa_nil)))) pss_nil)
      (pss_one (ps_raise rfl (takes_of rfl rfl rfl rfl) (pmk_own PySem.F.excBase_ValueError Er.e Er.g Er.k (raises_own Er.b Er.t) (by rfl)))))), ?_⟩
    have dec : ∀ y : Str, decide (V.str z = V.str y) = decide (z = y) := fun y => by rw [Bool.eq_iff_iff]; simp
    refine ⟨_, rfl, c 0, _, _, _, rfl, k0.rd, n0, rfl, _, rfl, ?_⟩
    rw [dec]
    by_cases z0 : z = "line"
    · refine iteT' (by rw [decide_eq_true_eq]; exact z0) ?_
      refine ⟨_, rfl, fun x dx hx hdx hne => ?_⟩
      exact (h1 0 (by unfold lab; rw [if_pos z0])).make B (by decide) hx hdx hne
    refine iteF' (by rw [decide_eq_false_iff_not]; exact z0) ?_
    refine ⟨_, rfl, c 1, _, _, _, rfl, k1.rd, n1, rfl, _, rfl, ?_⟩
    rw [dec]
    by_cases z1 : z = "window"
    · refine iteT' (by rw [decide_eq_true_eq]; exact z1) ?_
      refine ⟨_, rfl, fun x dx hx hdx hne => ?_⟩
      exact (h1 1 (by unfold lab; rw [if_neg z0, if_pos z1])).make B (by decide) hx hdx hne
    refine iteF' (by rw [decide_eq_false_iff_not]; exact z1) ?_
    refine ⟨_, rfl, c 2, _, _, _, rfl, k2.rd, n2, rfl, _, rfl, ?_⟩
    rw [dec]
    by_cases z2 : z = "ring"
    · refine iteT' (by rw [decide_eq_true_eq]; exact z2) ?_
      refine ⟨_, rfl, fun x dx hx hdx hne => ?_⟩
      exact (h1 2 (by unfold lab; rw [if_neg z0, if_neg z1, if_pos z2])).make B (by decide) hx hdx hne
    refine iteF' (by rw [decide_eq_false_iff_not]; exact z2) ?_
    exact h2 (by unfold lab; rw [if_neg z0, if_neg z1, if_neg z2])
end
end Ov

set_option Elab.async false
set_option linter.all false
set_option maxRecDepth 100000
set_option maxHeartbeats 4000000
namespace Ov
open PySem PySem.Spec PyProof.Rows L2 GxR
/-- the errors that _law_named asks for -/
structure Errs (K : PySem.W.Frag) (mg : Str → Option Value) (DS DN DNum DSt DTx : Addr) : Prop where
  s : mg "StampError" = some (.ref DS)
  n : ErrC K mg "InvalidName" DN
  num : mg "InvalidNumber" = some (.ref DNum)
  st : mg "InvalidStamps" = some (.ref DSt)
  tx : mg "InvalidText" = some (.ref DTx)
  val : mg "ValueError" = none
  isi : mg "isinstance" = none
  ex : PySem.W.exmOne K (.ref DN) (.ref DS) = some true
  c : ExcC K DN
  k1 : PySem.W.kitOne K (.ref DN) (.ref DNum) = some false
  k2 : PySem.W.kitOne K (.ref DN) (.ref DSt) = some false
  k3 : PySem.W.kitOne K (.ref DN) (.ref DTx) = some false
  k4 : PySem.W.kitOne K (.ref DN) (.type "ValueError") = some true
  k5 : PySem.W.kitOne K (.ref DN) (.ref DN) = some true
section
variable {P : Program} {w : World} {K : PySem.W.Frag} {mg : Str → Option Value} {base : Heap} {T : List Addr} {c : Nat → Addr} {C D fLow fText fAre fTape fNext fInks fInit cLow PLow cAre PAre fB pN gN pS gS DS DN DNum DSt DTx : Addr}
abbrev gK (us ws : List Value) : List Value := [us.getD 0 .none, ws.getD 1 .none, ws.getD 0 .none]
abbrev gKV (us ws : List V) : List V := [us.getD 0 .non, ws.getD 1 .non, ws.getD 0 .non]
theorem named_kw {f : Addr} {fd : FuncData} (F : L2.Fun K "named" "Band.named" sNamed f fd) : KBn K fd ["cls", "name", "stamps"] 1 ["stamps", "name"] gK gKV := by
  obtain ⟨oc, od, kV, doc, pm, an, cdv, ct, osl, rfl, lk, hcd⟩ := F.ex
  refine ⟨fun s us ws _ h1 h2 => ?_, fun r1 r2 => .cons (valsGet r1 0) (.cons (valsGet r2 1) (.cons (valsGet r2 0) .nil))⟩
  match us, ws, h1, h2 with
  | [a], [b, e], _, _ => exact BindsTo.of_eq rfl
def spLNamed (c : Nat → Addr) : Sp := fun vs H Q _ => ∃ (door : Int) (z : Str) (ms : V), vs = [.int door, .str z, ms] ∧ (∀ i, lab z = some i → Mades c H i ms Q) ∧ (lab z = none → ∀ H3, L2.Same H H3 → Q .non H3)
theorem scLNamed : FnScope ["door", "label", "made", "e", "odd"] ["door", "label", "made"] (defScope sLNamed) := ⟨rfl, rfl, rfl, by decide +kernel, rfl, by decide +kernel, by decide +kernel⟩
theorem ok_lnamed {f : Addr} {fd fdN fdB : FuncData} (F : L2.Fun K "_law_named" "_law_named" sLNamed f fd) (FN : L2.Fun K "named" "Band.named" sNamed gN fdN) (FB : L2.Fun K "__init__" "Band.__init__" sBInit fB fdB) (B : Bds K mg c fB pN gN pS gS) (Er : Errs K mg DS DN DNum DSt DTx) :
    FnOk P w K mg base CX0 4 f fd ["door", "label", "made"] (spLNamed c) := by
  have F1 : FnOk P w K mg base (L2.CX P w) 3 gN fdN ["cls", "name", "stamps"] (spNamed c DN) := ok_named FN FB B Er.n
  have FR : FnR P w K mg base (L2.CX P w) 3 gN (spNamed c DN) := (F1.raw (FN.binds fun _ _ _ _ _ _ us hl => match us, hl with | [_, _, _], _ => rfl) .nil).imp fun vs H Q E h => by rw [List.append_nil]; exact h
  have k0 := B.k 0 (by decide)
  have k1 := B.k 1 (by decide)
  have k2 := B.k 2 (by decide)
  have k3 := B.k 3 (by decide)
  refine F.ok scLNamed (fun vs H Q E h => ?_) (fun cdv A outer s H vs Q E hr h => ?_)
  · obtain ⟨door, z, ms, rfl, _⟩ := h
    rfl
  · obtain ⟨door, z, ms, rfl, h1, h2⟩ := h
    refine ⟨_, pss_one (ps_try_as (i := 3) (c := .ref DS) rfl rfl scLNamed.nd rfl rfl ⟨rfl, by decide, .inl Er.s⟩ takes0
      (fun W pn xe tk _ => pss_cons (ps_if (pt_cmpR op_eq (pv 0) pe_int (by rfl)) (pss_one (ps_ret (pe_cmethS (pe_glob (v := .ref (c 3)) (by rfl) k3.g rfl) k3.rd k3.nmd FR hr (fun σ => passAt tk σ) (pa_cons (pv 1) (pa_cons (pv 2) pa_nil))))) pss_nil)
        (pss_cons (ps_if (pt_cmpR op_eq (pv 0) pe_int (by rfl)) (pss_one (ps_ret (pe_cmethS (pe_glob (v := .ref (c 0)) (by rfl) k0.g rfl) k0.rd k0.nmd FR hr (fun σ => passAt tk σ) (pa_cons (pv 1) (pa_cons (pv 2) pa_nil))))) pss_nil)
        (pss_cons (ps_if (pt_cmpR op_eq (pv 0) pe_int (by rfl)) (pss_one (ps_ret (pe_cmethS (pe_glob (v := .ref (c 1)) (by rfl) k1.g rfl) k1.rd k1.nmd FR hr (fun σ => passAt tk σ) (pa_cons (pv 1) (pa_cons (pv 2) pa_nil))))) pss_nil)
        (pss_cons (ps_if (pt_cmpR op_eq (pv 0) pe_int (by rfl)) (pss_one (ps_ret (pe_cmethS (pe_glob (v := .ref (c 2)) (by rfl) k2.g rfl) k2.rd k2.nmd FR hr (fun σ => passAt tk σ) (pa_cons (pv 1) (pa_cons (pv 2) pa_nil))))) pss_nil)
        (pss_one (ps_ret (pe_cmethKS (pe_glob (v := .ref (c 3)) (by rfl) k3.g rfl) k3.rd k3.nmd F1 hr (named_kw FN) (fun σ => passAt tk σ) (pk_cons (pv 2) (pk_cons (pv 1) pk_nil)))))))))
      (fun a oe cls d pn hz hf => pss_cons (ps_set (i := 4) scLNamed.nd rfl (.inl rfl) (pe_or (pe_callB (call_isEX hz hf) (by rfl) Er.isi boot_isinstance (pa_cons (pv 3) (pa_cons (pe_tup (pa_cons (pe_glob (v := .ref DNum) (by rfl) Er.num rfl) (pa_cons (pe_glob (v := .ref DSt) (by rfl) Er.st rfl) (pa_cons (pe_glob (v := .ref DTx) (by rfl) Er.tx rfl) pa_nil)))) pa_nil)))
          (pe_one (pe_not (pe_callB (call_isEX hz hf) (by rfl) Er.isi boot_isinstance (pa_cons (pv 3) (pa_cons (pe_bltn (v := .ty "ValueError") (by rfl) Er.val (by decide +kernel) rfl) pa_nil)))))))
        (pss_one (ps_ret (pe_ifExp (pw_and (pt_val (pe_callB (call_isEX hz hf) (by rfl) Er.isi boot_isinstance (pa_cons (pv 3) (pa_cons (pe_glob (v := .ref DN) (by rfl) Er.n.g rfl) pa_nil)))) (pw_and1 (pt_not (pt_val (pv 4))))).pt pe_non pe_int))))), ?_⟩
    have key : ∀ (W : WX), (lab z = none → W (.ref DN) none [some (.int door), some (.str z), some ms, none, none] H) → ∀ x : V, spNamed c DN [x, .str z, ms] H Q (WE W [some (.int door), some (.str z), some ms, none, none]) := fun W hW x => ⟨x, z, ms, rfl, h1, hW⟩
    refine ⟨_, rfl, rfl, _, rfl, ite2 (fun _ => ⟨rfl, _, rfl, _, rfl, key _ ?_ _⟩) (fun _ => ⟨_, rfl, rfl, _, rfl, ite2 (fun _ => ⟨rfl, _, rfl, _, rfl, key _ ?_ _⟩) (fun _ => ⟨_, rfl, rfl, _, rfl, ite2 (fun _ => ⟨rfl, _, rfl, _, rfl, key _ ?_ _⟩)
      (fun _ => ⟨_, rfl, rfl, _, rfl, ite2 (fun _ => ⟨rfl, _, rfl, _, rfl, key _ ?_ _⟩) (fun _ => ⟨rfl, _, rfl, _, rfl, rfl, key _ ?_ _⟩)⟩)⟩)⟩)⟩
    all_goals
      intro hl
      refine ⟨true, Er.ex, fun _ a ha => ?_, fun q => nomatch q⟩
      refine ⟨_, rfl, (by decide : 3 ≤ sizeLine), fun tp htp => ⟨DN, rfl, rfl, Er.c, .inr ⟨tp, _, [.ref DNum, .ref DSt, .ref DTx], false, rfl, upd_same, .cons (.own _) (.cons (.own _) (.cons (.own _) .nil)), kitAny_cons Er.k1 (fun _ => kitAny_cons Er.k2 (fun _ => kitAny_cons Er.k3 (fun _ => kitAny_nil) (fun z => nomatch z)) (fun z => nomatch z)) (fun z => nomatch z), ?_⟩⟩⟩
      refine ⟨false, rfl, iteF ?_⟩
      refine ⟨_, rfl, DN, rfl, rfl, Er.c, .inl ⟨.ty "ValueError", _, true, rfl, .ty _, Er.k4, true, rfl, ?_⟩⟩
      refine ⟨_, rfl, DN, rfl, rfl, Er.c, .inl ⟨.ref DN, _, true, rfl, .own _, Er.k5, true, rfl, iteT ?_⟩⟩
      refine ⟨_, rfl, _, rfl, iteT ?_⟩
      exact h2 hl _ (same_new htp)
end
end Ov

set_option Elab.async false
set_option linter.all false
set_option maxRecDepth 100000
set_option maxHeartbeats 4000000
namespace Ov
open PySem PySem.Spec PyProof.Rows L2 GxR
section
variable {P : Program} {w : World} {K : PySem.W.Frag} {mg : Str → Option Value} {base : Heap} {T : List Addr} {c : Nat → Addr} {C D fLow fText fAre fTape fNext fInks fInit cLow PLow cAre PAre fB pN gN pS gS DS DN DNum DSt DTx fNm fKind fRight : Addr}
structure Top4 (K : PySem.W.Frag) (mg : Str → Option Value) (fNm fKind fRight : Addr) : Prop where
  gNm : mg "_law_named" = some (.ref fNm)
  kNm : PySem.W.keepIn K (.ref fNm) = true
  gKind : mg "_law_kind" = some (.ref fKind)
  kKind : PySem.W.keepIn K (.ref fKind) = true
  gRight : mg "_law_right" = some (.ref fRight)
  kRight : PySem.W.keepIn K (.ref fRight) = true
  enu : mg "enumerate" = none
  rng : mg "range" = none
  isi : mg "isinstance" = none
def kinds (i : Nat) : List Bool := [decide (i = 0), decide (i = 1), decide (i = 2), true]
def spKind (c : Nat → Addr) : Sp := fun vs H Q _ => ∃ (a dx : Addr) (i : Nat) (fs : List (Str × V)), vs = [.ref a] ∧ i < 4 ∧ H a = some (.ins (c i) dx fs) ∧ ∀ l, H l = none → Q (.ref l) (upd H l (.lst ((kinds i).map V.bl)))
theorem scKind : FnScope ["value"] ["value"] (defScope sKind) := ⟨rfl, rfl, rfl, by decide +kernel, rfl, by decide +kernel, by decide +kernel⟩
theorem ok_kind {f : Addr} {fd : FuncData} (F : L2.Fun K "_law_kind" "_law_kind" sKind f fd) (B : Bds K mg c fB pN gN pS gS) (X : Top4 K mg fNm fKind fRight) : FnOk P w K mg base CX0 1 f fd ["value"] (spKind c) := by
  have k0 := B.k 0 (by decide)
  have k1 := B.k 1 (by decide)
  have k2 := B.k 2 (by decide)
  have k3 := B.k 3 (by decide)
  refine F.ok scKind (fun vs H Q E h => ?_) (fun cdv A outer s H vs Q E hr h => ?_)
  · obtain ⟨a, dx, i, fs, rfl, _⟩ := h
    rfl
  · obtain ⟨a, dx, i, fs, rfl, hi, ha, q⟩ := h
    have ki := B.k i hi
    have ty : TyX K H (.ref a) (.ref (c i)) := .base (.ins ha ki.cls ki.ha B.hn B.htk ki.hm)
    refine ⟨_, pss_one (ps_ret (pe_lst (pa_cons (pe_callB call_isi (by rfl) X.isi boot_isinstance (pa_cons (pv 0) (pa_cons (pe_glob (v := .ref (c 0)) (by rfl) k0.g rfl) pa_nil))) (pa_cons (pe_callB call_isi (by rfl) X.isi boot_isinstance (pa_cons (pv 0) (pa_cons (pe_glob (v := .ref (c 1)) (by rfl) k1.g rfl) pa_nil)))
      (pa_cons (pe_callB call_isi (by rfl) X.isi boot_isinstance (pa_cons (pv 0) (pa_cons (pe_glob (v := .ref (c 2)) (by rfl) k2.g rfl) pa_nil))) (pa_cons (pe_callB call_isi (by rfl) X.isi boot_isinstance (pa_cons (pv 0) (pa_cons (pe_glob (v := .ref (c 3)) (by rfl) k3.g rfl) pa_nil))) pa_nil)))))), ?_⟩
    refine ⟨_, rfl, _, _, _, _, _, rfl, .own _, ty, B.kit i 0 hi (by decide), ?_⟩
    refine ⟨_, rfl, _, _, _, _, _, rfl, .own _, ty, B.kit i 1 hi (by decide), ?_⟩
    refine ⟨_, rfl, _, _, _, _, _, rfl, .own _, ty, B.kit i 2 hi (by decide), ?_⟩
    refine ⟨_, rfl, _, _, _, _, _, rfl, .own _, ty, B.kit i 3 hi (by decide), (by decide : 4 ≤ sizeLine), fun l hl => ?_⟩
    have := q l hl
    have e : (kinds i).map V.bl = [V.bl (decide (i = 0 ∨ 0 = 3)), V.bl (decide (i = 1 ∨ 1 = 3)), V.bl (decide (i = 2 ∨ 2 = 3)), V.bl (decide (i = 3 ∨ 3 = 3))] := by
      unfold kinds
      simp
    rw [e] at this
    exact this
def spRight : Sp := fun vs H Q _ => ∃ (m CS dxm : Addr) (fs : List (Str × V)), vs = [.ref m] ∧ H m = some (.ins CS dxm fs) ∧ (∀ H3, L2.Same H H3 → Q (.bl true) H3)
abbrev NRight : List Str := ["made", "bands_here", "spot", "band", "label", "door"]
theorem scRight : FnScope NRight ["made"] (defScope sRight) := ⟨rfl, rfl, rfl, by decide +kernel, rfl, by decide +kernel, by decide +kernel⟩
abbrev gM (us ws : List Value) : List Value := [us.getD 0 .none, ws.getD 0 .none]
abbrev gMV (us ws : List V) : List V := [us.getD 0 .non, ws.getD 0 .non]
theorem binit_kw {f : Addr} {fd : FuncData} (F : L2.Fun K "__init__" "Band.__init__" sBInit f fd) : KBn K fd ["self", "stamps"] 1 ["stamps"] gM gMV := by
  obtain ⟨oc, od, kV, doc, pm, an, cdv, ct, osl, rfl, lk, hcd⟩ := F.ex
  refine ⟨fun s us ws _ h1 h2 => ?_, fun r1 r2 => .cons (valsGet r1 0) (.cons (valsGet r2 0) .nil)⟩
  match us, ws, h1, h2 with
  | [a], [b], _, _ => exact BindsTo.of_eq rfl
theorem Bnd.same {H H' : Hp} {a : Addr} {i : Nat} {ms : V} (b : Bnd c H a i ms) (s : L2.Same H H') : Bnd c H' a i ms := by
  obtain ⟨dx, h⟩ := b
  exact ⟨dx, s _ _ h⟩
theorem cinj (B : Bds K mg c fB pN gN pS gS) {i j : Nat} (hi : i < 4) (hj : j < 4) (e : c i = c j) : i = j := by
  have h1 := B.kit i j hi hj
  have h2 := B.kit j j hj hj
  have h3 := B.kit j i hj hi
  have h4 := B.kit i i hi hi
  rw [e] at h1 h3 h4
  have e1 := Option.some.inj (h1.symm.trans h2)
  have e3 := Option.some.inj (h3.symm.trans h2)
  simp at e1 e3
  omega
theorem Bnd.ne (B : Bds K mg c fB pN gN pS gS) {H : Hp} {a b : Addr} {i j : Nat} {m n : V} (hi : i < 4) (hj : j < 4) (x : Bnd c H a i m) (y : Bnd c H b j n) (hij : i ≠ j) : a ≠ b := fun z => by
  subst z
  obtain ⟨d, h⟩ := x
  obtain ⟨d', h'⟩ := y
  have e := Option.some.inj (h.symm.trans h')
  injection e with q
  exact hij (cinj B hi hj q)
theorem make' (B : Bds K mg c fB pN gN pS gS) {i : Nat} (hi : i < 4) {H : Hp} {ms : V} {x dx : Addr} (hx : H x = none) (hdx : H dx = none) (hne : dx ≠ x) {Q : Hp → Prop} (m : ∀ H3, Bnd c H3 x i ms → L2.Same H H3 → Q H3) :
    spBInit K [V.ref x, ms] (upd (upd H dx (.own x)) x (.ins (c i) dx [])) (fun v H2 => v = .non ∧ Q H2) E0 := by
  refine ⟨x, c i, dx, ms, rfl, upd_same, (B.k i hi).cls, (B.k i hi).noS, rfl, m _ ⟨dx, upd_same⟩ fun b o e => ?_⟩
  have hb : b ≠ x := ne_of_none e hx
  have hb2 : b ≠ dx := ne_of_none e hdx
  exact (upd_ne hb).trans ((upd_ne hb).trans ((upd_ne hb2).trans e))
theorem pair2 (B : Bds K mg c fB pN gN pS gS) {i j : Nat} (hi : i < 4) (hj : j < 4) : Pair2 K (c i) (c j) := ⟨(B.k i hi).eq, (B.k j hj).eq, fun _ => ⟨_, B.sub j i hj hi⟩⟩
theorem kk (i : Nat) : [V.bl (decide (V.int (i : Nat) = V.int 0)), V.bl (decide (V.int (i : Nat) = V.int 1)), V.bl (decide (V.int (i : Nat) = V.int 2)), V.bl true] = (kinds i).map V.bl := by
  have e : ∀ j : Nat, decide (V.int (i : Nat) = V.int (j : Nat)) = decide (i = j) := fun j => by rw [Bool.eq_iff_iff]; simp; omega
  have e0 := e 0
  have e1 := e 1
  have e2 := e 2
  show [V.bl (decide (V.int (i : Nat) = V.int ((0 : Nat) : Int))), V.bl (decide (V.int (i : Nat) = V.int ((1 : Nat) : Int))), V.bl (decide (V.int (i : Nat) = V.int ((2 : Nat) : Int))), V.bl true] = _
  rw [e0, e1, e2]; rfl
theorem kk_dp {H : Hp} (i : Nat) : DpAll K H [V.bl (decide (V.int (i : Nat) = V.int 0)), V.bl (decide (V.int (i : Nat) = V.int 1)), V.bl (decide (V.int (i : Nat) = V.int 2)), V.bl true] ((kinds i).map PyData.bool) := by
  rw [kk]; exact dp_bools _
theorem eqv_k (i : Nat) : PyData.eqv (.list ((kinds i).map PyData.bool)) (.list ((kinds i).map PyData.bool)) = true := eqv_4 _ _ _ _
theorem lab_at {i : Nat} (hi : i < 4) : atI ([.str "line", .str "window", .str "ring", .str ""] : List V) (i : Nat) = some (.str (labN i)) := by
  have : i = 0 ∨ i = 1 ∨ i = 2 ∨ i = 3 := by omega
  rcases this with rfl | rfl | rfl | rfl <;> simp [atI, ixN, labN]
theorem items3 {i : Nat} {x : V} (h : ([.str "line", .str "window", .str "ring"] : List V)[i]? = some x) : i < 3 ∧ x = .str (labN i) ∧ lab (labN i) = some i := by
  match i, h with
  | 0, h => simp at h; exact ⟨by decide, h.symm, by decide +kernel⟩
  | 1, h => simp at h; exact ⟨by decide, h.symm, by decide +kernel⟩
  | 2, h => simp at h; exact ⟨by decide, h.symm, by decide +kernel⟩
  | n + 3, h => simp at h
theorem items4 {b0 b1 b2 b3 : Addr} {i : Nat} {x : V} (h : ([.ref b0, .ref b1, .ref b2, .ref b3] : List V)[i]? = some x) {H : Hp} {ms : V} (h0 : Bnd c H b0 0 ms) (h1 : Bnd c H b1 1 ms) (h2 : Bnd c H b2 2 ms) (h3 : Bnd c H b3 3 ms) :
    i < 4 ∧ (∃ b, x = .ref b ∧ Bnd c H b i ms) ∧ ∃ j b', j < 4 ∧ i ≠ j ∧ Bnd c H b' j ms ∧ atI ([.ref b0, .ref b1, .ref b2, .ref b3] : List V) ((i : Nat) - 1 : Int) = some (.ref b') := by
  match i, h with
  | 0, h => simp at h; exact ⟨by decide, ⟨b0, h.symm, h0⟩, 3, b3, by decide, by decide, h3, by simp [atI, ixN]⟩
  | 1, h => simp at h; exact ⟨by decide, ⟨b1, h.symm, h1⟩, 0, b0, by decide, by decide, h0, by simp [atI, ixN]⟩
  | 2, h => simp at h; exact ⟨by decide, ⟨b2, h.symm, h2⟩, 1, b1, by decide, by decide, h1, by simp [atI, ixN]⟩
  | 3, h => simp at h; exact ⟨by decide, ⟨b3, h.symm, h3⟩, 2, b2, by decide, by decide, h2, by simp [atI, ixN]⟩
  | n + 4, h => simp at h
theorem ok_right {f : Addr} {fd fdB fdS fdK fdNm fdN : FuncData} (F : L2.Fun K "_law_right" "_law_right" sRight f fd) (FB : L2.Fun K "__init__" "Band.__init__" sBInit fB fdB) (FS : L2.Fun K "stamps" "Band.stamps" sStamps gS fdS) (FK : L2.Fun K "_law_kind" "_law_kind" sKind fKind fdK)
    (FNm : L2.Fun K "_law_named" "_law_named" sLNamed fNm fdNm) (FN : L2.Fun K "named" "Band.named" sNamed gN fdN) (B : Bds K mg c fB pN gN pS gS) (X : Top4 K mg fNm fKind fRight) (Er : Errs K mg DS DN DNum DSt DTx) (nq : NoEq2 K C) :
    FnOk P w K mg base CX0 6 f fd ["made"] (fun vs H Q E => spRight vs H Q E ∧ ∃ m dxm fs, vs = [.ref m] ∧ H m = some (.ins C dxm fs)) := by
  have FI : FnOk P w K mg base CX0 1 fB fdB ["self", "stamps"] (spBInit K) := ok_binit FB
  have bI : Binds K fdB ["self", "stamps"] [] := FB.binds fun _ _ _ _ _ _ us hl => match us, hl with | [_, _], _ => rfl
  have FG : FnOk P w K mg base CX0 1 gS fdS ["self"] (spGet K) := ok_get FS
  have bG : Binds K fdS ["self"] [] := FS.binds fun _ _ _ _ _ _ us hl => match us, hl with | [_], _ => rfl
  have KK : FnOk P w K mg base CX0 1 fKind fdK ["value"] (spKind c) := ok_kind FK B X
  have bK : Binds K fdK ["value"] [] := FK.binds fun _ _ _ _ _ _ us hl => match us, hl with | [_], _ => rfl
  have NN : FnOk P w K mg base CX0 4 fNm fdNm ["door", "label", "made"] (spLNamed c) := ok_lnamed FNm FN FB B Er
  have bN : Binds K fdNm ["door", "label", "made"] [] := FNm.binds fun _ _ _ _ _ _ us hl => match us, hl with | [_, _, _], _ => rfl
  have k0 := B.k 0 (by decide)
  have k1 := B.k 1 (by decide)
  have k2 := B.k 2 (by decide)
  have k3 := B.k 3 (by decide)
  refine F.ok scRight (fun vs H Q E h => ?_) (fun cdv A outer s H vs Q E hr h => ?_)
  · obtain ⟨⟨m, CS, dxm, fs, rfl, _⟩, _⟩ := h
    rfl
  · obtain ⟨⟨m, _, _, _, rfl, _, q⟩, m', dxm, fs, em, hm⟩ := h
    cases em
    have hu := hr.units
    have hu1 : (A.deeper (envOfC "_law_right" (defScope sRight) s.heap.objs.size f cdv)).units + 1 < cLine := by omega
    have hu0 : (A.deeper (envOfC "_law_right" (defScope sRight) s.heap.objs.size f cdv)).units < cLine := by omega
    refine ⟨_, pss_cons (ps_set (i := 1) scRight.nd rfl (.inl rfl) (pe_lst (pa_cons (pe_make k0.mak FI (hr.mono (by decide)) (by rfl) k0.g bI .nil L2.pass0 (pa_cons (pv 0) pa_nil)) (pa_cons (pe_make k1.mak FI (hr.mono (by decide)) (by rfl) k1.g bI .nil L2.pass0 (pa_cons (pv 0) pa_nil))
        (pa_cons (pe_make0K k2.mak FI (hr.mono (by decide)) (by rfl) k2.g (binit_kw FB) L2.pass0 (pk_cons (pv 0) pk_nil)) (pa_cons (pe_make k3.mak FI (hr.mono (by decide)) (by rfl) k3.g bI .nil L2.pass0 (pa_cons (pv 0) pa_nil)) pa_nil))))))
      (pss_cons (ps_for PassesOwn.never rfl (pi_enum (by rfl) X.enu (pa_cons (pv 1) pa_nil)) (pg_tup rfl (pgs_cons (pg_name (i := 2) scRight.nd rfl (Or.inl rfl)) (pgs_cons (pg_name (i := 3) scRight.nd rfl (Or.inl rfl)) pgs_nil)))
          (pss_cons (ps_if (pw_or (pt_cmpR (op_neD hu) (pe_call KK (hr.mono (by decide)) (by rfl) X.gKind X.kKind bK .nil L2.pass0 (pa_cons (pv 3) pa_nil)) (pe_lst (pa_cons (pe_cmpR op_eq (pv 2) pe_int (by rfl)) (pa_cons (pe_cmpR op_eq (pv 2) pe_int (by rfl)) (pa_cons (pe_cmpR op_eq (pv 2) pe_int (by rfl)) (pa_cons pe_bl pa_nil))))) (by rfl))
              (pw_or1 (pt_cmpR (op_neS hu1) (pe_propX (p := pS) (pv 3) FG (hr.mono (by decide)) bG .nil L2.pass0) (pv 0) (by rfl)))).pt (pss_one (ps_ret pe_bl)) pss_nil)
          (pss_one (ps_if (pw_or (pt_cmpR op_ne (pe_con (pv 3) (by rfl)) (pe_ix ix_seq (pe_lst (pa_cons pe_str (pa_cons pe_str (pa_cons pe_str (pa_cons pe_str pa_nil))))) (pv 2) fun _ _ => rfl) (by rfl))
              (pw_or (pt_cmpR (op_eqS hu0) (pv 3) (pe_ix ix_seq (pv 1) (pe_op op_sub (pv 2) pe_int) fun _ _ => rfl) (by rfl)) (pw_or1 (pt_not (pt_cmpR (op_eqS hu0) (pv 3) (pv 3) (by rfl)))))).pt (pss_one (ps_ret pe_bl)) pss_nil))))
      (pss_cons (ps_for PassesOwn.never rfl (pi_enum (by rfl) X.enu (pa_cons (pe_lst (pa_cons pe_str (pa_cons pe_str (pa_cons pe_str pa_nil)))) pa_nil)) (pg_tup rfl (pgs_cons (pg_name (i := 2) scRight.nd rfl (Or.inl rfl)) (pgs_cons (pg_name (i := 4) scRight.nd rfl (Or.inl rfl)) pgs_nil)))
          (pss_one (ps_for PassesOwn.never rfl (pi_range1 (by rfl) X.rng (pa_cons pe_int pa_nil)) (pg_name (i := 5) scRight.nd rfl (Or.inl rfl))
            (pss_cons (ps_set (i := 3) scRight.nd rfl (.inl rfl) (pe_call NN (hr.mono (by decide)) (by rfl) X.gNm X.kNm bN .nil L2.pass0 (pa_cons (pv 5) (pa_cons (pv 4) (pa_cons (pv 0) pa_nil)))))
            (pss_cons (ps_if (pw_or (pt_cmpR (op_neD hu) (pe_call KK (hr.mono (by decide)) (by rfl) X.gKind X.kKind bK .nil L2.pass0 (pa_cons (pv 3) pa_nil)) (pe_lst (pa_cons (pe_cmpR op_eq (pv 2) pe_int (by rfl)) (pa_cons (pe_cmpR op_eq (pv 2) pe_int (by rfl)) (pa_cons (pe_cmpR op_eq (pv 2) pe_int (by rfl)) (pa_cons pe_bl pa_nil))))) (by rfl))
              (pw_or1 (pt_cmpR (op_neS hu1) (pe_propX (p := pS) (pv 3) FG (hr.mono (by decide)) bG .nil L2.pass0) (pv 0) (by rfl)))).pt (pss_one (ps_ret pe_bl)) pss_nil)
            (pss_one (ps_if (pw_or (pt_cmpR op_ne (pe_con (pv 3) (by rfl)) (pv 4) (by rfl)) (pw_or1 (pt_cmpR (op_eqS hu0) (pv 3) (pe_call NN (hr.mono (by decide)) (by rfl) X.gNm X.kNm bN .nil L2.pass0 (pa_cons (pv 5) (pa_cons (pv 4) (pa_cons (pv 0) pa_nil)))) (by rfl)))).pt (pss_one (ps_ret pe_bl)) pss_nil)))))))
      (pss_one (ps_ret (pe_cmpR (op_neS hu1) (pe_make k0.mak FI (hr.mono (by decide)) (by rfl) k0.g bI .nil L2.pass0 (pa_cons (pv 0) pa_nil)) (pe_make k0.mak FI (hr.mono (by decide)) (by rfl) k0.g bI .nil L2.pass0 (pa_cons (pv 0) pa_nil)) (by rfl)))))), ?_⟩
    refine ⟨_, rfl, fun b0 dx hx hdx hne => make' B (by decide) hx hdx hne (fun H0 B0 s0 => ?_)⟩
    refine ⟨_, rfl, fun b1 dx hx hdx hne => make' B (by decide) hx hdx hne (fun H1 B1 s1 => ?_)⟩
    refine ⟨_, rfl, rfl, fun b2 dx hx hdx hne => make' B (by decide) hx hdx hne (fun H2 B2 s2 => ?_)⟩
    refine ⟨_, rfl, fun b3 dx hx hdx hne => make' B (by decide) hx hdx hne (fun H3 B3 s3 => ?_)⟩
    refine ⟨(by decide : 4 ≤ sizeLine), fun l hl => ?_⟩
    have B3' := B3.same (same_new (o := .lst [.ref b0, .ref b1, .ref b2, .ref b3]) hl)
    have B2' := B2.same (s3.trans (same_new (o := .lst [.ref b0, .ref b1, .ref b2, .ref b3]) hl))
    have B1' := B1.same (s2.trans (s3.trans (same_new (o := .lst [.ref b0, .ref b1, .ref b2, .ref b3]) hl)))
    have B0' := B0.same (s1.trans (s2.trans (s3.trans (same_new (o := .lst [.ref b0, .ref b1, .ref b2, .ref b3]) hl))))
    have S := s0.trans (s1.trans (s2.trans (s3.trans (same_new (o := .lst [.ref b0, .ref b1, .ref b2, .ref b3]) hl))))
    have hlL : upd H3 l (.lst [.ref b0, .ref b1, .ref b2, .ref b3]) l = some (.lst [.ref b0, .ref b1, .ref b2, .ref b3]) := upd_same
    generalize upd H3 l (.lst [.ref b0, .ref b1, .ref b2, .ref b3]) = HL at B3' B2' B1' B0' S hlL
    refine ⟨_, rfl, l, _, rfl, .inl (.inl hlL), for_enumL (fun i σ H' => (∃ v2 v3, σ = [some (.ref m), some (.ref l), v2, v3, none, none]) ∧ L2.Same HL H') ⟨⟨none, none, rfl⟩, .refl _⟩ (fun i σ H' _ p => .inl (.inl (p.2 _ _ hlL))) (fun i x σ H' T hi p hT => ?_) (fun σ H' p => ?_)⟩
    · obtain ⟨⟨v2, v3, rfl⟩, sm⟩ := p
      obtain ⟨hi4, ⟨b, rfl, hb⟩, j, b', hj4, hij, hb', hat⟩ := items4 hi B0' B1' B2' B3'
      have ki := B.k i hi4
      have sT := sm.trans (same_new (o := .tup [.int (i : Nat), .ref b]) hT)
      refine ⟨T, _, rfl, .inl (.inl upd_same), rfl, ?_⟩
      refine ⟨_, _, rfl, _, _, rfl, rfl, ?_⟩
      obtain ⟨dx, hbx⟩ := hb.same sT
      refine ⟨_, rfl, ⟨b, dx, i, _, rfl, hi4, hbx, fun l1 hl1 => ?_⟩⟩
      refine ⟨_, rfl, rfl, _, rfl, rfl, _, rfl, rfl, (by decide : 4 ≤ sizeLine), fun l2 hl2 => ?_⟩
      have n12 : l1 ≠ l2 := fun z => by rw [← z, upd_same] at hl2; cases hl2
      have s1' := sT.trans (same_new (o := .lst ((kinds i).map V.bl)) hl1)
      refine ⟨.list ((kinds i).map PyData.bool), .list ((kinds i).map PyData.bool), .lst (.inl (.inl ((upd_ne n12).trans upd_same))) (dp_bools _), .lst (.inl (.inl upd_same)) (kk_dp i), shaped_4 _ _ _ _, shaped_4 _ _ _ _, _, rfl, ?_⟩
      refine iteF' (by rw [eqv_k]; rfl) ?_
      have s2' := s1'.trans (same_new (o := .lst [V.bl (decide (V.int (i : Nat) = V.int 0)), V.bl (decide (V.int (i : Nat) = V.int 1)), V.bl (decide (V.int (i : Nat) = V.int 2)), V.bl true]) hl2)
      obtain ⟨dx2, hb2⟩ := hb.same s2'
      have hm2 := s2' _ _ (S _ _ hm)
      refine ⟨_, rfl, b, c i, dx2, _, rfl, ki.cls, ki.prop, hb2, ⟨b, c i, dx2, .ref m, rfl, hb2, ki.cls, ki.noS, ?_⟩⟩
      refine ⟨_, rfl, C, C, ⟨nq, nq, fun z => absurd rfl z⟩, m, m, dxm, dxm, _, _, rfl, rfl, hm2, hm2, _, rfl, ?_⟩
      refine iteF' (by simp) ?_
      obtain ⟨tk, con⟩ := ki.con
      refine ⟨_, rfl, b, c i, dx2, _, _, _, rfl, hb2, ki.cls, con, rfl, (by decide : 4 ≤ sizeLine), fun l3 hl3 => ?_⟩
      refine ⟨_, rfl, .inl ⟨l3, _, (i : Nat), .str (labN i), rfl, rfl, .inl (.inl upd_same), lab_at hi4, rfl, _, rfl, ?_⟩⟩
      refine iteF' (by simp) ?_
      have s3' := s2'.trans (same_new (o := .lst [.str "line", .str "window", .str "ring", .str ""]) hl3)
      obtain ⟨dx3, hb3⟩ := hb.same s3'
      obtain ⟨dx4, hb4⟩ := hb'.same s3'
      refine ⟨_, rfl, _, rfl, _, rfl, _, _, rfl, rfl, .inl ⟨l, _, (i : Nat) - 1, .ref b', rfl, rfl, .inl (.inl (s3' _ _ hlL)), hat, ?_⟩⟩
      refine ⟨c i, c j, pair2 B hi4 hj4, b, b', dx3, dx4, _, _, rfl, rfl, hb3, hb4, _, rfl, ?_⟩
      refine iteF' (decide_eq_false (Bnd.ne B hi4 hj4 hb hb' hij)) ?_
      refine ⟨_, rfl, _, rfl, c i, c i, pair2 B hi4 hi4, b, b, dx3, dx3, _, _, rfl, rfl, hb3, hb3, _, rfl, ?_⟩
      refine iteF' (by simp) ?_
      exact ⟨⟨_, _, rfl⟩, s3'⟩
    · obtain ⟨⟨v2, v3, rfl⟩, sm⟩ := p
      refine ⟨(by decide : 3 ≤ sizeLine), fun l5 hl5 => ?_⟩
      have h5 : upd H' l5 (.lst [.str "line", .str "window", .str "ring"]) l5 = some (.lst [.str "line", .str "window", .str "ring"]) := upd_same
      have SS := S.trans (sm.trans (same_new (o := .lst [.str "line", .str "window", .str "ring"]) hl5))
      generalize upd H' l5 (.lst [.str "line", .str "window", .str "ring"]) = HM at h5 SS
      refine ⟨l5, _, rfl, .inl (.inl h5), for_enumL (fun i σ Hx => (∃ v2 v3 v4 v5, σ = [some (.ref m), some (.ref l), v2, v3, v4, v5]) ∧ L2.Same HM Hx) ⟨⟨_, _, _, _, rfl⟩, .refl _⟩ (fun i σ Hx _ p => .inl (.inl (p.2 _ _ h5))) (fun i x σ Hx T hi p hT => ?_) (fun σ Hx p => ?_)⟩
      · obtain ⟨⟨v2, v3, v4, v5, rfl⟩, sx⟩ := p
        obtain ⟨hi3, rfl, hlab⟩ := items3 hi
        have hi4 : i < 4 := by omega
        have ki := B.k i hi4
        have sT := sx.trans (same_new (o := .tup [.int (i : Nat), .str (labN i)]) hT)
        refine ⟨T, _, rfl, .inl (.inl upd_same), rfl, _, _, rfl, _, _, rfl, rfl, ?_⟩
        refine ⟨5, rfl, by decide, by decide, for_range (lo := 0) (n := 5) (fun k σ Hy => (∃ v3 v5, σ = [some (.ref m), some (.ref l), some (.int (i : Nat)), v3, some (.str (labN i)), v5]) ∧ L2.Same HM Hy) ⟨⟨_, _, rfl⟩, sT⟩ (fun k σ Hy hk p => ?_) (fun σ Hy p => ?_)⟩
        · obtain ⟨⟨v3, v5, rfl⟩, sy⟩ := p
          refine ⟨_, rfl, _, rfl, _, rfl, _, labN i, .ref m, rfl, fun j hj b Hb hb0 Bb sb => ?_, fun hn => by rw [hlab] at hn; cases hn⟩
          obtain rfl : i = j := by rw [hlab] at hj; exact Option.some.inj hj
          have sB := sy.trans sb
          obtain ⟨dx, hbx⟩ := id Bb
          refine ⟨_, rfl, ⟨b, dx, i, _, rfl, hi4, hbx, fun l1 hl1 => ?_⟩⟩
          refine ⟨_, rfl, rfl, _, rfl, rfl, _, rfl, rfl, (by decide : 4 ≤ sizeLine), fun l2 hl2 => ?_⟩
          have n12 : l1 ≠ l2 := fun z => by rw [← z, upd_same] at hl2; cases hl2
          have n1 := same_new (o := .lst ((kinds i).map V.bl)) hl1
          refine ⟨.list ((kinds i).map PyData.bool), .list ((kinds i).map PyData.bool), .lst (.inl (.inl ((upd_ne n12).trans upd_same))) (dp_bools _), .lst (.inl (.inl upd_same)) (kk_dp i), shaped_4 _ _ _ _, shaped_4 _ _ _ _, _, rfl, ?_⟩
          refine iteF' (by rw [eqv_k]; rfl) ?_
          have n2 := n1.trans (same_new (o := .lst [V.bl (decide (V.int (i : Nat) = V.int 0)), V.bl (decide (V.int (i : Nat) = V.int 1)), V.bl (decide (V.int (i : Nat) = V.int 2)), V.bl true]) hl2)
          obtain ⟨dx2, hb2⟩ := Bb.same n2
          have s2' := sB.trans n2
          have hm2 := s2' _ _ (SS _ _ hm)
          refine ⟨_, rfl, b, c i, dx2, _, rfl, ki.cls, ki.prop, hb2, ⟨b, c i, dx2, .ref m, rfl, hb2, ki.cls, ki.noS, ?_⟩⟩
          refine ⟨_, rfl, C, C, ⟨nq, nq, fun z => absurd rfl z⟩, m, m, dxm, dxm, _, _, rfl, rfl, hm2, hm2, _, rfl, ?_⟩
          refine iteF' (by simp) ?_
          obtain ⟨tk, con⟩ := ki.con
          refine ⟨_, rfl, b, c i, dx2, _, _, _, rfl, hb2, ki.cls, con, rfl, _, rfl, rfl, _, rfl, ?_⟩
          refine iteF' (by simp) ?_
          refine ⟨_, rfl, _, rfl, _, rfl, _, rfl, _, labN i, .ref m, rfl, fun j hj b2 Hb2 hb20 Bb2 sb2 => ?_, fun hn => by rw [hlab] at hn; cases hn⟩
          obtain rfl : i = j := by rw [hlab] at hj; exact Option.some.inj hj
          obtain ⟨dx3, hb3⟩ := id Bb2
          have hb4 := sb2 _ _ hb2
          refine ⟨c i, c i, pair2 B hi4 hi4, b, b2, dx2, dx3, _, _, rfl, rfl, hb4, hb3, _, rfl, ?_⟩
          refine iteF' (decide_eq_false fun z => by rw [← z, hb2] at hb20; cases hb20) ?_
          exact ⟨⟨_, _, rfl⟩, s2'.trans sb2⟩
        · obtain ⟨⟨v3, v5, rfl⟩, sy⟩ := p
          exact ⟨⟨_, _, _, _, rfl⟩, sy⟩
      · obtain ⟨⟨v2, v3, v4, v5, rfl⟩, sx⟩ := p
        refine ⟨_, rfl, fun b dx hx hdx hne => make' B (by decide) hx hdx hne (fun H5 B5 s5 => ?_)⟩
        refine ⟨_, rfl, fun b' dx' hx' hdx' hne' => make' B (by decide) hx' hdx' hne' (fun H6 B6 s6 => ?_)⟩
        obtain ⟨e5, h5'⟩ := B5.same s6
        obtain ⟨e6, h6'⟩ := B6
        have ne : b ≠ b' := fun z => by
          obtain ⟨d, hd⟩ := B5
          rw [← z, hd] at hx'
          cases hx'
        refine ⟨c 0, c 0, pair2 B (by decide) (by decide), b, b', e5, e6, _, _, rfl, rfl, h5', h6', ?_⟩
        have := q H6 (SS.trans (sx.trans (s5.trans s6)))
        rw [decide_eq_false ne]
        exact this
end
end Ov

set_option Elab.async false
set_option linter.all false
set_option maxRecDepth 100000
set_option maxHeartbeats 4000000
namespace Ov
open PySem PySem.Spec PyProof.Rows L2 GxR
theorem yes_ok {σ : L2.St} {H : Hp} {R : Bool → Hp → Prop} (h : R true H) : tYes σ H R := h
def rJoin (K : PySem.W.Frag) : V → List V → Hp → VK → Prop := fun x xs H Q => ∃ a p, ∃ ys : List Str, x = .str a ∧ xs = [.ref p] ∧ (SqL K H p (ys.map V.str) ∨ SqT K H p (ys.map V.str)) ∧ (ys.map (·.length)).sum + ys.length * a.length ≤ 16777216 ∧ Q (.str (Txt.join a ys)) H
theorem pe_joinK {X : Cx} {K : PySem.W.Frag} (hK : X.K = K) {o e : Expr} {to te : TE} {apos pos : Pos} (ho : PE X o to) (he : PE X e te) (hs : starEach [e] X.env = [(false, eval e X.env)] := by rfl) (hbase : attributeBase o "join" X.env (eval o X.env) = eval o X.env := by rfl) (hline : (apos.endLine == pos.line) = true := by rfl) :
    PE X (.Call (.Attribute o "join" apos) [e] [] pos) (tM1 (rJoin K) to te) := by
  subst hK
  exact pe_join ho he hs hbase hline
section
variable {P : Program} {w : World} {K : PySem.W.Frag} {mg : Str → Option Value} {base : Heap} {T : List Addr} {c : Nat → Addr} {C D fLow fText fAre fTape fNext fInks fInit cLow PLow cAre PAre fB pN gN pS gS DS DN DNum DSt DTx fNm fKind fRight pO gO : Addr}
theorem Kep.bt {t : Addr} {H H1 H2 : Hp} (hT : ∀ p ∈ T, TabG H p) (k : Kep T H H1) (ht : H t = none) (b : Bt t H1 H2) : Kep T H H2 := by
  refine ⟨fun p hp => ?_, fun a o ha e => b a o (ne_of_none e ht) (k.2 a o ha e)⟩
  obtain ⟨ps, h1, h2⟩ := k.1 p hp
  obtain ⟨ps', h1', _⟩ := hT p hp
  exact ⟨ps, b p _ (ne_of_none h1' ht) h1, h2⟩
theorem Kep.same {H H1 H2 : Hp} (k : Kep T H H1) (s : L2.Same H1 H2) : Kep T H H2 := ⟨fun p hp => by
  obtain ⟨ps, h1, h2⟩ := k.1 p hp
  exact ⟨ps, s _ _ h1, h2⟩, fun a o ha e => s _ _ (k.2 a o ha e)⟩
theorem Tp.notTab {H : Hp} {t : Addr} {n : Nat} (h : Tp H t n) (hT : ∀ p ∈ T, TabG H p) : t ∉ T := by
  obtain ⟨a, b, c, h1, _⟩ := h
  exact not_tab hT h1 fun _ z => by cases z
theorem Tp.kep {H H' : Hp} {t : Addr} {n : Nat} (h : Tp H t n) (hT : ∀ p ∈ T, TabG H p) (k : Kep T H H') : Tp H' t n := by
  have nt := h.notTab hT
  obtain ⟨a, b, c, h1, h2⟩ := h
  exact ⟨a, b, c, k.2 t _ nt h1, h2⟩
theorem Tp.same {H H' : Hp} {t : Addr} {n : Nat} (h : Tp H t n) (k : L2.Same H H') : Tp H' t n := by
  obtain ⟨a, b, c, h1, h2⟩ := h
  exact ⟨a, b, c, k t _ h1, h2⟩
abbrev NLaw : List Str := ["script", "k", "tape", "made", "signs", "drawn", "some", "label", "turn", "spot", "door"]
theorem scLaw : FnScope NLaw ["script"] (defScope sLaw) := ⟨rfl, rfl, rfl, by decide +kernel, rfl, by decide +kernel, by decide +kernel⟩
def spLaw (K : PySem.W.Frag) (T : List Addr) : Sp := fun vs H Q _ => ∃ (a : Addr) (ns : List Int), vs = [.ref a] ∧ (∀ p ∈ T, TabG H p) ∧ SqL K H a (ns.map V.int) ∧ ns.length ≤ 63 ∧ ∀ H', Q (.bl true) H'
theorem inV_lab (z : Str) : inV (.str z) [V.str "line", V.str "window", V.str "ring"] = (lab z).isSome := by
  have e := inV_str z ["line", "window", "ring"]
  have e' : inV (.str z) [V.str "line", V.str "window", V.str "ring"] = inV (.str z) ((["line", "window", "ring"] : List Str).map V.str) := rfl
  rw [e', Bool.eq_iff_iff, e]
  unfold lab
  by_cases h0 : z = "line"
  · rw [if_pos h0]; simp [h0]
  by_cases h1 : z = "window"
  · rw [if_neg h0, if_pos h1]; simp [h1]
  by_cases h2 : z = "ring"
  · rw [if_neg h0, if_neg h1, if_pos h2]; simp [h2]
  rw [if_neg h0, if_neg h1, if_neg h2]; simp [h0, h1, h2]
theorem ok_law {f : Addr} {fd fdO fdI fdA fdT fdL fdTp fdNx fdIn fdR fdB fdS fdK fdNm fdN : FuncData} (F : L2.Fun K "law" "law" sLaw f fd)
    (FO : L2.Fun K "of" "Stamps.of" sOf gO fdO) (FI : L2.Fun K "__init__" "Stamps.__init__" sInit fInit fdI) (FA : FunC K "are_stamps" "are_stamps" sAre fAre fdA cAre) (FT : L2.Fun K "is_text" "is_text" sText fText fdT) (FL : FunC K "is_lowercase" "is_lowercase" sLow fLow fdL cLow)
    (FTp : L2.Fun K "_law_tape" "_law_tape" sTape fTape fdTp) (FNx : L2.Fun K "_law_next" "_law_next" sNext fNext fdNx) (FIn : L2.Fun K "_law_inks" "_law_inks" sInks fInks fdIn)
    (FR : L2.Fun K "_law_right" "_law_right" sRight fRight fdR) (FB : L2.Fun K "__init__" "Band.__init__" sBInit fB fdB) (FS : L2.Fun K "stamps" "Band.stamps" sStamps gS fdS) (FK : L2.Fun K "_law_kind" "_law_kind" sKind fKind fdK)
    (FNm : L2.Fun K "_law_named" "_law_named" sLNamed fNm fdNm) (FN : L2.Fun K "named" "Band.named" sNamed gN fdN)
    (B : Bds K mg c fB pN gN pS gS) (X4 : Top4 K mg fNm fKind fRight) (Er : Errs K mg DS DN DNum DSt DTx) (nq : NoEq2 K C) (X : Txt K mg C fLow fText fAre fTape fNext fInks) (Tb : Tab base mg T cLow PLow cAre PAre) (O : Own K C) (ErS : ErrC K mg "InvalidStamps" D) (M : Mk K C fInit)
    (co : ClX.CMet K C (.type "type") "of" pO gO) : FnOk P w K mg base CX0 10 f fd ["script"] (spLaw K T) := by
  have TT : FnOk P w K mg base CX0 1 fTape fdTp ["script", "k"] (spTape K) := ok_tape FTp X
  have bT : Binds K fdTp ["script", "k"] [] := FTp.binds fun _ _ _ _ _ _ us hl => match us, hl with | [_, _], _ => rfl
  have N1 : FnOk P w K mg base CX0 1 fNext fdNx ["tape", "many"] spNext := ok_next FNx X
  have bN : Binds K fdNx ["tape", "many"] [] := FNx.binds fun _ _ _ _ _ _ us hl => match us, hl with | [_, _], _ => rfl
  have I1 : FnOk P w K mg base CX0 2 fInks fdIn ["tape", "most"] (spInks K) := ok_inks FIn FNx X
  have bI : Binds K fdIn ["tape", "most"] [] := FIn.binds fun _ _ _ _ _ _ us hl => match us, hl with | [_, _], _ => rfl
  have FI1 : FnR P w K mg base (L2.CX P w) 6 fInit (spInit K T C D) := ok_init FI FA FT FL X Tb O ErS
  have OO : FnOk P w K mg base (L2.CX P w) 8 gO fdO ["cls", "words"] (spOf K T C D) := ok_of FO FI1 M X ErS
  have OR : FnR P w K mg base (L2.CX P w) 8 gO (spOf K T C D) := (OO.raw (FO.binds fun _ _ _ _ _ _ us hl => match us, hl with | [_, _], _ => rfl) .nil).imp fun vs H Q E h => by rw [List.append_nil]; exact h
  have RR := ok_right (P := P) (w := w) (base := base) FR FB FS FK FNm FN B X4 Er nq
  have bR : Binds K fdR ["made"] [] := FR.binds fun _ _ _ _ _ _ us hl => match us, hl with | [_], _ => rfl
  have NN : FnOk P w K mg base CX0 4 fNm fdNm ["door", "label", "made"] (spLNamed c) := ok_lnamed FNm FN FB B Er
  have bNm : Binds K fdNm ["door", "label", "made"] [] := FNm.binds fun _ _ _ _ _ _ us hl => match us, hl with | [_, _, _], _ => rfl
  have k0 := B.k 0 (by decide)
  have k1 := B.k 1 (by decide)
  have k2 := B.k 2 (by decide)
  have k3 := B.k 3 (by decide)
  obtain ⟨t0, n0⟩ := k0.name
  obtain ⟨t1, n1⟩ := k1.name
  obtain ⟨t2, n2⟩ := k2.name
  obtain ⟨t3, n3⟩ := k3.name
  refine F.ok scLaw (fun vs H Q E h => ?_) (fun cdv A outer s H vs Q E hr h => ?_)
  · obtain ⟨a, ns, rfl, _⟩ := h
    rfl
  · obtain ⟨a, ns, rfl, hT, hs, hn, q⟩ := h
    have hu := hr.units
    refine ⟨_, pss_cons (ps_for PassesOwn.never rfl (pi_range1 (by rfl) X.rng (pa_cons (pe_callB (call_max2 rfl) (by rfl) X.max boot_max (pa_cons pe_int (pa_cons (pe_callB (call_min2 rfl) (by rfl) X.min boot_min (pa_cons pe_int (pa_cons (pe_callB call_len_seq (by rfl) X.len boot_len (pa_cons (pv 0) pa_nil)) pa_nil))) pa_nil))) pa_nil)) (pg_name (i := 1) scLaw.nd rfl (Or.inl rfl))
        (pss_cons (ps_set (i := 2) scLaw.nd rfl (.inr rfl) (pe_call TT (hr.mono (by decide)) (by rfl) X.gTape X.kTape bT .nil L2.pass0 (pa_cons (pv 0) (pa_cons (pv 1) pa_nil))))
        (pss_cons (ps_set (i := 3) scLaw.nd rfl (.inr rfl) (ClX.pe_cmeth (pe_glob (v := .ref C) (by rfl) X.gC rfl) X.rd co OR (hr.mono (by decide)) passL (pa_cons (pe_call I1 (hr.mono (by decide)) (by rfl) X.gInks X.kInks bI .nil L2.pass0 (pa_cons (pv 2) (pa_cons pe_int pa_nil))) pa_nil)))
        (pss_cons (ps_if (pt_not (pt_val (pe_call RR (hr.mono (by decide)) (by rfl) X4.gRight X4.kRight bR .nil L2.pass0 (pa_cons (pv 3) pa_nil)))) (pss_one (ps_ret pe_bl)) pss_nil)
        (pss_cons (ps_set (i := 4) scLaw.nd rfl (.inr rfl) pe_str)
        (pss_cons (ps_setLc (i := 5) (own := [("turn", 8)]) (g := gName 8) (tt := tYes) rfl scLaw.nd rfl rfl (sw_true rfl rfl rfl (by decide +kernel)) (pi_range1 (by rfl) X.rng (pa_cons pe_int pa_nil)) (blkOk_by (own := [("turn", 8)]) (N := NLaw) (sc := defScope sLaw) (by decide +kernel))
            (fun _ _ _ _ _ => pg_name (i := 8) scLaw.nd rfl (Or.inl rfl)) (fun _ _ _ _ _ => pts_nil)
            (fun s H C cl fp => pe_joinK (K := K) (by rfl) pe_str (pe_lc (own := [("spot", 9)]) (g := gName 9) (tt := tYes) (by rfl) scLaw.nd (pi_range1 (by rfl) X.rng (pa_cons (pe_next N1 bN (hr.mono (by decide)) (by rfl) X.gNext X.kNext (pa_cons (pv 2) (pa_cons pe_int pa_nil))) pa_nil)) (blkOk_by (own := [("spot", 9)]) (N := NLaw) (by rfl))
              (fun _ _ _ _ _ => pg_name (i := 9) scLaw.nd rfl (Or.inl rfl)) (fun _ _ _ _ _ => pts_nil)
              (fun s H C cl fp => pe_ix (show IxR _ (rIx K) from ix_seq) (pv 4) (pe_next N1 bN (hr.mono (by decide)) (by rfl) X.gNext X.kNext (pa_cons (pv 2) (pa_cons pe_int pa_nil))) fun _ _ => rfl))))
        (pss_cons (ps_set (i := 6) scLaw.nd rfl (.inl rfl) (pe_lst (pa_cons pe_str (pa_cons pe_str (pa_cons pe_str (pa_cons pe_str (pa_cons pe_str (pa_cons pe_str (pa_cons pe_str (pa_cons pe_str (pa_cons pe_str (pa_cons pe_str (pa_cons pe_str (pa_cons pe_str pa_nil))))))))))))))
        (pss_one (ps_for PassesOwn.never rfl (pi_list (pe_op op_cat (pe_op op_cat (pv 6) (pe_lst (pa_cons pe_str pa_nil))) (pv 5))) (pg_name (i := 7) scLaw.nd rfl (Or.inr rfl))
          (pss_one (ps_if (pt_cmpR op_notIn_seq (pv 7) (pe_lst (pa_cons pe_str (pa_cons pe_str (pa_cons pe_str pa_nil)))) (by rfl))
            (pss_one (ps_if (pt_cmpR (op_neD hu) (pe_lc (own := [("door", 10)]) (g := gName 10) (tt := tYes) (by rfl) scLaw.nd (pi_range1 (by rfl) X.rng (pa_cons pe_int pa_nil)) (blkOk_by (own := [("door", 10)]) (N := NLaw) (sc := defScope sLaw) (by decide +kernel))
                (fun _ _ _ _ _ => pg_name (i := 10) scLaw.nd rfl (Or.inl rfl)) (fun _ _ _ _ _ => pts_nil)
                (fun s H C cl fp => pe_call NN (hr.mono (by decide)) (by rfl) X4.gNm X4.kNm bNm .nil L2.pass0 (pa_cons (pv 10) (pa_cons (pv 7) (pa_cons (pv 3) pa_nil))))) (pe_op op_rep (pe_lst (pa_cons pe_non pa_nil)) pe_int) (by rfl)) (pss_one (ps_ret pe_bl)) pss_nil)) pss_nil)))))))))))
      (pss_one (ps_ret (pe_cmpR (op_eqD hu) (pe_lst (pa_cons (ClX.pe_cval (pe_glob (v := .ref (c 3)) (by rfl) k3.g rfl)) (pa_cons (ClX.pe_cval (pe_glob (v := .ref (c 0)) (by rfl) k0.g rfl)) (pa_cons (ClX.pe_cval (pe_glob (v := .ref (c 1)) (by rfl) k1.g rfl)) (pa_cons (ClX.pe_cval (pe_glob (v := .ref (c 2)) (by rfl) k2.g rfl)) pa_nil)))))
        (pe_lst (pa_cons pe_str (pa_cons pe_str (pa_cons pe_str (pa_cons pe_str pa_nil))))) (by rfl)))), ?_⟩
    refine ⟨_, rfl, a, _, rfl, .inl hs, _, _, rfl, _, _, rfl, _, rfl, ?_, ?_, ?_⟩
    · rw [List.length_map]; split <;> omega
    · rw [List.length_map]; split <;> (try split) <;> omega
    rw [List.length_map]
    generalize hN : (if (if (ns.length : Int) < 4 then (ns.length : Int) else 4) > 1 then (if (ns.length : Int) < 4 then (ns.length : Int) else 4) else 1) = N
    have N4 : N ≤ 4 := by rw [← hN]; split <;> (try split) <;> omega
    refine for_range (lo := 0) (n := N.toNat) (fun k σ H' => (∃ v1 v2 v3 v4 v5 v6 v7, σ = [some (.ref a), v1, v2, v3, v4, v5, v6, v7, none, none, none]) ∧ Kep T H H') ⟨⟨_, _, _, _, _, _, _, rfl⟩, .refl hT⟩ (fun k σ H' hk p => ?_) (fun σ H' p => ?_)
    · obtain ⟨⟨v1, v2, v3, v4, v5, v6, v7, rfl⟩, kH⟩ := p
      refine ⟨_, rfl, _, rfl, a, ns, _, rfl, kH.seqL hT hs, by omega, by omega, fun t H1 ht tp1 but1 => ?_⟩
      have kB : Kep T H' H1 := Kep.bt kH.1 (.refl kH.1) ht but1.bt
      refine ⟨rfl, _, rfl, t, 8, 0, rfl, tp1, by decide, by decide, by decide, fun l ws H2 hl hl2 sv tp2 bt2 => ?_⟩
      have k2' : Kep T H' H2 := Kep.bt kH.1 kB ht bt2
      have wl : ws.length ≤ 6 := by
        unfold stampsV at sv
        simp only [Bool.and_eq_true, decide_eq_true_eq, List.length_map] at sv
        exact sv.2.1
      have wd : ∀ x ∈ ws.map V.str, Wd K T H2 x := fun x hx => by
        unfold stampsV at sv
        simp only [Bool.and_eq_true] at sv
        have := List.all_eq_true.mp sv.2.2.1 x hx
        obtain ⟨e1, e2⟩ := isTextV_str this
        exact .inl ⟨_, e1, Nat.le_trans e2 (by decide)⟩
      refine ⟨.ref l, rfl, .inl ⟨l, ws.map V.str, rfl, hl2, k2'.1, by rw [List.length_map]; omega, wd, fun _ H3 m l' dx hm hl' hdx hmT hlT st k3' => ?_, fun hf => by rw [sv] at hf; cases hf⟩⟩
      have tp3 : Tp H3 t 60 := tp2.kep k2'.1 k3'
      refine ⟨_, rfl, ⟨⟨m, C, dx, _, rfl, st.1, fun H4 s4 => ?_⟩, m, dx, _, rfl, st.1⟩⟩
      refine ⟨_, rfl, iteF ?_⟩
      have tp4 : Tp H4 t 60 := tp3.same s4
      have k4 : Kep T H' H4 := (k2'.trans k3').same s4
      refine ⟨6, rfl, by decide, by decide, fun Dl hDl => ?_⟩
      have Dlt : Dl ≠ t := (tp4.ne hDl).symm
      refine lc_range (lo := 0) (n := 6) (fun j Hx => ∃ ds : List Str, Hx Dl = some (.lst (ds.map V.str)) ∧ ds.length = j ∧ Tp Hx t (60 + 10 * j) ∧ Bt t H4 Hx) ⟨[], upd_same, rfl, tp4.new hDl, Bt.new hDl⟩ (fun j Hx hj p => ?_) (fun Hx p => ?_)
      · obtain ⟨ds, hdl, hdlen, tpx, btx⟩ := p
        refine ⟨rfl, ?_⟩
        refine yes_ok ?_
        refine iteT' (b := true) rfl ?_
        refine ⟨⟨_, rfl⟩, _, rfl, t, 8, 60 + 10 * j, rfl, tpx, by omega, by decide, by decide, fun d Hy d0 d8 tpy buty => ?_⟩
        refine ⟨d, rfl, by omega, by omega, fun D2 hD2 => ?_⟩
        have D2t : D2 ≠ t := (tpy.ne hD2).symm
        refine lc_range (lo := 0) (n := d.toNat) (fun i Hz => ∃ ys : List Str, Hz D2 = some (.lst (ys.map V.str)) ∧ ys.length = i ∧ (∀ y ∈ ys, y.length = 1) ∧ Tp Hz t (60 + 10 * j + 1 + i) ∧ Bt t Hy Hz) ⟨[], upd_same, rfl, fun y hy => by simp at hy, tpy.new hD2, Bt.new hD2⟩ (fun i Hz hi p => ?_) (fun Hz p => ?_)
        · obtain ⟨ys, hd2, hyl, hy1, tpz, btz⟩ := p
          refine ⟨rfl, ?_⟩
          refine yes_ok ?_
          refine iteT' (b := true) rfl ?_
          refine ⟨_, rfl, _, rfl, t, 16, _, rfl, tpz, by omega, by decide, by decide, fun e Hw e0 e16 tpw butw => ?_⟩
          have hw2 : Hw D2 = some (.lst (ys.map V.str)) := (butw D2 D2t).trans hd2
          have sl16 : ((" abenorilwgdLWR_" : Str).cps.toList).length = 16 := by decide +kernel
          have hk : e.toNat < (" abenorilwgdLWR_" : Str).cps.toList.length := by rw [sl16]; omega
          have ee : e = (e.toNat : Int) := by omega
          have z1 : atI (" abenorilwgdLWR_" : Str).cps.toList (e.toNat : Int) = some (" abenorilwgdLWR_" : Str).cps.toList[e.toNat] := atI_nat (List.getElem?_eq_getElem hk)
          rw [← ee] at z1
          refine .inr (.inr ⟨_, e, _, rfl, rfl, (by decide +kernel : (" abenorilwgdLWR_" : Str).length ≤ sizeLine), z1, ys.map V.str, hw2, by rw [List.length_map, hyl]; exact Nat.lt_of_lt_of_le (by omega : i < 9) (by decide), ys ++ [⟨#[_]⟩], by rw [List.map_append]; exact upd_same, by simp [hyl], fun y hy => ?_, tpw.at (upd_ne D2t.symm), (btz.trans butw.bt).put hD2⟩)
          rcases List.mem_append.mp hy with h | h
          · exact hy1 y h
          · rw [List.mem_singleton.mp h]; rfl
        · obtain ⟨ys, hd2, hyl, hy1, tpz, btz⟩ := p
          have ysum : ∀ ys : List Str, (∀ y ∈ ys, y.length = 1) → (ys.map (·.length)).sum = ys.length := fun ys h => by
            induction ys with
            | nil => rfl
            | cons y r ih =>
              rw [List.map_cons, List.sum_cons, ih fun z hz => h z (List.mem_cons_of_mem _ hz), List.length_cons, h y List.mem_cons_self]
              omega
          refine ⟨"", D2, ys, rfl, rfl, .inl (.inl (.inl hd2)), ?_, ?_⟩
          · rw [ysum ys hy1]
            show ys.length + ys.length * 0 ≤ 16777216
            omega
          have hdl' : Hz Dl = some (.lst (ds.map V.str)) := btz _ _ Dlt ((buty Dl Dlt).trans hdl)
          refine ⟨ds.map V.str, hdl', by rw [List.length_map, hdlen]; exact Nat.lt_of_lt_of_le (by omega : j < 9) (by decide), ds ++ [_], by rw [List.map_append]; exact upd_same, by simp [hdlen], (tpz.at (upd_ne Dlt.symm)).mono (by omega), (btx.trans (buty.bt.trans btz)).put hDl⟩
      · obtain ⟨ds, hdl, hdlen, tpx, btx⟩ := p
        have k5 : Kep T H' Hx := Kep.bt kH.1 k4 ht btx
        have mt : m ≠ t := fun z => by
          obtain ⟨_, _, _, e, _⟩ := tp3
          rw [← z, st.1] at e
          cases e
        have hmx : Hx m = some (.ins C dx [("_words", .ref l')]) := btx _ _ mt (s4 _ _ st.1)
        refine ⟨(by decide : 12 ≤ sizeLine), fun sl hsl => ?_⟩
        have dsl : Dl ≠ sl := ne_of_none hdl hsl
        refine ⟨_, rfl, (by decide : 1 ≤ sizeLine), fun r1 hr1 => ?_⟩
        have slr1 : sl ≠ r1 := ne_of_none upd_same hr1
        refine ⟨sl, r1, _, _, rfl, rfl, (upd_ne slr1).trans upd_same, upd_same, (by decide : 12 + 1 ≤ sizeLine), fun r2 hr2 => ?_⟩
        refine ⟨_, rfl, r2, Dl, _, _, rfl, rfl, upd_same, ((same_new hsl).trans ((same_new hr1).trans (same_new hr2))) _ _ hdl, ?_, fun r3 hr3 => ?_⟩
        · rw [List.length_map, hdlen]; decide
        obtain ⟨zs, hzs⟩ : ∃ zs : List Str, ([V.str "", .str "Line", .str "LINE", .str "line ", .str " line", .str "rings", .str "windo", .str "band", .str "\n", .str "line\n", .str "line_", .str "0"] ++ [V.str "ring window"]) ++ ds.map V.str = zs.map V.str :=
          ⟨(["", "Line", "LINE", "line ", " line", "rings", "windo", "band", "\n", "line\n", "line_", "0", "ring window"] : List Str) ++ ds, by rw [List.map_append]; rfl⟩
        have flat3 : ([V.str "line", V.str "window", V.str "ring"] : List V).all flatV = true := rfl
        refine ⟨r3, rfl, ⟨_, .inl (.inl upd_same)⟩, for_list (xs := zs.map V.str) (fun i σ Hw => (∃ v7, σ = [some (.ref a), some (.int (0 + (k : Nat))), some (.ref t), some (.ref m), some (.str " abenorilwgdLWR_"), some (.ref Dl), some (.ref sl), v7, none, none, none]) ∧ L2.Same Hx Hw ∧ Hw r3 = some (.lst (zs.map V.str)))
          ⟨⟨_, rfl⟩, (same_new hsl).trans ((same_new hr1).trans ((same_new hr2).trans (same_new hr3))), by rw [← hzs]; exact upd_same⟩ (fun i σ Hw _ p => .inl (.inl p.2.2)) (fun i x σ Hw hi p => ?_) (fun σ Hw p => ?_)⟩
        · obtain ⟨⟨v7, rfl⟩, sw, hw3⟩ := p
          obtain ⟨z, rfl⟩ : ∃ z, x = V.str z := by
            obtain ⟨z, _, e⟩ := List.mem_map.mp (List.mem_of_getElem? hi)
            exact ⟨z, e.symm⟩
          refine ⟨_, rfl, (by decide : 3 ≤ sizeLine), fun q3 hq3 => ?_⟩
          refine ⟨q3, _, rfl, .inl (.inl (.inl upd_same)), rfl, flat3, _, rfl, ?_⟩
          rw [inV_lab]
          have sq := same_new (o := .lst [V.str "line", V.str "window", V.str "ring"]) hq3
          cases hlab : lab z with
          | some j => exact iteF ⟨⟨_, rfl⟩, sw.trans sq, sq _ _ hw3⟩
          | none =>
            refine iteT' rfl ?_
            refine ⟨5, rfl, by decide, by decide, fun D5 hD5 => ?_⟩
            refine lc_range (lo := 0) (n := 5) (fun j Hy => Hy D5 = some (.lst (List.replicate j .non)) ∧ L2.Same (upd Hw q3 (.lst [V.str "line", V.str "window", V.str "ring"])) Hy) ⟨upd_same, same_new hD5⟩ (fun j Hy hj p => ?_) (fun Hy p => ?_)
            · obtain ⟨hd5, sy⟩ := p
              refine ⟨rfl, ?_⟩
              refine yes_ok ?_
              refine iteT' (b := true) rfl ?_
              refine ⟨_, rfl, _, rfl, _, rfl, _, z, .ref m, rfl, fun j hj => (by rw [hlab] at hj; cases hj), fun _ Hv sv => ?_⟩
              refine ⟨_, sv _ _ hd5, by rw [List.length_replicate]; exact Nat.lt_of_lt_of_le (by omega : j < 9) (by decide), ?_, ?_⟩
              · rw [List.replicate_succ']; exact upd_same
              · refine fun b o e => ?_
                have e1 := sv _ _ (sy _ _ e)
                exact (upd_ne (ne_of_none e hD5)).trans e1
            · obtain ⟨hd5, sy⟩ := p
              refine ⟨(by decide : 1 ≤ sizeLine), fun l7 hl7 => ⟨l7, 5, _, rfl, rfl, upd_same, by decide, by decide, by decide, fun l8 hl8 => ?_⟩⟩
              have h85 : D5 ≠ l8 := ne_of_none ((same_new hl7) _ _ hd5) hl8
              have h75 : D5 ≠ l7 := ne_of_none hd5 hl7
              refine ⟨.list [.none, .none, .none, .none, .none], .list [.none, .none, .none, .none, .none], .lst (.inl (.inl ((upd_ne h85).trans ((upd_ne h75).trans hd5)))) (.cons .non (.cons .non (.cons .non (.cons .non (.cons .non .nil))))), .lst (.inl (.inl upd_same)) (.cons .non (.cons .non (.cons .non (.cons .non (.cons .non .nil))))), by decide +kernel, by decide +kernel, _, rfl, ?_⟩
              refine iteF' (by decide +kernel) ?_
              exact ⟨⟨_, rfl⟩, sw.trans (sq.trans (sy.trans ((same_new hl7).trans (same_new hl8)))), (sq.trans (sy.trans ((same_new hl7).trans (same_new hl8)))) _ _ hw3⟩
        · obtain ⟨⟨v7, rfl⟩, sw, hw3⟩ := p
          exact ⟨⟨_, _, _, _, _, _, _, rfl⟩, kH.trans (k5.same sw)⟩
    · obtain ⟨⟨v1, v2, v3, v4, v5, v6, v7, rfl⟩, kH⟩ := p
      refine ⟨c 3, _, _, _, rfl, k3.rd, n3, c 0, _, _, _, rfl, k0.rd, n0, c 1, _, _, _, rfl, k1.rd, n1, c 2, _, _, _, rfl, k2.rd, n2, (by decide : 4 ≤ sizeLine), fun l1 hl1 => ⟨(by decide : 4 ≤ sizeLine), fun l2 hl2 => ?_⟩⟩
      have n12 : l1 ≠ l2 := fun z => by rw [← z, upd_same] at hl2; cases hl2
      refine ⟨.list [.str "", .str "line", .str "window", .str "ring"], .list [.str "", .str "line", .str "window", .str "ring"], .lst (.inl (.inl ((upd_ne n12).trans upd_same))) (.cons (.str _) (.cons (.str _) (.cons (.str _) (.cons (.str _) .nil)))), .lst (.inl (.inl upd_same)) (.cons (.str _) (.cons (.str _) (.cons (.str _) (.cons (.str _) .nil)))), by decide +kernel, by decide +kernel, ?_⟩
      have e : PyData.eqv (.list [.str "", .str "line", .str "window", .str "ring"]) (.list [.str "", .str "line", .str "window", .str "ring"]) = true := by decide +kernel
      rw [e]
      exact q _
end
end Ov

set_option Elab.async false
set_option linter.all false
set_option maxRecDepth 100000
set_option maxHeartbeats 4000000
namespace Ov
open PySem PySem.Spec PyProof.Rows L2 GxR
theorem kit_ref {K : PySem.W.Frag} {D C : Addr} {b : Bool} (hi : PySem.W.isClsIn K C = true) (ht : PySem.W.typeIn K (.ref C) = some (.type "type")) (hs : PySem.W.subIn K (.ref D) (.ref C) = some b) (hself : PySem.W.subIn K (.ref C) (.ref C) = some true) : PySem.W.kitOne K (.ref D) (.ref C) = some b := by
  unfold PySem.W.kitOne
  by_cases h : D = C
  · subst h
    rw [hs] at hself
    rw [if_pos (by simp), Option.some.inj hself]
  · rw [if_neg (by simp [h])]
    unfold PySem.W.kitCls
    have hi' : (PySem.W.clsIn K C).isSome = true := hi
    show (if ((PySem.W.clsIn K C).isSome && PySem.W.typeIn K (.ref C) == some (.type "type")) = true then PySem.W.subIn K (.ref D) (.ref C) else none) = some b
    rw [hi', ht, if_pos (by rfl)]
    exact hs
theorem kit_typ {K : PySem.W.Frag} {D : Addr} {T : String} {b : Bool} (hm : PySem.W.kitMeta T = true) (hs : PySem.W.subIn K (.ref D) (.type T) = some b) : PySem.W.kitOne K (.ref D) (.type T) = some b := by
  unfold PySem.W.kitOne
  rw [if_neg (by simp)]
  show (if PySem.W.kitMeta T = true then PySem.W.subIn K (.ref D) (.type T) else none) = some b
  rw [if_pos hm]
  exact hs
theorem tab_mk {K : PySem.W.Frag} {x : Str} {f c P : Addr} {o1 o2 : Value} {d1 d2 : Option Addr} {s1 s2 : Array (Option Value)} {fd : FuncData} {vs : Array Value} (a : PySem.W.nsIn K mainGlobals x = some (some (.ref f))) (l : K.lookup f = some ⟨o1, d1, .func fd, s1⟩) (e : fd.code = .ref c)
    (lc : K.lookup c = some ⟨o2, d2, .fields vs, s2⟩) (v : (vs[11]? : Option Value) = some (.ref P)) : PySem.W.tabIn K x = some (c, P) := by
  unfold PySem.W.tabIn
  simp only [a, l, e, lc, v]
theorem all_mk {P : Program} {w : World} {K : PySem.W.Frag} {h : Heap} {mg : Str → Option Value} {fa fLow cLow PLow fText fAre cAre PAre fTape fNext fInks fNm fKind fRight fLaw C fInit pO gO D DN DS DNum DTx fB pN gN pS gS b0 b1 b2 b3 : Addr} {ocLow kVLow dcLow pmLow ctLow oqLow ocText kVText dcText pmText ctText cdText ocAre kVAre dcAre pmAre ctAre oqAre ocTape kVTape dcTape pmTape ctTape cdTape ocNext kVNext dcNext pmNext ctNext cdNext ocInks kVInks dcInks pmInks ctInks cdInks ocNm kVNm dcNm pmNm ctNm cdNm ocKind kVKind dcKind pmKind ctKind cdKind ocRight kVRight dcRight pmRight ctRight cdRight ocLaw kVLaw dcLaw pmLaw ctLaw cdLaw ocInit kVInit dcInit pmInit ctInit cdInit ocOf kVOf dcOf pmOf ctOf cdOf ocB kVB dcB pmB ctB cdB ocN kVN dcN pmN ctN cdN ocG kVG dcG pmG ctG cdG : Value} {odLow anLow oeLow odText anText odAre anAre oeAre odTape anTape odNext anNext odInks anInks odNm anNm odKind anKind odRight anRight odLaw anLaw odInit anInit odOf anOf odB anB odN anN odG anG : Option Addr} {slLow sqLow slText slAre sqAre slTape slNext slInks slNm slKind slRight slLaw slInit slOf slB slN slG : Array (Option Value)} {tW tM tMost u0 v0 u1 v1 u2 v2 u3 v3 : Tok} {restO restN restS : List Value} {vqLow vqAre : Array Value}
    (X : K.In h) (G : h.Ns mainGlobals mg) (hfa : mg "law" = some (.ref fa)) (q : Program) (tabs : TabsT q K h) (r1 : ((recsOf q).find? (fun e => e.name == ("is_lowercase" : Str))).isSome = true) (r2 : ((recsOf q).find? (fun e => e.name == ("are_stamps" : Str))).isSome = true)
    (aLow : PySem.W.nsIn K mainGlobals "is_lowercase" = some (some (.ref fLow)))
    (lLow : K.lookup fLow = some ⟨ocLow, odLow, .func (PySem.W.fnOf "is_lowercase" "is_lowercase" (defArgs sLow) (defBody sLow) (defScope sLow) .none kVLow dcLow pmLow anLow (.ref cLow) ctLow), slLow⟩)
    (cLow_ : PySem.W.codeIn K (.ref cLow) "is_lowercase" = true)
    (kLow : PySem.W.keepIn K (.ref fLow) = true)
    (tLow : K.lookup cLow = some ⟨oqLow, oeLow, .fields vqLow, sqLow⟩)
    (wLow : (vqLow[11]? : Option Value) = some (.ref PLow))
    (nLow : K.lookup PLow = none)
    (aText : PySem.W.nsIn K mainGlobals "is_text" = some (some (.ref fText)))
    (lText : K.lookup fText = some ⟨ocText, odText, .func (PySem.W.fnOf "is_text" "is_text" (defArgs sText) (defBody sText) (defScope sText) .none kVText dcText pmText anText cdText ctText), slText⟩)
    (cText : PySem.W.codeIn K cdText "is_text" = true)
    (kText : PySem.W.keepIn K (.ref fText) = true)
    (aAre : PySem.W.nsIn K mainGlobals "are_stamps" = some (some (.ref fAre)))
    (lAre : K.lookup fAre = some ⟨ocAre, odAre, .func (PySem.W.fnOf "are_stamps" "are_stamps" (defArgs sAre) (defBody sAre) (defScope sAre) .none kVAre dcAre pmAre anAre (.ref cAre) ctAre), slAre⟩)
    (cAre_ : PySem.W.codeIn K (.ref cAre) "are_stamps" = true)
    (kAre : PySem.W.keepIn K (.ref fAre) = true)
    (tAre : K.lookup cAre = some ⟨oqAre, oeAre, .fields vqAre, sqAre⟩)
    (wAre : (vqAre[11]? : Option Value) = some (.ref PAre))
    (nAre : K.lookup PAre = none)
    (aTape : PySem.W.nsIn K mainGlobals "_law_tape" = some (some (.ref fTape)))
    (lTape : K.lookup fTape = some ⟨ocTape, odTape, .func (PySem.W.fnOf "_law_tape" "_law_tape" (defArgs sTape) (defBody sTape) (defScope sTape) .none kVTape dcTape pmTape anTape cdTape ctTape), slTape⟩)
    (cTape : PySem.W.codeIn K cdTape "_law_tape" = true)
    (kTape : PySem.W.keepIn K (.ref fTape) = true)
    (aNext : PySem.W.nsIn K mainGlobals "_law_next" = some (some (.ref fNext)))
    (lNext : K.lookup fNext = some ⟨ocNext, odNext, .func (PySem.W.fnOf "_law_next" "_law_next" (defArgs sNext) (defBody sNext) (defScope sNext) .none kVNext dcNext pmNext anNext cdNext ctNext), slNext⟩)
    (cNext : PySem.W.codeIn K cdNext "_law_next" = true)
    (kNext : PySem.W.keepIn K (.ref fNext) = true)
    (aInks : PySem.W.nsIn K mainGlobals "_law_inks" = some (some (.ref fInks)))
    (lInks : K.lookup fInks = some ⟨ocInks, odInks, .func (PySem.W.fnOf "_law_inks" "_law_inks" (defArgs sInks) (defBody sInks) (defScope sInks) .none kVInks dcInks pmInks anInks cdInks ctInks), slInks⟩)
    (cInks : PySem.W.codeIn K cdInks "_law_inks" = true)
    (kInks : PySem.W.keepIn K (.ref fInks) = true)
    (aNm : PySem.W.nsIn K mainGlobals "_law_named" = some (some (.ref fNm)))
    (lNm : K.lookup fNm = some ⟨ocNm, odNm, .func (PySem.W.fnOf "_law_named" "_law_named" (defArgs sLNamed) (defBody sLNamed) (defScope sLNamed) .none kVNm dcNm pmNm anNm cdNm ctNm), slNm⟩)
    (cNm : PySem.W.codeIn K cdNm "_law_named" = true)
    (kNm : PySem.W.keepIn K (.ref fNm) = true)
    (aKind : PySem.W.nsIn K mainGlobals "_law_kind" = some (some (.ref fKind)))
    (lKind : K.lookup fKind = some ⟨ocKind, odKind, .func (PySem.W.fnOf "_law_kind" "_law_kind" (defArgs sKind) (defBody sKind) (defScope sKind) .none kVKind dcKind pmKind anKind cdKind ctKind), slKind⟩)
    (cKind : PySem.W.codeIn K cdKind "_law_kind" = true)
    (kKind : PySem.W.keepIn K (.ref fKind) = true)
    (aRight : PySem.W.nsIn K mainGlobals "_law_right" = some (some (.ref fRight)))
    (lRight : K.lookup fRight = some ⟨ocRight, odRight, .func (PySem.W.fnOf "_law_right" "_law_right" (defArgs sRight) (defBody sRight) (defScope sRight) .none kVRight dcRight pmRight anRight cdRight ctRight), slRight⟩)
    (cRight : PySem.W.codeIn K cdRight "_law_right" = true)
    (kRight : PySem.W.keepIn K (.ref fRight) = true)
    (aLaw : PySem.W.nsIn K mainGlobals "law" = some (some (.ref fLaw)))
    (lLaw : K.lookup fLaw = some ⟨ocLaw, odLaw, .func (PySem.W.fnOf "law" "law" (defArgs sLaw) (defBody sLaw) (defScope sLaw) .none kVLaw dcLaw pmLaw anLaw cdLaw ctLaw), slLaw⟩)
    (cLaw : PySem.W.codeIn K cdLaw "law" = true)
    (kLaw : PySem.W.keepIn K (.ref fLaw) = true)
    (z_all : PySem.W.nsIn K mainGlobals "all" = some none)
    (z_len : PySem.W.nsIn K mainGlobals "len" = some none)
    (z_isinstance : PySem.W.nsIn K mainGlobals "isinstance" = some none)
    (z_str : PySem.W.nsIn K mainGlobals "str" = some none)
    (z_list : PySem.W.nsIn K mainGlobals "list" = some none)
    (z_set : PySem.W.nsIn K mainGlobals "set" = some none)
    (z_abs : PySem.W.nsIn K mainGlobals "abs" = some none)
    (z_max : PySem.W.nsIn K mainGlobals "max" = some none)
    (z_min : PySem.W.nsIn K mainGlobals "min" = some none)
    (z_range : PySem.W.nsIn K mainGlobals "range" = some none)
    (z_enumerate : PySem.W.nsIn K mainGlobals "enumerate" = some none)
    (z_ValueError : PySem.W.nsIn K mainGlobals "ValueError" = some none)
    (aWidest : PySem.W.nsIn K mainGlobals "WIDEST" = some (some (.int 8 tW)))
    (aMostL : PySem.W.nsIn K mainGlobals "MOST_LETTERS" = some (some (.int 36 tM)))
    (aC : PySem.W.nsIn K mainGlobals "Stamps" = some (some (.ref C)))
    (rdS : PySem.W.readsIn K C (.type "type") = true)
    (gaS : PySem.W.specialIn K (.ref C) "__getattribute__" = some (some (.builtin "type.__getattribute__")))
    (pgS : PySem.W.plainGet K C Str.empty = true)
    (hdS : PySem.W.hasDictIn K C = true)
    (poS : PySem.W.plainOver K C = true)
    (saS : PySem.W.findIn K (.ref C) "__setattr__" = some (some (.builtin "object.__setattr__")))
    (eqS : PySem.W.findIn K (.ref C) "__eq__" = some (some (.builtin "object.__eq__")))
    (neS : PySem.W.findIn K (.ref C) "__ne__" = some (some (.builtin "object.__ne__")))
    (soS : PySem.W.subIn K (.ref C) (.type "object") = some true)
    (mkS : PySem.W.makesIn K C = true)
    (kcS : PySem.W.keepIn K (.ref C) = true)
    (iInit : PySem.W.findIn K (.ref C) "__init__" = some (some (.ref fInit)))
    (jInit : PySem.W.isFn K (.ref fInit) = true)
    (lInit : K.lookup fInit = some ⟨ocInit, odInit, .func (PySem.W.fnOf "__init__" "Stamps.__init__" (defArgs sInit) (defBody sInit) (defScope sInit) .none kVInit dcInit pmInit anInit cdInit ctInit), slInit⟩)
    (cInit : PySem.W.codeIn K cdInit "Stamps.__init__" = true)
    (kInit : PySem.W.keepIn K (.ref fInit) = true)
    (nW : PySem.W.findIn K (.ref C) "_words" = some none)
    (mst : PySem.W.findCls K (.ref C) (.type "type") "MOST" = some (.val (.int 6 tMost)))
    (oA : PySem.W.findCls K (.ref C) (.type "type") "of" = some (.get (.builtin "classmethod.__get__") (.ref pO) .none (.ref C)))
    (oR : PySem.W.recIn K pO "classmethod" = some (.ref gO :: restO))
    (oF : PySem.W.fnIn K gO = true)
    (lOf : K.lookup gO = some ⟨ocOf, odOf, .func (PySem.W.fnOf "of" "Stamps.of" (defArgs sOf) (defBody sOf) (defScope sOf) .none kVOf dcOf pmOf anOf cdOf ctOf), slOf⟩)
    (cOf : PySem.W.codeIn K cdOf "Stamps.of" = true)
    (kOf : PySem.W.keepIn K (.ref gO) = true)
    (aD : PySem.W.nsIn K mainGlobals "InvalidStamps" = some (some (.ref D)))
    (xD : PySem.W.excIn K D [.type "ValueError", .type "Exception", .type "BaseException", .type "object"] "ValueError.__new__" = true)
    (kkD : PySem.W.keepIn K (.ref D) = true)
    (bD : PySem.W.subIn K (.ref D) (.type "BaseException") = some true)
    (tyD : PySem.W.typeIn K (.ref D) = some (.type "type"))
    (aDN : PySem.W.nsIn K mainGlobals "InvalidName" = some (some (.ref DN)))
    (xDN : PySem.W.excIn K DN [.type "ValueError", .type "Exception", .type "BaseException", .type "object"] "ValueError.__new__" = true)
    (kkDN : PySem.W.keepIn K (.ref DN) = true)
    (bDN : PySem.W.subIn K (.ref DN) (.type "BaseException") = some true)
    (tyDN : PySem.W.typeIn K (.ref DN) = some (.type "type"))
    (aDS : PySem.W.nsIn K mainGlobals "StampError" = some (some (.ref DS)))
    (aDNum : PySem.W.nsIn K mainGlobals "InvalidNumber" = some (some (.ref DNum)))
    (aDTx : PySem.W.nsIn K mainGlobals "InvalidText" = some (some (.ref DTx)))
    (bDS : PySem.W.subIn K (.ref DS) (.type "BaseException") = some true)
    (hDS : PySem.W.hasDictIn K DS = true)
    (tDS : PySem.W.typeIn K (.ref DS) = some (.type "type"))
    (sDN : PySem.W.subIn K (.ref DN) (.ref DS) = some true)
    (e1 : PySem.W.findIn K (.ref DN) "__getattribute__" = some (some (.builtin "BaseException.__getattribute__")))
    (e2 : PySem.W.findIn K (.ref DN) "__getattr__" = some none)
    (e4 : PySem.W.hasDictIn K DN = true)
    (e5 : PySem.W.findIn K (.ref DN) "__class__" = some (some (.builtin "object.__class__")))
    (e6 : PySem.W.specialIn K (.builtin "object.__class__") "__get__" = some (some (.builtin "getset_descriptor.__get__")))
    (e7 : PySem.W.takesIn K (.builtin "object.__class__") = some true)
    (e8 : PySem.W.mroIn K DN (.type "object") = some true)
    (icDNum : PySem.W.isClsIn K DNum = true)
    (tyDNum : PySem.W.typeIn K (.ref DNum) = some (.type "type"))
    (ssDNum : PySem.W.subIn K (.ref DNum) (.ref DNum) = some true)
    (snDNum : PySem.W.subIn K (.ref DN) (.ref DNum) = some false)
    (icD : PySem.W.isClsIn K D = true)
    (ssD : PySem.W.subIn K (.ref D) (.ref D) = some true)
    (snD : PySem.W.subIn K (.ref DN) (.ref D) = some false)
    (icDTx : PySem.W.isClsIn K DTx = true)
    (tyDTx : PySem.W.typeIn K (.ref DTx) = some (.type "type"))
    (ssDTx : PySem.W.subIn K (.ref DTx) (.ref DTx) = some true)
    (snDTx : PySem.W.subIn K (.ref DN) (.ref DTx) = some false)
    (icDN : PySem.W.isClsIn K DN = true)
    (ssDN : PySem.W.subIn K (.ref DN) (.ref DN) = some true)
    (snV : PySem.W.subIn K (.ref DN) (.type "ValueError") = some true)
    (aB0 : PySem.W.nsIn K mainGlobals "Line" = some (some (.ref b0)))
    (rdB0 : PySem.W.readsIn K b0 (.type "type") = true)
    (gaB0 : PySem.W.specialIn K (.ref b0) "__getattribute__" = some (some (.builtin "type.__getattribute__")))
    (pgB0 : PySem.W.plainGet K b0 Str.empty = true)
    (hdB0 : PySem.W.hasDictIn K b0 = true)
    (poB0 : PySem.W.plainOver K b0 = true)
    (saB0 : PySem.W.findIn K (.ref b0) "__setattr__" = some (some (.builtin "object.__setattr__")))
    (eqB0 : PySem.W.findIn K (.ref b0) "__eq__" = some (some (.builtin "object.__eq__")))
    (neB0 : PySem.W.findIn K (.ref b0) "__ne__" = some (some (.builtin "object.__ne__")))
    (soB0 : PySem.W.subIn K (.ref b0) (.type "object") = some true)
    (mkB0 : PySem.W.makesIn K b0 = true)
    (kcB0 : PySem.W.keepIn K (.ref b0) = true)
    (iB0 : PySem.W.findIn K (.ref b0) "__init__" = some (some (.ref fB)))
    (nS0 : PySem.W.findIn K (.ref b0) "_stamps" = some none)
    (nm0 : PySem.W.findCls K (.ref b0) (.type "type") "NAME" = some (.val (.str "line" u0)))
    (cn0 : PySem.W.findIn K (.ref b0) "NAME" = some (some (.str "line" v0)))
    (nd0 : PySem.W.findCls K (.ref b0) (.type "type") "named" = some (.get (.builtin "classmethod.__get__") (.ref pN) .none (.ref b0)))
    (pr0 : PySem.W.findIn K (.ref b0) "stamps" = some (some (.ref pS)))
    (gc0 : PySem.W.specialIn K (.str "line" v0) "__get__" = some none)
    (ic0 : PySem.W.isClsIn K b0 = true)
    (tc0 : PySem.W.typeIn K (.ref b0) = some (.type "type"))
    (hc0 : PySem.W.findIn K (.ref b0) "__class__" = some (some (.builtin "object.__class__")))
    (hm0 : PySem.W.mroIn K b0 (.type "object") = some true)
    (aB1 : PySem.W.nsIn K mainGlobals "Window" = some (some (.ref b1)))
    (rdB1 : PySem.W.readsIn K b1 (.type "type") = true)
    (gaB1 : PySem.W.specialIn K (.ref b1) "__getattribute__" = some (some (.builtin "type.__getattribute__")))
    (pgB1 : PySem.W.plainGet K b1 Str.empty = true)
    (hdB1 : PySem.W.hasDictIn K b1 = true)
    (poB1 : PySem.W.plainOver K b1 = true)
    (saB1 : PySem.W.findIn K (.ref b1) "__setattr__" = some (some (.builtin "object.__setattr__")))
    (eqB1 : PySem.W.findIn K (.ref b1) "__eq__" = some (some (.builtin "object.__eq__")))
    (neB1 : PySem.W.findIn K (.ref b1) "__ne__" = some (some (.builtin "object.__ne__")))
    (soB1 : PySem.W.subIn K (.ref b1) (.type "object") = some true)
    (mkB1 : PySem.W.makesIn K b1 = true)
    (kcB1 : PySem.W.keepIn K (.ref b1) = true)
    (iB1 : PySem.W.findIn K (.ref b1) "__init__" = some (some (.ref fB)))
    (nS1 : PySem.W.findIn K (.ref b1) "_stamps" = some none)
    (nm1 : PySem.W.findCls K (.ref b1) (.type "type") "NAME" = some (.val (.str "window" u1)))
    (cn1 : PySem.W.findIn K (.ref b1) "NAME" = some (some (.str "window" v1)))
    (nd1 : PySem.W.findCls K (.ref b1) (.type "type") "named" = some (.get (.builtin "classmethod.__get__") (.ref pN) .none (.ref b1)))
    (pr1 : PySem.W.findIn K (.ref b1) "stamps" = some (some (.ref pS)))
    (gc1 : PySem.W.specialIn K (.str "window" v1) "__get__" = some none)
    (ic1 : PySem.W.isClsIn K b1 = true)
    (tc1 : PySem.W.typeIn K (.ref b1) = some (.type "type"))
    (hc1 : PySem.W.findIn K (.ref b1) "__class__" = some (some (.builtin "object.__class__")))
    (hm1 : PySem.W.mroIn K b1 (.type "object") = some true)
    (aB2 : PySem.W.nsIn K mainGlobals "Ring" = some (some (.ref b2)))
    (rdB2 : PySem.W.readsIn K b2 (.type "type") = true)
    (gaB2 : PySem.W.specialIn K (.ref b2) "__getattribute__" = some (some (.builtin "type.__getattribute__")))
    (pgB2 : PySem.W.plainGet K b2 Str.empty = true)
    (hdB2 : PySem.W.hasDictIn K b2 = true)
    (poB2 : PySem.W.plainOver K b2 = true)
    (saB2 : PySem.W.findIn K (.ref b2) "__setattr__" = some (some (.builtin "object.__setattr__")))
    (eqB2 : PySem.W.findIn K (.ref b2) "__eq__" = some (some (.builtin "object.__eq__")))
    (neB2 : PySem.W.findIn K (.ref b2) "__ne__" = some (some (.builtin "object.__ne__")))
    (soB2 : PySem.W.subIn K (.ref b2) (.type "object") = some true)
    (mkB2 : PySem.W.makesIn K b2 = true)
    (kcB2 : PySem.W.keepIn K (.ref b2) = true)
    (iB2 : PySem.W.findIn K (.ref b2) "__init__" = some (some (.ref fB)))
    (nS2 : PySem.W.findIn K (.ref b2) "_stamps" = some none)
    (nm2 : PySem.W.findCls K (.ref b2) (.type "type") "NAME" = some (.val (.str "ring" u2)))
    (cn2 : PySem.W.findIn K (.ref b2) "NAME" = some (some (.str "ring" v2)))
    (nd2 : PySem.W.findCls K (.ref b2) (.type "type") "named" = some (.get (.builtin "classmethod.__get__") (.ref pN) .none (.ref b2)))
    (pr2 : PySem.W.findIn K (.ref b2) "stamps" = some (some (.ref pS)))
    (gc2 : PySem.W.specialIn K (.str "ring" v2) "__get__" = some none)
    (ic2 : PySem.W.isClsIn K b2 = true)
    (tc2 : PySem.W.typeIn K (.ref b2) = some (.type "type"))
    (hc2 : PySem.W.findIn K (.ref b2) "__class__" = some (some (.builtin "object.__class__")))
    (hm2 : PySem.W.mroIn K b2 (.type "object") = some true)
    (aB3 : PySem.W.nsIn K mainGlobals "Band" = some (some (.ref b3)))
    (rdB3 : PySem.W.readsIn K b3 (.type "type") = true)
    (gaB3 : PySem.W.specialIn K (.ref b3) "__getattribute__" = some (some (.builtin "type.__getattribute__")))
    (pgB3 : PySem.W.plainGet K b3 Str.empty = true)
    (hdB3 : PySem.W.hasDictIn K b3 = true)
    (poB3 : PySem.W.plainOver K b3 = true)
    (saB3 : PySem.W.findIn K (.ref b3) "__setattr__" = some (some (.builtin "object.__setattr__")))
    (eqB3 : PySem.W.findIn K (.ref b3) "__eq__" = some (some (.builtin "object.__eq__")))
    (neB3 : PySem.W.findIn K (.ref b3) "__ne__" = some (some (.builtin "object.__ne__")))
    (soB3 : PySem.W.subIn K (.ref b3) (.type "object") = some true)
    (mkB3 : PySem.W.makesIn K b3 = true)
    (kcB3 : PySem.W.keepIn K (.ref b3) = true)
    (iB3 : PySem.W.findIn K (.ref b3) "__init__" = some (some (.ref fB)))
    (nS3 : PySem.W.findIn K (.ref b3) "_stamps" = some none)
    (nm3 : PySem.W.findCls K (.ref b3) (.type "type") "NAME" = some (.val (.str "" u3)))
    (cn3 : PySem.W.findIn K (.ref b3) "NAME" = some (some (.str "" v3)))
    (nd3 : PySem.W.findCls K (.ref b3) (.type "type") "named" = some (.get (.builtin "classmethod.__get__") (.ref pN) .none (.ref b3)))
    (pr3 : PySem.W.findIn K (.ref b3) "stamps" = some (some (.ref pS)))
    (gc3 : PySem.W.specialIn K (.str "" v3) "__get__" = some none)
    (ic3 : PySem.W.isClsIn K b3 = true)
    (tc3 : PySem.W.typeIn K (.ref b3) = some (.type "type"))
    (hc3 : PySem.W.findIn K (.ref b3) "__class__" = some (some (.builtin "object.__class__")))
    (hm3 : PySem.W.mroIn K b3 (.type "object") = some true)
    (jB : PySem.W.isFn K (.ref fB) = true)
    (lB : K.lookup fB = some ⟨ocB, odB, .func (PySem.W.fnOf "__init__" "Band.__init__" (defArgs sBInit) (defBody sBInit) (defScope sBInit) .none kVB dcB pmB anB cdB ctB), slB⟩)
    (cB : PySem.W.codeIn K cdB "Band.__init__" = true)
    (kB : PySem.W.keepIn K (.ref fB) = true)
    (nR : PySem.W.recIn K pN "classmethod" = some (.ref gN :: restN))
    (nF : PySem.W.fnIn K gN = true)
    (lN : K.lookup gN = some ⟨ocN, odN, .func (PySem.W.fnOf "named" "Band.named" (defArgs sNamed) (defBody sNamed) (defScope sNamed) .none kVN dcN pmN anN cdN ctN), slN⟩)
    (cN : PySem.W.codeIn K cdN "Band.named" = true)
    (kN : PySem.W.keepIn K (.ref gN) = true)
    (p1 : PySem.W.specialIn K (.ref pS) "__get__" = some (some (.builtin "property.__get__")))
    (p2 : PySem.W.takesIn K (.ref pS) = some true)
    (p3 : PySem.W.recIn K pS "property" = some (.ref gS :: restS))
    (lG : K.lookup gS = some ⟨ocG, odG, .func (PySem.W.fnOf "stamps" "Band.stamps" (defArgs sStamps) (defBody sStamps) (defScope sStamps) .none kVG dcG pmG anG cdG ctG), slG⟩)
    (cG : PySem.W.codeIn K cdG "Band.stamps" = true)
    (kG : PySem.W.keepIn K (.ref gS) = true)
    (sb00 : PySem.W.subIn K (.ref b0) (.ref b0) = some true)
    (sb01 : PySem.W.subIn K (.ref b0) (.ref b1) = some false)
    (sb02 : PySem.W.subIn K (.ref b0) (.ref b2) = some false)
    (sb03 : PySem.W.subIn K (.ref b0) (.ref b3) = some true)
    (sb10 : PySem.W.subIn K (.ref b1) (.ref b0) = some false)
    (sb11 : PySem.W.subIn K (.ref b1) (.ref b1) = some true)
    (sb12 : PySem.W.subIn K (.ref b1) (.ref b2) = some false)
    (sb13 : PySem.W.subIn K (.ref b1) (.ref b3) = some true)
    (sb20 : PySem.W.subIn K (.ref b2) (.ref b0) = some false)
    (sb21 : PySem.W.subIn K (.ref b2) (.ref b1) = some false)
    (sb22 : PySem.W.subIn K (.ref b2) (.ref b2) = some true)
    (sb23 : PySem.W.subIn K (.ref b2) (.ref b3) = some true)
    (sb30 : PySem.W.subIn K (.ref b3) (.ref b0) = some false)
    (sb31 : PySem.W.subIn K (.ref b3) (.ref b1) = some false)
    (sb32 : PySem.W.subIn K (.ref b3) (.ref b2) = some false)
    (sb33 : PySem.W.subIn K (.ref b3) (.ref b3) = some true) (l : PySem.W.OpenLaw) (hl : l.prog = P) :
    LamX.LawAtS l w K CX0 10 63 "script" mg fa h := by
  subst hl
  have e := hfa.symm.trans (PySem.W.mg_of X G aLaw)
  cases e
  have X' : Txt K mg C fLow fText fAre fTape fNext fInks := ⟨PySem.W.mg_none_of X G z_all, PySem.W.mg_none_of X G z_len, PySem.W.mg_none_of X G z_isinstance, PySem.W.mg_none_of X G z_str, PySem.W.mg_none_of X G z_list, PySem.W.mg_none_of X G z_set, PySem.W.mg_none_of X G z_abs, PySem.W.mg_none_of X G z_max, PySem.W.mg_none_of X G z_min, PySem.W.mg_none_of X G z_range,
    PySem.W.mg_of X G aTape, kTape, PySem.W.mg_of X G aNext, kNext, PySem.W.mg_of X G aInks, kInks, PySem.W.mg_of X G aLow, kLow, PySem.W.mg_of X G aText, kText, PySem.W.mg_of X G aAre, kAre, PySem.W.mg_of X G aC, ⟨_, PySem.W.mg_of X G aWidest⟩, ⟨_, PySem.W.mg_of X G aMostL⟩, ⟨rdS, gaS⟩, ⟨_, mst, ⟨_, rfl⟩⟩⟩
  have FLow : FunC K "is_lowercase" "is_lowercase" sLow fLow _ cLow := funC_mk lLow cLow_ kLow
  have FAre : FunC K "are_stamps" "are_stamps" sAre fAre _ cAre := funC_mk lAre cAre_ kAre
  have FText := fun_mk (st := sText) lText cText kText
  have FTape := fun_mk (st := sTape) lTape cTape kTape
  have FNext := fun_mk (st := sNext) lNext cNext kNext
  have FInks := fun_mk (st := sInks) lInks cInks kInks
  have FNm := fun_mk (st := sLNamed) lNm cNm kNm
  have FKind := fun_mk (st := sKind) lKind cKind kKind
  have FRight := fun_mk (st := sRight) lRight cRight kRight
  have FLaw := fun_mk (st := sLaw) lLaw cLaw kLaw
  have FInit := fun_mk (st := sInit) lInit cInit kInit
  have FOf := fun_mk (st := sOf) lOf cOf kOf
  have FB := fun_mk (st := sBInit) lB cB kB
  have FN := fun_mk (st := sNamed) lN cN kN
  have FG := fun_mk (st := sStamps) lG cG kG
  have T1 := tabs _ _ _ r1 (tab_mk aLow lLow rfl tLow wLow)
  have T2 := tabs _ _ _ r2 (tab_mk aAre lAre rfl tAre wAre)
  have Bd : Bds K mg (fun i => match i with | 0 => b0 | 1 => b1 | 2 => b2 | _ => b3) fB pN gN pS gS := by
    refine ⟨fun i hi => ?_, fun i j hi hj => ?_, fun i j hi hj => ?_, e6, e7⟩
    · match i, hi with
      | 0, _ => exact ⟨PySem.W.mg_of X G aB0, ⟨mkB0, iB0, jB, kcB0⟩, ⟨pgB0, hdB0, poB0, saB0⟩, ⟨eqB0, neB0, soB0⟩, nS0, ⟨rdB0, gaB0⟩, ⟨_, nm0, ⟨_, rfl⟩⟩, ⟨_, cn0, ⟨_, rfl⟩, gc0, by decide +kernel⟩, ⟨nd0, ⟨_, nR⟩, nF⟩, ⟨pr0, p1, p2, ⟨_, p3⟩⟩, hc0, hm0⟩
      | 1, _ => exact ⟨PySem.W.mg_of X G aB1, ⟨mkB1, iB1, jB, kcB1⟩, ⟨pgB1, hdB1, poB1, saB1⟩, ⟨eqB1, neB1, soB1⟩, nS1, ⟨rdB1, gaB1⟩, ⟨_, nm1, ⟨_, rfl⟩⟩, ⟨_, cn1, ⟨_, rfl⟩, gc1, by decide +kernel⟩, ⟨nd1, ⟨_, nR⟩, nF⟩, ⟨pr1, p1, p2, ⟨_, p3⟩⟩, hc1, hm1⟩
      | 2, _ => exact ⟨PySem.W.mg_of X G aB2, ⟨mkB2, iB2, jB, kcB2⟩, ⟨pgB2, hdB2, poB2, saB2⟩, ⟨eqB2, neB2, soB2⟩, nS2, ⟨rdB2, gaB2⟩, ⟨_, nm2, ⟨_, rfl⟩⟩, ⟨_, cn2, ⟨_, rfl⟩, gc2, by decide +kernel⟩, ⟨nd2, ⟨_, nR⟩, nF⟩, ⟨pr2, p1, p2, ⟨_, p3⟩⟩, hc2, hm2⟩
      | 3, _ => exact ⟨PySem.W.mg_of X G aB3, ⟨mkB3, iB3, jB, kcB3⟩, ⟨pgB3, hdB3, poB3, saB3⟩, ⟨eqB3, neB3, soB3⟩, nS3, ⟨rdB3, gaB3⟩, ⟨_, nm3, ⟨_, rfl⟩⟩, ⟨_, cn3, ⟨_, rfl⟩, gc3, by decide +kernel⟩, ⟨nd3, ⟨_, nR⟩, nF⟩, ⟨pr3, p1, p2, ⟨_, p3⟩⟩, hc3, hm3⟩
    · match i, j, hi, hj with
      | 0, 0, _, _ => exact kit_ref ic0 tc0 sb00 sb00
      | 0, 1, _, _ => exact kit_ref ic1 tc1 sb01 sb11
      | 0, 2, _, _ => exact kit_ref ic2 tc2 sb02 sb22
      | 0, 3, _, _ => exact kit_ref ic3 tc3 sb03 sb33
      | 1, 0, _, _ => exact kit_ref ic0 tc0 sb10 sb00
      | 1, 1, _, _ => exact kit_ref ic1 tc1 sb11 sb11
      | 1, 2, _, _ => exact kit_ref ic2 tc2 sb12 sb22
      | 1, 3, _, _ => exact kit_ref ic3 tc3 sb13 sb33
      | 2, 0, _, _ => exact kit_ref ic0 tc0 sb20 sb00
      | 2, 1, _, _ => exact kit_ref ic1 tc1 sb21 sb11
      | 2, 2, _, _ => exact kit_ref ic2 tc2 sb22 sb22
      | 2, 3, _, _ => exact kit_ref ic3 tc3 sb23 sb33
      | 3, 0, _, _ => exact kit_ref ic0 tc0 sb30 sb00
      | 3, 1, _, _ => exact kit_ref ic1 tc1 sb31 sb11
      | 3, 2, _, _ => exact kit_ref ic2 tc2 sb32 sb22
      | 3, 3, _, _ => exact kit_ref ic3 tc3 sb33 sb33
    · match i, j, hi, hj with
      | 0, 0, _, _ => exact sb00
      | 0, 1, _, _ => exact sb01
      | 0, 2, _, _ => exact sb02
      | 0, 3, _, _ => exact sb03
      | 1, 0, _, _ => exact sb10
      | 1, 1, _, _ => exact sb11
      | 1, 2, _, _ => exact sb12
      | 1, 3, _, _ => exact sb13
      | 2, 0, _, _ => exact sb20
      | 2, 1, _, _ => exact sb21
      | 2, 2, _, _ => exact sb22
      | 2, 3, _, _ => exact sb23
      | 3, 0, _, _ => exact sb30
      | 3, 1, _, _ => exact sb31
      | 3, 2, _, _ => exact sb32
      | 3, 3, _, _ => exact sb33
  have X4 : Top4 K mg fNm fKind fRight := ⟨PySem.W.mg_of X G aNm, kNm, PySem.W.mg_of X G aKind, kKind, PySem.W.mg_of X G aRight, kRight, PySem.W.mg_none_of X G z_enumerate, PySem.W.mg_none_of X G z_range, PySem.W.mg_none_of X G z_isinstance⟩
  have Er : Errs K mg DS DN DNum D DTx := ⟨PySem.W.mg_of X G aDS, ⟨xDN, PySem.W.mg_of X G aDN, kkDN, bDN, tyDN⟩, PySem.W.mg_of X G aDNum, PySem.W.mg_of X G aD, PySem.W.mg_of X G aDTx, PySem.W.mg_none_of X G z_ValueError, PySem.W.mg_none_of X G z_isinstance, PySem.W.exm_ref bDS hDS tDS sDN, ⟨e1, e2, bDN, e4, e5, e6, e7, e8⟩, kit_ref icDNum tyDNum snDNum ssDNum, kit_ref icD tyD snD ssD, kit_ref icDTx tyDTx snDTx ssDTx, kit_typ (by decide +kernel) snV, kit_ref icDN tyDN ssDN ssDN⟩
  refine ⟨PySem.W.fnOf "law" "law" (defArgs sLaw) (defBody sLaw) (defScope sLaw) .none kVLaw dcLaw pmLaw anLaw cdLaw ctLaw, [(cLow, PLow), (cAre, PAre)], spLaw K [PLow, PAre], fun p hp => ?_, fun p hp => ?_, fun p hp => ?_, fun s u => .of_eq rfl, fun H a ns hn _ hH hS => ?_, fun base KB GB TB => ?_⟩
  · rcases List.mem_cons.mp hp with rfl | hp
    · exact T1.2
    · rw [List.mem_singleton.mp hp]; exact T2.2
  · rcases List.mem_cons.mp hp with rfl | hp
    · exact nLow
    · rw [List.mem_singleton.mp hp]; exact nAre
  · rcases List.mem_cons.mp hp with rfl | hp
    · exact T1.1
    · rw [List.mem_singleton.mp hp]; exact T2.1
  · refine ⟨a, ns, rfl, fun p hp => ?_, hS, hn, fun _ => rfl⟩
    have tr : TriplesOk (#[] : Array Value).toList := by first | trivial | simp [TriplesOk] | exact ⟨⟩
    rcases List.mem_cons.mp hp with rfl | hp
    · exact ⟨#[], hH (cLow, _) (by simp), tr⟩
    · rw [List.mem_singleton.mp hp]; exact ⟨#[], hH (cAre, PAre) (by simp), tr⟩
  · have Tb : Tab base mg [PLow, PAre] cLow PLow cAre PAre := ⟨(fun (z : LamX.TabB base mg cLow PLow) => ⟨z.code, z.bm, z.gP⟩) (TB (cLow, PLow) (by simp)), (fun (z : LamX.TabB base mg cAre PAre) => ⟨z.code, z.bm, z.gP⟩) (TB (cAre, PAre) (by simp)), by simp, by simp⟩
    exact ok_law FLaw FOf FInit FAre FText FLow FTape FNext FInks FRight FB FG FKind FNm FN Bd X4 Er ⟨eqS, neS, soS⟩ X' Tb ⟨⟨pgS, hdS, poS, saS⟩, nW⟩ ⟨xD, PySem.W.mg_of X G aD, kkD, bD, tyD⟩ ⟨mkS, iInit, jInit, kcS⟩ ⟨oA, ⟨_, oR⟩, oF⟩
end Ov

set_option Elab.async false
set_option linter.all false
open PySem PySem.W PyProof.Rows
set_option maxRecDepth 100000 in
set_option maxHeartbeats 0 in
theorem PySem.Challenge.cw_overstamps_k04_bands_by_name_holds : PySem.Challenge.rw_overstamps_k04_bands_by_name.Holds := by
  w_on; o_law; k_head; (case hw => w_witness2)
  k_fill
  refine Ov.walk_T (l := PySem.Challenge.rw_overstamps_k04_bands_by_name) (n := 63) (k := 10) (x := "script") rfl (by decide) rfl ⟨rfl, by decide, by decide⟩ (fun w h Y => PySem.W.kIn_of Y) ?F
  case F =>
    intro w mg fa h Y KX G hmg tabs
    refine' Ov.all_mk KX G hmg _ tabs ?r1 ?r2 ?aLow ?lLow ?cLow_ ?kLow ?tLow ?wLow ?nLow ?aText ?lText ?cText ?kText ?aAre ?lAre ?cAre_ ?kAre ?tAre ?wAre ?nAre ?aTape ?lTape ?cTape ?kTape ?aNext ?lNext ?cNext ?kNext ?aInks ?lInks ?cInks ?kInks ?aNm ?lNm ?cNm ?kNm ?aKind ?lKind ?cKind ?kKind ?aRight ?lRight ?cRight ?kRight ?aLaw ?lLaw ?cLaw ?kLaw ?z_all ?z_len ?z_isinstance ?z_str ?z_list ?z_set ?z_abs ?z_max ?z_min ?z_range ?z_enumerate ?z_ValueError ?aWidest ?aMostL ?aC ?rdS ?gaS ?pgS ?hdS ?poS ?saS ?eqS ?neS ?soS ?mkS ?kcS ?iInit ?jInit ?lInit ?cInit ?kInit ?nW ?mst ?oA ?oR ?oF ?lOf ?cOf ?kOf ?aD ?xD ?kkD ?bD ?tyD ?aDN ?xDN ?kkDN ?bDN ?tyDN ?aDS ?aDNum ?aDTx ?bDS ?hDS ?tDS ?sDN ?e1 ?e2 ?e4 ?e5 ?e6 ?e7 ?e8 ?icDNum ?tyDNum ?ssDNum ?snDNum ?icD ?ssD ?snD ?icDTx ?tyDTx ?ssDTx ?snDTx ?icDN ?ssDN ?snV ?aB0 ?rdB0 ?gaB0 ?pgB0 ?hdB0 ?poB0 ?saB0 ?eqB0 ?neB0 ?soB0 ?mkB0 ?kcB0 ?iB0 ?nS0 ?nm0 ?cn0 ?nd0 ?pr0 ?gc0 ?ic0 ?tc0 ?hc0 ?hm0 ?aB1 ?rdB1 ?gaB1 ?pgB1 ?hdB1 ?poB1 ?saB1 ?eqB1 ?neB1 ?soB1 ?mkB1 ?kcB1 ?iB1 ?nS1 ?nm1 ?cn1 ?nd1 ?pr1 ?gc1 ?ic1 ?tc1 ?hc1 ?hm1 ?aB2 ?rdB2 ?gaB2 ?pgB2 ?hdB2 ?poB2 ?saB2 ?eqB2 ?neB2 ?soB2 ?mkB2 ?kcB2 ?iB2 ?nS2 ?nm2 ?cn2 ?nd2 ?pr2 ?gc2 ?ic2 ?tc2 ?hc2 ?hm2 ?aB3 ?rdB3 ?gaB3 ?pgB3 ?hdB3 ?poB3 ?saB3 ?eqB3 ?neB3 ?soB3 ?mkB3 ?kcB3 ?iB3 ?nS3 ?nm3 ?cn3 ?nd3 ?pr3 ?gc3 ?ic3 ?tc3 ?hc3 ?hm3 ?jB ?lB ?cB ?kB ?nR ?nF ?lN ?cN ?kN ?p1 ?p2 ?p3 ?lG ?cG ?kG ?sb00 ?sb01 ?sb02 ?sb03 ?sb10 ?sb11 ?sb12 ?sb13 ?sb20 ?sb21 ?sb22 ?sb23 ?sb30 ?sb31 ?sb32 ?sb33 PySem.Challenge.rw_overstamps_k04_bands_by_name rfl
    (case aLow => k_is)
    (case lLow => k_is)
    (case cLow_ => k_is)
    (case kLow => k_is)
    (case tLow => k_is)
    (case wLow => rfl)
    (case nLow => first | k_is | rfl)
    (case aText => k_is)
    (case lText => k_is)
    (case cText => k_is)
    (case kText => k_is)
    (case aAre => k_is)
    (case lAre => k_is)
    (case cAre_ => k_is)
    (case kAre => k_is)
    (case tAre => k_is)
    (case wAre => rfl)
    (case nAre => first | k_is | rfl)
    (case aTape => k_is)
    (case lTape => k_is)
    (case cTape => k_is)
    (case kTape => k_is)
    (case aNext => k_is)
    (case lNext => k_is)
    (case cNext => k_is)
    (case kNext => k_is)
    (case aInks => k_is)
    (case lInks => k_is)
    (case cInks => k_is)
    (case kInks => k_is)
    (case aNm => k_is)
    (case lNm => k_is)
    (case cNm => k_is)
    (case kNm => k_is)
    (case aKind => k_is)
    (case lKind => k_is)
    (case cKind => k_is)
    (case kKind => k_is)
    (case aRight => k_is)
    (case lRight => k_is)
    (case cRight => k_is)
    (case kRight => k_is)
    (case aLaw => k_is)
    (case lLaw => k_is)
    (case cLaw => k_is)
    (case kLaw => k_is)
    (case z_all => k_is)
    (case z_len => k_is)
    (case z_isinstance => k_is)
    (case z_str => k_is)
    (case z_list => k_is)
    (case z_set => k_is)
    (case z_abs => k_is)
    (case z_max => k_is)
    (case z_min => k_is)
    (case z_range => k_is)
    (case z_enumerate => k_is)
    (case z_ValueError => k_is)
    (case aWidest => k_is)
    (case aMostL => k_is)
    (case aC => k_is)
    (case rdS => k_is)
    (case gaS => k_is)
    (case pgS => k_is)
    (case hdS => k_is)
    (case poS => k_is)
    (case saS => k_is)
    (case eqS => k_is)
    (case neS => k_is)
    (case soS => k_is)
    (case mkS => k_is)
    (case kcS => k_is)
    (case iInit => k_is)
    (case jInit => k_is)
    (case lInit => k_is)
    (case cInit => k_is)
    (case kInit => k_is)
    (case nW => k_is)
    (case mst => k_is)
    (case oA => k_is)
    (case oR => k_is)
    (case oF => k_is)
    (case lOf => k_is)
    (case cOf => k_is)
    (case kOf => k_is)
    (case aD => k_is)
    (case xD => k_exc)
    (case kkD => k_is)
    (case bD => k_is)
    (case tyD => k_is)
    (case aDN => k_is)
    (case xDN => k_exc)
    (case kkDN => k_is)
    (case bDN => k_is)
    (case tyDN => k_is)
    (case aDS => k_is)
    (case aDNum => k_is)
    (case aDTx => k_is)
    (case bDS => k_is)
    (case hDS => k_is)
    (case tDS => k_is)
    (case sDN => k_is)
    (case e1 => k_is)
    (case e2 => k_is)
    (case e4 => k_is)
    (case e5 => k_is)
    (case e6 => k_is)
    (case e7 => k_is)
    (case e8 => k_is)
    (case icDNum => k_is)
    (case tyDNum => k_is)
    (case ssDNum => k_is)
    (case snDNum => k_is)
    (case icD => k_is)
    (case ssD => k_is)
    (case snD => k_is)
    (case icDTx => k_is)
    (case tyDTx => k_is)
    (case ssDTx => k_is)
    (case snDTx => k_is)
    (case icDN => k_is)
    (case ssDN => k_is)
    (case snV => k_is)
    (case aB0 => k_is)
    (case rdB0 => k_is)
    (case gaB0 => k_is)
    (case pgB0 => k_is)
    (case hdB0 => k_is)
    (case poB0 => k_is)
    (case saB0 => k_is)
    (case eqB0 => k_is)
    (case neB0 => k_is)
    (case soB0 => k_is)
    (case mkB0 => k_is)
    (case kcB0 => k_is)
    (case iB0 => k_is)
    (case nS0 => k_is)
    (case nm0 => k_is)
    (case cn0 => k_is)
    (case nd0 => k_is)
    (case pr0 => k_is)
    (case gc0 => k_is)
    (case ic0 => k_is)
    (case tc0 => k_is)
    (case hc0 => k_is)
    (case hm0 => k_is)
    (case aB1 => k_is)
    (case rdB1 => k_is)
    (case gaB1 => k_is)
    (case pgB1 => k_is)
    (case hdB1 => k_is)
    (case poB1 => k_is)
    (case saB1 => k_is)
    (case eqB1 => k_is)
    (case neB1 => k_is)
    (case soB1 => k_is)
    (case mkB1 => k_is)
    (case kcB1 => k_is)
    (case iB1 => k_is)
    (case nS1 => k_is)
    (case nm1 => k_is)
    (case cn1 => k_is)
    (case nd1 => k_is)
    (case pr1 => k_is)
    (case gc1 => k_is)
    (case ic1 => k_is)
    (case tc1 => k_is)
    (case hc1 => k_is)
    (case hm1 => k_is)
    (case aB2 => k_is)
    (case rdB2 => k_is)
    (case gaB2 => k_is)
    (case pgB2 => k_is)
    (case hdB2 => k_is)
    (case poB2 => k_is)
    (case saB2 => k_is)
    (case eqB2 => k_is)
    (case neB2 => k_is)
    (case soB2 => k_is)
    (case mkB2 => k_is)
    (case kcB2 => k_is)
    (case iB2 => k_is)
    (case nS2 => k_is)
    (case nm2 => k_is)
    (case cn2 => k_is)
    (case nd2 => k_is)
    (case pr2 => k_is)
    (case gc2 => k_is)
    (case ic2 => k_is)
    (case tc2 => k_is)
    (case hc2 => k_is)
    (case hm2 => k_is)
    (case aB3 => k_is)
    (case rdB3 => k_is)
    (case gaB3 => k_is)
    (case pgB3 => k_is)
    (case hdB3 => k_is)
    (case poB3 => k_is)
    (case saB3 => k_is)
    (case eqB3 => k_is)
    (case neB3 => k_is)
    (case soB3 => k_is)
    (case mkB3 => k_is)
    (case kcB3 => k_is)
    (case iB3 => k_is)
    (case nS3 => k_is)
    (case nm3 => k_is)
    (case cn3 => k_is)
    (case nd3 => k_is)
    (case pr3 => k_is)
    (case gc3 => k_is)
    (case ic3 => k_is)
    (case tc3 => k_is)
    (case hc3 => k_is)
    (case hm3 => k_is)
    (case jB => k_is)
    (case lB => k_is)
    (case cB => k_is)
    (case kB => k_is)
    (case nR => k_is)
    (case nF => k_is)
    (case lN => k_is)
    (case cN => k_is)
    (case kN => k_is)
    (case p1 => k_is)
    (case p2 => k_is)
    (case p3 => k_is)
    (case lG => k_is)
    (case cG => k_is)
    (case kG => k_is)
    (case sb00 => k_is)
    (case sb01 => k_is)
    (case sb02 => k_is)
    (case sb03 => k_is)
    (case sb10 => k_is)
    (case sb11 => k_is)
    (case sb12 => k_is)
    (case sb13 => k_is)
    (case sb20 => k_is)
    (case sb21 => k_is)
    (case sb22 => k_is)
    (case sb23 => k_is)
    (case sb30 => k_is)
    (case sb31 => k_is)
    (case sb32 => k_is)
    (case sb33 => k_is)
    (case r1 => decide +kernel)
    (case r2 => decide +kernel)
