import PyProof.Rows.All
import Wide.All
import OpenK.AllK
import Wide.FinOn
import HandS.ForMost
import HandS.Flow
import HandS.IsInst
import HandS.Zip
import HandS.Wide
import HandS.TupAny
import HandS.TupLe
import HandS.Sort
import HandS.SortInts
import HandS.Evl
import HandS.Defaults
import HandS.Exc
import HandS.WordsExc
import HandS.Head0
import HandS.Head1
import HandS.Head2
import HandS.HeadEnd
import HandS.HeadHook1
import HandS.HeadHook2
import HandS.HeadHook4
import HandS.Star
import HandS.Set
import HandS.Strs
import HandS.SetFor
import PyProof.Rows.SortShellAny
import HandS.Style
import PySem.Challenge.RW_forkyields_k66_events
set_option Elab.async false
set_option linter.all false
set_option maxRecDepth 100000
set_option maxHeartbeats 4000000
namespace Z
open PySem PySem.Spec PyProof.Rows L2 Evl

mutual
/-- data, its lists tracked -/
inductive Rp (K : PySem.W.Frag) (H : Hp) : V → PyData → Prop
  | non : Rp K H .non .none
  | bl (b : Bool) : Rp K H (.bl b) (.bool b)
  | int (i : Int) : Rp K H (.int i) (.int i)
  | str (x : Str) : Rp K H (.str x) (.str x)
  | lst {a : Addr} {xs : List V} {ds : List PyData} : H a = some (.lst xs) → RpAll K H xs ds → Rp K H (.ref a) (.list ds)
  | tup {a : Addr} {xs : List V} {ds : List PyData} : SqT K H a xs → RpAll K H xs ds → Rp K H (.ref a) (.tuple ds)
inductive RpAll (K : PySem.W.Frag) (H : Hp) : List V → List PyData → Prop
  | nil : RpAll K H [] []
  | cons {v : V} {vs : List V} {d : PyData} {ds : List PyData} : Rp K H v d → RpAll K H vs ds → RpAll K H (v :: vs) (d :: ds)
end
mutual
theorem Rp.dp {K : PySem.W.Frag} {F : Hp} : ∀ (d : PyData) (v : V), Rp K F v d → Dp K F v d
  | .none, _, h => by cases h; exact .non
  | .bool b, _, h => by cases h; exact .bl b
  | .int i, _, h => by cases h; exact .int i
  | .str x, _, h => by cases h; exact .str x
  | .list ds, _, h => by
    cases h with
    | lst hs ha => exact .lst (.inl (.inl hs)) (RpAll.dp ds _ ha)
  | .tuple ds, _, h => by
    cases h with
    | tup hs ha => exact .tup hs (RpAll.dp ds _ ha)
  | .dict _, _, h => by cases h
theorem RpAll.dp {K : PySem.W.Frag} {F : Hp} : ∀ (ds : List PyData) (vs : List V), RpAll K F vs ds → DpAll K F vs ds
  | [], _, h => by cases h; exact .nil
  | d :: ds, _, h => by
    cases h with
    | cons h1 h2 => exact .cons (Rp.dp d _ h1) (RpAll.dp ds _ h2)
end
mutual
theorem dp_ex {K : PySem.W.Frag} {F F' : Hp} (e : Ex F F') : ∀ (d : PyData) (v : V), Rp K F v d → Rp K F' v d
  | .none, _, h => by cases h; exact .non
  | .bool b, _, h => by cases h; exact .bl b
  | .int i, _, h => by cases h; exact .int i
  | .str x, _, h => by cases h; exact .str x
  | .list ds, _, h => by
    cases h with
    | lst hs ha => exact .lst (e _ _ hs) (dpAll_ex e ds _ ha)
  | .tuple ds, _, h => by
    cases h with
    | tup hs ha => exact .tup (ex_t e hs) (dpAll_ex e ds _ ha)
  | .dict _, _, h => by cases h
theorem dpAll_ex {K : PySem.W.Frag} {F F' : Hp} (e : Ex F F') : ∀ (ds : List PyData) (vs : List V), RpAll K F vs ds → RpAll K F' vs ds
  | [], _, h => by cases h; exact .nil
  | d :: ds, _, h => by
    cases h with
    | cons h1 h2 => exact .cons (dp_ex e d _ h1) (dpAll_ex e ds _ h2)
end

/-- what a slot holds: data, a raw value, a list of its own -/
inductive Sl where
  | d (x : PyData)
  | v (x : V)
  | own (xs : List PyData)
abbrev En := List (Option Sl)
def Sr (K : PySem.W.Frag) (F : Hp) (v : V) : Sl → Prop
  | .d x => Rp K F v x
  | .v x => v = x
  | .own _ => False
theorem sr_ex {K : PySem.W.Frag} {F F' : Hp} {v : V} (e : Ex F F') : ∀ {s : Sl}, Sr K F v s → Sr K F' v s
  | .d x, h => dp_ex e x v h
  | .v _, h => h
  | .own _, h => h

def Nt (o : HO) : Prop := ∀ ps, o ≠ .tbl ps
/-- the world of a body: what stood at its entry, what others may change, what is true of it -/
structure Wd (S : Type) where
  F0 : Hp
  H0 : Hp
  rs : List Addr
  J : S → Hp → Hp → Prop
  ne : ∀ s F H, J s F H → ∀ a ∈ rs, H a ≠ none ∧ F a = none
  st : ∀ s F H F2 H2, J s F H → (∀ a o, H a = some o → (a ∈ rs ∨ ∀ xs, o ≠ .lst xs) → H2 a = some o) → (∀ a ∈ rs, F2 a = none) → (∀ a o, F2 a = some o → F a = some o ∨ Nt o) → J s F2 H2
  cls : Str → Option Addr
  xe : XK

/-- from one moment to a later one: rs may have changed -/
structure Fm (rs : List Addr) (F H F2 H2 : Hp) : Prop where
  ff : Ex F F2
  fh : Ex F2 H2
  hh : ∀ a o, (rs = [] ∨ (a ∉ rs ∧ Nt o)) → H a = some o → H2 a = some o
  nn : ∀ a o, (rs = [] ∨ (a ∉ rs ∧ Nt o)) → H a = some o → F a = none → F2 a = none
  nf : ∀ a o, F2 a = some o → F a = some o ∨ Nt o
theorem Fm.refl {rs : List Addr} {F H : Hp} (h : Ex F H) : Fm rs F H F H := ⟨Ex.refl F, h, fun _ _ _ e => e, fun _ _ _ _ e => e, fun _ _ e => .inl e⟩
theorem Fm.trans {rs : List Addr} {F H F2 H2 F3 H3 : Hp} (a : Fm rs F H F2 H2) (b : Fm rs F2 H2 F3 H3) : Fm rs F H F3 H3 :=
  ⟨a.ff.trans b.ff, b.fh, fun x o n e => b.hh x o n (a.hh x o n e), fun x o n e f => b.nn x o n (a.hh x o n e) (a.nn x o n e f), fun x o e => (b.nf x o e).elim (fun e => a.nf x o e) .inr⟩
theorem Fm.more {rs : List Addr} {F H F2 H2 : Hp} (a : Fm [] F H F2 H2) : Fm rs F H F2 H2 :=
  ⟨a.ff, a.fh, fun x o _ e => a.hh x o (.inl rfl) e, fun x o _ e f => a.nn x o (.inl rfl) e f, a.nf⟩
theorem Fm.ex {F H F2 H2 : Hp} (a : Fm [] F H F2 H2) : Ex H H2 := fun x o e => a.hh x o (.inl rfl) e
/-- a new frozen object -/
theorem Fm.new {rs : List Addr} {F H : Hp} {p : Addr} {o : HO} (h : Ex F H) (hp : H p = none) (hn : Nt o := by intro _ z; cases z) : Fm rs F H (upd F p o) (upd H p o) := by
  have fp : F p = none := by
    cases e : F p with
    | none => rfl
    | some u => rw [h p u e] at hp; cases hp
  refine ⟨Ex.new fp, fun a u e => ?_, fun a u _ e => ?_, fun a u _ n e => ?_, fun a u e => ?_⟩
  · by_cases ha : a = p
    · subst ha
      rw [upd_same] at e ⊢
      exact e
    · rw [upd_ne ha] at e ⊢
      exact h a u e
  · rw [upd_ne (ne_of_none e hp)]
    exact e
  · rw [upd_ne (ne_of_none n hp)]
    exact e
  · by_cases ha : a = p
    · subst ha
      rw [upd_same] at e
      cases e
      exact .inr hn
    · rw [upd_ne ha] at e
      exact .inl e
/-- a new object that is not frozen -/
theorem Fm.own {rs : List Addr} {F H : Hp} {p : Addr} {o : HO} (h : Ex F H) (hp : H p = none) : Fm rs F H F (upd H p o) := by
  exact ⟨Ex.refl F, h.trans (Ex.new hp), fun a u _ e => Ex.new hp a u e, fun a _ _ _ e => e, fun _ _ e => .inl e⟩

inductive Er {S : Type} (K : PySem.W.Frag) (W : Wd S) (F H : Hp) : L2.St → En → List Addr → Prop
  | nil : Er K W F H [] [] W.rs
  | no {x : Option V} {σ : L2.St} {ε : En} {ps : List Addr} : Er K W F H σ ε ps → Er K W F H (x :: σ) (none :: ε) ps
  | d {v : V} {x : PyData} {σ : L2.St} {ε : En} {ps : List Addr} : Rp K F v x → Er K W F H σ ε ps → Er K W F H (some v :: σ) (some (.d x) :: ε) ps
  | v {v : V} {σ : L2.St} {ε : En} {ps : List Addr} : Er K W F H σ ε ps → Er K W F H (some v :: σ) (some (.v v) :: ε) ps
  | own {p : Addr} {vs : List V} {xs : List PyData} {σ : L2.St} {ε : En} {ps : List Addr} : (∀ o, W.H0 p = some o → ¬ Nt o) → F p = none → H p = some (.lst vs) → RpAll K F vs xs → p ∉ ps → Er K W F H σ ε ps →
      Er K W F H (some (.ref p) :: σ) (some (.own xs) :: ε) (p :: ps)
def Ers {S : Type} (K : PySem.W.Frag) (W : Wd S) (F H : Hp) (σ : L2.St) (ε : En) : Prop := ∃ ps, Er K W F H σ ε ps

section
variable {S : Type} {K : PySem.W.Frag} {W : Wd S} {F H F2 H2 : Hp} {σ : L2.St} {ε : En} {ps : List Addr}
theorem Er.rs (h : Er K W F H σ ε ps) : ∀ a ∈ W.rs, a ∈ ps := by
  induction h with
  | nil => exact fun _ h => h
  | no _ ih => exact ih
  | d _ _ ih => exact ih
  | v _ ih => exact ih
  | own _ _ _ _ _ _ ih => exact fun a ha => List.mem_cons_of_mem _ (ih a ha)
theorem Er.len (h : Er K W F H σ ε ps) : σ.length = ε.length := by
  induction h with
  | nil => rfl
  | no _ ih => simp [ih]
  | d _ _ ih => simp [ih]
  | v _ ih => simp [ih]
  | own _ _ _ _ _ _ ih => simp [ih]
/-- kept: frozen things grow, own lists stand -/
theorem Er.keep (h : Er K W F H σ ε ps) (ff : Ex F F2) (hh : ∀ p ∈ ps, p ∉ W.rs → ∀ vs, H p = some (.lst vs) → H2 p = some (.lst vs)) (nn : ∀ p ∈ ps, p ∉ W.rs → F p = none → ∀ vs, H p = some (.lst vs) → F2 p = none) : Er K W F2 H2 σ ε ps := by
  induction h with
  | nil => exact .nil
  | no _ ih => exact .no (ih hh nn)
  | d hd _ ih => exact .d (dp_ex ff _ _ hd) (ih hh nn)
  | v _ ih => exact .v (ih hh nn)
  | @own p vs xs σ ε ps h0 hf hp hd hn r ih =>
    have hr : p ∉ W.rs := fun z => hn (r.rs p z)
    refine .own h0 (nn p List.mem_cons_self hr hf _ hp) (hh p List.mem_cons_self hr _ hp) (dpAll_ex ff _ _ hd) hn (ih (fun q hq => hh q (List.mem_cons_of_mem _ hq)) fun q hq => nn q (List.mem_cons_of_mem _ hq))
theorem Er.fm (h : Er K W F H σ ε ps) (m : Fm W.rs F H F2 H2) : Er K W F2 H2 σ ε ps :=
  h.keep m.ff (fun p _ hr vs e => m.hh p _ (.inr ⟨hr, fun _ z => by cases z⟩) e) (fun p _ hr hf vs e => m.nn p _ (.inr ⟨hr, fun _ z => by cases z⟩) e hf)
theorem Ers.fm (h : Ers K W F H σ ε) (m : Fm W.rs F H F2 H2) : Ers K W F2 H2 σ ε := let ⟨ps, r⟩ := h; ⟨ps, r.fm m⟩
theorem Er.get (h : Er K W F H σ ε ps) : ∀ {i : Nat} {s : Sl}, ε[i]? = some (some s) → (∀ xs, s ≠ .own xs) → ∃ v, σ[i]? = some (some v) ∧ Sr K F v s := by
  induction h with
  | nil =>
    intro i s e _
    simp at e
  | no _ ih =>
    intro i s e n
    cases i with
    | zero => simp at e
    | succ i => simpa using ih (by simpa using e) n
  | @d v x _ _ _ hd _ ih =>
    intro i s e n
    cases i with
    | zero =>
      simp at e
      subst e
      exact ⟨v, rfl, hd⟩
    | succ i => simpa using ih (by simpa using e) n
  | @v v _ _ _ _ ih =>
    intro i s e n
    cases i with
    | zero =>
      simp at e
      subst e
      exact ⟨v, rfl, rfl⟩
    | succ i => simpa using ih (by simpa using e) n
  | @own p vs xs _ _ _ _ _ _ _ _ _ ih =>
    intro i s e n
    cases i with
    | zero =>
      simp at e
      subst e
      exact absurd rfl (n xs)
    | succ i => simpa using ih (by simpa using e) n
theorem Er.getOwn (h : Er K W F H σ ε ps) : ∀ {i : Nat} {xs : List PyData}, ε[i]? = some (some (.own xs)) → ∃ p vs, σ[i]? = some (some (.ref p)) ∧ (∀ o, W.H0 p = some o → ¬ Nt o) ∧ F p = none ∧ H p = some (.lst vs) ∧ RpAll K F vs xs ∧ p ∉ W.rs := by
  induction h with
  | nil =>
    intro i xs e
    simp at e
  | no _ ih =>
    intro i xs e
    cases i with
    | zero => simp at e
    | succ i => simpa using ih (by simpa using e)
  | d _ _ ih =>
    intro i xs e
    cases i with
    | zero => simp at e
    | succ i => simpa using ih (by simpa using e)
  | v _ ih =>
    intro i xs e
    cases i with
    | zero => simp at e
    | succ i => simpa using ih (by simpa using e)
  | @own p vs ys _ _ _ h0 hf hp hd hn r ih =>
    intro i xs e
    cases i with
    | zero =>
      simp at e
      subst e
      exact ⟨p, vs, rfl, h0, hf, hp, hd, fun z => hn (r.rs p z)⟩
    | succ i => simpa using ih (by simpa using e)
/-- a slot forgotten -/
theorem Er.wipe1 (h : Er K W F H σ ε ps) : ∀ (i : Nat) (x : Option V), ∃ ps', Er K W F H (σ.set i x) (ε.set i none) ps' ∧ ∀ p ∈ ps', p ∈ ps := by
  induction h with
  | nil => exact fun i x => ⟨_, .nil, fun _ h => h⟩
  | no r ih =>
    intro i x
    cases i with
    | zero => exact ⟨_, .no r, fun _ h => h⟩
    | succ i =>
      obtain ⟨q, r2, k⟩ := ih i x
      exact ⟨q, .no r2, k⟩
  | d hd r ih =>
    intro i x
    cases i with
    | zero => exact ⟨_, .no r, fun _ h => h⟩
    | succ i =>
      obtain ⟨q, r2, k⟩ := ih i x
      exact ⟨q, .d hd r2, k⟩
  | v r ih =>
    intro i x
    cases i with
    | zero => exact ⟨_, .no r, fun _ h => h⟩
    | succ i =>
      obtain ⟨q, r2, k⟩ := ih i x
      exact ⟨q, .v r2, k⟩
  | @own p vs xs _ _ ps h0 hf hp hd hn r ih =>
    intro i x
    cases i with
    | zero => exact ⟨_, .no r, fun _ h => List.mem_cons_of_mem _ h⟩
    | succ i =>
      obtain ⟨q, r2, k⟩ := ih i x
      exact ⟨p :: q, .own h0 hf hp hd (fun z => hn (k p z)) r2, fun a ha => by
        rcases List.mem_cons.mp ha with z | z
        · rw [z]
          exact List.mem_cons_self
        · exact List.mem_cons_of_mem _ (k a z)⟩
/-- a slot filled with data or a raw value -/
theorem Er.put (h : Er K W F H σ ε ps) {v : V} {s : Sl} (hs : Sr K F v s) : ∀ (i : Nat), ∃ ps', Er K W F H (σ.set i (some v)) (ε.set i (some s)) ps' ∧ ∀ p ∈ ps', p ∈ ps := by
  have put0 : ∀ {σ : L2.St} {ε : En} {ps : List Addr}, Er K W F H σ ε ps → Er K W F H (some v :: σ) (some s :: ε) ps := fun {σ ε ps} r => by
    cases s with
    | d x => exact .d hs r
    | v x =>
      have e : v = x := hs
      subst e
      exact .v r
    | own xs => exact hs.elim
  induction h with
  | nil => exact fun i => ⟨_, .nil, fun _ h => h⟩
  | no r ih =>
    intro i
    cases i with
    | zero => exact ⟨_, put0 r, fun _ h => h⟩
    | succ i =>
      obtain ⟨q, r2, k⟩ := ih i
      exact ⟨q, .no r2, k⟩
  | d hd r ih =>
    intro i
    cases i with
    | zero => exact ⟨_, put0 r, fun _ h => h⟩
    | succ i =>
      obtain ⟨q, r2, k⟩ := ih i
      exact ⟨q, .d hd r2, k⟩
  | v r ih =>
    intro i
    cases i with
    | zero => exact ⟨_, put0 r, fun _ h => h⟩
    | succ i =>
      obtain ⟨q, r2, k⟩ := ih i
      exact ⟨q, .v r2, k⟩
  | @own p vs xs _ _ ps h0 hf hp hd hn r ih =>
    intro i
    cases i with
    | zero => exact ⟨_, put0 r, fun _ h => List.mem_cons_of_mem _ h⟩
    | succ i =>
      obtain ⟨q, r2, k⟩ := ih i
      exact ⟨p :: q, .own h0 hf hp hd (fun z => hn (k p z)) r2, fun a ha => by
        rcases List.mem_cons.mp ha with z | z
        · rw [z]
          exact List.mem_cons_self
        · exact List.mem_cons_of_mem _ (k a z)⟩
theorem Ers.put (h : Ers K W F H σ ε) {v : V} {s : Sl} (hs : Sr K F v s) (i : Nat) : Ers K W F H (σ.set i (some v)) (ε.set i (some s)) := by
  obtain ⟨ps, r⟩ := h
  obtain ⟨q, r2, _⟩ := r.put hs i
  exact ⟨q, r2⟩
theorem Ers.wipe1 (h : Ers K W F H σ ε) (i : Nat) (x : Option V) : Ers K W F H (σ.set i x) (ε.set i none) := by
  obtain ⟨ps, r⟩ := h
  obtain ⟨q, r2, _⟩ := r.wipe1 i x
  exact ⟨q, r2⟩
def wipeE (ε : En) : List Nat → En
  | [] => ε
  | v :: vs => (wipeE ε vs).set v none
theorem Ers.wipe (h : Ers K W F H σ ε) : ∀ vs : List Nat, Ers K W F H (L2.wipe σ vs) (wipeE ε vs)
  | [] => h
  | v :: vs => (h.wipe vs).wipe1 v none
end

theorem Wd.pure {S : Type} {W : Wd S} {s : S} {F H F2 H2 : Hp} (j : W.J s F H) (m : Fm [] F H F2 H2) : W.J s F2 H2 := by
  refine W.st s F H F2 H2 j (fun a o e _ => m.ex a o e) (fun a ha => ?_) m.nf
  · obtain ⟨n, f⟩ := W.ne s F H j a ha
    cases e : H a with
    | none => exact absurd e n
    | some o => exact m.nn a o (.inl rfl) e f
def SrAll (K : PySem.W.Frag) (F : Hp) : List V → List Sl → Prop
  | [], [] => True
  | v :: vs, s :: ss => Sr K F v s ∧ SrAll K F vs ss
  | _, _ => False
theorem srAll_ex {K : PySem.W.Frag} {F F' : Hp} (e : Ex F F') : ∀ {vs : List V} {ss : List Sl}, SrAll K F vs ss → SrAll K F' vs ss
  | [], [], _ => True.intro
  | _ :: _, _ :: _, h => ⟨sr_ex e h.1, srAll_ex e h.2⟩
  | [], _ :: _, h => h.elim
  | _ :: _, [], h => h.elim
theorem pe_imp {X : Cx} {e : Expr} {t u : TE} (h : PE X e t) (k : ∀ σ H Q, u σ H Q → t σ H Q) : PE X e u := ⟨fun pins s σ H Q I q => h.run pins s σ H Q I (k σ H Q q)⟩
theorem pt_imp {X : Cx} {e : Expr} {t u : TT} (h : PT X e t) (k : ∀ σ H Q, u σ H Q → t σ H Q) : PT X e u := ⟨fun pins s σ H Q I q => h.run pins s σ H Q I (k σ H Q q)⟩
theorem pw_imp {X : Cx} {e : Expr} {t u : TT} (h : PW X e t) (k : ∀ σ H Q, u σ H Q → t σ H Q) : PW X e u := ⟨fun wh pins s σ H Q I q => h.run wh pins s σ H Q I (k σ H Q q)⟩
theorem pa_imp {X : Cx} {e : List Expr} {t u : TA} (h : PA X e t) (k : ∀ σ H Q, u σ H Q → t σ H Q) : PA X e u := ⟨fun pos pins s σ H Q I q => h.run pos pins s σ H Q I (k σ H Q q)⟩
theorem ps_imp {X : Cx} {st : Stmt} {t u : TS} (h : PS X st t) (k : ∀ D σ H, u D σ H → t D σ H) : PS X st u := ⟨fun pins s σ H D I q => h.run pins s σ H D I (k D σ H q)⟩
theorem pss_imp {X : Cx} {st : List Stmt} {t u : TS} (h : PSs X st t) (k : ∀ D σ H, u D σ H → t D σ H) : PSs X st u := ⟨fun pins s σ H D I q => h.run pins s σ H D I (k D σ H q)⟩
end Z
set_option Elab.async false
set_option linter.all false
set_option maxRecDepth 100000
set_option maxHeartbeats 4000000
namespace Z
open PySem PySem.Spec PyProof.Rows L2 Evl

abbrev XR := Str × List (Str × PyData)
abbrev QS (S : Type) := Sl → S → Prop
abbrev QX (S : Type) := XR → S → Prop
abbrev Fsp (S : Type) := List Sl → S → QS S → QX S → Prop
structure Gam (S : Type) where
  N : List Str
  glob : List (Str × Sl)
  fns : List (Str × Fsp S)
  free : List Str
  /-- defs called by n values and these keywords -/
  kfn : List ((Str × Nat × List Str) × Fsp S)
  /-- repr is used -/
  rep : Bool
  /-- lists of one's own may hold lists, and are read by Return alone -/
  raw : Bool

def ixOf : List Str → Str → Option Nat
  | [], _ => none
  | y :: ys, x => if y = x then some 0 else match ixOf ys x with
    | some i => some (i + 1)
    | none => none
theorem ixOf_get : ∀ {N : List Str} {x : Str} {i : Nat}, ixOf N x = some i → N[i]? = some x
  | [], _, _, h => by cases h
  | y :: ys, x, i, h => by
    unfold ixOf at h
    by_cases e : y = x
    · rw [if_pos e] at h
      cases h
      rw [e]
      rfl
    · rw [if_neg e] at h
      cases q : ixOf ys x with
      | none =>
        rw [q] at h
        cases h
      | some j =>
        rw [q] at h
        cases h
        have := ixOf_get q
        simpa using this

def okSc (sc : Scope) : Bool := (sc.names.lookup ("__debug__" : Str)).isNone && ((sc.names.lookup ("__classdict__" : Str)).isNone && (sc.names.lookup ("__name__" : Str)).isNone)
def plainE : Expr → Bool
  | .Starred _ _ => false
  | _ => true
def setE : Expr → Bool
  | .Set _ _ _ => true
  | _ => false
def tupE : Expr → Bool
  | .Tuple _ _ _ => true
  | _ => false
def slE : Expr → Bool
  | .Slice _ _ _ _ => true
  | _ => false
def callE : Expr → Bool
  | .Call _ _ _ _ => true
  | _ => false
def condE : Expr → Bool
  | .UnaryOp .Not _ _ => true
  | .BoolOp _ _ _ => true
  | .IfExp _ _ _ _ => true
  | .Compare _ _ _ _ => true
  | _ => false
/-- a check that is decided by the text alone -/
def chk (b : Bool) (p : Prop) : Prop := match b with
  | true => p
  | false => False
def chkN (b : Bool) (p : Prop) : Prop := match b with
  | true => False
  | false => p
theorem chk_iff {b : Bool} {p : Prop} : chk b p ↔ b = true ∧ p := by
  cases b <;> simp [chk]
theorem chkN_iff {b : Bool} {p : Prop} : chkN b p ↔ b = false ∧ p := by
  cases b <;> simp [chkN]
/-! ### what operations do with data -/
def cutG {α : Type} (xs : List α) (lo hi : Option Int) : List α := (xs.drop (HT.sIx xs.length 0 lo)).take (HT.sIx xs.length xs.length hi - HT.sIx xs.length 0 lo)
def dbin (op : Operator) (x y : Sl) (Q : Sl → Prop) : Prop := match op, x, y with
  | .Add, .d (.int a), .d (.int b) => Q (.d (.int (a + b)))
  | .Add, .d (.str a), .d (.str b) => a.length + b.length ≤ sizeLine ∧ Q (.d (.str (a ++ b)))
  | .Add, .d (.tuple a), .d (.tuple b) => a.length + b.length ≤ sizeLine ∧ Q (.d (.tuple (a ++ b)))
  | .Add, .d (.list a), .d (.list b) => a.length + b.length ≤ sizeLine ∧ Q (.d (.list (a ++ b)))
  | .Sub, .d (.int a), .d (.int b) => Q (.d (.int (a - b)))
  | .Mult, .d (.int a), .d (.int b) => CMulW a b ∧ Q (.d (.int (a * b)))
  | .Mult, .d (.list a), .d (.int k) => -(2 ^ 63) ≤ k ∧ k < 2 ^ 63 ∧ a.length * k.toNat ≤ sizeLine ∧ Q (.d (.list (List.replicate k.toNat a).flatten))
  | .Mult, .d (.str a), .d (.int k) => PySem.MulOk a k ∧ Q (.d (.str (Txt.mul a k)))
  | .FloorDiv, .d (.int a), .d (.int b) => CDivW a b ∧ Q (.d (.int (a / b)))
  | .Mod, .d (.int a), .d (.int b) => 0 < b ∧ Q (.d (.int (a % b)))
  | .Pow, .d (.int a), .d (.int b) => CPow a b ∧ Q (.d (.int (a ^ b.toNat)))
  | _, _, _ => False
def flatD : PyData → Bool
  | .none => true
  | .bool _ => true
  | .int _ => true
  | .str _ => true
  | _ => false
def eqF : PyData → PyData → Bool
  | .none, .none => true
  | .bool a, .bool b => a == b
  | .bool a, .int b => (if a then 1 else 0) == b
  | .int a, .bool b => a == (if b then 1 else 0)
  | .int a, .int b => a == b
  | .str a, .str b => a == b
  | _, _ => false
def isNoneS : Sl → Bool
  | .d .none => true
  | _ => false
def dcmp (op : CmpOp) (x y : Sl) (Q : Bool → Prop) : Prop := match op, x, y with
  | .Eq, .d x, .d y => SeqAt.shaped x = true ∧ SeqAt.shaped y = true ∧ Q (PyData.eqv x y)
  | .NotEq, .d x, .d y => SeqAt.shaped x = true ∧ SeqAt.shaped y = true ∧ Q (!PyData.eqv x y)
  | .Lt, .d (.int a), .d (.int b) => Q (decide (a < b))
  | .LtE, .d (.int a), .d (.int b) => Q (decide (a ≤ b))
  | .Gt, .d (.int a), .d (.int b) => Q (decide (b < a))
  | .GtE, .d (.int a), .d (.int b) => Q (decide (b ≤ a))
  | .Lt, .d (.str a), .d (.str b) => Q (decide (a.cps.toList < b.cps.toList))
  | .In, .d x, .d (.list ys) => flatD x = true ∧ ys.all flatD = true ∧ Q (ys.any fun y => eqF y x)
  | .In, .d x, .d (.tuple ys) => flatD x = true ∧ ys.all flatD = true ∧ Q (ys.any fun y => eqF y x)
  | .NotIn, .d x, .d (.list ys) => flatD x = true ∧ ys.all flatD = true ∧ Q (!ys.any fun y => eqF y x)
  | .NotIn, .d x, .d (.tuple ys) => flatD x = true ∧ ys.all flatD = true ∧ Q (!ys.any fun y => eqF y x)
  | .In, .d (.str c), .d (.str z) => ∃ k : Nat, c = ⟨#[k]⟩ ∧ Q (decide (k ∈ z.cps.toList))
  | .NotIn, .d (.str c), .d (.str z) => ∃ k : Nat, c = ⟨#[k]⟩ ∧ Q (!decide (k ∈ z.cps.toList))
  | .Is, .d x, .d .none => Q (isNoneS (.d x))
  | .IsNot, .d x, .d .none => Q (!isNoneS (.d x))
  | .Is, .d (.bool a), .d (.bool b) => Q (decide (a = b))
  | .IsNot, .d (.bool a), .d (.bool b) => Q (!decide (a = b))
  | _, _, _ => False
def dtru (x : Sl) (Q : Bool → Prop) : Prop := match x with
  | .d .none => Q false
  | .d (.bool b) => Q b
  | .d (.int i) => Q (i != 0)
  | .d (.str y) => y.length ≤ sizeLine ∧ Q ((y.length : Int) != 0)
  | .d (.list xs) => Q (!xs.isEmpty)
  | .d (.tuple xs) => Q (!xs.isEmpty)
  | _ => False
def dix (x i : Sl) (Q : Sl → Prop) : Prop := match x, i with
  | .d (.list xs), .d (.int i) => (match atI xs i with
    | some z => Q (.d z)
    | none => False)
  | .d (.tuple xs), .d (.int i) => (match atI xs i with
    | some z => Q (.d z)
    | none => False)
  | .d (.str w), .d (.int i) => w.length ≤ sizeLine ∧ (match atI w.cps.toList i with
    | some c => Q (.d (.str ⟨#[c]⟩))
    | none => False)
  | _, _ => False
def dsl (x : Sl) (lo hi : Option Int) (Q : Sl → Prop) : Prop := match x with
  | .d (.list xs) => Q (.d (.list (cutG xs lo hi)))
  | .d (.tuple xs) => Q (.d (.tuple (cutG xs lo hi)))
  | .d (.str w) => w.length ≤ sizeLine ∧ Q (.d (.str ⟨(cutG w.cps.toList lo hi).toArray⟩))
  | _ => False
def tyName : PyData → String
  | .none => "NoneType"
  | .bool _ => "bool"
  | .int _ => "int"
  | .str _ => "str"
  | .list _ => "list"
  | .tuple _ => "tuple"
  | .dict _ => "dict"
def intsD : List PyData → Option (List Int)
  | [] => some []
  | .int i :: r => match intsD r with
    | some is => some (i :: is)
    | none => none
  | _ => none
def strsD : List PyData → Option (List Str)
  | [] => some []
  | .str i :: r => match strsD r with
    | some is => some (i :: is)
    | none => none
  | _ => none
def boolsD : List PyData → Option (List Bool)
  | [] => some []
  | .bool i :: r => match boolsD r with
    | some is => some (i :: is)
    | none => none
  | _ => none
/-- built-ins by name -/
inductive Bf where
  | len | isinstance | all_ | any_ | list_ | tuple_ | int_ | repr_ | sum_
def bfOf (r : Bool) (f : Str) : Option Bf := match r with
  | true => List.lookup f [("len", Bf.len), ("isinstance", .isinstance), ("all", .all_), ("any", .any_), ("list", .list_), ("tuple", .tuple_), ("int", .int_), ("sum", .sum_), ("repr", .repr_)]
  | false => List.lookup f [("len", Bf.len), ("isinstance", .isinstance), ("all", .all_), ("any", .any_), ("list", .list_), ("tuple", .tuple_), ("int", .int_), ("sum", .sum_)]
theorem bfOf_rep {r : Bool} {f : Str} {b : Bf} (h : bfOf r f = some b) : b = .repr_ → r = true := by
  cases r with
  | true => exact fun _ => rfl
  | false =>
    intro e
    subst e
    unfold bfOf at h
    simp only [List.lookup] at h
    repeat' split at h
    all_goals cases h
def dcall (f : Bf) (xs : List Sl) (Q : Sl → Prop) : Prop := match f, xs with
  | .len, [.d (.list xs)] => Q (.d (.int xs.length))
  | .len, [.d (.tuple xs)] => Q (.d (.int xs.length))
  | .len, [.d (.str z)] => z.length ≤ sizeLine ∧ Q (.d (.int z.length))
  | .isinstance, [.d x, .v (.ty n)] => (match kitB (tyName x) n with
    | some b => Q (.d (.bool b))
    | none => False)
  | .all_, [.d (.list ds)] => (match boolsD ds with
    | some bs => Q (.d (.bool (bs.all id)))
    | none => False)
  | .any_, [.d (.list ds)] => (match boolsD ds with
    | some bs => Q (.d (.bool (bs.any id)))
    | none => False)
  | .list_, [.d (.list xs)] => Q (.d (.list xs))
  | .list_, [.d (.tuple xs)] => Q (.d (.list xs))
  | .tuple_, [.d (.list xs)] => Q (.d (.tuple xs))
  | .tuple_, [.d (.tuple xs)] => Q (.d (.tuple xs))
  | .int_, [.d (.int i)] => Q (.d (.int i))
  | .int_, [.d (.bool b)] => Q (.d (.int (if b then 1 else 0)))
  | .sum_, [.d (.list ds)] => (match intsD ds with
    | some ns => Q (.d (.int ns.sum))
    | none => False)
  | .repr_, [.d x] => SeqAt.shaped x = true ∧ x.showable = true ∧ (PyData.shown x).length ≤ sizeLine ∧ Q (.d (.str (PyData.shown x)))
  | _, _ => False
def sortP (ds : List PyData) (Q : Sl → Prop) : Prop := match intsD ds with
  | some is => is.length ≤ 1000 ∧ ∀ ns : List Int, ns.Pairwise (· < ·) → (∀ k, k ∈ ns ↔ k ∈ is) → Q (.d (.list (ns.map .int)))
  | none => (match strsD ds with
    | some zs => zs.length ≤ 1000 ∧ ∀ ns : List Str, ns.Pairwise (fun a b => a.cps.toList < b.cps.toList) → (∀ k, k ∈ ns ↔ k ∈ zs) → Q (.d (.list (ns.map .str)))
    | none => False)
/-- sorted(set(x)) -/
def dsort (x : Sl) (Q : Sl → Prop) : Prop := match x with
  | .d (.list ds) => sortP ds Q
  | .d (.tuple ds) => sortP ds Q
  | _ => False
def djoin (o x : Sl) (Q : Sl → Prop) : Prop := match o, x with
  | .d (.str a), .d (.list ds) => (match strsD ds with
    | some ys => (ys.map (·.length)).sum + ys.length * a.length ≤ 16777216 ∧ Q (.d (.str (Txt.join a ys)))
    | none => False)
  | .d (.str a), .d (.tuple ds) => (match strsD ds with
    | some ys => (ys.map (·.length)).sum + ys.length * a.length ≤ 16777216 ∧ Q (.d (.str (Txt.join a ys)))
    | none => False)
  | _, _ => False
def anyB (t : String) : List String → Option Bool
  | [] => some false
  | n :: ns => (match kitB t n with
    | some true => some true
    | some false => anyB t ns
    | none => none)
/-- isinstance(x, (T, ..)) -/
def disT (x : Sl) (ns : List String) (Q : Sl → Prop) : Prop := match x with
  | .d x => (match anyB (tyName x) ns with
    | some b => Q (.d (.bool b))
    | none => False)
  | _ => False
def tyOf (x : Str) : Option String := List.lookup x [(("int" : Str), "int"), ("str", "str"), ("bool", "bool"), ("list", "list"), ("tuple", "tuple")]

def tyNames : List Expr → Option (List (Str × String))
  | [] => some []
  | .Name x _ :: r => (match tyOf x, tyNames r with
    | some T, some l => some ((x, T) :: l)
    | _, _ => none)
  | _ => none
def isiOf (b : Bf) (args : List Expr) : Option (Expr × List (Str × String)) := match b, args with
  | .isinstance, [a, .Tuple es _ _] => (match tyNames es with
    | some l => some (a, l)
    | none => none)
  | _, _ => none

/-! ### lists of expressions -/
section
variable {S : Type}
def wArgs (f : Expr → S → QS S → Prop) : List Expr → S → (List Sl → S → Prop) → Prop
  | [], s, Q => Q [] s
  | .Starred e _ :: es, s, Q => f e s fun x s1 => (match x with
    | .d (.list ds) => wArgs f es s1 fun xs s2 => Q (ds.map .d ++ xs) s2
    | .d (.tuple ds) => wArgs f es s1 fun xs s2 => Q (ds.map .d ++ xs) s2
    | _ => False)
  | e :: es, s, Q => f e s fun x s1 => wArgs f es s1 fun xs s2 => Q (x :: xs) s2
def wKws (f : Expr → S → QS S → Prop) : List Keyword → S → (List Sl → S → Prop) → Prop
  | [], s, Q => Q [] s
  | k :: ks, s, Q => f k.value s fun x s1 => wKws f ks s1 fun xs s2 => Q (x :: xs) s2
/-- a call's keywords -/
def kwNames : List Keyword → Option (List Str)
  | [] => some []
  | ⟨some x, _, _⟩ :: r => (match kwNames r with
    | some xs => some (x :: xs)
    | none => none)
  | _ => none
def kfOf {S : Type} (l : List ((Str × Nat × List Str) × Fsp S)) (f : Str) (n : Nat) (ks : List Str) : Option (Fsp S) := l.lookup (f, n, ks)
def wAnd (f : Expr → S → QS S → Prop) : List Expr → S → QS S → Prop
  | [], _, _ => False
  | [e], s, Q => f e s Q
  | e :: e2 :: es, s, Q => f e s fun x s1 => dtru x fun b => if b = true then wAnd f (e2 :: es) s1 Q else Q x s1
def wOr (f : Expr → S → QS S → Prop) : List Expr → S → QS S → Prop
  | [], _, _ => False
  | [e], s, Q => f e s Q
  | e :: e2 :: es, s, Q => f e s fun x s1 => dtru x fun b => if b = true then Q x s1 else wOr f (e2 :: es) s1 Q
def dataAll : List Sl → Option (List PyData)
  | [] => some []
  | .d x :: r => match dataAll r with
    | some xs => some (x :: xs)
    | none => none
  | _ => none
def wOpt (f : Expr → S → QS S → Prop) (e : Option Expr) (s : S) (Q : Option Int → S → Prop) : Prop := match e with
  | none => Q none s
  | some e => f e s fun x s1 => match x with
    | .d (.int i) => Q (some i) s1
    | _ => False
/-- a comprehension's turns -/
def wMap (f : PyData → S → (Option PyData → S → Prop) → Prop) : List PyData → S → (List PyData → S → Prop) → Prop
  | [], s, Q => Q [] s
  | x :: xs, s, Q => f x s fun y s1 => wMap f xs s1 fun ys s2 => Q (match y with
    | some y => y :: ys
    | none => ys) s2
def zipD : List PyData → List PyData → List PyData
  | x :: xs, y :: ys => .tuple [x, y] :: zipD xs ys
  | _, _ => []
def enumD : Nat → List PyData → List PyData
  | _, [] => []
  | i, x :: xs => .tuple [.int i, x] :: enumD (i + 1) xs
def rangeD (lo hi : Int) : List PyData := (List.range (hi - lo).toNat).map fun i => .int (lo + (i : Nat))
/-- what stands behind `in` -/
def wSeq (f : Expr → S → QS S → Prop) (it : Expr) (s : S) (Q : List PyData → S → Prop) : Prop := f it s fun x s1 => (match x with
    | .d (.list xs) => Q xs s1
    | .d (.tuple xs) => Q xs s1
    | .d (.str z) => Q (z.cps.toList.map fun c => .str ⟨#[c]⟩) s1
    | _ => False)
def isG (sc : Scope) (x : Str) : Bool := match sc.names.lookup x with
  | some .globalImplicit => true
  | _ => false
theorem isG_iff {sc : Scope} {x : Str} : isG sc x = true ↔ sc.names.lookup x = some .globalImplicit := by
  unfold isG
  constructor
  · intro h
    split at h
    · assumption
    · cases h
  · intro h
    rw [h]
/-- sorted(set(a)) by its text -/
def srtOf (f : Str) (args : List Expr) : Option Expr := match decide (f = "sorted"), args with
  | true, [.Call (.Name g _) [a] [] _] => (match decide (g = "set") && plainE a with
    | true => some a
    | false => none)
  | _, _ => none
def wIter (free : List Str) (sc : Scope) (tg : Expr) (f : Expr → S → QS S → Prop) (it : Expr) (s : S) (Q : List PyData → S → Prop) : Prop := match it with
  | .Call (.Name g p) [a] [] p2 =>
    (match decide (g = "range") with
    | true => chk (plainE a && (free.contains g && isG sc g)) (f a s fun x s1 => (match x with
      | .d (.int n) => n ≤ 2 ^ 61 ∧ -(2 ^ 61) ≤ n ∧ Q (rangeD 0 n) s1
      | _ => False))
    | false => (match decide (g = "enumerate") with
      | true => chk (tupE tg && (plainE a && (free.contains g && isG sc g))) (f a s fun x s1 => (match x with
        | .d (.list xs) => Q (enumD 0 xs) s1
        | _ => False))
      | false => wSeq f (.Call (.Name g p) [a] [] p2) s Q))
  | .Call (.Name g p) [a, b] [] p2 =>
    (match decide (g = "range") with
    | true => chk (plainE a && (plainE b && (free.contains g && isG sc g))) (f a s fun x s1 => f b s1 fun y s2 => (match x, y with
      | .d (.int m), .d (.int n) => n ≤ 2 ^ 61 ∧ -(2 ^ 61) ≤ n ∧ m ≤ 2 ^ 61 ∧ -(2 ^ 61) ≤ m ∧ Q (rangeD m n) s2
      | _, _ => False))
    | false => (match decide (g = "zip") with
      | true => chk (tupE tg && (plainE a && (plainE b && (free.contains g && isG sc g)))) (f a s fun x s1 => f b s1 fun y s2 => (match x, y with
        | .d (.list a), .d (.list b) => Q (zipD a b) s2
        | .d (.tuple a), .d (.tuple b) => Q (zipD a b) s2
        | _, _ => False))
      | false => wSeq f (.Call (.Name g p) [a, b] [] p2) s Q))
  | e => wSeq f e s Q
/-- a target's slots -/
def slotsN (N : List Str) (sc : Scope) : List Expr → Option (List Nat)
  | [] => some []
  | .Name x _ :: r => (match sc.names.lookup x with
    | some .local => (match ixOf N x, slotsN N sc r with
      | some i, some is => some (i :: is)
      | _, _ => none)
    | some .cell => (match ixOf N x, slotsN N sc r with
      | some i, some is => some (i :: is)
      | _, _ => none)
    | _ => none)
  | _ :: _ => none
def slotsT (N : List Str) (sc : Scope) (tg : Expr) : Option (Bool × List Nat) := match tg with
  | .Tuple es _ _ => (match slotsN N sc es with
    | some is => some (true, is)
    | none => none)
  | .Name x p => (match slotsN N sc [.Name x p] with
    | some is => some (false, is)
    | none => none)
  | _ => none
def setAll (ε : En) : List Nat → List PyData → En
  | i :: is, d :: ds => setAll (ε.set i (some (.d d))) is ds
  | _, _ => ε
def bindS (p : Bool × List Nat) (d : PyData) (ε : En) : Option En := match p with
  | (true, is) => (match d with
    | .tuple ds => if ds.length = is.length then some (setAll ε is ds) else none
    | _ => none)
  | (false, is) => some (setAll ε is [d])
def ownOf (N : List Str) : List (Str × NameKind) → List (Str × Nat)
  | [] => []
  | (x, .local) :: r => (match ixOf N x with
    | some i => (x, i) :: ownOf N r
    | none => ownOf N r)
  | (x, .cell) :: r => (match ixOf N x with
    | some i => (x, i) :: ownOf N r
    | none => ownOf N r)
  | _ :: r => ownOf N r

def getE (ε : En) (i : Nat) (Q : Sl → Prop) : Prop := match ε[i]? with
  | some (some (.d d)) => Q (.d d)
  | some (some (.v v)) => Q (.v v)
  | _ => False
/-- the word of one turn of a comprehension -/
def lcTurn (bnd : PyData → Option En) (el : En → S → QS S → Prop) (ts : Option (En → S → QS S → Prop)) (x : PyData) (s2 : S) (k : Option PyData → S → Prop) : Prop := match bnd x with
  | none => False
  | some ε2 => (match ts with
    | none => el ε2 s2 (fun y s3 => match y with
      | .d y => k (some y) s3
      | _ => False)
    | some ts => ts ε2 s2 (fun b s3 => match b with
      | .d (.bool true) => el ε2 s3 (fun y s4 => match y with
        | .d y => k (some y) s4
        | _ => False)
      | .d (.bool false) => k none s3
      | _ => False))
/-- the weakest word ahead of an expression (t: of a test), over data; n bounds its depth -/
def wE (Γ : Gam S) : Nat → Bool → Scope → En → S → Expr → QS S → QX S → Prop
  | 0, _, _, _, _, _, _, _ => False
  | n + 1, false, sc, ε, s, e, Q, E => (match e with
    | .Name x _ => (match sc.names.lookup x with
      | some .globalImplicit => (match Γ.glob.lookup x with
        | some sl => Q sl s
        | none => (match tyOf x with
          | some T => chk (Γ.free.contains x) (Q (.v (.ty T)) s)
          | none => False))
      | some .local => (match ixOf Γ.N x with
        | some i => getE ε i fun v => Q v s
        | none => False)
      | some .cell => (match ixOf Γ.N x with
        | some i => getE ε i fun v => Q v s
        | none => False)
      | some .free => (match ixOf Γ.N x with
        | some i => getE ε i fun v => Q v s
        | none => False)
      | _ => False)
    | .Constant (.int i) _ _ => Q (.d (.int i)) s
    | .Constant (.str x) _ _ => Q (.d (.str x)) s
    | .Constant (.bool b) _ _ => Q (.d (.bool b)) s
    | .Constant .none _ _ => Q (.d .none) s
    | .BinOp a op b _ => wE Γ n false sc ε s a (fun x s1 => wE Γ n false sc ε s1 b (fun y s2 => dbin op x y fun z => Q z s2) E) E
    | .UnaryOp .Not a _ => wE Γ n false sc ε s a (fun x s1 => dtru x fun b => Q (.d (.bool (!b))) s1) E
    | .UnaryOp .USub a _ => wE Γ n false sc ε s a (fun x s1 => match x with
      | .d (.int i) => Q (.d (.int (-i))) s1
      | _ => False) E
    | .BoolOp .And es _ => wAnd (fun e s Q => wE Γ n false sc ε s e Q E) es s Q
    | .BoolOp .Or es _ => wOr (fun e s Q => wE Γ n false sc ε s e Q E) es s Q
    | .Compare a [op] [b] _ => chkN (setE b) (wE Γ n false sc ε s a (fun x s1 => wE Γ n false sc ε s1 b (fun y s2 => dcmp op x y fun z => Q (.d (.bool z)) s2) E) E)
    | .Compare a [op, op2] [b, c] _ => chkN (setE c) (wE Γ n false sc ε s a (fun x s1 => wE Γ n false sc ε s1 b (fun y s2 => dcmp op x y fun z =>
        if z = true then wE Γ n false sc ε s2 c (fun u s3 => dcmp op2 y u fun z => Q (.d (.bool z)) s3) E else Q (.d (.bool false)) s2) E) E)
    | .IfExp c a b _ => wE Γ n true sc ε s c (fun x s1 => match x with
      | .d (.bool true) => wE Γ n false sc ε s1 a Q E
      | .d (.bool false) => wE Γ n false sc ε s1 b Q E
      | _ => False) E
    | .Tuple es _ _ => (wArgs (fun e s Q => wE Γ n false sc ε s e Q E) es s fun xs s1 => (match dataAll xs with
      | some ds => ds.length ≤ sizeLine ∧ Q (.d (.tuple ds)) s1
      | none => False))
    | .List es _ => (wArgs (fun e s Q => wE Γ n false sc ε s e Q E) es s fun xs s1 => (match dataAll xs with
      | some ds => ds.length ≤ sizeLine ∧ Q (.d (.list ds)) s1
      | none => False))
    | .Subscript a (.Slice lo hi none _) _ => wE Γ n false sc ε s a (fun x s1 => wOpt (fun e s Q => wE Γ n false sc ε s e Q E) lo s1 fun l s2 =>
        wOpt (fun e s Q => wE Γ n false sc ε s e Q E) hi s2 fun h s3 => dsl x l h fun z => Q z s3) E
    | .Subscript a i _ => chkN (slE i) (wE Γ n false sc ε s a (fun x s1 => wE Γ n false sc ε s1 i (fun y s2 => dix x y fun z => Q z s2) E) E)
    | .Call (.Name f _) args [] _ => chk (args.all plainE && isG sc f) (match Γ.fns.lookup f with
      | some spec => wArgs (fun e s Q => wE Γ n false sc ε s e Q E) args s fun xs s1 => spec xs s1 Q E
      | none => (match bfOf Γ.rep f with
        | some b => chk (Γ.free.contains f && !args.isEmpty) (match isiOf b args with
          | some (a, l) => chk (decide (l.length ≤ 100) && l.all fun q => Γ.free.contains q.1 && isG sc q.1) (wE Γ n false sc ε s a (fun x s1 => disT x (l.map (·.2)) fun z => Q z s1) E)
          | none => wArgs (fun e s Q => wE Γ n false sc ε s e Q E) args s fun xs s1 => dcall b xs fun z => Q z s1)
        | none => chk (Γ.free.contains "sorted" && (Γ.free.contains "set" && isG sc "set")) (match srtOf f args with
          | some a => wE Γ n false sc ε s a (fun x s1 => dsort x fun z => Q z s1) E
          | none => False)))
    | .Call (.Name f _) args (k :: ks) _ => chk (args.all plainE && isG sc f) (match kwNames (k :: ks) with
      | none => False
      | some nm => (match kfOf Γ.kfn f args.length nm with
        | none => False
        | some spec => wArgs (fun e s Q => wE Γ n false sc ε s e Q E) args s fun xs s1 => wKws (fun e s Q => wE Γ n false sc ε s e Q E) (k :: ks) s1 fun ys s2 => xs.length = args.length ∧ ys.length = nm.length ∧ spec (xs ++ ys) s2 Q E))
    | .Call (.Attribute o m apos) [a] [] pos => chk (decide (m = "join") && (plainE a && (!callE o && (apos.endLine == pos.line)))) (wE Γ n false sc ε s o (fun x s1 => (∃ z : Str, x = .d (.str z)) ∧ wE Γ n false sc ε s1 a (fun y s2 => djoin x y fun z => Q z s2) E) E)
    | .ListComp elt [⟨tg, iter, ifs, 0⟩] sc2 _ => chk (okSc sc2 && (!setE iter && (decide (ifs.length ≤ 1) && blkC Γ.N sc sc2 (ownOf Γ.N sc2.names)))) (match slotsT Γ.N sc2 tg with
      | none => False
      | some sl => wIter Γ.free sc tg (fun e s Q => wE Γ n false sc ε s e Q E) iter s fun xs s1 =>
        xs.length ≤ 1000000 ∧ wMap (lcTurn (fun x => bindS sl x (wipeE ε ((ownOf Γ.N sc2.names).map (·.2)))) (fun ε2 s Q => wE Γ n false sc2 ε2 s elt Q (fun _ _ => False)) (match ifs with
          | c :: _ => some fun ε2 s Q => wE Γ n true sc2 ε2 s c Q (fun _ _ => False)
          | [] => none)) xs s1 fun ys s2 => Q (.d (.list ys)) s2)
    | _ => False)
  | n + 1, true, sc, ε, s, e, Q, E => (match e with
    | .UnaryOp .Not a _ => wE Γ n true sc ε s a (fun x s1 => match x with
      | .d (.bool b) => Q (.d (.bool (!b))) s1
      | _ => False) E
    | .BoolOp .And es _ => wAnd (fun e s Q => wE Γ n true sc ε s e Q E) es s Q
    | .BoolOp .Or es _ => wOr (fun e s Q => wE Γ n true sc ε s e Q E) es s Q
    | .Compare a [op] [b] _ => chkN (setE b) (wE Γ n false sc ε s a (fun x s1 => wE Γ n false sc ε s1 b (fun y s2 => dcmp op x y fun z => Q (.d (.bool z)) s2) E) E)
    | .Compare a [op, op2] [b, c] _ => chkN (setE c) (wE Γ n false sc ε s a (fun x s1 => wE Γ n false sc ε s1 b (fun y s2 => dcmp op x y fun z =>
        if z = true then wE Γ n false sc ε s2 c (fun u s3 => dcmp op2 y u fun z => Q (.d (.bool z)) s3) E else Q (.d (.bool false)) s2) E) E)
    | .IfExp _ _ _ _ => False
    | e => chkN (condE e) (wE Γ n false sc ε s e (fun x s1 => dtru x fun b => Q (.d (.bool b)) s1) E))
end
end Z
set_option Elab.async false
set_option linter.all false
set_option maxRecDepth 100000
set_option maxHeartbeats 4000000
namespace Z
open PySem PySem.Spec PyProof.Rows L2 Evl

def Kx {S : Type} (K : PySem.W.Frag) (rs : List Addr) (J : S → Hp → Hp → Prop) (cls : Str → Option Addr) (F H : Hp) (Ed : QX S) (E : XK) : Prop :=
  ∀ (xr : XR) (s2 : S) (F2 H2 : Hp) (dx C : Addr) (vs : List V), Fm rs F H F2 H2 → J s2 F2 H2 → Ed xr s2 → cls xr.1 = some C → H2 dx = some (.xd ((xr.2.map (·.1)).zip vs)) → RpAll K F2 vs (xr.2.map (·.2)) → E (.ref C) (some dx) H2
def Kq {S : Type} (K : PySem.W.Frag) (W : Wd S) (F H : Hp) (Qd : QS S) (R : VK) : Prop :=
  ∀ (v : V) (sl : Sl) (s2 : S) (F2 H2 : Hp), Fm W.rs F H F2 H2 → W.J s2 F2 H2 → Qd sl s2 → Sr K F2 v sl → R v H2
structure Cy {S : Type} (K : PySem.W.Frag) (W : Wd S) (F H : Hp) (σ : L2.St) (ε : En) (s : S) (Ed : QX S) : Prop where
  ex : Ex F H
  er : Ers K W F H σ ε
  j : W.J s F H
  kx : Kx K W.rs W.J W.cls F H Ed W.xe
section
variable {S : Type} {K : PySem.W.Frag} {W : Wd S} {F H F2 H2 : Hp} {σ : L2.St} {ε : En} {s s2 : S} {Ed : QX S} {Qd : QS S} {R : VK}
theorem Kx.next {rs : List Addr} {J : S → Hp → Hp → Prop} {cls : Str → Option Addr} {E : XK} (k : Kx K rs J cls F H Ed E) (m : Fm rs F H F2 H2) : Kx K rs J cls F2 H2 Ed E :=
  fun xr s3 F3 H3 dx C vs m3 j e c h r => k xr s3 F3 H3 dx C vs (m.trans m3) j e c h r
theorem Cy.next (c : Cy K W F H σ ε s Ed) (m : Fm W.rs F H F2 H2) (j : W.J s2 F2 H2) : Cy K W F2 H2 σ ε s2 Ed := ⟨m.fh, c.er.fm m, j, c.kx.next m⟩
theorem Kq.next (k : Kq K W F H Qd R) (m : Fm W.rs F H F2 H2) : Kq K W F2 H2 Qd R := fun v sl s3 F3 H3 m3 => k v sl s3 F3 H3 (m.trans m3)
end
section
variable {S : Type}
/-- the reading: some word holds ahead -/
def tWE (K : PySem.W.Frag) (W : Wd S) (Γ : Gam S) (n : Nat) (sc : Scope) (e : Expr) : TE := fun σ H R => ∃ ε s Qd Ed F, wE Γ n false sc ε s e Qd Ed ∧ Cy K W F H σ ε s Ed ∧ Kq K W F H Qd R
def Kb (W : Wd S) (F H : Hp) (Qd : QS S) (R : Bool → Hp → Prop) : Prop := ∀ (b : Bool) (s2 : S) (F2 H2 : Hp), Fm W.rs F H F2 H2 → W.J s2 F2 H2 → Qd (.d (.bool b)) s2 → R b H2
def tWT (K : PySem.W.Frag) (W : Wd S) (Γ : Gam S) (n : Nat) (sc : Scope) (e : Expr) : TT := fun σ H R => ∃ ε s Qd Ed F, wE Γ n true sc ε s e Qd Ed ∧ Cy K W F H σ ε s Ed ∧ Kb W F H Qd R
def spOf (K : PySem.W.Frag) (rs : List Addr) (J : S → Hp → Hp → Prop) (cls : Str → Option Addr) (spec : Fsp S) : Sp := fun vs H Q E => ∃ ss s F Qd Ed, Ex F H ∧ SrAll K F vs ss ∧ J s F H ∧ spec ss s Qd Ed ∧
  (∀ (v : V) (sl : Sl) (s2 : S) (F2 H2 : Hp), Fm rs F H F2 H2 → J s2 F2 H2 → Qd sl s2 → Sr K F2 v sl → Q v H2) ∧ Kx K rs J cls F H Ed E
/-! ### operations -/
def rS2 (K : PySem.W.Frag) (d : Sl → Sl → (Sl → Prop) → Prop) : R2 := fun vx vy H Q => ∃ F x y P, Ex F H ∧ Sr K F vx x ∧ Sr K F vy y ∧ d x y P ∧ ∀ z, P z → ∀ v F2 H2, Fm [] F H F2 H2 → Sr K F2 v z → Q v H2
def rS1 (K : PySem.W.Frag) (d : Sl → (Sl → Prop) → Prop) : V → Hp → VK → Prop := fun vx H Q => ∃ F x P, Ex F H ∧ Sr K F vx x ∧ d x P ∧ ∀ z, P z → ∀ v F2 H2, Fm [] F H F2 H2 → Sr K F2 v z → Q v H2
def rSn (K : PySem.W.Frag) (d : List Sl → (Sl → Prop) → Prop) : List V → Hp → VK → Prop := fun vs H Q => ∃ F ss P, Ex F H ∧ SrAll K F vs ss ∧ d ss P ∧ ∀ z, P z → ∀ v F2 H2, Fm [] F H F2 H2 → Sr K F2 v z → Q v H2
theorem opR_imp {X : Cx} {f : Value → Value → Sem Value} {r r' : R2} (h : OpR X f r) (k : ∀ x y H Q, r' x y H Q → r x y H Q) : OpR X f r' :=
  fun pins s σ H x y v u Q I rx ry q => h pins s σ H x y v u Q I rx ry (k x y H Q q)
end

theorem rpAll_append {K : PySem.W.Frag} {F : Hp} : ∀ {xs ys : List V} {ds es : List PyData}, RpAll K F xs ds → RpAll K F ys es → RpAll K F (xs ++ ys) (ds ++ es)
  | _, _, _, _, .nil, r => r
  | _, _, _, _, .cons h t, r => .cons h (rpAll_append t r)
theorem rpAll_len {K : PySem.W.Frag} {F : Hp} : ∀ {xs : List V} {ds : List PyData}, RpAll K F xs ds → xs.length = ds.length
  | _, _, .nil => rfl
  | _, _, .cons _ t => congrArg Nat.succ (rpAll_len t)
theorem rpAll_drop {K : PySem.W.Frag} {F : Hp} : ∀ {xs : List V} {ds : List PyData} (n : Nat), RpAll K F xs ds → RpAll K F (xs.drop n) (ds.drop n)
  | _, _, 0, r => r
  | _, _, _ + 1, .nil => .nil
  | _, _, n + 1, .cons _ t => rpAll_drop n t
theorem rpAll_take {K : PySem.W.Frag} {F : Hp} : ∀ {xs : List V} {ds : List PyData} (n : Nat), RpAll K F xs ds → RpAll K F (xs.take n) (ds.take n)
  | _, _, 0, _ => .nil
  | _, _, _ + 1, .nil => .nil
  | _, _, n + 1, .cons h t => .cons h (rpAll_take n t)
theorem rpAll_get {K : PySem.W.Frag} {F : Hp} : ∀ {xs : List V} {ds : List PyData} {i : Nat} {d : PyData}, RpAll K F xs ds → ds[i]? = some d → ∃ v, xs[i]? = some v ∧ Rp K F v d
  | _, _, _, _, .nil, h => by simp at h
  | _, _, 0, d, .cons r _, h => by
    simp at h
    subst h
    exact ⟨_, rfl, r⟩
  | _, _, i + 1, d, .cons _ t, h => by
    obtain ⟨v, e, r⟩ := rpAll_get (i := i) t (by simpa using h)
    exact ⟨v, by simpa using e, r⟩
theorem rpAll_rep {K : PySem.W.Frag} {F : Hp} {xs : List V} {ds : List PyData} (r : RpAll K F xs ds) : ∀ n : Nat, RpAll K F (List.replicate n xs).flatten (List.replicate n ds).flatten
  | 0 => .nil
  | n + 1 => by
    rw [List.replicate_succ, List.replicate_succ, List.flatten_cons, List.flatten_cons]
    exact rpAll_append r (rpAll_rep r n)

section
variable {X : Cx}
theorem opB : ∀ op : Operator, OpR X (binaryOp op) (rS2 X.K (dbin op)) := by
  intro op pins s σ H vx vy v u Q I rx ry h
  obtain ⟨F, x, y, P, ex, sx, sy, hd, k⟩ := h
  have kl : ∀ z : PyData, P (.d z) → ∀ v, Rp X.K F v z → Q v H := fun z p v r => k _ p v F H (Fm.refl ex) r
  have kn : ∀ (z : PyData) (o : HO), P (.d z) → Nt o → ∀ p, H p = none → Rp X.K (upd F p o) (.ref p) z → Q (.ref p) (upd H p o) := fun z o pz hn p hp r => k _ pz _ _ _ (Fm.new ex hp hn) r
  have fp : ∀ p, H p = none → F p = none := fun p hp => fresh_back ex hp
  unfold dbin at hd
  split at hd
  · cases sx; cases sy
    exact op_add pins s σ H _ _ v u Q I rx ry ⟨_, _, rfl, rfl, kl _ hd _ (.int _)⟩
  · cases sx; cases sy
    exact op_add_str pins s σ H _ _ v u Q I rx ry ⟨_, _, rfl, rfl, hd.1, kl _ hd.2 _ (.str _)⟩
  · cases sx with
    | @tup a xs _ ha ra => cases sy with
      | @tup b ys _ hb rb =>
        have la := rpAll_len ra
        have lb := rpAll_len rb
        refine op_catA pins s σ H _ _ v u Q I rx ry ⟨a, b, xs, ys, rfl, rfl, ex_t ex ha, ex_t ex hb, by rw [la, lb]; exact hd.1, fun e => ?_, fun e e2 => ?_, fun _ _ p hp => ?_⟩
        · subst e
          cases ra
          exact kl _ hd.2 _ (.tup hb rb)
        · subst e2
          cases rb
          have hd2 := hd.2
          rw [List.append_nil] at hd2
          exact kl _ hd2 _ (.tup ha ra)
        · exact kn _ _ hd.2 (fun _ z => by cases z) p hp (.tup (.inl (.inl upd_same)) (rpAll_append (dpAll_ex (Ex.new (fp p hp)) _ _ ra) (dpAll_ex (Ex.new (fp p hp)) _ _ rb)))
  · cases sx with
    | @lst a xs _ ha ra => cases sy with
      | @lst b ys _ hb rb =>
        have la := rpAll_len ra
        have lb := rpAll_len rb
        refine op_cat pins s σ H _ _ v u Q I rx ry ⟨a, b, xs, ys, rfl, rfl, ex a _ ha, ex b _ hb, by rw [la, lb]; exact hd.1, fun p hp => ?_⟩
        exact kn _ _ hd.2 (fun _ z => by cases z) p hp (.lst upd_same (rpAll_append (dpAll_ex (Ex.new (fp p hp)) _ _ ra) (dpAll_ex (Ex.new (fp p hp)) _ _ rb)))
  · cases sx; cases sy
    exact op_sub pins s σ H _ _ v u Q I rx ry ⟨_, _, rfl, rfl, kl _ hd _ (.int _)⟩
  · cases sx; cases sy
    exact op_mulW pins s σ H _ _ v u Q I rx ry ⟨_, _, rfl, rfl, hd.1, kl _ hd.2 _ (.int _)⟩
  · cases sx with
    | @lst a xs _ ha ra => cases sy with
      | int =>
        have la := rpAll_len ra
        refine op_rep pins s σ H _ _ v u Q I rx ry ⟨a, _, xs, rfl, rfl, ex a _ ha, hd.1, hd.2.1, by rw [la]; exact hd.2.2.1, fun p hp => ?_⟩
        exact kn _ _ hd.2.2.2 (fun _ z => by cases z) p hp (.lst upd_same (rpAll_rep (dpAll_ex (Ex.new (fp p hp)) _ _ ra) _))
  · cases sx; cases sy
    obtain ⟨t, rfl⟩ := rx
    obtain ⟨u, rfl⟩ := ry
    exact SB.mul hd.1 fun t2 k2 => ⟨.str _, H, I.tok _, ⟨t2, rfl⟩, kl _ hd.2 _ (.str _)⟩
  · cases sx; cases sy
    exact op_fdivW pins s σ H _ _ v u Q I rx ry ⟨_, _, rfl, rfl, hd.1, kl _ hd.2 _ (.int _)⟩
  · cases sx; cases sy
    exact op_mod pins s σ H _ _ v u Q I rx ry ⟨_, _, rfl, rfl, hd.1, kl _ hd.2 _ (.int _)⟩
  · cases sx; cases sy
    exact op_pow pins s σ H _ _ v u Q I rx ry ⟨_, _, rfl, rfl, hd.1, kl _ hd.2 _ (.int _)⟩
  · exact hd.elim

theorem none_v {K : PySem.W.Frag} {F : Hp} {v : V} {d : PyData} (r : Rp K F v d) : decide (v = V.non) = isNoneS (.d d) := by
  cases r <;> rfl
theorem rpAll_empty {K : PySem.W.Frag} {F : Hp} {xs : List V} {ds : List PyData} (r : RpAll K F xs ds) : xs.isEmpty = ds.isEmpty := by
  cases r <;> rfl
theorem flat_v {K : PySem.W.Frag} {F : Hp} {v : V} {d : PyData} (r : Rp K F v d) (h : flatD d = true) : flatV v = true := by
  cases r <;> first | rfl | cases h
theorem eq_v {K : PySem.W.Frag} {F : Hp} {v w : V} {d e : PyData} (r : Rp K F v d) (q : Rp K F w e) (h : flatD d = true) (g : flatD e = true) : eqV v w = eqF d e := by
  cases r <;> first | (cases h; done) | (cases q <;> first | rfl | (cases g; done))
theorem flat_all {K : PySem.W.Frag} {F : Hp} : ∀ {vs : List V} {ds : List PyData}, RpAll K F vs ds → ds.all flatD = true → vs.all flatV = true
  | _, _, .nil, _ => rfl
  | _, _, .cons r t, h => by
    rw [List.all_cons, Bool.and_eq_true] at h
    rw [List.all_cons, flat_v r h.1, flat_all t h.2, Bool.and_self]
theorem any_v {K : PySem.W.Frag} {F : Hp} {x : V} {d : PyData} (rx : Rp K F x d) (hx : flatD d = true) : ∀ {vs : List V} {ds : List PyData}, RpAll K F vs ds → ds.all flatD = true → inV x vs = ds.any fun y => eqF y d
  | _, _, .nil, _ => rfl
  | v :: vs, e :: ds, .cons r t, h => by
    rw [List.all_cons, Bool.and_eq_true] at h
    show (eqV v x || inV x vs) = (eqF e d || ds.any fun y => eqF y d)
    rw [eq_v r rx h.1 hx, any_v rx hx t h.2]
theorem opC (hu : X.A.units + 65 < cLine) : ∀ op : CmpOp, OpR X (compareOp op) (rS2 X.K fun x y P => dcmp op x y fun b => P (.d (.bool b))) := by
  intro op pins s σ H vx vy v u Q I rx ry h
  obtain ⟨F, x, y, P, ex, sx, sy, hd, k⟩ := h
  have kl : ∀ z : Bool, P (.d (.bool z)) → Q (.bl z) H := fun z p => k _ p _ F H (Fm.refl ex) (.bl z)
  have hu64 : X.A.units + 64 < cLine := by omega
  unfold dcmp at hd
  split at hd
  · exact op_eqD hu64 pins s σ H _ _ v u Q I rx ry ⟨_, _, Rp.dp _ _ (dp_ex ex _ _ sx), Rp.dp _ _ (dp_ex ex _ _ sy), hd.1, hd.2.1, kl _ hd.2.2⟩
  · exact op_neD hu64 pins s σ H _ _ v u Q I rx ry ⟨_, _, Rp.dp _ _ (dp_ex ex _ _ sx), Rp.dp _ _ (dp_ex ex _ _ sy), hd.1, hd.2.1, kl _ hd.2.2⟩
  · cases sx; cases sy
    exact op_lt pins s σ H _ _ v u Q I rx ry ⟨_, _, rfl, rfl, kl _ hd⟩
  · cases sx; cases sy
    exact op_le pins s σ H _ _ v u Q I rx ry ⟨_, _, rfl, rfl, kl _ hd⟩
  · cases sx; cases sy
    exact op_gt pins s σ H _ _ v u Q I rx ry ⟨_, _, rfl, rfl, kl _ hd⟩
  · cases sx; cases sy
    exact op_ge pins s σ H _ _ v u Q I rx ry ⟨_, _, rfl, rfl, kl _ hd⟩
  · cases sx; cases sy
    exact op_lt_str pins s σ H _ _ v u Q I rx ry ⟨_, _, rfl, rfl, kl _ hd⟩
  · obtain ⟨h1, h2, h3⟩ := hd
    cases sy with
    | @lst b ys _ hb rb => exact op_in_seq pins s σ H _ _ v u Q I rx ry ⟨b, ys, rfl, .inl (.inl (.inl (ex _ _ hb))), flat_v sx h1, flat_all rb h2, kl _ (by rw [if_neg Bool.false_ne_true, any_v sx h1 rb h2]; exact h3)⟩
  · obtain ⟨h1, h2, h3⟩ := hd
    cases sy with
    | @tup b ys _ hb rb => exact op_in_seq pins s σ H _ _ v u Q I rx ry ⟨b, ys, rfl, .inr (ex_t ex hb), flat_v sx h1, flat_all rb h2, kl _ (by rw [if_neg Bool.false_ne_true, any_v sx h1 rb h2]; exact h3)⟩
  · obtain ⟨h1, h2, h3⟩ := hd
    cases sy with
    | @lst b ys _ hb rb => exact op_notIn_seq pins s σ H _ _ v u Q I rx ry ⟨b, ys, rfl, .inl (.inl (.inl (ex _ _ hb))), flat_v sx h1, flat_all rb h2, kl _ (by rw [if_pos rfl, any_v sx h1 rb h2]; exact h3)⟩
  · obtain ⟨h1, h2, h3⟩ := hd
    cases sy with
    | @tup b ys _ hb rb => exact op_notIn_seq pins s σ H _ _ v u Q I rx ry ⟨b, ys, rfl, .inr (ex_t ex hb), flat_v sx h1, flat_all rb h2, kl _ (by rw [if_pos rfl, any_v sx h1 rb h2]; exact h3)⟩
  · obtain ⟨c, e, h3⟩ := hd
    subst e
    cases sx; cases sy
    exact op_in_sign pins s σ H _ _ v u Q I rx ry ⟨_, _, rfl, rfl, kl _ h3⟩
  · obtain ⟨c, e, h3⟩ := hd
    subst e
    cases sx; cases sy
    exact op_notIn_sign pins s σ H _ _ v u Q I rx ry ⟨_, _, rfl, rfl, kl _ h3⟩
  · cases sy
    refine op_isN pins s σ H _ _ v u Q I rx ry ⟨rfl, ?_⟩
    rw [none_v sx]
    exact kl _ hd
  · cases sy
    refine op_notN pins s σ H _ _ v u Q I rx ry ⟨rfl, ?_⟩
    rw [none_v sx]
    exact kl _ hd
  · cases sx; cases sy
    exact op_is_bl pins s σ H _ _ v u Q I rx ry ⟨_, _, rfl, rfl, kl _ hd⟩
  · cases sx; cases sy
    exact op_isnot_bl pins s σ H _ _ v u Q I rx ry ⟨_, _, rfl, rfl, kl _ hd⟩
  · exact hd.elim
/-- truth -/
theorem tru_v {K : PySem.W.Frag} {F H : Hp} {v : V} {x : Sl} {P : Bool → Prop} (ex : Ex F H) (sx : Sr K F v x) (h : dtru x P) : ∃ k, TruV K v H k ∧ P k := by
  unfold dtru at h
  split at h
  · cases sx
    exact ⟨_, rfl, h⟩
  · cases sx
    exact ⟨_, rfl, h⟩
  · cases sx
    exact ⟨_, rfl, h⟩
  · cases sx
    exact ⟨_, ⟨h.1, rfl⟩, h.2⟩
  · cases sx with
    | @lst a xs ds ha ra =>
      refine ⟨_, .inl ⟨xs, .inl (.inl (ex _ _ ha)), rfl⟩, ?_⟩
      rw [rpAll_empty ra]
      exact h
  · cases sx with
    | @tup a xs ds ha ra =>
      refine ⟨_, .inr (.inl ⟨xs, ex_t ex ha, rfl⟩), ?_⟩
      rw [rpAll_empty ra]
      exact h
  · exact h.elim
theorem atI_rp {K : PySem.W.Frag} {F : Hp} {xs : List V} {ds : List PyData} {i : Int} {d : PyData} (r : RpAll K F xs ds) (h : atI ds i = some d) : ∃ v, atI xs i = some v ∧ Rp K F v d := by
  unfold atI at h ⊢
  rw [rpAll_len r]
  cases e : ixN ds.length i with
  | none =>
    rw [e] at h
    cases h
  | some j =>
    rw [e] at h
    exact rpAll_get r h
theorem ixS : IxR X (rS2 X.K dix) := by
  intro a b pins s σ H vx vy v u Q I rx ry h
  obtain ⟨F, x, y, P, ex, sx, sy, hd, k⟩ := h
  refine ix_seq a b pins s σ H vx vy v u Q I rx ry ?_
  unfold dix at hd
  split at hd
  · cases sy
    cases sx with
    | @lst a xs ds ha ra =>
      split at hd
      · rename_i z e
        obtain ⟨w, e2, r⟩ := atI_rp ra e
        exact .inl ⟨a, xs, _, w, rfl, rfl, .inl (.inl (ex _ _ ha)), e2, k _ hd w F H (Fm.refl ex) r⟩
      · exact hd.elim
  · cases sy
    cases sx with
    | @tup a xs ds ha ra =>
      split at hd
      · rename_i z e
        obtain ⟨w, e2, r⟩ := atI_rp ra e
        exact .inr (.inl ⟨a, xs, _, w, rfl, rfl, ex_t ex ha, e2, k _ hd w F H (Fm.refl ex) r⟩)
      · exact hd.elim
  · cases sy
    cases sx
    obtain ⟨hl, hd⟩ := hd
    split at hd
    · rename_i c e
      exact .inr (.inr ⟨_, _, c, rfl, rfl, hl, e, k _ hd _ F H (Fm.refl ex) (.str _)⟩)
    · exact hd.elim
  · exact hd.elim
end
end Z
set_option Elab.async false
set_option linter.all false
set_option maxRecDepth 100000
set_option maxHeartbeats 4000000
namespace Z
open PySem PySem.Spec PyProof.Rows L2 Evl

/-! ### a def's promise; r: it may want that no guard stands around -/
/-- called by values alone -/
structure FnC (r : Bool) (P : Program) (w : World) (K : PySem.W.Frag) (mg : Str → Option Value) (base : Heap) (CX : CXT) (k : Nat) (f : Addr) (sp : Sp) : Prop where
  go : ∀ (A : Around) (outer : List Env) (s : Shared) (H : Hp) (us : List Value) (vs : List V) (Q : VK) (E : XK),
    (r = true → A.guards = some []) → Room k A → Env0 P w K mg base A outer s H → Vals vs us →
    sp vs H Q E → codeAny (model P w) A (.call (.ref f) ⟨us, []⟩) (CR CX outer P w H s Q E) s
/-- called by n values and keywords -/
structure FnKC (r : Bool) (P : Program) (w : World) (K : PySem.W.Frag) (mg : Str → Option Value) (base : Heap) (CX : CXT) (k : Nat) (f : Addr) (n : Nat) (ks : List Str) (sp : Sp) : Prop where
  go : ∀ (A : Around) (outer : List Env) (s : Shared) (H : Hp) (us ws : List Value) (vs zs : List V) (Q : VK) (E : XK),
    (r = true → A.guards = some []) → Room k A → Env0 P w K mg base A outer s H → Vals vs us → Vals zs ws → vs.length = n → zs.length = ks.length →
    sp (vs ++ zs) H Q E → codeAny (model P w) A (.call (.ref f) ⟨us, ks.zip ws⟩) (CR CX outer P w H s Q E) s
theorem FnC.mono {r : Bool} {P : Program} {w : World} {K : PySem.W.Frag} {mg : Str → Option Value} {base : Heap} {CX : CXT} {j k : Nat} {f : Addr} {sp : Sp} (G : FnC r P w K mg base CX j f sp) (h : j ≤ k) : FnC r P w K mg base CX k f sp :=
  ⟨fun A outer s H us vs Q E hg hr => G.go A outer s H us vs Q E hg (hr.mono h)⟩
theorem FnKC.mono {r : Bool} {P : Program} {w : World} {K : PySem.W.Frag} {mg : Str → Option Value} {base : Heap} {CX : CXT} {j k n : Nat} {f : Addr} {ks : List Str} {sp : Sp} (G : FnKC r P w K mg base CX j f n ks sp) (h : j ≤ k) : FnKC r P w K mg base CX k f n ks sp :=
  ⟨fun A outer s H us ws vs zs Q E hg hr => G.go A outer s H us ws vs zs Q E hg (hr.mono h)⟩
theorem FnC.weak {P : Program} {w : World} {K : PySem.W.Frag} {mg : Str → Option Value} {base : Heap} {CX : CXT} {k : Nat} {f : Addr} {sp : Sp} (G : FnC false P w K mg base CX k f sp) (r : Bool) : FnC r P w K mg base CX k f sp :=
  ⟨fun A outer s H us vs Q E _ => G.go A outer s H us vs Q E (fun z => by cases z)⟩
section
variable {r : Bool} {X : Cx} {CX : CXT} {k n : Nat} {f : Addr} {sp : Sp} {x : Str} {p pos : Pos} {e : Expr} {es : List Expr} {t tk : TA} {ks : List Str} {kws : List Keyword}
theorem run_fg {pins : List (Addr × Obj)} {σ : L2.St} {H : Hp} {s : Shared} {Q : VK} {us : List Value} {vs : List V} {E : XK}
    (G : FnC r X.prog X.w X.K X.mg X.base CX k f sp) (hg : r = true → X.A.guards = some []) (hr : Room k X.A) (hx : Passes CX X E)
    (I : L2.Inv X pins σ H s) (rv : Vals vs us) (h : sp vs H Q E) : wpAny (model X.prog X.w) X.A (call (.ref f) us) (EP X pins σ Q) X.xe s := by
  refine wpAny_call (codeAny_mono (G.go X.A X.stack s H us vs Q E hg hr I.env0 rv h) ?_)
  intro z s' hz
  match z, hz with
  | .error z, hz => exact hx pins σ H s z s' I hz
  | .ok (.ret z), hz => exact I.after hz
  | .ok .next, hz => exact hz.elim
  | .ok .brk, hz => exact hz.elim
  | .ok .cont, hz => exact hz.elim
theorem run_kg {pins : List (Addr × Obj)} {σ : L2.St} {H : Hp} {s : Shared} {Q : VK} {us ws : List Value} {vs zs : List V} {E : XK}
    (G : FnKC r X.prog X.w X.K X.mg X.base CX k f n ks sp) (hg : r = true → X.A.guards = some []) (hr : Room k X.A) (hx : Passes CX X E)
    (I : L2.Inv X pins σ H s) (rv : Vals vs us) (rz : Vals zs ws) (l1 : vs.length = n) (l2 : zs.length = ks.length) (h : sp (vs ++ zs) H Q E) : wpAny (model X.prog X.w) X.A (call (.ref f) us (ks.zip ws)) (EP X pins σ Q) X.xe s := by
  refine wpAny_call (codeAny_mono (G.go X.A X.stack s H us ws vs zs Q E hg hr I.env0 rv rz l1 l2 h) ?_)
  intro z s' hz
  match z, hz with
  | .error z, hz => exact hx pins σ H s z s' I hz
  | .ok (.ret z), hz => exact I.after hz
  | .ok .next, hz => exact hz.elim
  | .ok .brk, hz => exact hz.elim
  | .ok .cont, hz => exact hz.elim
theorem pe_fg {E : XK} (G : FnC r X.prog X.w X.K X.mg X.base CX k f sp) (gs : r = true → X.A.guards = some []) (hr : Room k X.A) (hg : Gl X x) (hm : X.mg x = some (.ref f)) (hk : PySem.W.keepIn X.K (.ref f) = true)
    (hx : Passes CX X E) (ha : PA X (e :: es) t) (hdb : (x == ("__debug__" : Str)) = false)
    (he : starEach (e :: es) X.env = (false, eval e X.env) :: starEach es X.env) (hp : (backTo pos (starEach es X.env)).any (·.1) = false) : PE X (.Call (.Name x p) (e :: es) [] pos) (fun σ H Q => t σ H fun vs H1 => sp vs H1 Q E) := by
  constructor
  intro pins s σ H Q I h
  apply wpAny_Call_Name_kw
  refine ld_glob I hg hm ?_ hdb
  exact PySem.W.callWith_K (h₀ := X.base) I.ok.mod.kin hk (thn (ha.run pos pins s σ H _ I h) fun us s1 ⟨vs, H1, I1, r, q⟩ => ⟨I1.kIn, run_fg G gs hr hx I1 r q⟩) he hp
theorem pe_fg0 {E : XK} (G : FnC r X.prog X.w X.K X.mg X.base CX k f sp) (gs : r = true → X.A.guards = some []) (hr : Room k X.A) (hg : Gl X x) (hm : X.mg x = some (.ref f)) (hk : PySem.W.keepIn X.K (.ref f) = true)
    (hx : Passes CX X E) (hdb : (x == ("__debug__" : Str)) = false) : PE X (.Call (.Name x p) [] [] pos) (fun σ H Q => sp [] H Q E) := by
  constructor
  intro pins s σ H Q I h
  apply wpAny_Call_Name_kw
  refine ld_glob I hg hm ?_ hdb
  exact PySem.W.callWith_K0 I.kIn hk (run_fg (us := []) (vs := []) G gs hr hx I .nil h)
/-- f(e, .., k = v, ..) -/
theorem pe_kg {E : XK} (G : FnKC r X.prog X.w X.K X.mg X.base CX k f n ks sp) (gs : r = true → X.A.guards = some []) (hr : Room k X.A) (hg : Gl X x) (hm : X.mg x = some (.ref f)) (hk : PySem.W.keepIn X.K (.ref f) = true)
    (hx : Passes CX X E) (ha : PA X (e :: es) t) (hkw : PK X kws tk) (hall : (backToKw pos (keywordEach kws X.env)).all (·.1.isSome) = true) (hks : (backToKw pos (keywordEach kws X.env)).filterMap (·.1) = ks) (hdb : (x == ("__debug__" : Str)) = false)
    (he : starEach (e :: es) X.env = (false, eval e X.env) :: starEach es X.env) (hp : ((backTo pos (starEach (e :: es) X.env)).any (·.1) || (backToKw pos (keywordEach kws X.env)).any (·.1.isNone)) = false) :
    PE X (.Call (.Name x p) (e :: es) kws pos) (fun σ H Q => t σ H fun vs H1 => tk σ H1 fun zs H2 => vs.length = n ∧ zs.length = ks.length ∧ sp (vs ++ zs) H2 Q E) := by
  constructor
  intro pins s σ H Q I h
  apply wpAny_Call_Name_kw
  refine ld_glob I hg hm ?_ hdb
  refine PySem.W.callWith_KW (h₀ := X.base) I.ok.mod.kin hk hall (thn (ha.run pos pins s σ H _ I h) fun us s1 ⟨vs, H1, I1, r1, q1⟩ => ?_) hp he
  refine thn (hkw.run pos pins s1 σ H1 _ I1 q1) fun ws s2 ⟨zs, H2, I2, r2, l1, l2, q2⟩ => ⟨I2.kIn, ?_⟩
  rw [hks]
  exact run_kg G gs hr hx I2 r1 r2 l1 l2 q2
/-- f(k = v, ..) -/
theorem pe_kg0 {E : XK} (G : FnKC r X.prog X.w X.K X.mg X.base CX k f 0 ks sp) (gs : r = true → X.A.guards = some []) (hr : Room k X.A) (hg : Gl X x) (hm : X.mg x = some (.ref f)) (hk : PySem.W.keepIn X.K (.ref f) = true)
    (hx : Passes CX X E) (hkw : PK X kws tk) (hall : (backToKw pos (keywordEach kws X.env)).all (·.1.isSome) = true) (hks : (backToKw pos (keywordEach kws X.env)).filterMap (·.1) = ks) (hdb : (x == ("__debug__" : Str)) = false)
    (hp : ((backTo pos (starEach [] X.env)).any (·.1) || (backToKw pos (keywordEach kws X.env)).any (·.1.isNone)) = false) :
    PE X (.Call (.Name x p) [] kws pos) (fun σ H Q => tk σ H fun zs H1 => zs.length = ks.length ∧ sp zs H1 Q E) := by
  constructor
  intro pins s σ H Q I h
  apply wpAny_Call_Name_kw
  refine ld_glob I hg hm ?_ hdb
  refine PySem.W.callWith_KW0 (h₀ := X.base) I.ok.mod.kin hk hall ?_ hp
  refine thn (hkw.run pos pins s σ H _ I h) fun ws s2 ⟨zs, H2, I2, r2, l2, q2⟩ => ⟨I2.kIn, ?_⟩
  rw [hks]
  exact run_kg (us := []) (vs := []) G gs hr hx I2 .nil r2 rfl l2 q2
end
/-- a def's body, run with its parameters bound -/
structure FnG (r : Bool) (P : Program) (w : World) (K : PySem.W.Frag) (mg : Str → Option Value) (base : Heap) (CX : CXT) (k : Nat) (f : Addr) (fd : FuncData) (ps : List Str) (sp : Sp) : Prop where
  many : ∀ vs H Q E, sp vs H Q E → vs.length = ps.length
  go : ∀ (A : Around) (outer : List Env) (s : Shared) (H : Hp) (args : Args) (us : List Value) (vs : List V) (Q : VK) (E : XK),
    (r = true → A.guards = some []) → Room k A → Env0 P w K mg base A outer s H → BindsTo s fd args (ps.zip us) → Vals vs us →
    sp vs H Q E → codeAny (model P w) A (.call (.ref f) args) (CR CX outer P w H s Q E) s
theorem FnG.ok {P : Program} {w : World} {K : PySem.W.Frag} {mg : Str → Option Value} {base : Heap} {CX : CXT} {k : Nat} {f : Addr} {fd : FuncData} {ps : List Str} {sp : Sp} (G : FnG false P w K mg base CX k f fd ps sp) : FnOk P w K mg base CX k f fd ps sp :=
  ⟨G.many, fun A outer s H args us vs Q E hr he hb hv q => G.go A outer s H args us vs Q E (fun z => by cases z) hr he hb hv q⟩
/-- called by values; the last ones by default -/
theorem FnG.call {r : Bool} {P : Program} {w : World} {K : PySem.W.Frag} {mg : Str → Option Value} {base : Heap} {CX : CXT} {k : Nat} {f : Addr} {fd : FuncData} {ps : List Str} {sp : Sp} {dv : List V} {du : List Value}
    (G : FnG r P w K mg base CX k f fd ps sp) (hb : Binds K fd ps du) (hd : Vals dv du) : FnC r P w K mg base CX k f fun vs H Q E => sp (vs ++ dv) H Q E := by
  refine ⟨fun A outer s H us vs Q E hg hr he rv q => ?_⟩
  have kin : K.In s.heap := he.mod.kin.keeps fun b o e => (he.bs b o e).1
  have r2 : Vals (vs ++ dv) (us ++ du) := rv.append hd
  have hl : (us ++ du).length = ps.length := by
    rw [← r2.length]
    exact G.many _ H Q E q
  exact G.go A outer s H ⟨us, []⟩ (us ++ du) (vs ++ dv) Q E hg hr he (hb s us kin hl) r2 q
theorem FnG.callK {r : Bool} {P : Program} {w : World} {K : PySem.W.Frag} {mg : Str → Option Value} {base : Heap} {CX : CXT} {k n : Nat} {f : Addr} {fd : FuncData} {ps ks : List Str} {sp : Sp} {g : List Value → List Value → List Value} {gV : List V → List V → List V}
    (G : FnG r P w K mg base CX k f fd ps sp) (hb : KBn K fd ps n ks g gV) : FnKC r P w K mg base CX k f n ks fun vz H Q E => sp (gV (vz.take n) (vz.drop n)) H Q E := by
  refine ⟨fun A outer s H us ws vs zs Q E hg hr he rv rz l1 l2 q => ?_⟩
  have kin : K.In s.heap := he.mod.kin.keeps fun b o e => (he.bs b o e).1
  have e1 : (vs ++ zs).take n = vs := by
    rw [← l1]
    simp
  have e2 : (vs ++ zs).drop n = zs := by
    rw [← l1]
    simp
  rw [e1, e2] at q
  exact G.go A outer s H ⟨us, ks.zip ws⟩ (g us ws) (gV vs zs) Q E hg hr he (hb.to s us ws kin (rv.length.symm.trans l1) (rz.length.symm.trans l2)) (hb.rel rv rz) q
/-- a def of the text keeps its promise by its body -/
theorem FunD_okG {r : Bool} {P : Program} {w : World} {K : PySem.W.Frag} {mg : Str → Option Value} {base : Heap} {x qual : Str} {params : Arguments} {body : List Stmt} {scope : Scope} {dvs : List V} {kws : List (Str × V)} {f : Addr} {fd : FuncData}
    {CX : CXT} {N ps : List Str} {k : Nat} {sp : Sp} (F : FunD K x qual params body scope dvs kws f fd) (SC : FnScope N ps scope) (many : ∀ vs H Q E, sp vs H Q E → vs.length = ps.length)
    (hb : ∀ (cdv : Value) (A : Around) (outer : List Env) (s : Shared) (H : Hp) (vs : List V) (Q : VK) (E : XK), (r = true → (A.deeper (envOfC qual scope s.heap.objs.size f cdv)).guards = some []) → Room k (A.deeper (envOfC qual scope s.heap.objs.size f cdv)) → sp vs H Q E →
      ∃ t, PSs (cxOf CX P w K mg base N qual scope f cdv A outer s H E) body t ∧ t { nx := fun _ H' => Q .non H', rt := Q } (start N vs) H) : FnG r P w K mg base CX (k + 1) f fd ps sp := by
  obtain ⟨oc, od, dV, kV, doc, pm, an, cdv, ct, osl, rfl, lk, hcd, _, _⟩ := F.ex
  refine ⟨many, ?_⟩
  intro A outer s H args us vs Q E hg hr e0 hbi r hsp
  have hl := many vs H Q E hsp
  have kin : K.In s.heap := e0.mod.kin.keeps fun b o e => (e0.bs b o e).1
  have nl : s.heap.NoLimit := e0.mod.nolimit.keeps fun b o e => (e0.bs b o e).1
  have kinds : ∀ y ∈ ps.zip us, scope.names.lookup y.1 = some .local ∨ (scope.names.lookup y.1 = some .cell ∧ ((cellsFrom (s.heap.objs.size + 1) scope.names []).lookup y.1).isSome = true) := by
    rintro ⟨n, v⟩ hy
    have hn : n ∈ ps := (List.of_mem_zip hy).1
    cases SC.par n hn with
    | inl q => exact .inl q
    | inr q => exact .inr ⟨q, PySem.W.cellsFrom_some _ _ _ (.inl q)⟩
  apply codeAny_call_function hr.depth (kin _ _ lk) rfl SC.co SC.gen rfl (PySem.W.codeRec_of kin hcd)
  apply hbi
  apply wpAny_newFunctionEnv_cells SC.kind kinds
  intro env he s1 ic
  subst he
  refine ⟨nl.keeps ic.toInCall.keep, codeAny_func ?_⟩
  obtain ⟨t, ht, hq⟩ := hb cdv A outer s H vs Q E hg (hr.deeper _) hsp
  have J0 : L2.Inv (cxOf CX P w K mg base N qual scope f cdv A outer s H E) [] (start N vs) H s1 := inv_start SC hr.hd e0 hl r ic
  have endOf : ∀ {σ2 : L2.St} {H2 : Hp} {v : V} {u : Value} {s2 : Shared}, L2.Inv (cxOf CX P w K mg base N qual scope f cdv A outer s H E) [] σ2 H2 s2 → RelV v u → Q v H2 → CE outer P w H s Q u s2 := by
    intro σ2 H2 v u s2 J rv q
    exact ⟨v, H2, J.os, J.bare, J.base, J.hok, rv, q⟩
  refine wpAny_mono (ht.run [] s1 (start N vs) H _ J0 hq) ?_ fun z s2 hz => hz
  intro fl s2 hs
  match fl, hs with
  | .ret u, ⟨v, σ2, H2, J, rv, q⟩ => exact endOf J rv q
  | .next, ⟨σ2, H2, J, q⟩ => exact endOf (v := V.non) (u := Value.none) J rfl q
  | .brk, ⟨_, _, _, q⟩ => exact q.elim
  | .cont, ⟨_, _, _, q⟩ => exact q.elim

/-! ### built-ins -/
theorem boolsD_rp {K : PySem.W.Frag} {F : Hp} : ∀ {xs : List V} {ds : List PyData} {bs : List Bool}, RpAll K F xs ds → boolsD ds = some bs → xs = bs.map V.bl
  | _, _, bs, .nil, h => by
    have e : bs = [] := (Option.some.inj h).symm
    rw [e]
    rfl
  | _, d :: ds, bs, .cons r t, h => by
    unfold boolsD at h
    cases d with
    | bool b =>
      cases q : boolsD ds with
      | none =>
        simp only [q] at h
        cases h
      | some cs =>
        simp only [q, Option.some.injEq] at h
        subst h
        cases r
        rw [boolsD_rp t q, List.map_cons]
    | _ => cases h
theorem intsD_rp {K : PySem.W.Frag} {F : Hp} : ∀ {xs : List V} {ds : List PyData} {bs : List Int}, RpAll K F xs ds → intsD ds = some bs → xs = bs.map V.int
  | _, _, bs, .nil, h => by
    have e : bs = [] := (Option.some.inj h).symm
    rw [e]
    rfl
  | _, d :: ds, bs, .cons r t, h => by
    unfold intsD at h
    cases d with
    | int b =>
      cases q : intsD ds with
      | none =>
        simp only [q] at h
        cases h
      | some cs =>
        simp only [q, Option.some.injEq] at h
        subst h
        cases r
        rw [intsD_rp t q, List.map_cons]
    | _ => cases h
theorem strsD_rp {K : PySem.W.Frag} {F : Hp} : ∀ {xs : List V} {ds : List PyData} {bs : List Str}, RpAll K F xs ds → strsD ds = some bs → xs = bs.map V.str
  | _, _, bs, .nil, h => by
    have e : bs = [] := (Option.some.inj h).symm
    rw [e]
    rfl
  | _, d :: ds, bs, .cons r t, h => by
    unfold strsD at h
    cases d with
    | str b =>
      cases q : strsD ds with
      | none =>
        simp only [q] at h
        cases h
      | some cs =>
        simp only [q, Option.some.injEq] at h
        subst h
        cases r
        rw [strsD_rp t q, List.map_cons]
    | _ => cases h
theorem srAll1 {K : PySem.W.Frag} {F : Hp} {vs : List V} {s : Sl} (h : SrAll K F vs [s]) : ∃ v, vs = [v] ∧ Sr K F v s := by
  match vs, h with
  | [v], h => exact ⟨v, rfl, h.1⟩
theorem srAll2 {K : PySem.W.Frag} {F : Hp} {vs : List V} {s t : Sl} (h : SrAll K F vs [s, t]) : ∃ v u, vs = [v, u] ∧ Sr K F v s ∧ Sr K F u t := by
  match vs, h with
  | [v, u], h => exact ⟨v, u, rfl, h.1, h.2.1⟩
theorem tyx_rp {K : PySem.W.Frag} {F H : Hp} {v : V} {d : PyData} (ex : Ex F H) (r : Rp K F v d) : TyX K H v (.type (tyName d)) := by
  cases r with
  | non => exact .base .non
  | bl b => exact .base (.bl b)
  | int i => exact .base (.int i)
  | str x => exact .base (.str x)
  | lst h _ => exact .base (.lst (ex _ _ h))
  | tup h _ =>
    rcases h with (h | ⟨o, h⟩) | ⟨o, its, n, hk, hc, _⟩
    · exact .base (.tup (ex _ _ h))
    · exact .fTuple (ex _ _ h)
    · exact .kTuple hk hc
def bfVal : Bf → Value
  | .len => .builtin "len"
  | .isinstance => .builtin "isinstance"
  | .all_ => .builtin "all"
  | .any_ => .builtin "any"
  | .list_ => .type "list"
  | .tuple_ => .type "tuple"
  | .int_ => .type "int"
  | .repr_ => .builtin "repr"
  | .sum_ => .builtin "sum"
section
variable {X : Cx}
theorem callR_imp {f : Value} {r r' : List V → Hp → VK → Prop} (h : CallR X f r) (k : ∀ vs H Q, r' vs H Q → r vs H Q) : CallR X f r' :=
  fun pins s σ H vs us Q I rv q => h pins s σ H vs us Q I rv (k vs H Q q)
theorem callBf {r : Bool} (hc : X.calm = true) (hg : r = true → X.A.guards = some []) (hu : X.A.units + 66 < cLine) : ∀ b : Bf, (b = .repr_ → r = true) → CallR X (bfVal b) (rSn X.K (dcall b)) := by
  intro b hbr pins s σ H vs us Q I rv h
  obtain ⟨F, ss, P, ex, sv, hd, k⟩ := h
  have kl : ∀ (z : PyData) (v : V), P (.d z) → Rp X.K F v z → Q v H := fun z v p r => k _ p v F H (Fm.refl ex) r
  have kn : ∀ (z : PyData) (o : HO), P (.d z) → Nt o → ∀ p, H p = none → Rp X.K (upd F p o) (.ref p) z → Q (.ref p) (upd H p o) := fun z o pz hn p hp r => k _ pz _ _ _ (Fm.new ex hp hn) r
  have fp : ∀ p, H p = none → F p = none := fun p hp => fresh_back ex hp
  unfold dcall at hd
  split at hd
  · obtain ⟨v, rfl, r⟩ := srAll1 sv
    cases r with
    | @lst a xs _ ha ra =>
      refine call_len_seq pins s σ H _ us Q I rv ⟨a, xs, rfl, .inl (.inl (.inl (ex _ _ ha))), ?_⟩
      rw [rpAll_len ra]
      exact kl _ _ hd (.int _)
  · obtain ⟨v, rfl, r⟩ := srAll1 sv
    cases r with
    | @tup a xs _ ha ra =>
      refine call_len_seq pins s σ H _ us Q I rv ⟨a, xs, rfl, .inr (ex_t ex ha), ?_⟩
      rw [rpAll_len ra]
      exact kl _ _ hd (.int _)
  · obtain ⟨v, rfl, r⟩ := srAll1 sv
    cases r
    exact call_len_str pins s σ H _ us Q I rv ⟨_, rfl, hd.1, kl _ _ hd.2 (.int _)⟩
  · obtain ⟨v, u, rfl, r, r2⟩ := srAll2 sv
    have e : u = _ := r2
    subst e
    split at hd
    · rename_i b e
      exact call_isi pins s σ H _ us Q I rv ⟨_, _, _, _, b, rfl, .ty _, tyx_rp ex r, kit_ty e, kl _ _ hd (.bl _)⟩
    · exact hd.elim
  · obtain ⟨v, rfl, r⟩ := srAll1 sv
    cases r with
    | @lst a xs _ ha ra =>
      split at hd
      · rename_i bs e
        have e2 := boolsD_rp ra e
        subst e2
        exact cr_all hc pins s σ H _ us Q I rv ⟨a, bs, rfl, .inl (.inl (ex _ _ ha)), kl _ _ hd (.bl _)⟩
      · exact hd.elim
  · obtain ⟨v, rfl, r⟩ := srAll1 sv
    cases r with
    | @lst a xs _ ha ra =>
      split at hd
      · rename_i bs e
        have e2 := boolsD_rp ra e
        subst e2
        exact cr_any hc pins s σ H _ us Q I rv ⟨a, bs, rfl, .inl (.inl (ex _ _ ha)), kl _ _ hd (.bl _)⟩
      · exact hd.elim
  · obtain ⟨v, rfl, r⟩ := srAll1 sv
    cases r with
    | @lst a xs _ ha ra =>
      exact call_list_of pins s σ H _ us Q I rv ⟨a, xs, rfl, .inl (.inl (.inl (ex _ _ ha))), fun p hp => kn _ _ hd (fun _ z => by cases z) p hp (.lst upd_same (dpAll_ex (Ex.new (fp p hp)) _ _ ra))⟩
  · obtain ⟨v, rfl, r⟩ := srAll1 sv
    cases r with
    | @tup a xs _ ha ra =>
      exact call_list_of pins s σ H _ us Q I rv ⟨a, xs, rfl, .inr (ex_t ex ha), fun p hp => kn _ _ hd (fun _ z => by cases z) p hp (.lst upd_same (dpAll_ex (Ex.new (fp p hp)) _ _ ra))⟩
  · obtain ⟨v, rfl, r⟩ := srAll1 sv
    cases r with
    | @lst a xs _ ha ra =>
      exact call_tuple_of pins s σ H _ us Q I rv ⟨a, xs, rfl, .inl ⟨.inl (.inl (ex _ _ ha)), fun p hp => kn _ _ hd (fun _ z => by cases z) p hp (.tup (.inl (.inl upd_same)) (dpAll_ex (Ex.new (fp p hp)) _ _ ra))⟩⟩
  · obtain ⟨v, rfl, r⟩ := srAll1 sv
    cases r with
    | @tup a xs _ ha ra =>
      exact call_tuple_of pins s σ H _ us Q I rv ⟨a, xs, rfl, .inr ⟨ex_t ex ha, kl _ _ hd (.tup ha ra)⟩⟩
  · obtain ⟨v, rfl, r⟩ := srAll1 sv
    cases r
    exact call_int1 pins s σ H _ us Q I rv (.inl ⟨_, rfl, kl _ _ hd (.int _)⟩)
  · obtain ⟨v, rfl, r⟩ := srAll1 sv
    cases r
    exact call_int1 pins s σ H _ us Q I rv (.inr ⟨_, rfl, kl _ _ hd (.int _)⟩)
  · obtain ⟨v, rfl, r⟩ := srAll1 sv
    cases r with
    | @lst a xs _ ha ra =>
      split at hd
      · rename_i ns e
        have e2 := intsD_rp ra e
        subst e2
        exact cr_sum hc pins s σ H _ us Q I rv ⟨a, ns, rfl, .inl (.inl (ex _ _ ha)), kl _ _ hd (.int _)⟩
      · exact hd.elim
  · obtain ⟨v, rfl, r⟩ := srAll1 sv
    obtain ⟨u, rfl, ru⟩ := vals1 rv
    obtain ⟨h1, h2, h3, h4⟩ := hd
    obtain ⟨as, rd⟩ := Dp.reads I _ v u (Rp.dp _ _ (dp_ex ex _ _ r)) ru
    have hdp := SeqAt.depth_of_shaped h1
    have nd := PyData.hasDict_of_canLay _ (SeqAt.canLay_of_shaped h1)
    have kq : ∀ (h' : Heap) (t : Tok) (tk : Nat), (∀ b o, s.heap.get? b = some o → h'.get? b = some o) → EP X pins σ Q (.str (PyData.shown _) t) { s with heap := h', toks := tk } :=
      fun h' t tk kp => ⟨.str _, H, I.kept kp, ⟨t, rfl⟩, kl _ _ h4 (.str _)⟩
    cases r with
    | non =>
      cases ru
      exact PySem.P.repr_of_none ⟨.str _, H, I.tok _, ⟨_, rfl⟩, kl _ _ h4 (.str _)⟩
    | bl b =>
      cases ru
      exact PySem.P.repr_of_bool ⟨.str _, H, I.tok _, ⟨_, rfl⟩, kl _ _ h4 (.str _)⟩
    | int i =>
      obtain ⟨t, rfl⟩ := ru
      exact PySem.P.repr_of_int (of_decide_eq_true h2) ⟨.str _, H, I.tok _, ⟨_, rfl⟩, kl _ _ h4 (.str _)⟩
    | str z =>
      obtain ⟨t, rfl⟩ := ru
      exact PySem.P.repr_of_str ⟨.str _, H, I.tok _, ⟨_, rfl⟩, kl _ _ h4 (.str _)⟩ h3
    | lst _ _ =>
      cases ru
      exact repr_of_reads' rd h2 (PyData.noDict_hsm nd) (hg (hbr rfl)) (by omega) (fun _ _ e => e) (fun h' t tk kp => kq h' t tk kp) h3
    | tup _ _ =>
      cases ru
      exact repr_of_reads' rd h2 (PyData.noDict_hsm nd) (hg (hbr rfl)) (by omega) (fun _ _ e => e) (fun h' t tk kp => kq h' t tk kp) h3
  · exact hd.elim
end
end Z
set_option Elab.async false
set_option linter.all false
set_option maxRecDepth 100000
set_option maxHeartbeats 4000000
namespace Z
open PySem PySem.Spec PyProof.Rows L2 Evl

section
variable {S : Type}
def FnIs (r : Bool) (X : Cx) (W : Wd S) (spec : Fsp S) (f : Str) : Prop := ∃ CX k a, FnC r X.prog X.w X.K X.mg X.base CX k a (spOf X.K W.rs W.J W.cls spec) ∧ Room k X.A ∧ X.mg f = some (.ref a) ∧ PySem.W.keepIn X.K (.ref a) = true ∧
  Passes CX X W.xe ∧ ∀ X' : Cx, X'.prog = X.prog → X'.w = X.w → X'.K = X.K → Passes CX X' E0
def KfIs (r : Bool) (X : Cx) (W : Wd S) (spec : Fsp S) (f : Str) (n : Nat) (ks : List Str) : Prop := ∃ CX k a, FnKC r X.prog X.w X.K X.mg X.base CX k a n ks (spOf X.K W.rs W.J W.cls spec) ∧ Room k X.A ∧ X.mg f = some (.ref a) ∧ PySem.W.keepIn X.K (.ref a) = true ∧
  Passes CX X W.xe ∧ ∀ X' : Cx, X'.prog = X.prog → X'.w = X.w → X'.K = X.K → Passes CX X' E0
structure CxOk (X : Cx) (W : Wd S) (Γ : Gam S) (sc : Scope) : Prop where
  calm : X.calm = true
  n : X.N = Γ.N
  nd : Γ.N.Nodup
  gl : ∀ x, sc.names.lookup x = some .globalImplicit → X.env.scope.names.lookup x = some .globalImplicit
  lo : ∀ x, sc.names.lookup x = some .local → X.env.scope.names.lookup x = some .local
  ce : ∀ x, sc.names.lookup x = some .cell → X.env.scope.names.lookup x = some .cell
  fr : ∀ x, sc.names.lookup x = some .free → X.env.scope.names.lookup x = some .cell ∨ X.env.scope.names.lookup x = some .free
  fnx : ∀ x, sc.names.lookup x = some .cell → X.fn x = true
  dbg : okSc sc = true
  free : ∀ x, Γ.free.contains x = true → X.mg x = none
  glob : ∀ x sl, Γ.glob.lookup x = some sl → ∃ v u, X.mg x = some u ∧ RelV v u ∧ ∀ F, Sr X.K F v sl
  fns : ∀ f spec, Γ.fns.lookup f = some spec → FnIs Γ.rep X W spec f
  kfs : ∀ f n ks spec, kfOf Γ.kfn f n ks = some spec → KfIs Γ.rep X W spec f n ks
  kind : X.env.scope.kind = .function
  po : PassesOwn (model X.prog X.w) X.A X.env X.xe
  room : X.A.units + 66 < cLine
  gs : Γ.rep = true → X.A.guards = some []
theorem okSc_no {sc : Scope} (h : okSc sc = true) {x : Str} {k : NameKind} (e : sc.names.lookup x = some k) : (x == ("__debug__" : Str)) = false ∧ (x == ("__classdict__" : Str)) = false ∧ x ≠ "__name__" := by
  unfold okSc at h
  simp only [Bool.and_eq_true, Option.isNone_iff_eq_none] at h
  obtain ⟨h1, h2, h3⟩ := h
  refine ⟨?_, ?_, ?_⟩
  · cases q : (x == ("__debug__" : Str)) with
    | false => rfl
    | true =>
      rw [eq_of_beq q, h1] at e
      cases e
  · cases q : (x == ("__classdict__" : Str)) with
    | false => rfl
    | true =>
      rw [eq_of_beq q, h2] at e
      cases e
  · intro q
    rw [q, h3] at e
    cases e
end
theorem pe_false {X : Cx} {e : Expr} {t : TE} (h : ∀ σ H Q, ¬ t σ H Q) : PE X e t := ⟨fun _ _ σ H Q _ q => (h σ H Q q).elim⟩
theorem pt_false {X : Cx} {e : Expr} {t : TT} (h : ∀ σ H Q, ¬ t σ H Q) : PT X e t := ⟨fun _ _ σ H Q _ q => (h σ H Q q).elim⟩
theorem star1 {e : Expr} (es : List Expr) (env : Env) (h : plainE e = true) : starEach (e :: es) env = (false, eval e env) :: starEach es env := by
  cases e <;> first | rfl | cases h
theorem any0 {pos : Pos} (env : Env) : ∀ {es : List Expr}, es.all plainE = true → (backTo pos (starEach es env)).any (·.1) = false
  | [], _ => rfl
  | e :: es, h => by
    rw [List.all_cons, Bool.and_eq_true] at h
    rw [star1 es env h.1]
    show (false || (backTo pos (starEach es env)).any (·.1)) = false
    rw [any0 env h.2]
    rfl
theorem fold0 {e : Expr} (env : Env) (h : setE e = false) (x : Value) : foldedSetIterable e env x = pure x := by
  cases e <;> first | rfl | cases h
theorem mark0 {op : CmpOp} {e : Expr} (h : setE e = false) : behindInMarks op e = false := by
  cases e <;> first | rfl | cases h
theorem last0 {o1 o2 : CmpOp} {a b : Expr} (h : setE b = false) : lastMarks [o1, o2] [a, b] = false := by
  show behindInMarks o2 b = false
  exact mark0 h
theorem plain0 {i : Expr} (h : slE i = false) : PlainIx i := by
  cases i <;> first | (exact fun _ _ => rfl) | cases h
theorem base0 {o : Expr} {m : Str} (env : Env) (h : callE o = false) : attributeBase o m env (eval o env) = eval o env := by
  cases o <;> first | rfl | cases h
theorem true0 {e : Expr} (env : Env) (h : condE e = false) (whole : Sem Value) : isTrue e env whole = (do let v ← whole; standAt e.pos; holding [v] (truthy v)) := by
  cases e <;> first | rfl | cases h | (rename_i op _ _; cases op <;> first | rfl | cases h)
section
variable {X : Cx}
theorem pt_tru {e : Expr} {t : TE} (h : PE X e t) (he : condE e = false) : PT X e (fun σ H R => t σ H fun x H1 => ∃ k, TruV X.K x H1 k ∧ R k H1) := by
  refine ⟨fun pins s σ H R I q => ?_⟩
  refine isTrue_plain (thn (h.run pins s σ H _ I q) ?_) (true0 X.env he _)
  rintro v s1 ⟨x, H1, I1, r1, k, tk, qk⟩
  exact tru_ok pins s1 σ H1 x v R I1 r1 ⟨k, tk, qk⟩
end

section
variable {S : Type} {X : Cx} {W : Wd S} {Γ : Gam S} {sc : Scope} {n : Nat}
theorem pe_w {e : Expr} {t : TE} (h : PE X e t) (k : ∀ σ H R ε s Qd Ed F, wE Γ n false sc ε s e Qd Ed → Cy X.K W F H σ ε s Ed → Kq X.K W F H Qd R → t σ H R) : PE X e (tWE X.K W Γ n sc e) :=
  pe_imp h fun σ H R ⟨ε, s, Qd, Ed, F, hw, cy, kq⟩ => k σ H R ε s Qd Ed F hw cy kq
theorem pt_w {e : Expr} {t : TT} (h : PT X e t) (k : ∀ σ H R ε s Qd Ed F, wE Γ n true sc ε s e Qd Ed → Cy X.K W F H σ ε s Ed → Kb W F H Qd R → t σ H R) : PT X e (tWT X.K W Γ n sc e) :=
  pt_imp h fun σ H R ⟨ε, s, Qd, Ed, F, hw, cy, kq⟩ => k σ H R ε s Qd Ed F hw cy kq
/-- an argument list -/
def tWA (K : PySem.W.Frag) (W : Wd S) (Γ : Gam S) (n : Nat) (sc : Scope) (es : List Expr) : TA := fun σ H R => ∃ ε s Qd Ed F, wArgs (fun e s Q => wE Γ n false sc ε s e Q Ed) es s Qd ∧ Cy K W F H σ ε s Ed ∧
  (∀ (vs : List V) (ss : List Sl) (s2 : S) (F2 H2 : Hp), Fm W.rs F H F2 H2 → W.J s2 F2 H2 → Qd ss s2 → SrAll K F2 vs ss → R vs H2)
theorem wArgs_cons {f : Expr → S → QS S → Prop} {e : Expr} {es : List Expr} {s : S} {Q : List Sl → S → Prop} (h : plainE e = true) : wArgs f (e :: es) s Q = f e s fun x s1 => wArgs f es s1 fun xs s2 => Q (x :: xs) s2 := by
  cases e <;> first | rfl | cases h
theorem srAll_data {K : PySem.W.Frag} {F : Hp} : ∀ {xs vs : List V} {ds : List PyData} {ss : List Sl}, RpAll K F xs ds → SrAll K F vs ss → SrAll K F (xs ++ vs) (ds.map .d ++ ss)
  | _, _, _, _, .nil, r => r
  | _, _, _, _, .cons h t, r => ⟨h, srAll_data t r⟩
theorem pa_wa (ih : ∀ e, PE X e (tWE X.K W Γ n sc e)) : ∀ es : List Expr, PA X es (tWA X.K W Γ n sc es)
  | [] => pa_imp pa_nil fun σ H R ⟨ε, s, Qd, Ed, F, hw, cy, kq⟩ => kq [] [] s F H (Fm.refl cy.ex) cy.j hw True.intro
  | e :: es => by
    cases hp : plainE e with
    | true =>
      refine pa_imp (pa_cons (ih e) (pa_wa ih es) (star1 es X.env hp)) fun σ H R ⟨ε, s, Qd, Ed, F, hw, cy, kq⟩ => ?_
      rw [wArgs_cons hp] at hw
      refine ⟨ε, s, _, Ed, F, hw, cy, fun v sl s2 F2 H2 m j q r => ?_⟩
      exact ⟨ε, s2, _, Ed, F2, q, cy.next m j, fun vs ss s3 F3 H3 m3 j3 q3 r3 => kq (v :: vs) (sl :: ss) s3 F3 H3 (m.trans m3) j3 q3 ⟨sr_ex m3.ff r, r3⟩⟩
    | false =>
      cases e with
      | Starred e p =>
        refine pa_imp (StX.pa_star (ih e) (pa_wa ih es)) fun σ H R ⟨ε, s, Qd, Ed, F, hw, cy, kq⟩ => ?_
        refine ⟨ε, s, _, Ed, F, hw, cy, fun v sl s2 F2 H2 m j q r => ?_⟩
        have fin : ∀ (a : Addr) (xs : List V) (ds : List PyData), (SqT X.K H2 a xs ∨ SqL X.K H2 a xs) → RpAll X.K F2 xs ds → wArgs (fun e s Q => wE Γ n false sc ε s e Q Ed) es s2 (fun ys s3 => Qd (ds.map .d ++ ys) s3) →
            ∃ p xs, V.ref a = .ref p ∧ (SqT X.K H2 p xs ∨ SqL X.K H2 p xs) ∧ tWA X.K W Γ n sc es σ H2 fun ys H3 => R (xs ++ ys) H3 := by
          intro a xs ds hs ra hq
          exact ⟨a, xs, rfl, hs, ε, s2, _, Ed, F2, hq, cy.next m j, fun vs ss s3 F3 H3 m3 j3 q3 r3 => kq (xs ++ vs) (ds.map .d ++ ss) s3 F3 H3 (m.trans m3) j3 q3 (srAll_data (dpAll_ex m3.ff _ _ ra) r3)⟩
        dsimp only at q
        split at q
        · cases r with
          | @lst a xs ds ha ra => exact fin a xs _ (.inr (.inl (.inl (m.fh _ _ ha)))) ra q
        · cases r with
          | @tup a xs ds ha ra => exact fin a xs _ (.inl (ex_t m.fh ha)) ra q
        · exact q.elim
      | _ => cases hp
theorem pa_w (ih : ∀ e, PE X e (tWE X.K W Γ n sc e)) (es : List Expr) (_ : es.all plainE = true) : PA X es (tWA X.K W Γ n sc es) := pa_wa ih es
/-- keywords -/
def tWK (K : PySem.W.Frag) (W : Wd S) (Γ : Gam S) (n : Nat) (sc : Scope) (ks : List Keyword) : TA := fun σ H R => ∃ ε s Qd Ed F, wKws (fun e s Q => wE Γ n false sc ε s e Q Ed) ks s Qd ∧ Cy K W F H σ ε s Ed ∧
  (∀ (vs : List V) (ss : List Sl) (s2 : S) (F2 H2 : Hp), Fm W.rs F H F2 H2 → W.J s2 F2 H2 → Qd ss s2 → SrAll K F2 vs ss → R vs H2)
theorem pk_w (ih : ∀ e, PE X e (tWE X.K W Γ n sc e)) : ∀ ks : List Keyword, PK X ks (tWK X.K W Γ n sc ks)
  | [] => ⟨fun pos pins s σ H R I ⟨ε, s1, Qd, Ed, F, hw, cy, kq⟩ => pk_nil.run pos pins s σ H R I (kq [] [] s1 F H (Fm.refl cy.ex) cy.j hw True.intro)⟩
  | ⟨nm, e, kp⟩ :: ks => ⟨fun pos pins s σ H R I ⟨ε, s1, Qd, Ed, F, hw, cy, kq⟩ => (pk_cons (nm := nm) (kpos := kp) (ih e) (pk_w ih ks)).run pos pins s σ H R I
      ⟨ε, s1, _, Ed, F, hw, cy, fun v sl s2 F2 H2 m j q r => ⟨ε, s2, _, Ed, F2, q, cy.next m j, fun vs ss s3 F3 H3 m3 j3 q3 r3 => kq (v :: vs) (sl :: ss) s3 F3 H3 (m.trans m3) j3 q3 ⟨sr_ex m3.ff r, r3⟩⟩⟩⟩
theorem data_all {K : PySem.W.Frag} {F : Hp} : ∀ {ss : List Sl} {ds : List PyData} {vs : List V}, dataAll ss = some ds → SrAll K F vs ss → RpAll K F vs ds
  | [], ds, vs, h, r => by
    cases h
    match vs, r with
    | [], _ => exact .nil
  | .d x :: ss, ds, vs, h, r => by
    unfold dataAll at h
    cases e : dataAll ss with
    | none =>
      simp only [e] at h
      cases h
    | some xs =>
      simp only [e, Option.some.injEq] at h
      subst h
      match vs, r with
      | v :: vs, r => exact .cons r.1 (data_all e r.2)
  | .v _ :: _, _, _, h, _ => by cases h
  | .own _ :: _, _, _, h, _ => by cases h
/-- a value that is told at once -/
theorem kq_now {F H : Hp} {σ : L2.St} {ε : En} {s : S} {Ed : QX S} {Qd : QS S} {R : VK} (cy : Cy X.K W F H σ ε s Ed) (kq : Kq X.K W F H Qd R) {v : V} {sl : Sl} (q : Qd sl s) (r : Sr X.K F v sl) : R v H :=
  kq v sl s F H (Fm.refl cy.ex) cy.j q r
theorem kq_pure {F H : Hp} {σ : L2.St} {ε : En} {s : S} {Ed : QX S} {Qd : QS S} {R : VK} (cy : Cy X.K W F H σ ε s Ed) (kq : Kq X.K W F H Qd R) {v : V} {sl : Sl} {F2 H2 : Hp} (m : Fm [] F H F2 H2) (q : Qd sl s) (r : Sr X.K F2 v sl) : R v H2 :=
  kq v sl s F2 H2 m.more (Wd.pure cy.j m) q r
end
end Z
set_option Elab.async false
set_option linter.all false
set_option maxRecDepth 100000
set_option maxHeartbeats 4000000
namespace Z
open PySem PySem.Spec PyProof.Rows L2 Evl
theorem look_mem {α β : Type} [BEq α] [LawfulBEq α] {x : α} {b : β} : ∀ {l : List (α × β)}, l.lookup x = some b → (x, b) ∈ l
  | [], h => by cases h
  | (y, c) :: l, h => by
    rw [List.lookup_cons] at h
    cases e : x == y with
    | true =>
      rw [e] at h
      cases h
      rw [eq_of_beq e]
      exact List.mem_cons_self
    | false =>
      rw [e] at h
      exact List.mem_cons_of_mem _ (look_mem h)
theorem tyOf_boot {x : Str} {T : String} (h : tyOf x = some T) : bootBuiltins x = some (.type T) := by
  have m := look_mem h
  simp only [List.mem_cons, List.not_mem_nil, or_false, Prod.mk.injEq] at m
  rcases m with ⟨rfl, rfl⟩ | ⟨rfl, rfl⟩ | ⟨rfl, rfl⟩ | ⟨rfl, rfl⟩ | ⟨rfl, rfl⟩ <;> decide +kernel
theorem bfOf_boot {r : Bool} {x : Str} {b : Bf} (h : bfOf r x = some b) : bootBuiltins x = some (bfVal b) := by
  cases r with
  | true =>
    have m := look_mem h
    simp only [List.mem_cons, List.not_mem_nil, or_false, Prod.mk.injEq] at m
    rcases m with ⟨rfl, rfl⟩ | ⟨rfl, rfl⟩ | ⟨rfl, rfl⟩ | ⟨rfl, rfl⟩ | ⟨rfl, rfl⟩ | ⟨rfl, rfl⟩ | ⟨rfl, rfl⟩ | ⟨rfl, rfl⟩ | ⟨rfl, rfl⟩ <;> decide +kernel
  | false =>
    have m := look_mem h
    simp only [List.mem_cons, List.not_mem_nil, or_false, Prod.mk.injEq] at m
    rcases m with ⟨rfl, rfl⟩ | ⟨rfl, rfl⟩ | ⟨rfl, rfl⟩ | ⟨rfl, rfl⟩ | ⟨rfl, rfl⟩ | ⟨rfl, rfl⟩ | ⟨rfl, rfl⟩ | ⟨rfl, rfl⟩ <;> decide +kernel

section
variable {S : Type} {X : Cx} {W : Wd S} {Γ : Gam S} {sc : Scope} {n : Nat} (C : CxOk X W Γ sc)
include C
theorem CxOk.vis {x : Str} (h : sc.names.lookup x = some .local ∨ sc.names.lookup x = some .cell ∨ sc.names.lookup x = some .free) : Vis X.env.scope x := by
  rcases h with h | h | h
  · exact .inl (C.lo x h)
  · exact .inr (.inl (C.ce x h))
  · rcases C.fr x h with z | z
    · exact .inr (.inl z)
    · exact .inr (.inr z)
theorem pe_slot {x : Str} {pos : Pos} (h : sc.names.lookup x = some .local ∨ sc.names.lookup x = some .cell ∨ sc.names.lookup x = some .free)
    (hw : ∀ ε s (Qd : QS S) Ed, wE Γ (n + 1) false sc ε s (.Name x pos) Qd Ed → (match ixOf Γ.N x with
        | some i => getE ε i fun v => Qd v s
        | none => False)) : PE X (.Name x pos) (tWE X.K W Γ (n + 1) sc (.Name x pos)) := by
  have nd : (x == ("__debug__" : Str)) = false ∧ (x == ("__classdict__" : Str)) = false ∧ x ≠ "__name__" := by
    rcases h with h | h | h <;> exact okSc_no C.dbg h
  cases e : ixOf Γ.N x with
  | none =>
    refine pe_false fun σ H R ⟨ε, s, Qd, Ed, F, w, cy, kq⟩ => ?_
    have := hw ε s Qd Ed w
    rw [e] at this
    exact this
  | some i =>
    have hN : X.N[i]? = some x := by
      rw [C.n]
      exact ixOf_get e
    refine pe_w (pe_var hN (CxOk.vis C h) nd.1 nd.2.1) fun σ H R ε s Qd Ed F w cy kq => ?_
    have g := hw ε s Qd Ed w
    simp only [e] at g
    unfold getE at g
    obtain ⟨ps, er⟩ := cy.er
    split at g
    · rename_i d he
      obtain ⟨v, h1, h2⟩ := er.get he (fun _ z => nomatch z)
      exact ⟨v, h1, kq_now cy kq g h2⟩
    · rename_i d he
      obtain ⟨v, h1, h2⟩ := er.get he (fun _ z => nomatch z)
      exact ⟨v, h1, kq_now cy kq g h2⟩
    · exact g.elim
theorem pe_nm {x : Str} {pos : Pos} : PE X (.Name x pos) (tWE X.K W Γ (n + 1) sc (.Name x pos)) := by
  cases e : sc.names.lookup x with
  | none =>
    refine pe_false fun σ H R ⟨ε, s, Qd, Ed, F, w, cy, kq⟩ => ?_
    simp only [wE, chk_iff, chkN_iff, Bool.and_eq_true, decide_eq_true_eq, isG_iff, Bool.not_eq_true', and_assoc, e] at w
  | some k =>
    cases k with
    | globalImplicit =>
      have nd := okSc_no C.dbg e
      cases q : Γ.glob.lookup x with
      | some sl =>
        obtain ⟨v, u, hm, r, sr⟩ := C.glob x sl q
        refine pe_w (pe_glob (C.gl x e) hm r nd.1) fun σ H R ε s Qd Ed F w cy kq => ?_
        simp only [wE, chk_iff, chkN_iff, Bool.and_eq_true, decide_eq_true_eq, isG_iff, Bool.not_eq_true', and_assoc, e, q] at w
        exact kq_now cy kq w (sr F)
      | none =>
        cases t : tyOf x with
        | none =>
          refine pe_false fun σ H R ⟨ε, s, Qd, Ed, F, w, cy, kq⟩ => ?_
          simp only [wE, chk_iff, chkN_iff, Bool.and_eq_true, decide_eq_true_eq, isG_iff, Bool.not_eq_true', and_assoc, e, q, t] at w
        | some T =>
          cases f : Γ.free.contains x with
          | false =>
            refine pe_false fun σ H R ⟨ε, s, Qd, Ed, F, w, cy, kq⟩ => ?_
            simp only [wE, chk_iff, chkN_iff, Bool.and_eq_true, decide_eq_true_eq, isG_iff, Bool.not_eq_true', and_assoc, e, q, t, f] at w
            exact Bool.false_ne_true w.1
          | true =>
            refine pe_w (pe_bltn (v := .ty T) (C.gl x e) (C.free x f) (tyOf_boot t) rfl nd.2.2 nd.1) fun σ H R ε s Qd Ed F w cy kq => ?_
            simp only [wE, chk_iff, chkN_iff, Bool.and_eq_true, decide_eq_true_eq, isG_iff, Bool.not_eq_true', and_assoc, e, q, t] at w
            exact kq_now cy kq w.2 rfl
    | «local» =>
      refine pe_slot C (.inl e) fun ε s Qd Ed w => ?_
      simp only [wE, chk_iff, chkN_iff, Bool.and_eq_true, decide_eq_true_eq, isG_iff, Bool.not_eq_true', and_assoc, e] at w
      exact w
    | cell =>
      refine pe_slot C (.inr (.inl e)) fun ε s Qd Ed w => ?_
      simp only [wE, chk_iff, chkN_iff, Bool.and_eq_true, decide_eq_true_eq, isG_iff, Bool.not_eq_true', and_assoc, e] at w
      exact w
    | free =>
      refine pe_slot C (.inr (.inr e)) fun ε s Qd Ed w => ?_
      simp only [wE, chk_iff, chkN_iff, Bool.and_eq_true, decide_eq_true_eq, isG_iff, Bool.not_eq_true', and_assoc, e] at w
      exact w
    | _ =>
      refine pe_false fun σ H R ⟨ε, s, Qd, Ed, F, w, cy, kq⟩ => ?_
      simp only [wE, chk_iff, chkN_iff, Bool.and_eq_true, decide_eq_true_eq, isG_iff, Bool.not_eq_true', and_assoc, e] at w
theorem pe_cst {c : Const} {k : Nat} {pos : Pos} : PE X (.Constant c k pos) (tWE X.K W Γ (n + 1) sc (.Constant c k pos)) := by
  cases c with
  | int i => exact pe_w pe_int fun σ H R ε s Qd Ed F w cy kq => kq_now cy kq (show Qd (.d (.int i)) s by simpa only [wE, chk_iff, chkN_iff, Bool.and_eq_true, decide_eq_true_eq, isG_iff, Bool.not_eq_true', and_assoc] using w) (.int i)
  | str x => exact pe_w pe_str fun σ H R ε s Qd Ed F w cy kq => kq_now cy kq (show Qd (.d (.str x)) s by simpa only [wE, chk_iff, chkN_iff, Bool.and_eq_true, decide_eq_true_eq, isG_iff, Bool.not_eq_true', and_assoc] using w) (.str x)
  | bool b => exact pe_w pe_bl fun σ H R ε s Qd Ed F w cy kq => kq_now cy kq (show Qd (.d (.bool b)) s by simpa only [wE, chk_iff, chkN_iff, Bool.and_eq_true, decide_eq_true_eq, isG_iff, Bool.not_eq_true', and_assoc] using w) (.bl b)
  | none => exact pe_w pe_non fun σ H R ε s Qd Ed F w cy kq => kq_now cy kq (show Qd (.d .none) s by simpa only [wE, chk_iff, chkN_iff, Bool.and_eq_true, decide_eq_true_eq, isG_iff, Bool.not_eq_true', and_assoc] using w) .non
  | _ =>
    refine pe_false fun σ H R ⟨ε, s, Qd, Ed, F, w, cy, kq⟩ => ?_
    simp only [wE, chk_iff, chkN_iff, Bool.and_eq_true, decide_eq_true_eq, isG_iff, Bool.not_eq_true', and_assoc] at w
variable (ih : ∀ e, PE X e (tWE X.K W Γ n sc e)) (it : ∀ e, PT X e (tWT X.K W Γ n sc e))
include ih
theorem pe_bo {a b : Expr} {op : Operator} {pos : Pos} : PE X (.BinOp a op b pos) (tWE X.K W Γ (n + 1) sc (.BinOp a op b pos)) := by
  refine pe_w (pe_op (opB op) (ih a) (ih b)) fun σ H R ε s Qd Ed F w cy kq => ?_
  simp only [wE, chk_iff, chkN_iff, Bool.and_eq_true, decide_eq_true_eq, isG_iff, Bool.not_eq_true', and_assoc] at w
  refine ⟨ε, s, _, Ed, F, w, cy, fun v x s2 F2 H2 m j q r => ?_⟩
  refine ⟨ε, s2, _, Ed, F2, q, cy.next m j, fun u y s3 F3 H3 m3 j3 q3 r3 => ?_⟩
  exact ⟨F3, x, y, _, m3.fh, sr_ex m3.ff r, r3, q3, fun z hz v2 F4 H4 m4 r4 => kq_pure (cy.next (m.trans m3) j3) (kq.next (m.trans m3)) m4 hz r4⟩
theorem pe_not {a : Expr} {pos : Pos} : PE X (.UnaryOp .Not a pos) (tWE X.K W Γ (n + 1) sc (.UnaryOp .Not a pos)) := by
  refine pe_w (pe_notT (ih a)) fun σ H R ε s Qd Ed F w cy kq => ?_
  simp only [wE, chk_iff, chkN_iff, Bool.and_eq_true, decide_eq_true_eq, isG_iff, Bool.not_eq_true', and_assoc] at w
  refine ⟨ε, s, _, Ed, F, w, cy, fun v x s2 F2 H2 m j q r => ?_⟩
  obtain ⟨k, t, q2⟩ := tru_v m.fh r q
  exact ⟨k, t, kq_now (cy.next m j) (kq.next m) q2 (.bl _)⟩
theorem pe_neg {a : Expr} {pos : Pos} : PE X (.UnaryOp .USub a pos) (tWE X.K W Γ (n + 1) sc (.UnaryOp .USub a pos)) := by
  refine pe_w (pe_un un_neg (ih a)) fun σ H R ε s Qd Ed F w cy kq => ?_
  simp only [wE, chk_iff, chkN_iff, Bool.and_eq_true, decide_eq_true_eq, isG_iff, Bool.not_eq_true', and_assoc] at w
  refine ⟨ε, s, _, Ed, F, w, cy, fun v x s2 F2 H2 m j q r => ?_⟩
  dsimp only at q
  split at q
  · cases r
    exact ⟨_, rfl, kq_now (cy.next m j) (kq.next m) q (.int _)⟩
  · exact q.elim
theorem pe_ands {pos : Pos} : ∀ es : List Expr, PE X (.BoolOp .And es pos) (fun σ H R => ∃ ε s Qd Ed F, wAnd (fun e s Q => wE Γ n false sc ε s e Q Ed) es s Qd ∧ Cy X.K W F H σ ε s Ed ∧ Kq X.K W F H Qd R)
  | [] => pe_false fun σ H R ⟨ε, s, Qd, Ed, F, w, cy, kq⟩ => w
  | [e] => pe_imp (pe_one (ih e)) fun σ H R ⟨ε, s, Qd, Ed, F, w, cy, kq⟩ => ⟨ε, s, Qd, Ed, F, w, cy, kq⟩
  | e :: e2 :: es => pe_imp (pe_andT (ih e) (pe_ands (e2 :: es))) fun σ H R ⟨ε, s, Qd, Ed, F, w, cy, kq⟩ => by
    refine ⟨ε, s, _, Ed, F, w, cy, fun v x s2 F2 H2 m j q r => ?_⟩
    obtain ⟨k, t, q2⟩ := tru_v m.fh r q
    refine ⟨k, t, ?_⟩
    cases k with
    | true => exact ⟨ε, s2, Qd, Ed, F2, q2, cy.next m j, kq.next m⟩
    | false => exact kq v x s2 F2 H2 m j q2 r
theorem pe_ors {pos : Pos} : ∀ es : List Expr, PE X (.BoolOp .Or es pos) (fun σ H R => ∃ ε s Qd Ed F, wOr (fun e s Q => wE Γ n false sc ε s e Q Ed) es s Qd ∧ Cy X.K W F H σ ε s Ed ∧ Kq X.K W F H Qd R)
  | [] => pe_false fun σ H R ⟨ε, s, Qd, Ed, F, w, cy, kq⟩ => w
  | [e] => pe_imp (pe_one (ih e)) fun σ H R ⟨ε, s, Qd, Ed, F, w, cy, kq⟩ => ⟨ε, s, Qd, Ed, F, w, cy, kq⟩
  | e :: e2 :: es => pe_imp (pe_orT (ih e) (pe_ors (e2 :: es))) fun σ H R ⟨ε, s, Qd, Ed, F, w, cy, kq⟩ => by
    refine ⟨ε, s, _, Ed, F, w, cy, fun v x s2 F2 H2 m j q r => ?_⟩
    obtain ⟨k, t, q2⟩ := tru_v m.fh r q
    refine ⟨k, t, ?_⟩
    cases k with
    | false => exact ⟨ε, s2, Qd, Ed, F2, q2, cy.next m j, kq.next m⟩
    | true => exact kq v x s2 F2 H2 m j q2 r
/-- a comparison's outcome -/
theorem cmp_end {op : CmpOp} {F H : Hp} {σ : L2.St} {ε : En} {s : S} {Ed : QX S} {R : VK} {x y : Sl} {v u : V} {P : Bool → Prop} (cy : Cy X.K W F H σ ε s Ed) (r : Sr X.K F v x) (r2 : Sr X.K F u y) (q : dcmp op x y P)
    (k : ∀ b, P b → ∀ F2 H2, Fm [] F H F2 H2 → R (.bl b) H2) : rS2 X.K (fun x y P => dcmp op x y fun b => P (.d (.bool b))) v u H R :=
  ⟨F, x, y, fun z => ∃ b, z = .d (.bool b) ∧ P b, cy.ex, r, r2, by
    have e : (fun b => ∃ c, Sl.d (.bool b) = .d (.bool c) ∧ P c) = P := by
      funext b
      apply propext
      constructor
      · rintro ⟨c, e, h⟩
        cases e
        exact h
      · exact fun h => ⟨b, rfl, h⟩
    show dcmp op x y fun b => ∃ c, Sl.d (.bool b) = .d (.bool c) ∧ P c
    rw [e]
    exact q, fun z ⟨b, e, pb⟩ v2 F2 H2 m r3 => by
      subst e
      cases r3
      exact k b pb F2 H2 m⟩
theorem pe_c1 {a b : Expr} {op : CmpOp} {pos : Pos} : PE X (.Compare a [op] [b] pos) (tWE X.K W Γ (n + 1) sc (.Compare a [op] [b] pos)) := by
  cases hs : setE b with
  | true =>
    refine pe_false fun σ H R ⟨ε, s, Qd, Ed, F, w, cy, kq⟩ => ?_
    simp only [wE, chk_iff, chkN_iff, Bool.and_eq_true, decide_eq_true_eq, isG_iff, Bool.not_eq_true', and_assoc, hs] at w
    exact Bool.false_ne_true w.1.symm
  | false =>
    refine pe_w (pe_cmpR (opC (by have := C.room; omega) op) (ih a) (ih b) (mark0 hs)) fun σ H R ε s Qd Ed F w cy kq => ?_
    simp only [wE, chk_iff, chkN_iff, Bool.and_eq_true, decide_eq_true_eq, isG_iff, Bool.not_eq_true', and_assoc] at w
    refine ⟨ε, s, _, Ed, F, w.2, cy, fun v x s2 F2 H2 m j q r => ?_⟩
    refine ⟨ε, s2, _, Ed, F2, q, cy.next m j, fun u y s3 F3 H3 m3 j3 q3 r3 => ?_⟩
    exact cmp_end C ih (cy.next (m.trans m3) j3) (sr_ex m3.ff r) r3 q3 fun b pb F4 H4 m4 => kq_pure (cy.next (m.trans m3) j3) (kq.next (m.trans m3)) m4 pb (.bl b)
theorem pt_c1 {a b : Expr} {op : CmpOp} {pos : Pos} : PT X (.Compare a [op] [b] pos) (tWT X.K W Γ (n + 1) sc (.Compare a [op] [b] pos)) := by
  cases hs : setE b with
  | true =>
    refine pt_false fun σ H R ⟨ε, s, Qd, Ed, F, w, cy, kq⟩ => ?_
    simp only [wE, chk_iff, chkN_iff, Bool.and_eq_true, decide_eq_true_eq, isG_iff, Bool.not_eq_true', and_assoc, hs] at w
    exact Bool.false_ne_true w.1.symm
  | false =>
    refine pt_w (pt_cmpR (opC (by have := C.room; omega) op) (ih a) (ih b) (mark0 hs)) fun σ H R ε s Qd Ed F w cy kq => ?_
    simp only [wE, chk_iff, chkN_iff, Bool.and_eq_true, decide_eq_true_eq, isG_iff, Bool.not_eq_true', and_assoc] at w
    refine ⟨ε, s, _, Ed, F, w.2, cy, fun v x s2 F2 H2 m j q r => ?_⟩
    refine ⟨ε, s2, _, Ed, F2, q, cy.next m j, fun u y s3 F3 H3 m3 j3 q3 r3 => ?_⟩
    exact cmp_end C ih (cy.next (m.trans m3) j3) (sr_ex m3.ff r) r3 q3 fun b pb F4 H4 m4 => ⟨b, rfl, kq b s3 F4 H4 ((m.trans m3).trans m4.more) (Wd.pure j3 m4) pb⟩
theorem chain_end {a b c : Expr} {op op2 : CmpOp} {F H : Hp} {σ : L2.St} {ε : En} {s : S} {Ed : QX S} {Qd : QS S} {R : VK} {pos : Pos} (cy : Cy X.K W F H σ ε s Ed) (kq : ∀ b s2 F2 H2, Fm W.rs F H F2 H2 → W.J s2 F2 H2 → Qd (.d (.bool b)) s2 → R (.bl b) H2)
    (w : wE Γ n false sc ε s a (fun x s1 => wE Γ n false sc ε s1 b (fun y s2 => dcmp op x y fun z => if z = true then wE Γ n false sc ε s2 c (fun u s3 => dcmp op2 y u fun z => Qd (.d (.bool z)) s3) Ed else Qd (.d (.bool false)) s2) Ed) Ed) :
    tChain (rS2 X.K fun x y P => dcmp op x y fun b => P (.d (.bool b))) (rS2 X.K fun x y P => dcmp op2 x y fun b => P (.d (.bool b))) (tWE X.K W Γ n sc a) (tWE X.K W Γ n sc b) (tWE X.K W Γ n sc c) σ H R := by
  refine ⟨ε, s, _, Ed, F, w, cy, fun v x s2 F2 H2 m j q r => ?_⟩
  refine ⟨ε, s2, _, Ed, F2, q, cy.next m j, fun u y s3 F3 H3 m3 j3 q3 r3 => ?_⟩
  refine cmp_end C ih (cy.next (m.trans m3) j3) (sr_ex m3.ff r) r3 q3 fun b pb F4 H4 m4 => ⟨b, rfl, ?_⟩
  have m14 := (m.trans m3).trans m4.more
  have j4 := Wd.pure j3 m4
  cases b with
  | false => exact kq false s3 F4 H4 m14 j4 (by simpa using pb)
  | true =>
    refine ⟨ε, s3, _, Ed, F4, (by simpa using pb), cy.next m14 j4, fun t z s5 F5 H5 m5 j5 q5 r5 => ?_⟩
    exact cmp_end C ih (cy.next (m14.trans m5) j5) (sr_ex (m4.ff.trans m5.ff) r3) r5 q5 fun b pb F6 H6 m6 => kq b s5 F6 H6 ((m14.trans m5).trans m6.more) (Wd.pure j5 m6) pb
theorem pe_c2 {a b c : Expr} {op op2 : CmpOp} {pos : Pos} : PE X (.Compare a [op, op2] [b, c] pos) (tWE X.K W Γ (n + 1) sc (.Compare a [op, op2] [b, c] pos)) := by
  cases hs : setE c with
  | true =>
    refine pe_false fun σ H R ⟨ε, s, Qd, Ed, F, w, cy, kq⟩ => ?_
    simp only [wE, chk_iff, chkN_iff, Bool.and_eq_true, decide_eq_true_eq, isG_iff, Bool.not_eq_true', and_assoc, hs] at w
    exact Bool.false_ne_true w.1.symm
  | false =>
    have hu : X.A.units + 65 < cLine := by have := C.room; omega
    refine pe_w (pe_chain (opC hu op) (opC hu op2) (ih a) (ih b) (ih c) (last0 hs)) fun σ H R ε s Qd Ed F w cy kq => ?_
    simp only [wE, chk_iff, chkN_iff, Bool.and_eq_true, decide_eq_true_eq, isG_iff, Bool.not_eq_true', and_assoc] at w
    exact chain_end C ih (pos := pos) cy (fun b s2 F2 H2 m j q => kq _ _ s2 F2 H2 m j q (.bl b)) w.2
theorem pt_c2 {a b c : Expr} {op op2 : CmpOp} {pos : Pos} : PT X (.Compare a [op, op2] [b, c] pos) (tWT X.K W Γ (n + 1) sc (.Compare a [op, op2] [b, c] pos)) := by
  cases hs : setE c with
  | true =>
    refine pt_false fun σ H R ⟨ε, s, Qd, Ed, F, w, cy, kq⟩ => ?_
    simp only [wE, chk_iff, chkN_iff, Bool.and_eq_true, decide_eq_true_eq, isG_iff, Bool.not_eq_true', and_assoc, hs] at w
    exact Bool.false_ne_true w.1.symm
  | false =>
    have hu : X.A.units + 65 < cLine := by have := C.room; omega
    refine pt_w (pt_chain (opC hu op) (opC hu op2) (ih a) (ih b) (ih c) (last0 hs)) fun σ H R ε s Qd Ed F w cy kq => ?_
    simp only [wE, chk_iff, chkN_iff, Bool.and_eq_true, decide_eq_true_eq, isG_iff, Bool.not_eq_true', and_assoc] at w
    exact chain_end C ih (pos := pos) cy (fun b s2 F2 H2 m j q => ⟨b, rfl, kq b s2 F2 H2 m j q⟩) w.2
theorem pe_tpl {es : List Expr} {k : Nat} {pos : Pos} : PE X (.Tuple es k pos) (tWE X.K W Γ (n + 1) sc (.Tuple es k pos)) := by
  · refine pe_w (pe_tup (pa_wa ih es)) fun σ H R ε s Qd Ed F w cy kq => ?_
    simp only [wE, chk_iff, chkN_iff, Bool.and_eq_true, decide_eq_true_eq, isG_iff, Bool.not_eq_true', and_assoc] at w
    refine ⟨ε, s, _, Ed, F, w, cy, fun vs ss s2 F2 H2 m j q r => ?_⟩
    split at q
    · rename_i ds e
      have ra := data_all e r
      refine ⟨by rw [rpAll_len ra]; exact q.1, fun p hp => ?_⟩
      have nf := fresh_back m.fh hp
      exact kq_pure (cy.next m j) (kq.next m) (Fm.new m.fh hp) q.2 (.tup (.inl (.inl upd_same)) (dpAll_ex (Ex.new nf) _ _ ra))
    · exact q.elim
theorem pe_lis {es : List Expr} {pos : Pos} : PE X (.List es pos) (tWE X.K W Γ (n + 1) sc (.List es pos)) := by
  · refine pe_w (pe_lst (pa_wa ih es)) fun σ H R ε s Qd Ed F w cy kq => ?_
    simp only [wE, chk_iff, chkN_iff, Bool.and_eq_true, decide_eq_true_eq, isG_iff, Bool.not_eq_true', and_assoc] at w
    refine ⟨ε, s, _, Ed, F, w, cy, fun vs ss s2 F2 H2 m j q r => ?_⟩
    split at q
    · rename_i ds e
      have ra := data_all e r
      refine ⟨by rw [rpAll_len ra]; exact q.1, fun p hp => ?_⟩
      have nf := fresh_back m.fh hp
      exact kq_pure (cy.next m j) (kq.next m) (Fm.new m.fh hp) q.2 (.lst upd_same (dpAll_ex (Ex.new nf) _ _ ra))
    · exact q.elim
theorem pe_sub {a i : Expr} {pos : Pos} (hi : slE i = false) : PE X (.Subscript a i pos) (tWE X.K W Γ (n + 1) sc (.Subscript a i pos)) := by
  refine pe_w (pe_ix ixS (ih a) (ih i) (plain0 hi)) fun σ H R ε s Qd Ed F w cy kq => ?_
  have w2 : wE Γ n false sc ε s a (fun x s1 => wE Γ n false sc ε s1 i (fun y s2 => dix x y fun z => Qd z s2) Ed) Ed := by
    cases i <;> first | (cases hi; done) | (simp only [wE, chk_iff, chkN_iff, Bool.and_eq_true, decide_eq_true_eq, isG_iff, Bool.not_eq_true', and_assoc] at w; exact w.2)
  refine ⟨ε, s, _, Ed, F, w2, cy, fun v x s2 F2 H2 m j q r => ?_⟩
  refine ⟨ε, s2, _, Ed, F2, q, cy.next m j, fun u y s3 F3 H3 m3 j3 q3 r3 => ?_⟩
  exact ⟨F3, x, y, _, m3.fh, sr_ex m3.ff r, r3, q3, fun z hz v2 F4 H4 m4 r4 => kq_pure (cy.next (m.trans m3) j3) (kq.next (m.trans m3)) m4 hz r4⟩
end
end Z
set_option Elab.async false
set_option linter.all false
set_option maxRecDepth 100000
set_option maxHeartbeats 4000000
namespace Z
open PySem PySem.Spec PyProof.Rows L2 Evl
section
variable {P : Program} {w : World} {K : Type} [DecidableEq K]
/-- keys that a set may hold, each read off its value -/
structure Kst (P : Program) (w : World) (K : Type) [DecidableEq K] where
  kd : PySem.KeyKind P w K
  key : Value → K
  rd : ∀ {k : K} {v : Value}, kd.is k v = true → key v = k
  sc : ∀ {k : K} {v : Value}, kd.is k v = true → v.scannable = true
  vv : K → V
  rel : ∀ {k : K} {u : Value}, RelV (vv k) u → kd.is k u = true
variable (q : Kst P w K)
def El (e : Int × Value) : Prop := ∃ k, q.kd.is k e.2 = true ∧ e.1 = q.kd.hash k
def kk (e : Int × Value) : K := q.key e.2
def Led (w : World) (t : SetTable) : Prop := w.params.followText "set-order" = true ∨ t.led = true
/-- the set at a, with these keys, each once -/
def SetX (h : Heap) (a : Addr) (ks : List K) : Prop :=
  ∃ o es ep t, (h.get? a = some o ∧ o.ExactSet ∧ o.data = .set es ep t) ∧ ((∀ e ∈ es.toList, El q e) ∧ (es.toList.map (kk q)).Perm ks ∧ ks.Nodup) ∧ (es.size < scanBound ∧ t.fits es.size = true) ∧ Ris t.place.toList ∧ Led w t
variable {q}
theorem El.is_iff {e : Int × Value} (g : El q e) (k : K) : q.kd.is k e.2 = true ↔ kk q e = k := by
  obtain ⟨k0, h1, _⟩ := g
  constructor
  · exact fun h => q.rd h
  · intro h
    have : k0 = k := (q.rd h1).symm.trans h
    rw [← this]
    exact h1
theorem els {l : List (Int × Value)} (g : ∀ e ∈ l, El q e) : ElemsOf q.kd l := by
  intro e he
  obtain ⟨k, h1, h2⟩ := g e he
  exact ⟨⟨k, h1, h2⟩, q.sc h1⟩
theorem SetX.keep {h h' : Heap} {a : Addr} {ks : List K} (R : SetX q h a ks) (k : ∀ o, h.get? a = some o → h'.get? a = some o) : SetX q h' a ks := by
  obtain ⟨o, es, ep, t, ⟨ho, hx⟩, r⟩ := R
  exact ⟨o, es, ep, t, ⟨k o ho, hx⟩, r⟩
theorem SetX.len {h : Heap} {a : Addr} {ks : List K} (R : SetX q h a ks) : ks.length < scanBound := by
  obtain ⟨o, es, ep, t, _, ⟨_, pm, _⟩, ⟨hb, _⟩, _⟩ := R
  rw [← pm.length_eq, List.length_map, Array.length_toList]
  exact hb
/-- one key more -/
def addK (ks : List K) (k : K) : List K := if k ∈ ks then ks else k :: ks
section
variable {A : Around} {E : Value → Shared → Prop} {s : Shared} {a : Addr} {ks : List K}
theorem setX_store {g : Bool → Sem Unit} (hg : ∀ (b : Bool) (s1 : Shared) (Q1 : Unit → Shared → Prop), Q1 () s1 → wpAny (model P w) A (g b) Q1 E s1)
    {o : Obj} {es es1 : Array (Int × Value)} {ep : Nat} {t t2 : SetTable} (ho : s.heap.get? a = some o) (hex : o.ExactSet) (hd : o.data = .set es ep t)
    (g1 : ∀ e ∈ es1.toList, El q e) (pm1 : (es1.toList.map (kk q)).Perm ks) (nd : ks.Nodup) (hb1 : es1.size < scanBound) (hf2 : t2.fits es1.size = true) (hr : Ris t2.place.toList) (hl : Led w t2) {was : Bool} {R : Option Bool → Shared → Prop}
    (hR : ∀ h', Heap.SameBut a s.heap h' → SetX q h' a ks → R (some true) { s with heap := h' }) :
    wpAny (model P w) A (storeSet a es1 t2 >>= fun _ => if (!was && t2.tooFull) = true then (g (relayAll t2 es1 (SetTable.grown es1.size)).2.2 >>= fun _ => storeSet a (relayAll t2 es1 (SetTable.grown es1.size)).1 (relayAll t2 es1 (SetTable.grown es1.size)).2.1 >>= fun _ => pure (some true)) else pure (some true)) R E s := by
  have ho1 := store_at (es' := es1) (t' := t2) ho hd
  refine wpAny_bind (wpAny_storeSet_of ho hd ?_ (fits_of_scanBound hb1))
  by_cases c : (!was && t2.tooFull) = true
  · rw [if_pos c]
    have pm := relayAll_perm t2 es1 (SetTable.grown es1.size)
    have f3 := relayAll_fits t2 es1 (SetTable.grown es1.size)
    have r3 := relayAll_ris t2 es1 (SetTable.grown es1.size)
    have l3 := relayAll_led t2 es1 (SetTable.grown es1.size)
    revert pm f3 r3 l3
    rcases relayAll t2 es1 (SetTable.grown es1.size) with ⟨es2, t3, gv⟩
    intro pm f3 r3 l3
    have z : es2.size = es1.size := by rw [← Array.length_toList, ← Array.length_toList]; exact pm.length_eq
    have hb2 : es2.size < scanBound := z ▸ hb1
    have ho2 := store_at (es' := es2) (t' := t3) ho1 rfl
    refine wpAny_bind (hg _ _ _ (wpAny_bind (wpAny_storeSet_of ho1 rfl (wpAny_pure (hR _ ((Heap.SameBut.update s.heap a _).trans (Heap.SameBut.update _ a _)) ?_)) (fits_of_scanBound hb2))))
    exact ⟨_, es2, _, t3, ⟨ho2, hex, rfl⟩, ⟨fun e he => g1 e (pm.mem_iff.mp he), (pm.map (kk q)).trans pm1, nd⟩, ⟨hb2, f3⟩, r3, hl.imp id fun y => l3.trans y⟩
  · rw [if_neg c]
    exact wpAny_pure (hR _ (Heap.SameBut.update s.heap a _) ⟨_, es1, _, t2, ⟨ho1, hex, rfl⟩, ⟨g1, pm1, nd⟩, ⟨hb1, hf2⟩, hr, hl⟩)
theorem wp_two {M : Model} {f : Bool → Sem Unit} {b : Bool} {Q1 : Unit → Shared → Prop} (hf : ∀ (b : Bool) (s1 : Shared) (Q1 : Unit → Shared → Prop), Q1 () s1 → wpAny M A (f b) Q1 E s1) (h : Q1 () s) : wpAny M A (f b) Q1 E s := hf b s Q1 h
theorem setX_add {k : K} {x : Value} {Q : Bool → Shared → Prop} (hk : q.kd.is k x = true) (R : SetX q s.heap a ks) (room : ks.length + 1 < scanBound)
    (hQ : ∀ b h', Heap.SameBut a s.heap h' → SetX q h' a (addK ks k) → Q b { s with heap := h' }) : wpAny (model P w) A (setAddHashed a x (q.kd.hash k)) Q E s := by
  obtain ⟨o, es, ep, t, ⟨ho, hex, hd⟩, ⟨g, pk0, nd⟩, ⟨hb, hf⟩, hr, hl⟩ := R
  have esz : es.size = ks.length := by rw [← pk0.length_eq, List.length_map, Array.length_toList]
  unfold setAddHashed
  unfold setAddHashedIn
  refine wpAny_holding (wpAny_bind (wpAny_setState_of ho hd hf ?_))
  dsimp only
  rw [byScan_of (q.sc hk) hb (els g), if_pos rfl]
  unfold setAddByScan
  refine wpAny_bind (wpAny_bind (wpAny_rule (wpAny_bind (wpAny_setScan_of hk ho hd hf (els g) ?_))))
  cases hfi : List.findIdx? (fun e => q.kd.is k e.2) es.toList with
  | some j =>
    obtain ⟨hj, pj, _⟩ := List.findIdx?_eq_some_iff_getElem.mp hfi
    have hin : k ∈ ks := pk0.mem_iff.mp (List.mem_map.mpr ⟨_, List.getElem_mem hj, ((g _ (List.getElem_mem hj)).is_iff k).mp pj⟩)
    refine wpAny_pure (wpAny_pure (hQ _ s.heap (Heap.SameBut.refl a s.heap) ?_))
    unfold addK
    rw [if_pos hin]
    exact ⟨o, es, ep, t, ⟨ho, hex, hd⟩, ⟨g, pk0, nd⟩, ⟨hb, hf⟩, hr, hl⟩
  | none =>
    have hno : k ∉ ks := fun z => by
      obtain ⟨e, he, y⟩ := List.mem_map.mp (pk0.mem_iff.mpr z)
      have c := List.findIdx?_eq_none_iff.mp hfi e he
      rw [((g e he).is_iff k).mpr y] at c
      cases c
    have adk : addK ks k = k :: ks := if_neg hno
    dsimp only
    have pm := layNew_perm t es (q.kd.hash k) x
    have f1 := layNew_fits t es (q.kd.hash k) x
    have r1 := layNew_ris t es (q.kd.hash k) x hr
    have l1 := layNew_led t es (q.kd.hash k) x
    revert pm f1 r1 l1
    rcases layNew t es (q.kd.hash k) x with ⟨es1, t1, was, gv⟩
    intro pm f1 r1 l1
    dsimp only at pm f1 r1 l1 ⊢
    rw [Array.toList_push] at pm
    have pc : es1.toList.Perm ((q.kd.hash k, x) :: es.toList) := pm.trans (List.perm_append_singleton _ _)
    have pk : (es1.toList.map (kk q)).Perm (k :: ks) := (pc.map (kk q)).trans (by
      rw [List.map_cons]
      have : kk q (q.kd.hash k, x) = k := q.rd hk
      rw [this]
      exact pk0.cons k)
    have g1 : ∀ e ∈ es1.toList, El q e := fun e he => by
      rcases List.mem_cons.mp (pc.mem_iff.mp he) with z | z
      · rw [z]
        exact ⟨k, hk, rfl⟩
      · exact g e z
    have z1 : es1.size = ks.length + 1 := by rw [← Array.length_toList, pc.length_eq, List.length_cons, Array.length_toList, esz]
    have hb1 : es1.size < scanBound := z1 ▸ room
    have hld : Led w t1 := hl.imp id fun z => l1.trans z
    have fin : ∀ b h', Heap.SameBut a s.heap h' → SetX q h' a (k :: ks) → Q b { s with heap := h' } := fun b h' sb r => hQ b h' sb (adk ▸ r)
    refine wpAny_bind (wp_two (b := gv) (fun b s1 Q1 y => by cases b <;> first | exact wpAny_pure y | exact wpAny_rule y) ?_)
    by_cases pl : t1.plain = true
    · rw [if_pos pl]
      refine wpAny_bind ?_
      rw [hashByValue_scannable 8 (q.sc hk)]
      refine wpAny_pure ?_
      refine setX_store (q := q) (fun b s1 Q1 y => by cases b <;> first | exact wpAny_pure y | exact wpAny_rule y) ho hex hd g1 pk (List.nodup_cons.mpr ⟨hno, nd⟩) hb1 (by split <;> first | exact f1 | exact SetTable.fits_plain_off f1) (by split <;> exact r1) (by split <;> exact hld) ?_
      exact fun h' sb r => wpAny_pure (fin _ h' sb r)
    · rw [if_neg pl]
      refine wpAny_bind (wpAny_pure ?_)
      simp only [if_true]
      refine setX_store (q := q) (fun b s1 Q1 y => by cases b <;> first | exact wpAny_pure y | exact wpAny_rule y) ho hex hd g1 pk (List.nodup_cons.mpr ⟨hno, nd⟩) hb1 f1 r1 hld ?_
      exact fun h' sb r => wpAny_pure (fin _ h' sb r)
end
end
end Z
set_option Elab.async false
set_option linter.all false
set_option maxRecDepth 100000
set_option maxHeartbeats 4000000
namespace Z
open PySem PySem.Spec PyProof.Rows L2 Evl
section
variable {P : Program} {w : World} {K : Type} [DecidableEq K] {q : Kst P w K}
def nob (w : World) : Obj := { cls := .type "set", dict := none, data := .set #[] 0 (.fresh 0 0 (!w.params.followText "set-order")) }
theorem setX_nob {h : Heap} {a : Addr} (ho : h.get? a = some (nob w)) : SetX q h a [] := by
  refine ⟨_, #[], 0, _, ⟨ho, ⟨rfl, rfl, rfl⟩, rfl⟩, ⟨fun e he => by simp at he, List.Perm.nil, List.nodup_nil⟩, ⟨by decide, rfl⟩, List.Pairwise.nil, ?_⟩
  show _ ∨ (!w.params.followText "set-order") = true
  cases w.params.followText "set-order"
  · exact .inr rfl
  · exact .inl rfl
theorem addK_len {ks : List K} {k : K} : (addK ks k).length ≤ ks.length + 1 := by
  unfold addK
  split <;> simp
theorem fold_len : ∀ (zs ks : List K), (zs.foldl addK ks).length ≤ ks.length + zs.length
  | [], ks => by simp
  | z :: zs, ks => by
    have := fold_len zs (addK ks z)
    have := addK_len (ks := ks) (k := z)
    simp only [List.foldl_cons, List.length_cons]
    omega
theorem fold_mem {x : K} : ∀ (zs ks : List K), x ∈ zs.foldl addK ks ↔ x ∈ ks ∨ x ∈ zs
  | [], ks => by simp
  | z :: zs, ks => by
    rw [List.foldl_cons, fold_mem zs]
    unfold addK
    split
    · next h =>
      constructor
      · rintro (h1 | h1)
        · exact .inl h1
        · exact .inr (List.mem_cons_of_mem _ h1)
      · rintro (h1 | h1)
        · exact .inl h1
        · rcases List.mem_cons.mp h1 with h2 | h2
          · exact .inl (h2 ▸ h)
          · exact .inr h2
    · rw [List.mem_cons, List.mem_cons]
      constructor
      · rintro ((h1 | h1) | h1)
        · exact .inr (.inl h1)
        · exact .inl h1
        · exact .inr (.inr h1)
      · rintro (h1 | h1 | h1)
        · exact .inl (.inr h1)
        · exact .inl (.inl h1)
        · exact .inr h1
variable {A : Around} {E : Value → Shared → Prop} {s : Shared}
theorem setX_loop {I : Addr} {fp wr : List Addr} {G : Array GenState → Array GenState → Prop} {n : Nat} {Pv : Nat → Value → Prop} {St : Nat → Shared → Prop} {R : Result → Shared → Prop}
    (W : WalksS P w A.in1 I fp wr G n Pv St) (S : Addr) (hSf : S ∉ fp) (zs : List K) (hn : n = zs.length) (room : zs.length + 1 < scanBound) (hval : ∀ i v, Pv i v → ∃ k, zs[i]? = some k ∧ q.kd.is k v = true) :
    ∀ (m i : Nat) (s : Shared), n - i = m → i ≤ n → St i s → SetX q s.heap S ((zs.take i).foldl addK []) → (∀ s', Moved (S :: wr) G s s' → SetX q s'.heap S (zs.foldl addK []) → R (.ok (.ret .none)) s') →
      codeAny (model P w) A (.builtin "set.update.loop" ⟨[.ref S, .ref I], []⟩) R s := by
  have out : S ∉ wr := fun h => hSf (W.sub _ h)
  have sub : ∀ b ∈ wr, b ∈ S :: wr := fun b => List.mem_cons_of_mem _
  intro m
  induction m with
  | zero =>
    intro i s hm hi st hS hR
    have e : i = n := by omega
    subst e
    refine codeAny_builtin F.entry_set_update_loop ?_
    rw [Around.under_plainId F.plain_set_update_loop _]
    refine (show wpAny _ A.in1 (pyNext (.ref I) >>= _) _ _ s from wpAny_bind (W.done s _ _ st fun s' mv => (show wpAny _ A.in1 (ret Value.none) _ _ s' from wpAny_pure (hR s' (mv.mono sub) ?_))))
    rw [List.take_of_length_le (by omega)] at hS
    exact hS.keep fun o e => mv.heap S o out e
  | succ m ih =>
    intro i s hm hi st hS hR
    have lt : i < n := by omega
    refine codeAny_builtin F.entry_set_update_loop ?_
    rw [Around.under_plainId F.plain_set_update_loop _]
    refine (show wpAny _ A.in1 (pyNext (.ref I) >>= _) _ _ s from wpAny_bind (W.item i s _ _ lt st fun v s' hP st' mv => ?_))
    obtain ⟨k, hz, hk⟩ := hval i v hP
    have hS' := hS.keep fun o e => mv.heap S o out e
    have ln : ((zs.take i).foldl addK []).length ≤ i := by
      have := fold_len (zs.take i) []
      simp only [List.length_nil, List.length_take] at this
      omega
    show wpAny _ A.in1 (holding [v] (setAdd S v) >>= _) _ _ s'
    refine wpAny_bind (wpAny_holding ?_)
    unfold setAdd
    refine wpAny_holding (wpAny_bind (q.kd.pyHash (k := k) hk (setX_add (q := q) (s := { s' with toks := s'.toks + 1 }) hk hS' (by omega) fun b h' sb hS2 => ?_)))
    have hS3 : SetX q h' S ((zs.take (i + 1)).foldl addK []) := by
      rw [List.take_add_one, hz, List.foldl_append]
      exact hS2
    refine wpAny_pure ⟨plainId_quiet F.plain_set_update_loop _, ih (i + 1) _ (by omega) lt (W.frame _ s' _ _ st' (Nat.le_succ _) fun b hb o e => ?_) hS3 fun s2 mv2 hS4 => ?_⟩
    · rw [sb.2 b (fun h => hSf (h ▸ hb))]
      exact e
    · refine hR s2 (Moved.trans W.gtrans ((mv.mono sub).then_heap (Nat.le_succ _) fun b o hb e => ?_) mv2) hS4
      rw [sb.2 b (fun h => hb (h ▸ List.mem_cons_self))]
      exact e

theorem set_list {l : Addr} {items : Array Value} (zs : List K) {Q : Value → Shared → Prop} (hh : A.handled = none) (hl : s.heap.IsList l items) (hsz : items.size = zs.length) (hit : ∀ (i : Nat) (v : Value), items[i]? = some v → ∃ k, zs[i]? = some k ∧ q.kd.is k v = true) (room : zs.length + 1 < scanBound)
    (fin : ∀ (h' : Heap) (tk : Nat), SetX q h' s.heap.objs.size (zs.foldl addK []) → (∀ b o, s.heap.get? b = some o → h'.get? b = some o) → Q (.ref s.heap.objs.size) { s with heap := h', toks := tk }) :
    wpAny (model P w) A (call (.type "set") [.ref l]) Q E s := by
  obtain ⟨_, _, hmro⟩ := F.called_set.mro
  have hmd := F.called_set.made
  have hsb := F.called_set.sub
  refine wpAny_call (codeAny_of_tree (show wpAny _ _ (callAny (.type "set") _) _ _ _ from wpAny_pure ⟨Code.quiet_builtin _ (by decide +kernel), codeAny_builtin F.entry_type_call ?_⟩))
  rw [Around.under_plain (weight_type_call_type "set" [.ref l] []) rfl]
  have hnt := F.called_set.notType; have hcc := F.called_set.canCreate; have htc := F.typeCall_set_1 (.ref l)
  repeat (any_goals (first | assumption | wp_step))
  refine codeAny_mono (code_set_led1 (.ref l) (E := E) (Q₁ := fun ob s1 => ob = .ref s.heap.objs.size ∧ s1 = { s with heap := s.heap.push (nob w) }) ⟨rfl, rfl⟩) fun r s1 hr => ?_
  rcases r with e | fl
  · exact hr
  rcases fl with ob | _ | _ | _
  all_goals try exact hr.elim
  obtain ⟨rfl, rfl⟩ := hr
  have hS : (s.heap.push (nob w)).get? s.heap.objs.size = some (nob w) := Heap.get?_push_size _ rfl
  have hT : Shared.TypeIs { s with heap := s.heap.push (nob w) } (.ref s.heap.objs.size) "set" := ⟨_, hS, rfl⟩
  have hli := F.called_set.init.lookup; have hbi := F.called_set.init.bind (.ref s.heap.objs.size)
  repeat (any_goals (first | assumption | wp_step))
  refine codeAny_mono (codeAny_call_builtin (R := wants (fun r s2 => r = .none ∧ ∃ h' tk, s2 = { s with heap := h', toks := tk } ∧ SetX q h' s.heap.objs.size (zs.foldl addK []) ∧ (∀ b o, s.heap.get? b = some o → h'.get? b = some o)) E) F.called_set.init.plain F.entry_set_init (check_set_init_1 hT ?_)) fun r2 s2 hr2 => ?_
  · obtain ⟨⟨oc, od, odt, osl⟩, hol, hcl, nl, hdl⟩ := hl
    dsimp only at hcl hdl
    subst hcl hdl
    have hol' : (s.heap.push (nob w)).get? l = some { cls := .type "list", dict := od, data := .seq items nl, slots := osl } := Heap.get?_push_of_some _ hol
    have hs1 := F.sub_list_set; have hs2 := F.sub_list_frozenset
    have hne : (Value.type "list" == Value.type "dict") = false := rfl
    have hl1 : (s.heap.push (nob w)).IsList l items := ⟨_, hol', rfl, nl, rfl⟩
    unfold Builtin.«set.__init__» noKeywords
    unfold Builtin.Frozenset.updateFrom
    generalize hPI : pyIter = PI
    wp_walk
    subst hPI
    refine wpAny_pyIter_list hl1 (wpAny_bind (wpAny_runValue ?_))
    have hlS : l < s.heap.objs.size := Heap.lt_size hol
    have hh3 : A.in1.in1.in1.handled = none := by
      simp [hh]
    have z1 : (s.heap.push (nob w)).objs.size = s.heap.objs.size + 1 := Heap.size_push ..
    have hneI : l ≠ (s.heap.push (nob w)).objs.size := by rw [z1]; exact Nat.ne_of_lt (Nat.lt_succ_of_lt hlS)
    have hSf : s.heap.objs.size ∉ [(s.heap.push (nob w)).objs.size, l] := by
      rw [z1]
      intro h
      rcases List.mem_cons.mp h with h | h
      · exact Nat.ne_of_lt (Nat.lt_succ_self _) h
      · exact Nat.ne_of_gt hlS (List.mem_singleton.mp h)
    refine setX_loop (q := q) ((Walks.list hh3 _ l hneI items).toS) s.heap.objs.size hSf zs hsz room hit (items.size - 0) 0 _ (by omega) (Nat.zero_le _) ⟨⟨_, Heap.get?_push_size _ rfl, rfl, rfl⟩, (hl1.push _)⟩ ?hS0 ?hR
    case hS0 => exact setX_nob (Heap.get?_push_of_some _ hS)
    case hR =>
      rintro ⟨h', g2, d', tk', os'⟩ hm hS'
      have eg : g2 = s.gens := hm.gens
      have ed : d' = s.drawn := hm.drawn
      have eo : os' = s.os := hm.os
      subst eg ed eo
      refine (show wpAny _ _ _ _ _ _ from wpAny_pure (show wpAny _ _ (ret Value.none) _ _ _ from wpAny_pure ⟨rfl, h', tk', rfl, hS', fun b o e => ?_⟩))
      have hb0 : b < s.heap.objs.size := Heap.lt_size e
      refine hm.heap b o (fun h => ?_) (Heap.get?_push_of_some _ (Heap.get?_push_of_some _ e))
      rcases List.mem_cons.mp h with h | h
      · exact Nat.ne_of_lt hb0 h
      · have := List.mem_singleton.mp h
        rw [z1] at this
        exact Nat.ne_of_lt (Nat.lt_succ_of_lt hb0) this
  · rcases r2 with e | fl2
    · exact hr2
    rcases fl2 with r | _ | _ | _
    all_goals try exact hr2.elim
    obtain ⟨rfl, h', tk, rfl, hS', hk'⟩ := hr2
    repeat (any_goals (first | assumption | wp_step))
    exact fin _ _ hS' hk'

theorem set_tuple {l : Addr} {items : Array Value} (zs : List K) {Q : Value → Shared → Prop} (hh : A.handled = none) (hl : s.heap.IsTuple l items) (hsz : items.size = zs.length) (hit : ∀ (i : Nat) (v : Value), items[i]? = some v → ∃ k, zs[i]? = some k ∧ q.kd.is k v = true) (room : zs.length + 1 < scanBound)
    (fin : ∀ (h' : Heap) (tk : Nat), SetX q h' s.heap.objs.size (zs.foldl addK []) → (∀ b o, s.heap.get? b = some o → h'.get? b = some o) → Q (.ref s.heap.objs.size) { s with heap := h', toks := tk }) :
    wpAny (model P w) A (call (.type "set") [.ref l]) Q E s := by
  obtain ⟨_, _, hmro⟩ := F.called_set.mro
  have hmd := F.called_set.made
  have hsb := F.called_set.sub
  refine wpAny_call (codeAny_of_tree (show wpAny _ _ (callAny (.type "set") _) _ _ _ from wpAny_pure ⟨Code.quiet_builtin _ (by decide +kernel), codeAny_builtin F.entry_type_call ?_⟩))
  rw [Around.under_plain (weight_type_call_type "set" [.ref l] []) rfl]
  have hnt := F.called_set.notType; have hcc := F.called_set.canCreate; have htc := F.typeCall_set_1 (.ref l)
  repeat (any_goals (first | assumption | wp_step))
  refine codeAny_mono (code_set_led1 (.ref l) (E := E) (Q₁ := fun ob s1 => ob = .ref s.heap.objs.size ∧ s1 = { s with heap := s.heap.push (nob w) }) ⟨rfl, rfl⟩) fun r s1 hr => ?_
  rcases r with e | fl
  · exact hr
  rcases fl with ob | _ | _ | _
  all_goals try exact hr.elim
  obtain ⟨rfl, rfl⟩ := hr
  have hS : (s.heap.push (nob w)).get? s.heap.objs.size = some (nob w) := Heap.get?_push_size _ rfl
  have hT : Shared.TypeIs { s with heap := s.heap.push (nob w) } (.ref s.heap.objs.size) "set" := ⟨_, hS, rfl⟩
  have hli := F.called_set.init.lookup; have hbi := F.called_set.init.bind (.ref s.heap.objs.size)
  repeat (any_goals (first | assumption | wp_step))
  refine codeAny_mono (codeAny_call_builtin (R := wants (fun r s2 => r = .none ∧ ∃ h' tk, s2 = { s with heap := h', toks := tk } ∧ SetX q h' s.heap.objs.size (zs.foldl addK []) ∧ (∀ b o, s.heap.get? b = some o → h'.get? b = some o)) E) F.called_set.init.plain F.entry_set_init (check_set_init_1 hT ?_)) fun r2 s2 hr2 => ?_
  · obtain ⟨⟨oc, od, odt, osl⟩, hol, hcl, nl, hdl⟩ := hl
    dsimp only at hcl hdl
    subst hcl hdl
    have hol' : (s.heap.push (nob w)).get? l = some { cls := .type "tuple", dict := od, data := .seq items nl, slots := osl } := Heap.get?_push_of_some _ hol
    have hs1 := F.sub_tuple_set; have hs2 := F.sub_tuple_frozenset
    have hne : (Value.type "tuple" == Value.type "dict") = false := rfl
    have hl1 : (s.heap.push (nob w)).IsTuple l items := ⟨_, hol', rfl, nl, rfl⟩
    unfold Builtin.«set.__init__» noKeywords
    unfold Builtin.Frozenset.updateFrom
    generalize hPI : pyIter = PI
    wp_walk
    subst hPI
    refine wpAny_pyIter_tuple hl1 (wpAny_bind (wpAny_runValue ?_))
    have hlS : l < s.heap.objs.size := Heap.lt_size hol
    have hh3 : A.in1.in1.in1.handled = none := by
      simp [hh]
    have z1 : (s.heap.push (nob w)).objs.size = s.heap.objs.size + 1 := Heap.size_push ..
    have hneI : l ≠ (s.heap.push (nob w)).objs.size := by rw [z1]; exact Nat.ne_of_lt (Nat.lt_succ_of_lt hlS)
    have hSf : s.heap.objs.size ∉ [(s.heap.push (nob w)).objs.size, l] := by
      rw [z1]
      intro h
      rcases List.mem_cons.mp h with h | h
      · exact Nat.ne_of_lt (Nat.lt_succ_self _) h
      · exact Nat.ne_of_gt hlS (List.mem_singleton.mp h)
    refine setX_loop (q := q) ((Walks.tuple hh3 _ l hneI items).toS) s.heap.objs.size hSf zs hsz room hit (items.size - 0) 0 _ (by omega) (Nat.zero_le _) ⟨⟨_, Heap.get?_push_size _ rfl, rfl, rfl⟩, (hl1.push _)⟩ ?hS0 ?hR
    case hS0 => exact setX_nob (Heap.get?_push_of_some _ hS)
    case hR =>
      rintro ⟨h', g2, d', tk', os'⟩ hm hS'
      have eg : g2 = s.gens := hm.gens
      have ed : d' = s.drawn := hm.drawn
      have eo : os' = s.os := hm.os
      subst eg ed eo
      refine (show wpAny _ _ _ _ _ _ from wpAny_pure (show wpAny _ _ (ret Value.none) _ _ _ from wpAny_pure ⟨rfl, h', tk', rfl, hS', fun b o e => ?_⟩))
      have hb0 : b < s.heap.objs.size := Heap.lt_size e
      refine hm.heap b o (fun h => ?_) (Heap.get?_push_of_some _ (Heap.get?_push_of_some _ e))
      rcases List.mem_cons.mp h with h | h
      · exact Nat.ne_of_lt hb0 h
      · have := List.mem_singleton.mp h
        rw [z1] at this
        exact Nat.ne_of_lt (Nat.lt_succ_of_lt hb0) this
  · rcases r2 with e | fl2
    · exact hr2
    rcases fl2 with r | _ | _ | _
    all_goals try exact hr2.elim
    obtain ⟨rfl, h', tk, rfl, hS', hk'⟩ := hr2
    repeat (any_goals (first | assumption | wp_step))
    exact fin _ _ hS' hk'
end
end Z
set_option Elab.async false
set_option linter.all false
set_option maxRecDepth 100000
set_option maxHeartbeats 4000000
namespace Z
open PySem PySem.Spec PyProof.Rows L2 Evl
def keyI : Value → Int
  | .int k _ => k
  | _ => 0
def keyS : Value → Str
  | .str x _ => x
  | _ => ⟨#[]⟩
def qI (P : Program) (w : World) : Kst P w Int where
  kd := PySem.intKind P w
  key := keyI
  rd := fun h => by
    obtain ⟨t, rfl⟩ := Value.isInt_shape h
    rfl
  sc := fun h => by
    obtain ⟨t, rfl⟩ := Value.isInt_shape h
    rfl
  vv := V.int
  rel := fun ⟨t, h⟩ => by
    rw [h]
    exact intKind_is P w _ t
def qS (P : Program) (w : World) : Kst P w Str where
  kd := PySem.strKind P w
  key := keyS
  rd := fun h => by
    obtain ⟨t, rfl⟩ := Value.isStrOf_shape h
    rfl
  sc := fun h => by
    obtain ⟨t, rfl⟩ := Value.isStrOf_shape h
    rfl
  vv := V.str
  rel := fun ⟨t, h⟩ => by
    rw [h]
    exact strKind_is P w _ t
section
variable {P : Program} {w : World} {A : Around} {E : Value → Shared → Prop} {s : Shared}

theorem sort_I {ks : List Int} {a : Addr} {Q : Value → Shared → Prop} (R : SetX (qI P w) s.heap a ks) (hh : A.handled = none)
    (fin : ∀ s' p (out : Array Value) (c : Nat) (ns : List Int), (∀ b o, s.heap.get? b = some o → s'.heap.get? b = some o) → s'.gens = s.gens → s'.os = s.os → s.heap.objs.size ≤ p →
      s'.heap.get? p = some (seqObj "list" out c) → IntsAre out.toList ns → ns.Perm ks → ns.Pairwise (· ≤ ·) → Q (.ref p) s') :
    wpAny (model P w) A (call (.builtin "sorted") [.ref a]) Q E s := by
  obtain ⟨o, es, ep, t, ⟨ho, hex, hd⟩, ⟨g, pk0, nd⟩, ⟨hb, hf⟩, hr, hl⟩ := R
  have esz : es.size = ks.length := by rw [← pk0.length_eq, List.length_map, Array.length_toList]
  refine Calls.call_function_entry kind_sorted plain_sorted entry_sorted (args_sorted1 _) ?_
  unfold Builtin.«sorted»
  refine wpAny_bind (m := checkCount "sorted" 1 1 _) (wpAny_pure (wpAny_bind (collect_set (A := A.in1) hh ⟨o, ho, hex.1, hd⟩ hf hb hr hl fun s1 vs k1 hz g1 o1 pm => ?_)))
  have vl : vs.length = ks.length := by rw [pm.length_eq, List.length_map, Array.length_toList, esz]
  have hA : IntsAre vs (vs.map Builtin.Re.reRawOf) := ints_of vs fun v hv => by
    obtain ⟨e, he, z⟩ := List.mem_map.mp (pm.mem_iff.mp hv)
    obtain ⟨k, h1, _⟩ := g e he
    rw [z] at h1
    exact let ⟨t, h⟩ := Value.isInt_shape h1; ⟨k, t, h⟩
  have pk : (vs.map Builtin.Re.reRawOf).Perm ks := by
    have z := pm.map (qI P w).key
    rw [List.map_map] at z
    refine List.Perm.trans (List.Perm.of_eq (List.map_congr_left fun v hv => ?_)) (z.trans pk0)
    obtain ⟨e, he, y⟩ := List.mem_map.mp (pm.mem_iff.mp hv)
    obtain ⟨k, h1, _⟩ := g e he
    rw [y] at h1
    obtain ⟨k, t, rfl⟩ := (let ⟨t, h⟩ := Value.isInt_shape h1; ⟨k, t, h⟩ : ∃ k t, v = Value.int k t)
    rfl
  have hz2 : vs.length ≤ sizeLine := by rw [vl, ← esz]; exact fits_of_scanBound hb
  refine wpAny_bind (wpAny_newList ?_ (by rw [sizeLine_eq] at hz2; exact hz2))
  have hoL : (s1.heap.push (seqObj "list" vs.toArray 0)).get? s1.heap.objs.size = some (seqObj "list" vs.toArray 0) := Heap.get?_push_size _ rfl
  refine wpAny_bind (wpAny_holding (wpAny_call_entry slot_list_sort ⟨_, hoL, rfl⟩ entry_list_sort (list_sort_treeAny hoL hA hz2 fun out ns a1 a2 a3 => ⟨_, rfl, ?_⟩) (args_list_sort _)))
  obtain ⟨c, hc⟩ := sortedHeap_at (vs := vs) (out := out) hoL
  refine wpAny_pure ⟨_, rfl, fin _ s1.heap.objs.size out c ns (fun b u e => ?_) g1 o1 hz hc a1 (a2.trans pk) a3⟩
  have y := k1 b u e
  have lt := Heap.lt_size y
  show (sortedHeap (s1.heap.push (seqObj "list" vs.toArray 0)) s1.heap.objs.size vs out).get? b = some u
  rw [sortedHeap_old (Nat.ne_of_lt lt) (by rw [size_push']; exact Nat.lt_succ_of_lt lt)]
  exact Heap.get?_push_of_some _ y

theorem sort_S {ks : List Str} {a : Addr} {Q : Value → Shared → Prop} (R : SetX (qS P w) s.heap a ks) (hh : A.handled = none)
    (fin : ∀ s' p (out : Array Value) (c : Nat) (ns : List Str), (∀ b o, s.heap.get? b = some o → s'.heap.get? b = some o) → s'.gens = s.gens → s'.os = s.os → s.heap.objs.size ≤ p →
      s'.heap.get? p = some (seqObj "list" out c) → StrsAre out.toList ns → ns.Perm ks → sortedS ns = true → Q (.ref p) s') :
    wpAny (model P w) A (call (.builtin "sorted") [.ref a]) Q E s := by
  obtain ⟨o, es, ep, t, ⟨ho, hex, hd⟩, ⟨g, pk0, nd⟩, ⟨hb, hf⟩, hr, hl⟩ := R
  have esz : es.size = ks.length := by rw [← pk0.length_eq, List.length_map, Array.length_toList]
  refine Calls.call_function_entry kind_sorted plain_sorted entry_sorted (args_sorted1 _) ?_
  unfold Builtin.«sorted»
  refine wpAny_bind (m := checkCount "sorted" 1 1 _) (wpAny_pure (wpAny_bind (collect_set (A := A.in1) hh ⟨o, ho, hex.1, hd⟩ hf hb hr hl fun s1 vs k1 hz g1 o1 pm => ?_)))
  have vl : vs.length = ks.length := by rw [pm.length_eq, List.length_map, Array.length_toList, esz]
  have hA : StrsAre vs (vs.map strOf) := strsAre_map vs fun v hv => by
    obtain ⟨e, he, z⟩ := List.mem_map.mp (pm.mem_iff.mp hv)
    obtain ⟨k, h1, _⟩ := g e he
    rw [z] at h1
    exact let ⟨t, h⟩ := Value.isStrOf_shape h1; ⟨k, t, h⟩
  have pk : (vs.map strOf).Perm ks := by
    have z := pm.map (qS P w).key
    rw [List.map_map] at z
    refine List.Perm.trans (List.Perm.of_eq (List.map_congr_left fun v hv => ?_)) (z.trans pk0)
    obtain ⟨e, he, y⟩ := List.mem_map.mp (pm.mem_iff.mp hv)
    obtain ⟨k, h1, _⟩ := g e he
    rw [y] at h1
    obtain ⟨k, t, rfl⟩ := (let ⟨t, h⟩ := Value.isStrOf_shape h1; ⟨k, t, h⟩ : ∃ k t, v = Value.str k t)
    rfl
  have hz2 : vs.length ≤ sizeLine := by rw [vl, ← esz]; exact fits_of_scanBound hb
  refine wpAny_bind (wpAny_newList ?_ (by rw [sizeLine_eq] at hz2; exact hz2))
  have hoL : (s1.heap.push (seqObj "list" vs.toArray 0)).get? s1.heap.objs.size = some (seqObj "list" vs.toArray 0) := Heap.get?_push_size _ rfl
  refine wpAny_bind (wpAny_holding (wpAny_call_entry slot_list_sort ⟨_, hoL, rfl⟩ entry_list_sort (list_sort_treeKAny strKind_oneLt hoL hA.keysOf (fun v1 v2 rest e => keyKind_strs (by rw [← e]; exact hA)) hz2 fun st hp hs => ⟨_, rfl, ?_⟩) (args_list_sort _)))
  obtain ⟨ns, a1, a2, a3⟩ := sorted_out_str hA hp hs
  generalize ((arrOf st).map (·.2)) = out at a1 ⊢
  obtain ⟨c, hc⟩ := sortedHeap_at (vs := vs) (out := out) hoL
  refine wpAny_pure ⟨_, rfl, fin _ s1.heap.objs.size out c ns (fun b u e => ?_) g1 o1 hz hc a1 (a2.trans pk) a3⟩
  have y := k1 b u e
  have lt := Heap.lt_size y
  show (sortedHeap (s1.heap.push (seqObj "list" vs.toArray 0)) s1.heap.objs.size vs out).get? b = some u
  rw [sortedHeap_old (Nat.ne_of_lt lt) (by rw [size_push']; exact Nat.lt_succ_of_lt lt)]
  exact Heap.get?_push_of_some _ y
end
end Z
set_option Elab.async false
set_option linter.all false
set_option maxRecDepth 100000
set_option maxHeartbeats 4000000
namespace Z
open PySem PySem.Spec PyProof.Rows L2 Evl
def SetXo {P : Program} {w : World} {K : Type} [DecidableEq K] (q : Kst P w K) (a : Addr) (ks : List K) : HO := .ext fun h => SetX q h a ks
theorem setXo_new {P : Program} {w : World} {K : Type} [DecidableEq K] {q : Kst P w K} {H : Hp} {h : Heap} {a : Addr} {ks : List K} (R : SetX q h a ks) : ObjOk P w H h a (SetXo q a ks) := by
  have ⟨o, _, _, _, ⟨ho, _⟩, _⟩ := R
  exact ⟨R, ⟨o, ho⟩, fun h1 h2 p k => SetX.keep p k⟩
theorem vals_at {K : Type} {f : K → V} : ∀ {zs : List K} {us : List Value}, Vals (zs.map f) us → ∀ (i : Nat) (v : Value), us[i]? = some v → ∃ k, zs[i]? = some k ∧ RelV (f k) v
  | [], _, r, i, v, h => by
    cases r
    simp at h
  | z :: zs, _, r, i, v, h => by
    rw [List.map_cons] at r
    cases r with
    | cons r1 r2 =>
      cases i with
      | zero =>
        simp at h
        exact ⟨z, rfl, h ▸ r1⟩
      | succ i => simpa using vals_at r2 i v (by simpa using h)
section
variable {X : Cx}
/-- set(xs) -/
def rSetX {K : Type} [DecidableEq K] (q : Kst X.prog X.w K) : List V → Hp → VK → Prop := fun vs H Q => ∃ (l : Addr) (zs : List K), vs = [V.ref l] ∧ (SqL X.K H l (zs.map q.vv) ∨ SqT X.K H l (zs.map q.vv)) ∧ zs.length + 1 < scanBound ∧
  ∀ p, H p = none → Q (.ref p) (upd H p (SetXo q p (zs.foldl addK [])))
theorem cr_setX {K : Type} [DecidableEq K] {q : Kst X.prog X.w K} (hc : X.calm = true) : CallR X (.type "set") (rSetX q) := by
  intro pins s σ H vs us Q I r h
  obtain ⟨l, zs, rfl, hl, room, k⟩ := h
  rw [Vals.ref1 r]
  have hn : H s.heap.objs.size = none := I.hok.fresh (Nat.le_refl _)
  have end_ : ∀ (h' : Heap) (tk : Nat), SetX q h' s.heap.objs.size (zs.foldl addK []) → (∀ b o, s.heap.get? b = some o → h'.get? b = some o) → ∃ v H1, Inv X pins σ H1 { s with heap := h', toks := tk } ∧ RelV v (.ref s.heap.objs.size) ∧ Q v H1 := fun h' tk R kp =>
    ⟨.ref s.heap.objs.size, _, I.laid (t' := tk) kp (Nat.le_refl _) (setXo_new R), rfl, k _ hn⟩
  rcases hl with hl | hl
  · obtain ⟨its, rv, pl, hz⟩ := I.list hl
    have ln := rv.length
    rw [List.length_map] at ln
    exact set_list (q := q) zs (I.ok.hd hc) pl.isList (by simpa using ln.symm) (fun i v hv => by
      obtain ⟨k, h1, h2⟩ := vals_at rv i v (by simpa using hv)
      exact ⟨k, h1, q.rel h2⟩) room fun h' tk R kp => end_ h' tk R kp
  · obtain ⟨its, rv, pl, hz⟩ := I.tuple hl
    have ln := rv.length
    rw [List.length_map] at ln
    exact set_tuple (q := q) zs (I.ok.hd hc) pl (by simpa using ln.symm) (fun i v hv => by
      obtain ⟨k, h1, h2⟩ := vals_at rv i v (by simpa using hv)
      exact ⟨k, h1, q.rel h2⟩) room fun h' tk R kp => end_ h' tk R kp
/-- sorted(a set) -/
def rSortX {K : Type} [DecidableEq K] (q : Kst X.prog X.w K) (asc : List K → Prop) : List V → Hp → VK → Prop := fun vs H Q => ∃ (a : Addr) (ks : List K), vs = [V.ref a] ∧ H a = some (SetXo q a ks) ∧ ks.length ≤ sizeLine ∧
  ∀ (ns : List K) (p : Addr), ns.Perm ks → ks.Nodup → asc ns → H p = none → Q (.ref p) (upd H p (.lst (ns.map q.vv)))
theorem cr_sortXI (hc : X.calm = true) : CallR X (.builtin "sorted") (rSortX (qI X.prog X.w) fun ns => ns.Pairwise (· ≤ ·)) := by
  intro pins s σ H vs us Q I r h
  obtain ⟨a, ks, rfl, ha, hz, k⟩ := h
  rw [Vals.ref1 r]
  have R : SetX (qI X.prog X.w) s.heap a ks := (I.hok a _ ha).1
  have nd : ks.Nodup := by
    obtain ⟨_, _, _, _, _, ⟨_, _, nd⟩, _⟩ := R
    exact nd
  refine sort_I R (I.ok.hd hc) fun s' p out c ns kp g o hp hg hi pm hs => ?_
  have hn : H p = none := I.hok.fresh hp
  have J : Inv X pins σ (upd H p (.lst (ns.map V.int))) { s with heap := s'.heap, gens := s'.gens, drawn := s'.drawn, toks := s'.toks } :=
    I.call (ch := []) (Un.laid kp hp hn) (I.hok.laid kp hp ⟨by rw [List.length_map, pm.length_eq]; exact hz, out.toList, c, vals_of_ints hi, hg⟩) (by rw [g]; exact I.bare) (fun _ z => nomatch z)
  have e : s' = { s with heap := s'.heap, gens := s'.gens, drawn := s'.drawn, toks := s'.toks } := by
    rcases s' with ⟨_, _, _, _, _⟩
    rcases s with ⟨_, _, _, _, _⟩
    cases o
    rfl
  rw [e]
  exact ⟨.ref p, _, J, rfl, k ns p pm nd hs hn⟩
theorem cr_sortXS (hc : X.calm = true) : CallR X (.builtin "sorted") (rSortX (qS X.prog X.w) fun ns => sortedS ns = true) := by
  intro pins s σ H vs us Q I r h
  obtain ⟨a, ks, rfl, ha, hz, k⟩ := h
  rw [Vals.ref1 r]
  have R : SetX (qS X.prog X.w) s.heap a ks := (I.hok a _ ha).1
  have nd : ks.Nodup := by
    obtain ⟨_, _, _, _, _, ⟨_, _, nd⟩, _⟩ := R
    exact nd
  refine sort_S R (I.ok.hd hc) fun s' p out c ns kp g o hp hg hi pm hs => ?_
  have hn : H p = none := I.hok.fresh hp
  have J : Inv X pins σ (upd H p (.lst (ns.map V.str))) { s with heap := s'.heap, gens := s'.gens, drawn := s'.drawn, toks := s'.toks } :=
    I.call (ch := []) (Un.laid kp hp hn) (I.hok.laid kp hp ⟨by rw [List.length_map, pm.length_eq]; exact hz, out.toList, c, vals_of_strs hi, hg⟩) (by rw [g]; exact I.bare) (fun _ z => nomatch z)
  have e : s' = { s with heap := s'.heap, gens := s'.gens, drawn := s'.drawn, toks := s'.toks } := by
    rcases s' with ⟨_, _, _, _, _⟩
    rcases s with ⟨_, _, _, _, _⟩
    cases o
    rfl
  rw [e]
  exact ⟨.ref p, _, J, rfl, k ns p pm nd hs hn⟩
end
end Z
set_option Elab.async false
set_option linter.all false
set_option maxRecDepth 100000
set_option maxHeartbeats 4000000
namespace Z
open PySem PySem.Spec PyProof.Rows L2 Evl
section
variable {X : Cx}
def rSetA : List V → Hp → VK → Prop := fun vs H Q => rSetX (qI X.prog X.w) vs H Q ∨ rSetX (qS X.prog X.w) vs H Q
def rSortA : List V → Hp → VK → Prop := fun vs H Q => rSortX (qI X.prog X.w) (fun ns => ns.Pairwise (· ≤ ·)) vs H Q ∨ rSortX (qS X.prog X.w) (fun ns => sortedS ns = true) vs H Q
theorem cr_setA (hc : X.calm = true) : CallR X (.type "set") (rSetA (X := X)) := fun pins s σ H vs us Q I r h => h.elim (cr_setX hc pins s σ H vs us Q I r) (cr_setX hc pins s σ H vs us Q I r)
theorem cr_sortA (hc : X.calm = true) : CallR X (.builtin "sorted") (rSortA (X := X)) := fun pins s σ H vs us Q I r h => h.elim (cr_sortXI hc pins s σ H vs us Q I r) (cr_sortXS hc pins s σ H vs us Q I r)
end
theorem rise_pw : ∀ (l : List Str) (p : Str), risingS p l = true → (p :: l).Pairwise fun a b => ¬ b.cps.toList < a.cps.toList
  | [], p, _ => List.pairwise_singleton _ _
  | x :: l, p, h => by
    have h2 : (!ltCps x.cps.toList p.cps.toList && risingS x l) = true := h
    rw [Bool.and_eq_true, Bool.not_eq_true', ltCps_eq, decide_eq_false_iff_not] at h2
    have ih := rise_pw l x h2.2
    refine List.pairwise_cons.mpr ⟨fun y hy => ?_, ih⟩
    rcases List.mem_cons.mp hy with z | z
    · rw [z]
      exact h2.1
    · have h3 := (List.pairwise_cons.mp ih).1 y z
      exact fun h4 => absurd (List.le_trans (show p.cps.toList ≤ x.cps.toList from h2.1) (show x.cps.toList ≤ y.cps.toList from h3)) (fun h5 => h5 h4)
theorem sorted_pw {l : List Str} (h : sortedS l = true) : l.Pairwise fun a b => ¬ b.cps.toList < a.cps.toList := by
  cases l with
  | nil => exact List.Pairwise.nil
  | cons x l => exact rise_pw l x h
theorem str_inj {a b : Str} (h : a.cps.toList = b.cps.toList) : a = b := by
  rcases a with ⟨a⟩
  rcases b with ⟨b⟩
  congr
  exact Array.toList_inj.mp h
theorem pw_lt : ∀ {l : List Str}, l.Pairwise (fun a b => ¬ b.cps.toList < a.cps.toList) → l.Nodup → l.Pairwise fun a b => a.cps.toList < b.cps.toList
  | [], _, _ => List.Pairwise.nil
  | x :: l, h, d => by
    obtain ⟨h1, h2⟩ := List.pairwise_cons.mp h
    obtain ⟨d1, d2⟩ := List.nodup_cons.mp d
    refine List.pairwise_cons.mpr ⟨fun y hy => ?_, pw_lt h2 d2⟩
    by_cases c : x.cps.toList < y.cps.toList
    · exact c
    · have e : x.cps.toList = y.cps.toList := List.le_antisymm (h1 y hy) c
      exact absurd (str_inj e ▸ hy) d1
theorem rp_ints {K : PySem.W.Frag} {F : Hp} : ∀ ns : List Int, RpAll K F (ns.map V.int) (ns.map PyData.int)
  | [] => .nil
  | n :: ns => .cons (.int n) (rp_ints ns)
theorem rp_strs {K : PySem.W.Frag} {F : Hp} : ∀ ns : List Str, RpAll K F (ns.map V.str) (ns.map PyData.str)
  | [] => .nil
  | n :: ns => .cons (.str n) (rp_strs ns)
theorem srtOf_eq {f : Str} {args : List Expr} {a : Expr} (h : srtOf f args = some a) : f = "sorted" ∧ ∃ p2 pos2, args = [.Call (.Name "set" p2) [a] [] pos2] ∧ plainE a = true := by
  unfold srtOf at h
  split at h
  · rename_i e
    have e := of_decide_eq_true e
    split at h
    · rename_i e2
      obtain ⟨e3, e4⟩ := Bool.and_eq_true_iff.mp e2
      have e5 := of_decide_eq_true e3
      cases h
      exact ⟨e, _, _, by rw [e5], e4⟩
    · cases h
  · cases h
section
variable {S : Type} {X : Cx} {W : Wd S}
theorem sort_go {F H : Hp} {σ : L2.St} {ε : En} {s : S} {Ed : QX S} {Qd : QS S} {R : VK} (cy : Cy X.K W F H σ ε s Ed) (kq : Kq X.K W F H Qd R) {p : Addr} {vs : List V} {ds : List PyData} (hp : SqL X.K H p vs ∨ SqT X.K H p vs) (ra : RpAll X.K F vs ds) (q : sortP ds fun z => Qd z s) :
    rSetA (X := X) [.ref p] H fun v H1 => rSortA (X := X) [v] H1 R := by
  unfold sortP at q
  have big : (1000 : Nat) + 1 < scanBound := by decide
  have big2 : (1000 : Nat) ≤ sizeLine := by decide
  split at q
  · rename_i is e
    have e2 := intsD_rp ra e
    subst e2
    refine .inl ⟨p, is, rfl, hp, by have := q.1; omega, fun p2 n2 => .inl ⟨p2, _, rfl, upd_same, Nat.le_trans (fold_len is []) (by have := q.1; simp only [List.length_nil]; omega), fun ns p3 pm nd as n3 => ?_⟩⟩
    have m1 : Fm [] F H F (upd H p2 (SetXo (qI X.prog X.w) p2 (is.foldl addK []))) := Fm.own cy.ex n2
    refine kq_pure cy kq (m1.trans (Fm.new m1.fh n3)) (q.2 ns (lt_of_le_nodup ns as (pm.nodup_iff.mpr nd)) fun k => by rw [pm.mem_iff, fold_mem]; simp) (.lst (upd_same) (rp_ints ns))
  · split at q
    · rename_i zs e
      have e2 := strsD_rp ra e
      subst e2
      refine .inr ⟨p, zs, rfl, hp, by have := q.1; omega, fun p2 n2 => .inr ⟨p2, _, rfl, upd_same, Nat.le_trans (fold_len zs []) (by have := q.1; simp only [List.length_nil]; omega), fun ns p3 pm nd as n3 => ?_⟩⟩
      have m1 : Fm [] F H F (upd H p2 (SetXo (qS X.prog X.w) p2 (zs.foldl addK []))) := Fm.own cy.ex n2
      refine kq_pure cy kq (m1.trans (Fm.new m1.fh n3)) (q.2 ns (pw_lt (sorted_pw as) (pm.nodup_iff.mpr nd)) fun k => by rw [pm.mem_iff, fold_mem]; simp) (.lst (upd_same) (rp_strs ns))
    · exact q.elim
theorem sort_fin {F H : Hp} {σ : L2.St} {ε : En} {s : S} {Ed : QX S} {Qd : QS S} {R : VK} (cy : Cy X.K W F H σ ε s Ed) (kq : Kq X.K W F H Qd R) {v : V} {sl : Sl} (r : Sr X.K F v sl) (q : dsort sl fun z => Qd z s) :
    rSetA (X := X) [v] H fun v H1 => rSortA (X := X) [v] H1 R := by
  unfold dsort at q
  split at q
  · cases r with
    | lst hs ha => exact sort_go cy kq (.inl (.inl (.inl (cy.ex _ _ hs)))) ha q
  · cases r with
    | tup hs ha => exact sort_go cy kq (.inr (ex_t cy.ex hs)) ha q
  · exact q.elim
end
end Z
set_option Elab.async false
set_option linter.all false
set_option maxRecDepth 100000
set_option maxHeartbeats 4000000
namespace Z
open PySem PySem.Spec PyProof.Rows L2 Evl
theorem cut_whole {α : Type} {xs : List α} {lo hi : Option Int} (h1 : HT.sIx xs.length 0 lo = 0) (h2 : HT.sIx xs.length xs.length hi = xs.length) : cutG xs lo hi = xs := by
  unfold cutG
  rw [h1, h2]
  simp
def rSlS (K : PySem.W.Frag) : V → Option Int → Option Int → Hp → VK → Prop := fun vx lo hi H Q => ∃ F x P, Ex F H ∧ Sr K F vx x ∧ dsl x lo hi P ∧ ∀ z, P z → ∀ v F2 H2, Fm [] F H F2 H2 → Sr K F2 v z → Q v H2
theorem slS {X : Cx} : SlR X (rSlS X.K) := by
  intro pins s σ H vx v vl vu lo hi sl Q I rx hs pl pu h
  obtain ⟨F, x, P, ex, sx, hd, k⟩ := h
  refine (SlR.or (SlR.or sl_list sl_tupA) sl_str) pins s σ H vx v vl vu lo hi sl Q I rx hs pl pu ?_
  unfold dsl at hd
  split at hd
  · cases sx with
    | @lst a xs ds ha ra =>
      refine .inl (.inl ⟨a, xs, rfl, .inl (.inl (ex _ _ ha)), fun p hp => ?_⟩)
      refine k _ hd _ (upd F p (.lst (cutV xs lo hi))) _ (Fm.new ex hp) (.lst upd_same ?_)
      unfold cutV cutG
      rw [rpAll_len ra]
      exact rpAll_take _ (rpAll_drop _ (dpAll_ex (Ex.new (fresh_back ex hp)) _ _ ra))
  · cases sx with
    | @tup a xs ds ha ra =>
      refine .inl (.inr ⟨a, xs, rfl, ex_t ex ha, fun hw => ?_, fun _ p hp => ?_⟩)
      · rw [rpAll_len ra] at hw
        rw [cut_whole hw.1 hw.2] at hd
        exact k _ hd _ F H (Fm.refl ex) (.tup ha ra)
      · refine k _ hd _ (upd F p (.tup (cutV xs lo hi))) _ (Fm.new ex hp) (.tup (.inl (.inl upd_same)) ?_)
        unfold cutV cutG
        rw [rpAll_len ra]
        exact rpAll_take _ (rpAll_drop _ (dpAll_ex (Ex.new (fresh_back ex hp)) _ _ ra))
  · cases sx
    exact .inr ⟨_, rfl, hd.1, k _ hd.2 _ F H (Fm.refl ex) (.str _)⟩
  · exact hd.elim
section
variable {S : Type} {X : Cx} {W : Wd S} {Γ : Gam S} {sc : Scope} {n : Nat} (C : CxOk X W Γ sc)
variable (ih : ∀ e, PE X e (tWE X.K W Γ n sc e)) (it : ∀ e, PT X e (tWT X.K W Γ n sc e))
def tWO (K : PySem.W.Frag) (W : Wd S) (Γ : Gam S) (n : Nat) (sc : Scope) (e : Option Expr) : TO := fun σ H R => ∃ ε s Qd Ed F, wOpt (fun e s Q => wE Γ n false sc ε s e Q Ed) e s Qd ∧ Cy K W F H σ ε s Ed ∧
  (∀ (o : Option Int) (s2 : S) (F2 H2 : Hp), Fm W.rs F H F2 H2 → W.J s2 F2 H2 → Qd o s2 → R o H2)
theorem po_imp {e : Option Expr} {t u : TO} (h : PO X e t) (k : ∀ σ H Q, u σ H Q → t σ H Q) : PO X e u := ⟨fun pins s σ H Q I q => h.run pins s σ H Q I (k σ H Q q)⟩
include ih
theorem po_w : ∀ e : Option Expr, PO X e (tWO X.K W Γ n sc e)
  | none => po_imp po_none fun σ H R ⟨ε, s, Qd, Ed, F, hw, cy, kq⟩ => kq none s F H (Fm.refl cy.ex) cy.j hw
  | some e => po_imp (po_some (ih e)) fun σ H R ⟨ε, s, Qd, Ed, F, hw, cy, kq⟩ => by
    refine ⟨ε, s, _, Ed, F, hw, cy, fun v sl s2 F2 H2 m j q r => ?_⟩
    dsimp only at q
    split at q
    · cases r
      exact ⟨_, rfl, kq _ s2 F2 H2 m j q⟩
    · exact q.elim
theorem pe_sl {a : Expr} {lo hi : Option Expr} {p2 pos : Pos} : PE X (.Subscript a (.Slice lo hi none p2) pos) (tWE X.K W Γ (n + 1) sc (.Subscript a (.Slice lo hi none p2) pos)) := by
  refine pe_w (pe_slice slS (ih a) (po_w ih lo) (po_w ih hi)) fun σ H R ε s Qd Ed F w cy kq => ?_
  simp only [wE, chk_iff, chkN_iff, Bool.and_eq_true, decide_eq_true_eq, isG_iff, Bool.not_eq_true', and_assoc] at w
  refine ⟨ε, s, _, Ed, F, w, cy, fun v x s2 F2 H2 m j q r => ?_⟩
  refine ⟨ε, s2, _, Ed, F2, q, cy.next m j, fun l s3 F3 H3 m3 j3 q3 => ?_⟩
  refine ⟨ε, s3, _, Ed, F3, q3, cy.next (m.trans m3) j3, fun h s4 F4 H4 m4 j4 q4 => ?_⟩
  exact ⟨F4, x, _, m4.fh, sr_ex (m3.ff.trans m4.ff) r, q4, fun z hz v2 F5 H5 m5 r5 => kq_pure (cy.next ((m.trans m3).trans m4) j4) (kq.next ((m.trans m3).trans m4)) m5 hz r5⟩
include it
theorem pe_if {c a b : Expr} {pos : Pos} : PE X (.IfExp c a b pos) (tWE X.K W Γ (n + 1) sc (.IfExp c a b pos)) := by
  refine pe_w (pe_ifExp (it c) (ih a) (ih b)) fun σ H R ε s Qd Ed F w cy kq => ?_
  simp only [wE, chk_iff, chkN_iff, Bool.and_eq_true, decide_eq_true_eq, isG_iff, Bool.not_eq_true', and_assoc] at w
  refine ⟨ε, s, _, Ed, F, w, cy, fun k s2 F2 H2 m j q => ?_⟩
  cases k with
  | true => exact ⟨ε, s2, Qd, Ed, F2, q, cy.next m j, kq.next m⟩
  | false => exact ⟨ε, s2, Qd, Ed, F2, q, cy.next m j, kq.next m⟩
omit it
include C
theorem pe_jn {o a : Expr} {m : Str} {apos pos : Pos} : PE X (.Call (.Attribute o m apos) [a] [] pos) (tWE X.K W Γ (n + 1) sc (.Call (.Attribute o m apos) [a] [] pos)) := by
  by_cases hm : m = "join" ∧ plainE a = true ∧ callE o = false ∧ (apos.endLine == pos.line) = true
  · obtain ⟨rfl, h1, h2, h3⟩ := hm
    refine pe_w (pe_join (ih o) (ih a) (star1 [] X.env h1) (base0 X.env h2) h3) fun σ H R ε s Qd Ed F w cy kq => ?_
    simp only [wE, chk_iff, chkN_iff, Bool.and_eq_true, decide_eq_true_eq, isG_iff, Bool.not_eq_true', and_assoc] at w
    obtain ⟨_, _, _, _, w⟩ := w
    refine ⟨ε, s, _, Ed, F, w, cy, fun v x s2 F2 H2 m j q r => ?_⟩
    obtain ⟨⟨z, e⟩, q⟩ := q
    subst e
    cases r
    refine ⟨⟨z, rfl⟩, ε, s2, _, Ed, F2, q, cy.next m j, fun u y s3 F3 H3 m3 j3 q3 r3 => ?_⟩
    dsimp only [djoin] at q3
    split at q3
    · rename_i ds e
      cases e
      cases r3 with
      | @lst p xs _ hp rp =>
        split at q3
        · rename_i ys e
          have e2 := strsD_rp rp e
          subst e2
          refine ⟨z, p, ys, rfl, rfl, .inl (.inl (.inl (m3.fh _ _ hp))), ?_, ?_⟩
          · exact q3.1
          · exact kq_now (cy.next (m.trans m3) j3) (kq.next (m.trans m3)) q3.2 (.str _)
        · exact q3.elim
    · rename_i ds e
      cases e
      cases r3 with
      | @tup p xs _ hp rp =>
        split at q3
        · rename_i ys e
          have e2 := strsD_rp rp e
          subst e2
          refine ⟨z, p, ys, rfl, rfl, .inr (ex_t m3.fh hp), ?_, ?_⟩
          · exact q3.1
          · exact kq_now (cy.next (m.trans m3) j3) (kq.next (m.trans m3)) q3.2 (.str _)
        · exact q3.elim
    · exact q3.elim
  · refine pe_false fun σ H R ⟨ε, s, Qd, Ed, F, w, cy, kq⟩ => ?_
    simp only [wE, chk_iff, chkN_iff, Bool.and_eq_true, decide_eq_true_eq, isG_iff, Bool.not_eq_true', and_assoc] at w
    exact hm ⟨w.1, w.2.1, w.2.2.1, w.2.2.2.1⟩
theorem pe_sr {a : Expr} {p p2 pos pos2 : Pos} (hq : Γ.free.contains "sorted" = true ∧ Γ.free.contains "set" = true ∧ sc.names.lookup ("set" : Str) = some .globalImplicit) (hl : sc.names.lookup ("sorted" : Str) = some .globalImplicit) (h1 : plainE a = true)
    (hw : ∀ ε s (Qd : QS S) Ed, wE Γ (n + 1) false sc ε s (.Call (.Name "sorted" p) [.Call (.Name "set" p2) [a] [] pos2] [] pos) Qd Ed → wE Γ n false sc ε s a (fun x s1 => dsort x fun z => Qd z s1) Ed) :
    PE X (.Call (.Name "sorted" p) [.Call (.Name "set" p2) [a] [] pos2] [] pos) (tWE X.K W Γ (n + 1) sc (.Call (.Name "sorted" p) [.Call (.Name "set" p2) [a] [] pos2] [] pos)) := by
  have inner : PE X (.Call (.Name "set" p2) [a] [] pos2) (tCB (rSetA (X := X)) (tCons (tWE X.K W Γ n sc a) tNil)) :=
    pe_callTy (cr_setA C.calm) (C.gl _ hq.2.2) (C.free _ hq.2.1) (by decide +kernel) (pa_cons (ih a) pa_nil (star1 [] X.env h1)) (by decide) (by decide) (star1 [] X.env h1)
  refine pe_w (pe_callB (cr_sortA C.calm) (C.gl _ hl) (C.free _ hq.1) (by decide +kernel) (pa_cons inner pa_nil) (by decide) (by decide)) fun σ H R ε s Qd Ed F w cy kq => ?_
  refine ⟨ε, s, _, Ed, F, hw ε s Qd Ed w, cy, fun v sl s2 F2 H2 m j q r => ?_⟩
  exact sort_fin (cy.next m j) (kq.next m) r q
omit C ih in
theorem isiOf_eq {b : Bf} {args : List Expr} {a : Expr} {l : List (Str × String)} (h : isiOf b args = some (a, l)) : b = .isinstance ∧ ∃ es k tp, args = [a, .Tuple es k tp] ∧ tyNames es = some l := by
  unfold isiOf at h
  split at h
  · rename_i a0 es k tp
    cases q : tyNames es with
    | none =>
      rw [q] at h
      cases h
    | some l0 =>
      rw [q] at h
      cases h
      exact ⟨rfl, es, k, tp, rfl, q⟩
  · cases h
omit ih in
theorem pa_tys : ∀ {es : List Expr} {l : List (Str × String)}, tyNames es = some l → (∀ q ∈ l, Γ.free.contains q.1 = true ∧ sc.names.lookup q.1 = some .globalImplicit) → PA X es (fun σ H R => R (l.map fun q => V.ty q.2) H)
  | [], l, h, _ => by
    cases h
    exact pa_imp pa_nil fun σ H R q => q
  | .Name x p :: r, l, h, hl => by
    unfold tyNames at h
    cases t : tyOf x with
    | none =>
      rw [t] at h
      cases h
    | some T =>
      cases q : tyNames r with
      | none =>
        rw [t, q] at h
        cases h
      | some l0 =>
        rw [t, q] at h
        cases h
        obtain ⟨h1, h2⟩ := hl _ List.mem_cons_self
        have nd := okSc_no C.dbg h2
        exact pa_imp (pa_cons (pe_bltn (v := .ty T) (C.gl x h2) (C.free x h1) (tyOf_boot t) rfl nd.2.2 nd.1) (pa_tys q fun z hz => hl z (List.mem_cons_of_mem _ hz)) (star1 r X.env rfl)) fun σ H R z => z
omit C ih in
theorem kit_any {K : PySem.W.Frag} {t : String} : ∀ {ns : List String} {b : Bool}, anyB t ns = some b → PySem.W.kitAny K (.type t) (ns.map .type) = some b
  | [], b, h => by
    cases h
    exact kitAny_nil
  | n :: ns, b, h => by
    unfold anyB at h
    cases q : kitB t n with
    | none =>
      rw [q] at h
      cases h
    | some c =>
      rw [q] at h
      refine kitAny_cons (kit_ty q) (fun e => ?_) fun e => ?_
      · subst e
        exact kit_any h
      · subst e
        cases h
        rfl
omit C ih in
theorem paired_tys : ∀ ns : List String, Paired ClsV (ns.map V.ty) (ns.map Value.type)
  | [] => .nil
  | n :: ns => .cons (.ty n) (paired_tys ns)
theorem pe_cl {f : Str} {args : List Expr} {p pos : Pos} : PE X (.Call (.Name f p) args [] pos) (tWE X.K W Γ (n + 1) sc (.Call (.Name f p) args [] pos)) := by
  by_cases hp : args.all plainE = true ∧ sc.names.lookup f = some .globalImplicit
  · obtain ⟨hp, hl⟩ := hp
    have hg : Gl X f := C.gl f hl
    have nd := okSc_no C.dbg hl
    cases hf : Γ.fns.lookup f with
    | some spec =>
      obtain ⟨CX, k, a, G, hr, hm, hk, hx, _⟩ := C.fns f spec hf
      cases args with
      | nil =>
        refine pe_w (pe_fg0 G C.gs hr hg hm hk hx nd.1) fun σ H R ε s Qd Ed F w cy kq => ?_
        simp only [wE, chk_iff, chkN_iff, Bool.and_eq_true, decide_eq_true_eq, isG_iff, Bool.not_eq_true', and_assoc, hf] at w
        exact ⟨[], s, F, Qd, Ed, cy.ex, True.intro, cy.j, w.2.2, kq, cy.kx⟩
      | cons e es =>
        have hp2 := hp
        rw [List.all_cons, Bool.and_eq_true] at hp2
        refine pe_w (pe_fg G C.gs hr hg hm hk hx (pa_w ih _ hp) nd.1 (star1 es X.env hp2.1) (any0 X.env hp2.2)) fun σ H R ε s Qd Ed F w cy kq => ?_
        simp only [wE, chk_iff, chkN_iff, Bool.and_eq_true, decide_eq_true_eq, isG_iff, Bool.not_eq_true', and_assoc, hf] at w
        refine ⟨ε, s, _, Ed, F, w.2.2, cy, fun vs ss s2 F2 H2 m j q r => ?_⟩
        exact ⟨ss, s2, F2, Qd, Ed, m.fh, r, j, q, kq.next m, cy.kx.next m⟩
    | none =>
      cases hbf : bfOf Γ.rep f with
      | none =>
        by_cases hq : Γ.free.contains "sorted" = true ∧ Γ.free.contains "set" = true ∧ sc.names.lookup ("set" : Str) = some .globalImplicit
        · cases hsr : srtOf f args with
          | none =>
            refine pe_false fun σ H R ⟨ε, s, Qd, Ed, F, w, cy, kq⟩ => ?_
            simp only [wE, chk_iff, chkN_iff, Bool.and_eq_true, decide_eq_true_eq, isG_iff, Bool.not_eq_true', and_assoc, hf, hbf, hsr] at w
            exact w.2.2.2.2.2
          | some a =>
            obtain ⟨rfl, p2, pos2, rfl, h1⟩ := srtOf_eq hsr
            refine pe_sr C ih hq hl h1 fun ε s Qd Ed w => ?_
            simp only [wE, chk_iff, chkN_iff, Bool.and_eq_true, decide_eq_true_eq, isG_iff, Bool.not_eq_true', and_assoc, hf, hbf, hsr] at w
            exact w.2.2.2.2.2
        · refine pe_false fun σ H R ⟨ε, s, Qd, Ed, F, w, cy, kq⟩ => ?_
          simp only [wE, chk_iff, chkN_iff, Bool.and_eq_true, decide_eq_true_eq, isG_iff, Bool.not_eq_true', and_assoc, hf, hbf] at w
          exact hq ⟨w.2.2.1, w.2.2.2.1, w.2.2.2.2.1⟩
      | some b =>
        by_cases hq : Γ.free.contains f = true ∧ args.isEmpty = false
        · obtain ⟨hfr, hne⟩ := hq
          cases args with
          | nil => cases hne
          | cons e es =>
            have hp2 := hp
            rw [List.all_cons, Bool.and_eq_true] at hp2
            have boot := bfOf_boot hbf
            have nrep := bfOf_rep hbf
            cases hisi : isiOf b (e :: es) with
            | some al =>
              obtain ⟨a, l⟩ := al
              obtain ⟨hb, es2, k2, tp, hargs, ht⟩ := isiOf_eq hisi
              subst hb
              obtain ⟨e1, e2⟩ := List.cons.inj hargs
              subst e1 e2
              by_cases hl2 : l.length ≤ 100 ∧ ∀ q ∈ l, Γ.free.contains q.1 = true ∧ sc.names.lookup q.1 = some .globalImplicit
              · obtain ⟨hlen, hall⟩ := hl2
                have hpa : PA X [e, .Tuple es2 k2 tp] (tCons (tWE X.K W Γ n sc e) (tCons (tTup fun σ H R => R (l.map fun q => V.ty q.2) H) tNil)) :=
                  pa_cons (ih e) (pa_cons (pe_tup (pa_tys C ht hall)) pa_nil (star1 [] X.env rfl)) (star1 _ X.env hp2.1)
                refine pe_w (pe_callB call_isiT hg (C.free f hfr) boot hpa nd.2.2 nd.1 (star1 _ X.env hp2.1) (any0 (pos := pos) X.env hp2.2)) fun σ H R ε s Qd Ed F w cy kq => ?_
                simp only [wE, chk_iff, chkN_iff, Bool.and_eq_true, decide_eq_true_eq, isG_iff, Bool.not_eq_true', and_assoc, hf, hbf, hisi] at w
                refine ⟨ε, s, _, Ed, F, w.2.2.2.2.2.2, cy, fun v x s2 F2 H2 m j q r => ?_⟩
                refine ⟨by rw [List.length_map]; exact sz_of (by omega), fun pa hpa2 => ?_⟩
                cases x with
                | d x =>
                  simp only [disT] at q
                  cases hk : anyB (tyName x) (l.map (·.2)) with
                  | none =>
                    rw [hk] at q
                    exact q.elim
                  | some b =>
                    rw [hk] at q
                    have e4 : (l.map fun q => V.ty q.2) = (l.map (·.2)).map V.ty := by rw [List.map_map]; rfl
                    refine ⟨v, pa, _, .type (tyName x), (l.map (·.2)).map .type, b, rfl, upd_same, by rw [e4]; exact paired_tys _, tyx_rp (m.fh.trans (Ex.new hpa2)) r, kit_any hk, ?_⟩
                    exact kq_pure (cy.next m j) (kq.next m) (Fm.own m.fh hpa2) q (.bl b)
                | _ => exact q.elim
              · refine pe_false fun σ H R ⟨ε, s, Qd, Ed, F, w, cy, kq⟩ => ?_
                simp only [wE, chk_iff, chkN_iff, Bool.and_eq_true, decide_eq_true_eq, isG_iff, Bool.not_eq_true', and_assoc, hf, hbf, hisi, List.all_eq_true] at w
                exact hl2 ⟨w.2.2.2.2.1, w.2.2.2.2.2.1⟩
            | none =>
            have rule := callBf (X := X) C.calm C.gs C.room b nrep
            have fin : ∀ (σ : L2.St) (H : Hp) (R : VK) (ε : En) (s : S) (Qd : QS S) (Ed : QX S) (F : Hp), wE Γ (n + 1) false sc ε s (.Call (.Name f p) (e :: es) [] pos) Qd Ed → Cy X.K W F H σ ε s Ed → Kq X.K W F H Qd R →
                tCB (rSn X.K (dcall b)) (tWA X.K W Γ n sc (e :: es)) σ H R := by
              intro σ H R ε s Qd Ed F w cy kq
              simp only [wE, chk_iff, chkN_iff, Bool.and_eq_true, decide_eq_true_eq, isG_iff, Bool.not_eq_true', and_assoc, hf, hbf, hisi] at w
              refine ⟨ε, s, _, Ed, F, w.2.2.2.2, cy, fun vs ss s2 F2 H2 m j q r => ?_⟩
              exact ⟨F2, ss, _, m.fh, r, q, fun z hz v2 F4 H4 m4 r4 => kq_pure (cy.next m j) (kq.next m) m4 hz r4⟩
            have hs := star1 es X.env hp2.1
            have ha := any0 (pos := pos) X.env hp2.2
            cases b <;> first
              | exact pe_w (pe_callB rule hg (C.free f hfr) boot (pa_w ih _ hp) nd.2.2 nd.1 hs ha) fin
              | exact pe_w (pe_callTy rule hg (C.free f hfr) boot (pa_w ih _ hp) nd.2.2 nd.1 hs ha) fin
        · refine pe_false fun σ H R ⟨ε, s, Qd, Ed, F, w, cy, kq⟩ => ?_
          simp only [wE, chk_iff, chkN_iff, Bool.and_eq_true, decide_eq_true_eq, isG_iff, Bool.not_eq_true', and_assoc, hf, hbf] at w
          exact hq ⟨w.2.2.1, w.2.2.2.1⟩
  · refine pe_false fun σ H R ⟨ε, s, Qd, Ed, F, w, cy, kq⟩ => ?_
    simp only [wE, chk_iff, chkN_iff, Bool.and_eq_true, decide_eq_true_eq, isG_iff, Bool.not_eq_true', and_assoc] at w
    exact hp ⟨w.1, w.2.1⟩
omit C
include it
theorem pt_nt {a : Expr} {pos : Pos} : PT X (.UnaryOp .Not a pos) (tWT X.K W Γ (n + 1) sc (.UnaryOp .Not a pos)) := by
  refine pt_w (pt_not (it a)) fun σ H R ε s Qd Ed F w cy kq => ?_
  simp only [wE, chk_iff, chkN_iff, Bool.and_eq_true, decide_eq_true_eq, isG_iff, Bool.not_eq_true', and_assoc] at w
  exact ⟨ε, s, _, Ed, F, w, cy, fun k s2 F2 H2 m j q => kq (!k) s2 F2 H2 m j q⟩
theorem pt_ands {pos : Pos} : ∀ es : List Expr, PW X (.BoolOp .And es pos) (fun σ H R => ∃ ε s Qd Ed F, wAnd (fun e s Q => wE Γ n true sc ε s e Q Ed) es s Qd ∧ Cy X.K W F H σ ε s Ed ∧ Kb W F H Qd R)
  | [] => ⟨fun _ _ _ _ _ _ _ ⟨ε, s, Qd, Ed, F, w, cy, kq⟩ => w.elim⟩
  | [e] => pw_imp (pw_and1 (it e)) fun σ H R ⟨ε, s, Qd, Ed, F, w, cy, kq⟩ => ⟨ε, s, Qd, Ed, F, w, cy, kq⟩
  | e :: e2 :: es => pw_imp (pw_and (it e) (pt_ands (e2 :: es))) fun σ H R ⟨ε, s, Qd, Ed, F, w, cy, kq⟩ => by
    refine ⟨ε, s, _, Ed, F, w, cy, fun k s2 F2 H2 m j q => ?_⟩
    cases k with
    | true => exact ⟨ε, s2, Qd, Ed, F2, q, cy.next m j, fun b s3 F3 H3 m3 => kq b s3 F3 H3 (m.trans m3)⟩
    | false => exact kq false s2 F2 H2 m j q
theorem pt_ors {pos : Pos} : ∀ es : List Expr, PW X (.BoolOp .Or es pos) (fun σ H R => ∃ ε s Qd Ed F, wOr (fun e s Q => wE Γ n true sc ε s e Q Ed) es s Qd ∧ Cy X.K W F H σ ε s Ed ∧ Kb W F H Qd R)
  | [] => ⟨fun _ _ _ _ _ _ _ ⟨ε, s, Qd, Ed, F, w, cy, kq⟩ => w.elim⟩
  | [e] => pw_imp (pw_or1 (it e)) fun σ H R ⟨ε, s, Qd, Ed, F, w, cy, kq⟩ => ⟨ε, s, Qd, Ed, F, w, cy, kq⟩
  | e :: e2 :: es => pw_imp (pw_or (it e) (pt_ors (e2 :: es))) fun σ H R ⟨ε, s, Qd, Ed, F, w, cy, kq⟩ => by
    refine ⟨ε, s, _, Ed, F, w, cy, fun k s2 F2 H2 m j q => ?_⟩
    cases k with
    | false => exact ⟨ε, s2, Qd, Ed, F2, q, cy.next m j, fun b s3 F3 H3 m3 => kq b s3 F3 H3 (m.trans m3)⟩
    | true => exact kq true s2 F2 H2 m j q
omit it
theorem pt_gen {e : Expr} (he : condE e = false) (hw : ∀ ε s (Qd : QS S) Ed, wE Γ (n + 1) true sc ε s e Qd Ed → wE Γ n false sc ε s e (fun x s1 => dtru x fun b => Qd (.d (.bool b)) s1) Ed) : PT X e (tWT X.K W Γ (n + 1) sc e) := by
  refine pt_w (pt_tru (ih e) he) fun σ H R ε s Qd Ed F w cy kq => ?_
  refine ⟨ε, s, _, Ed, F, hw ε s Qd Ed w, cy, fun v x s2 F2 H2 m j q r => ?_⟩
  obtain ⟨k, t, q2⟩ := tru_v m.fh r q
  exact ⟨k, t, kq k s2 F2 H2 m j q2⟩
end
end Z
set_option Elab.async false
set_option linter.all false
set_option maxRecDepth 100000
set_option maxHeartbeats 4000000
namespace Z
open PySem PySem.Spec PyProof.Rows L2 Evl
/-- J walks the data xs -/
def Wk (K : PySem.W.Frag) (F : Hp) (J : It) (xs : List PyData) : Prop := ∀ (i : Nat) (F' H' : Hp), Ex F F' → Ex F' H' →
  (∀ x, xs[i]? = some x → J.go i H' ∧ ∀ v H'', J.yld i H' v H'' → ∃ F'', Fm [] F' H' F'' H'' ∧ Rp K F'' v x) ∧ (xs.length ≤ i → J.stop i H')
section
variable {K : PySem.W.Frag} {F : Hp}
theorem wk_list {a : Addr} {vs : List V} {ds : List PyData} (h : F a = some (.lst vs)) (r : RpAll K F vs ds) : Wk K F (Itl K a) ds := by
  intro i F' H' e1 e2
  have hs : SqL K H' a vs := .inl (.inl (e2 _ _ (e1 _ _ h)))
  refine ⟨fun x hx => ?_, fun hi => ⟨vs, hs, by rw [rpAll_len r]; exact hi⟩⟩
  obtain ⟨v, g, rv⟩ := rpAll_get r hx
  refine ⟨⟨vs, v, hs, g⟩, fun u H'' ⟨e, k⟩ => ?_⟩
  subst e
  have e3 := k vs hs
  rw [g] at e3
  cases e3
  exact ⟨F', Fm.refl e2, dp_ex e1 _ _ rv⟩
theorem wk_tup {a : Addr} {vs : List V} {ds : List PyData} (h : SqT K F a vs) (r : RpAll K F vs ds) : Wk K F (Itt K a) ds := by
  intro i F' H' e1 e2
  have hs : SqT K H' a vs := ex_t e2 (ex_t e1 h)
  refine ⟨fun x hx => ?_, fun hi => ⟨vs, hs, by rw [rpAll_len r]; exact hi⟩⟩
  obtain ⟨v, g, rv⟩ := rpAll_get r hx
  refine ⟨⟨vs, v, hs, g⟩, fun u H'' ⟨e, k⟩ => ?_⟩
  subst e
  have e3 := k vs hs
  rw [g] at e3
  cases e3
  exact ⟨F', Fm.refl e2, dp_ex e1 _ _ rv⟩
theorem wk_rng {lo : Int} {n : Nat} : Wk K F (Itr lo n) ((List.range n).map fun i => .int (lo + (i : Nat))) := by
  intro i F' H' e1 e2
  refine ⟨fun x hx => ?_, fun hi => show n ≤ i by simpa using hi⟩
  rw [List.getElem?_map] at hx
  obtain ⟨j, hj, e⟩ := Option.map_eq_some_iff.mp hx
  obtain ⟨hl, e3⟩ := List.getElem?_eq_some_iff.mp hj
  rw [List.length_range] at hl
  rw [List.getElem_range] at e3
  subst e3 e
  refine ⟨hl, fun u H'' ⟨e, k⟩ => ?_⟩
  subst e k
  exact ⟨F', Fm.refl e2, .int _⟩
theorem wk_str {z : Str} : Wk K F (Its z) (z.cps.toList.map fun c => .str ⟨#[c]⟩) := by
  intro i F' H' e1 e2
  refine ⟨fun x hx => ?_, fun hi => show z.cps.size ≤ i by simpa using hi⟩
  rw [List.getElem?_map] at hx
  obtain ⟨c, hj, e⟩ := Option.map_eq_some_iff.mp hx
  rw [Array.getElem?_toList] at hj
  obtain ⟨hl, _⟩ := Array.getElem?_eq_some_iff.mp hj
  subst e
  refine ⟨hl, fun u H'' ⟨e, c2, k, e3⟩ => ?_⟩
  subst e e3
  rw [hj] at k
  cases k
  exact ⟨F', Fm.refl e2, .str _⟩
theorem zipD_get : ∀ {as bs : List PyData} {i : Nat} {x : PyData}, (zipD as bs)[i]? = some x → ∃ a b, as[i]? = some a ∧ bs[i]? = some b ∧ x = .tuple [a, b]
  | [], _, _, _, h => by simp [zipD] at h
  | _ :: _, [], _, _, h => by simp [zipD] at h
  | a :: as, b :: bs, 0, x, h => by
    simp [zipD] at h
    exact ⟨a, b, rfl, rfl, h.symm⟩
  | a :: as, b :: bs, i + 1, x, h => by
    simp only [zipD, List.getElem?_cons_succ] at h
    obtain ⟨c, d, h1, h2, h3⟩ := zipD_get h
    exact ⟨c, d, by simpa using h1, by simpa using h2, h3⟩
theorem zipD_len : ∀ {as bs : List PyData} {i : Nat}, (zipD as bs).length ≤ i → as.length ≤ i ∨ bs.length ≤ i
  | [], _, _, _ => .inl (Nat.zero_le _)
  | _ :: _, [], _, _ => .inr (Nat.zero_le _)
  | a :: as, b :: bs, 0, h => by simp [zipD] at h
  | a :: as, b :: bs, i + 1, h => by
    simp only [zipD, List.length_cons] at h
    have := zipD_len (as := as) (bs := bs) (i := i) (by omega)
    simp only [List.length_cons]
    omega
theorem wk_zip {a b : Addr} {xs ys : List V} {as bs : List PyData} (ha : F a = some (.lst xs)) (hb : F b = some (.lst ys)) (ra : RpAll K F xs as) (rb : RpAll K F ys bs) : Wk K F (Itz K a b) (zipD as bs) := by
  intro i F' H' e1 e2
  have h1 : SqL K H' a xs := .inl (.inl (e2 _ _ (e1 _ _ ha)))
  have h2 : SqL K H' b ys := .inl (.inl (e2 _ _ (e1 _ _ hb)))
  refine ⟨fun x hx => ?_, fun hi => ⟨xs, ys, h1, h2, ?_⟩⟩
  · obtain ⟨c, d, g1, g2, e⟩ := zipD_get hx
    subst e
    obtain ⟨v, k1, r1⟩ := rpAll_get ra g1
    obtain ⟨u, k2, r2⟩ := rpAll_get rb g2
    refine ⟨⟨xs, ys, v, u, h1, h2, k1, k2⟩, fun w H'' ⟨T, v2, u2, ew, hT, eH, p1, p2⟩ => ?_⟩
    subst ew eH
    have q1 := p1 xs h1
    have q2 := p2 ys h2
    rw [k1] at q1
    rw [k2] at q2
    cases q1
    cases q2
    have nf := fresh_back e2 hT
    exact ⟨_, Fm.new e2 hT, .tup (.inl (.inl upd_same)) (.cons (dp_ex (e1.trans (Ex.new nf)) _ _ r1) (.cons (dp_ex (e1.trans (Ex.new nf)) _ _ r2) .nil))⟩
  · rw [rpAll_len ra, rpAll_len rb]
    exact zipD_len hi
theorem wk_zipT {a b : Addr} {xs ys : List V} {as bs : List PyData} (ha : SqT K F a xs) (hb : SqT K F b ys) (ra : RpAll K F xs as) (rb : RpAll K F ys bs) : Wk K F (RZ.ItzT K a b) (zipD as bs) := by
  intro i F' H' e1 e2
  have h1 : SqT K H' a xs := ex_t e2 (ex_t e1 ha)
  have h2 : SqT K H' b ys := ex_t e2 (ex_t e1 hb)
  refine ⟨fun x hx => ?_, fun hi => ⟨xs, ys, h1, h2, ?_⟩⟩
  · obtain ⟨c, d, g1, g2, e⟩ := zipD_get hx
    subst e
    obtain ⟨v, k1, r1⟩ := rpAll_get ra g1
    obtain ⟨u, k2, r2⟩ := rpAll_get rb g2
    refine ⟨⟨xs, ys, v, u, h1, h2, k1, k2⟩, fun w H'' ⟨T, v2, u2, ew, hT, eH, p1, p2⟩ => ?_⟩
    subst ew eH
    have q1 := p1 xs h1
    have q2 := p2 ys h2
    rw [k1] at q1
    rw [k2] at q2
    cases q1
    cases q2
    have nf := fresh_back e2 hT
    exact ⟨_, Fm.new e2 hT, .tup (.inl (.inl upd_same)) (.cons (dp_ex (e1.trans (Ex.new nf)) _ _ r1) (.cons (dp_ex (e1.trans (Ex.new nf)) _ _ r2) .nil))⟩
  · rw [rpAll_len ra, rpAll_len rb]
    exact zipD_len hi
theorem enumD_get : ∀ {as : List PyData} {k i : Nat} {x : PyData}, (enumD k as)[i]? = some x → ∃ a, as[i]? = some a ∧ x = .tuple [.int ((k + i : Nat) : Int), a]
  | [], _, _, _, h => by simp [enumD] at h
  | a :: as, k, 0, x, h => by
    simp [enumD] at h
    exact ⟨a, rfl, by simpa using h.symm⟩
  | a :: as, k, i + 1, x, h => by
    simp only [enumD, List.getElem?_cons_succ] at h
    obtain ⟨c, h1, h2⟩ := enumD_get h
    refine ⟨c, by simpa using h1, ?_⟩
    rw [h2]
    have e : k + 1 + i = k + (i + 1) := by omega
    rw [e]
theorem enumD_len : ∀ (k : Nat) (as : List PyData), (enumD k as).length = as.length
  | _, [] => rfl
  | k, _ :: as => congrArg Nat.succ (enumD_len (k + 1) as)
theorem wk_enum {a : Addr} {xs : List V} {as : List PyData} (ha : F a = some (.lst xs)) (ra : RpAll K F xs as) : Wk K F (Ite K a) (enumD 0 as) := by
  intro i F' H' e1 e2
  have h1 : SqL K H' a xs := .inl (.inl (e2 _ _ (e1 _ _ ha)))
  refine ⟨fun x hx => ?_, fun hi => ⟨xs, h1, ?_⟩⟩
  · obtain ⟨c, g1, e⟩ := enumD_get hx
    subst e
    obtain ⟨v, k1, r1⟩ := rpAll_get ra g1
    refine ⟨⟨xs, v, h1, k1⟩, fun w H'' ⟨T, v2, ew, hT, eH, p1⟩ => ?_⟩
    subst ew eH
    have q1 := p1 xs h1
    rw [k1] at q1
    cases q1
    have nf := fresh_back e2 hT
    have e0 : ((0 + i : Nat) : Int) = (i : Int) := by simp
    rw [e0]
    exact ⟨_, Fm.new e2 hT, .tup (.inl (.inl upd_same)) (.cons (.int _) (.cons (dp_ex (e1.trans (Ex.new nf)) _ _ r1) .nil))⟩
  · rw [enumD_len] at hi
    rw [rpAll_len ra]
    exact hi
end
section
variable {X : Cx} {tg : Expr}
/-- what is walked, whatever the value is -/
theorem pi_seq {e : Expr} {te : TE} (he : PE X e te) : PI X tg e (fun σ H R => te σ H fun x H1 =>
    (∃ a xs, x = .ref a ∧ SqL X.K H1 a xs ∧ R (Itl X.K a) H1) ∨ (∃ a xs, x = .ref a ∧ SqT X.K H1 a xs ∧ R (Itt X.K a) H1) ∨ ∃ z, x = .str z ∧ R (Its z) H1) := by
  constructor
  intro pins s σ H R I h
  refine thn (he.run pins s σ H _ I h) ?_
  rintro v s1 ⟨y, H1, I1, r1, q⟩
  rcases q with ⟨a, xs, rfl, hq, q⟩ | ⟨a, xs, rfl, hq, q⟩ | ⟨z, rfl, q⟩
  · cases r1
    obtain ⟨its, _, p, _⟩ := I1.list hq
    apply wpAny_pyIter_list p.isList
    exact pi_one (tk := s1.toks) I1 _ (turn_list a _) ⟨_, Heap.get?_push_size _ rfl, rfl, rfl⟩ q
  · cases r1
    obtain ⟨its, _, p, _⟩ := I1.tuple hq
    apply wpAny_pyIter_tuple (show s1.heap.IsTuple a its.toArray from p)
    exact pi_one (tk := s1.toks) I1 _ (turn_tuple a _) ⟨_, Heap.get?_push_size _ rfl, rfl, rfl⟩ q
  · obtain ⟨t, rfl⟩ := r1
    cases ha : z.cps.all (· < 128) with
    | false =>
      apply wpAny_pyIter_wide ha
      exact pi_one (tk := s1.toks) I1 _ (turn_str _ z t _ (.inr rfl)) ⟨_, Heap.get?_push_size _ rfl, rfl, rfl⟩ q
    | true =>
      apply wpAny_pyIter_ascii ha
      exact pi_one (tk := s1.toks) I1 _ (turn_str _ z t _ (.inl rfl)) ⟨_, Heap.get?_push_size _ rfl, rfl, rfl⟩ q
theorem pi_imp {e : Expr} {t u : TI} (h : PI X tg e t) (k : ∀ σ H R, u σ H R → t σ H R) : PI X tg e u := ⟨fun pins s σ H R I q => h.run pins s σ H R I (k σ H R q)⟩
theorem pi_false {e : Expr} {t : TI} (h : ∀ σ H R, ¬ t σ H R) : PI X tg e t := ⟨fun _ _ σ H R _ q => (h σ H R q).elim⟩
end
section
variable {S : Type} {X : Cx} {W : Wd S} {Γ : Gam S} {sc : Scope} {n : Nat} {tg : Expr} (C : CxOk X W Γ sc) (ih : ∀ e, PE X e (tWE X.K W Γ n sc e))
def Ki (K : PySem.W.Frag) (W : Wd S) (F H : Hp) (Qd : List PyData → S → Prop) (R : It → Hp → Prop) : Prop := ∀ (J : It) (xs : List PyData) (s2 : S) (F2 H2 : Hp), Fm W.rs F H F2 H2 → W.J s2 F2 H2 → Qd xs s2 → Wk K F2 J xs → R J H2
def tWI (K : PySem.W.Frag) (W : Wd S) (Γ : Gam S) (n : Nat) (sc : Scope) (tg : Expr) (e : Expr) : TI := fun σ H R => ∃ ε s Qd Ed F, wIter Γ.free sc tg (fun e s Q => wE Γ n false sc ε s e Q Ed) e s Qd ∧ Cy K W F H σ ε s Ed ∧ Ki K W F H Qd R
include ih
theorem pi_any {e : Expr} (h : ∀ ε s (Qd : List PyData → S → Prop) Ed, wIter Γ.free sc tg (fun e s Q => wE Γ n false sc ε s e Q Ed) e s Qd → wSeq (fun e s Q => wE Γ n false sc ε s e Q Ed) e s Qd) : PI X tg e (tWI X.K W Γ n sc tg e) := by
  refine pi_imp (pi_seq (ih e)) fun σ H R ⟨ε, s, Qd, Ed, F, w, cy, kq⟩ => ?_
  refine ⟨ε, s, _, Ed, F, h ε s Qd Ed w, cy, fun v x s2 F2 H2 m j q r => ?_⟩
  dsimp only at q
  split at q
  · cases r with
    | @lst a xs _ ha ra => exact .inl ⟨a, xs, rfl, .inl (.inl (m.fh _ _ ha)), kq _ _ s2 F2 H2 m j q (wk_list ha ra)⟩
  · cases r with
    | @tup a xs _ ha ra => exact .inr (.inl ⟨a, xs, rfl, ex_t m.fh ha, kq _ _ s2 F2 H2 m j q (wk_tup ha ra)⟩)
  · cases r
    exact .inr (.inr ⟨_, rfl, kq _ _ s2 F2 H2 m j q wk_str⟩)
  · exact q.elim
include C
theorem pi_w1 {g : Str} {p pos : Pos} {a : Expr} : PI X tg (.Call (.Name g p) [a] [] pos) (tWI X.K W Γ n sc tg (.Call (.Name g p) [a] [] pos)) := by
  by_cases h1 : g = "range"
  · subst h1
    by_cases hh : plainE a = true ∧ Γ.free.contains ("range" : Str) = true ∧ sc.names.lookup ("range" : Str) = some .globalImplicit
    · obtain ⟨hp, hf, hl⟩ := hh
      refine pi_imp (pi_range1 (C.gl _ hl) (C.free _ hf) (pa_cons (ih a) pa_nil (star1 [] X.env hp)) (star1 [] X.env hp)) fun σ H R ⟨ε, s, Qd, Ed, F, w, cy, kq⟩ => ?_
      simp only [wIter, decide_true, chk_iff, chkN_iff, Bool.and_eq_true, decide_eq_true_eq, isG_iff, Bool.not_eq_true', and_assoc] at w
      refine ⟨ε, s, _, Ed, F, w.2.2.2, cy, fun v x s2 F2 H2 m j q r => ?_⟩
      dsimp only at q
      split at q
      · cases r
        obtain ⟨q1, q2, q3⟩ := q
        refine ⟨_, rfl, by omega, by omega, kq _ _ s2 F2 H2 m j q3 ?_⟩
        unfold rangeD
        rw [Int.sub_zero]
        exact wk_rng
      · exact q.elim
    · refine pi_false fun σ H R ⟨ε, s, Qd, Ed, F, w, cy, kq⟩ => ?_
      simp only [wIter, decide_true, chk_iff, chkN_iff, Bool.and_eq_true, decide_eq_true_eq, isG_iff, Bool.not_eq_true', and_assoc] at w
      exact hh ⟨w.1, w.2.1, w.2.2.1⟩
  · by_cases h2 : g = "enumerate"
    · subst h2
      by_cases hh : tupE tg = true ∧ plainE a = true ∧ Γ.free.contains ("enumerate" : Str) = true ∧ sc.names.lookup ("enumerate" : Str) = some .globalImplicit
      · obtain ⟨ht, hp, hf, hl⟩ := hh
        match tg, ht with
        | .Tuple es k tp, _ =>
          refine pi_imp (pi_enum (C.gl _ hl) (C.free _ hf) (pa_cons (ih a) pa_nil (star1 [] X.env hp)) (star1 [] X.env hp)) fun σ H R ⟨ε, s, Qd, Ed, F, w, cy, kq⟩ => ?_
          simp only [wIter, h1, decide_false, decide_true, chk_iff, chkN_iff, Bool.and_eq_true, decide_eq_true_eq, isG_iff, Bool.not_eq_true', and_assoc] at w
          refine ⟨ε, s, _, Ed, F, w.2.2.2.2, cy, fun v x s2 F2 H2 m j q r => ?_⟩
          dsimp only at q
          split at q
          · cases r with
            | @lst b xs _ ha ra => exact ⟨b, xs, rfl, .inl (.inl (m.fh _ _ ha)), kq _ _ s2 F2 H2 m j q (wk_enum ha ra)⟩
          · exact q.elim
      · refine pi_false fun σ H R ⟨ε, s, Qd, Ed, F, w, cy, kq⟩ => ?_
        simp only [wIter, h1, decide_false, decide_true, chk_iff, chkN_iff, Bool.and_eq_true, decide_eq_true_eq, isG_iff, Bool.not_eq_true', and_assoc] at w
        exact hh ⟨w.1, w.2.1, w.2.2.1, w.2.2.2.1⟩
    · refine pi_any ih fun ε s Qd Ed w => ?_
      simp only [wIter, h1, h2, decide_false] at w
      exact w
theorem pi_w2 {g : Str} {p pos : Pos} {a b : Expr} : PI X tg (.Call (.Name g p) [a, b] [] pos) (tWI X.K W Γ n sc tg (.Call (.Name g p) [a, b] [] pos)) := by
  by_cases h1 : g = "range"
  · subst h1
    by_cases hh : plainE a = true ∧ plainE b = true ∧ Γ.free.contains ("range" : Str) = true ∧ sc.names.lookup ("range" : Str) = some .globalImplicit
    · obtain ⟨hp, hp2, hf, hl⟩ := hh
      have sb := star1 [] X.env hp2
      have sa : starEach [a, b] X.env = [(false, eval a X.env), (false, eval b X.env)] := by
        rw [star1 [b] X.env hp, sb]
        rfl
      refine pi_imp (pi_range2 (C.gl _ hl) (C.free _ hf) (pa_cons (ih a) (pa_cons (ih b) pa_nil sb) (star1 [b] X.env hp)) sa sb) fun σ H R ⟨ε, s, Qd, Ed, F, w, cy, kq⟩ => ?_
      simp only [wIter, decide_true, chk_iff, chkN_iff, Bool.and_eq_true, decide_eq_true_eq, isG_iff, Bool.not_eq_true', and_assoc] at w
      refine ⟨ε, s, _, Ed, F, w.2.2.2.2, cy, fun v x s2 F2 H2 m j q r => ?_⟩
      refine ⟨ε, s2, _, Ed, F2, q, cy.next m j, fun u y s3 F3 H3 m3 j3 q3 r3 => ?_⟩
      dsimp only at q3
      split at q3
      · cases r
        cases r3
        obtain ⟨q1, q2, q3, q4, q5⟩ := q3
        exact ⟨_, _, rfl, ⟨by omega, by omega, by omega, by omega⟩, kq _ _ s3 F3 H3 (m.trans m3) j3 q5 wk_rng⟩
      · exact q3.elim
    · refine pi_false fun σ H R ⟨ε, s, Qd, Ed, F, w, cy, kq⟩ => ?_
      simp only [wIter, decide_true, chk_iff, chkN_iff, Bool.and_eq_true, decide_eq_true_eq, isG_iff, Bool.not_eq_true', and_assoc] at w
      exact hh ⟨w.1, w.2.1, w.2.2.1, w.2.2.2.1⟩
  · by_cases h2 : g = "zip"
    · subst h2
      by_cases hh : tupE tg = true ∧ plainE a = true ∧ plainE b = true ∧ Γ.free.contains ("zip" : Str) = true ∧ sc.names.lookup ("zip" : Str) = some .globalImplicit
      · obtain ⟨ht, hp, hp2, hf, hl⟩ := hh
        match tg, ht with
        | .Tuple es k tp, _ =>
          refine pi_imp (RZ.pi_zipA (C.gl _ hl) (C.free _ hf) (pa_cons (ih a) (pa_cons (ih b) pa_nil (star1 [] X.env hp2)) (star1 [b] X.env hp)) (star1 [b] X.env hp) (any0 X.env (by rw [List.all_cons, hp2]; rfl))) fun σ H R ⟨ε, s, Qd, Ed, F, w, cy, kq⟩ => ?_
          simp only [wIter, h1, decide_false, decide_true, chk_iff, chkN_iff, Bool.and_eq_true, decide_eq_true_eq, isG_iff, Bool.not_eq_true', and_assoc] at w
          refine ⟨ε, s, _, Ed, F, w.2.2.2.2.2, cy, fun v x s2 F2 H2 m j q r => ?_⟩
          refine ⟨ε, s2, _, Ed, F2, q, cy.next m j, fun u y s3 F3 H3 m3 j3 q3 r3 => ?_⟩
          dsimp only at q3
          split at q3
          · cases r with
            | @lst b1 xs _ ha ra => cases r3 with
              | @lst b2 ys _ hb rb => exact ⟨b1, b2, xs, ys, rfl, .inl ⟨.inl (.inl (m3.fh _ _ (m3.ff _ _ ha))), .inl (.inl (m3.fh _ _ hb)), kq _ _ s3 F3 H3 (m.trans m3) j3 q3 (wk_zip (m3.ff _ _ ha) hb (dpAll_ex m3.ff _ _ ra) rb)⟩⟩
          · cases r with
            | @tup b1 xs _ ha ra => cases r3 with
              | @tup b2 ys _ hb rb => exact ⟨b1, b2, xs, ys, rfl, .inr ⟨ex_t m3.fh (ex_t m3.ff ha), ex_t m3.fh hb, kq _ _ s3 F3 H3 (m.trans m3) j3 q3 (wk_zipT (ex_t m3.ff ha) hb (dpAll_ex m3.ff _ _ ra) rb)⟩⟩
          · exact q3.elim
      · refine pi_false fun σ H R ⟨ε, s, Qd, Ed, F, w, cy, kq⟩ => ?_
        simp only [wIter, h1, decide_false, decide_true, chk_iff, chkN_iff, Bool.and_eq_true, decide_eq_true_eq, isG_iff, Bool.not_eq_true', and_assoc] at w
        exact hh ⟨w.1, w.2.1, w.2.2.1, w.2.2.2.1, w.2.2.2.2.1⟩
    · refine pi_any ih fun ε s Qd Ed w => ?_
      simp only [wIter, h1, h2, decide_false] at w
      exact w
theorem pi_w (e : Expr) : PI X tg e (tWI X.K W Γ n sc tg e) := by
  have gen : ∀ e : Expr, (∀ (Γ2 : List Str) (f : Expr → S → QS S → Prop) s Q, wIter Γ2 sc tg f e s Q = wSeq f e s Q) → PI X tg e (tWI X.K W Γ n sc tg e) := fun e h => pi_any ih fun ε s Qd Ed w => by
    rw [h] at w
    exact w
  cases e with
  | Call f args kws pos =>
    cases f with
    | Name g p =>
      match kws, args with
      | [], [a] => exact pi_w1 C ih
      | [], [a, b] => exact pi_w2 C ih
      | [], [] => exact gen _ fun _ _ _ _ => rfl
      | [], _ :: _ :: _ :: _ => exact gen _ fun _ _ _ _ => rfl
      | _ :: _, [] => exact gen _ fun _ _ _ _ => rfl
      | _ :: _, [_] => exact gen _ fun _ _ _ _ => rfl
      | _ :: _, [_, _] => exact gen _ fun _ _ _ _ => rfl
      | _ :: _, _ :: _ :: _ :: _ => exact gen _ fun _ _ _ _ => rfl
    | _ => exact gen _ fun _ _ _ _ => rfl
  | _ => exact gen _ fun _ _ _ _ => rfl
end
end Z
set_option Elab.async false
set_option linter.all false
set_option maxRecDepth 100000
set_option maxHeartbeats 4000000
namespace Z
open PySem PySem.Spec PyProof.Rows L2 Evl
/-! ### targets -/
def gSlots : List Nat → TGs
  | [] => gNil
  | i :: is => gCons (gName i) (gSlots is)
def gS (K : PySem.W.Frag) : Bool × List Nat → TG
  | (true, is) => gTup K is.length (gSlots is)
  | (false, [i]) => gName i
  | (false, _) => fun _ _ _ _ => False
theorem slotsN_cons {N : List Str} {sc : Scope} {e : Expr} {es : List Expr} {is : List Nat} (h : slotsN N sc (e :: es) = some is) : ∃ x p i js, e = .Name x p ∧ is = i :: js ∧ (sc.names.lookup x = some .local ∨ sc.names.lookup x = some .cell) ∧ ixOf N x = some i ∧ slotsN N sc es = some js := by
  cases e with
  | Name x p =>
    simp only [slotsN] at h
    cases q : sc.names.lookup x with
    | none =>
      simp only [q] at h
      cases h
    | some k =>
      cases k with
      | «local» =>
        simp only [q] at h
        cases q2 : ixOf N x with
        | none =>
          simp only [q2] at h
          cases h
        | some i =>
          cases q3 : slotsN N sc es with
          | none =>
            simp only [q2, q3] at h
            cases h
          | some js =>
            simp only [q2, q3, Option.some.injEq] at h
            exact ⟨x, p, i, js, rfl, h.symm, .inl q, q2, rfl⟩
      | cell =>
        simp only [q] at h
        cases q2 : ixOf N x with
        | none =>
          simp only [q2] at h
          cases h
        | some i =>
          cases q3 : slotsN N sc es with
          | none =>
            simp only [q2, q3] at h
            cases h
          | some js =>
            simp only [q2, q3, Option.some.injEq] at h
            exact ⟨x, p, i, js, rfl, h.symm, .inr q, q2, rfl⟩
      | _ =>
        simp only [q] at h
        cases h
  | _ => cases h
section
variable {S : Type} {X : Cx} {W : Wd S} {Γ : Gam S} {sc : Scope} (C : CxOk X W Γ sc)
include C
theorem pg_nm {x : Str} {p : Pos} {i : Nat} (h : sc.names.lookup x = some .local ∨ sc.names.lookup x = some .cell) (e : ixOf Γ.N x = some i) : PG X (.Name x p) (gName i) := by
  have hN : X.N[i]? = some x := by
    rw [C.n]
    exact ixOf_get e
  have nd : X.N.Nodup := by
    rw [C.n]
    exact C.nd
  rcases h with h | h
  · exact pg_name nd hN (.inl (C.lo x h)) (.inr (C.lo x h))
  · exact pg_name nd hN (.inr (C.ce x h)) (.inl (C.fnx x h))
theorem pgs_w : ∀ {es : List Expr} {is : List Nat}, slotsN Γ.N sc es = some is → PGs X es (gSlots is) ∧ (assignEach es X.env).length = is.length ∧ (assignEach es X.env).findIdx? (·.1) = none
  | [], is, h => by
    cases h
    exact ⟨pgs_nil, rfl, rfl⟩
  | e :: es, is, h => by
    obtain ⟨x, p, i, js, rfl, rfl, hk, hi, hr⟩ := slotsN_cons h
    obtain ⟨h1, h2, h3⟩ := pgs_w hr
    refine ⟨pgs_cons (pg_nm C hk hi) h1, congrArg Nat.succ h2, ?_⟩
    show List.findIdx? (·.1) ((false, assign (.Name x p) X.env) :: assignEach es X.env) = none
    rw [List.findIdx?_cons, h3]
    rfl
theorem pg_w {tg : Expr} {sl : Bool × List Nat} (h : slotsT Γ.N sc tg = some sl) : PG X tg (gS X.K sl) := by
  cases tg with
  | Name x p =>
    simp only [slotsT] at h
    cases q : slotsN Γ.N sc [.Name x p] with
    | none =>
      rw [q] at h
      cases h
    | some is =>
      rw [q] at h
      cases h
      obtain ⟨x', p', i, js, e, rfl, hk, hi, hr⟩ := slotsN_cons q
      cases e
      cases hr
      exact pg_nm C hk hi
  | Tuple es k p =>
    simp only [slotsT] at h
    cases q : slotsN Γ.N sc es with
    | none =>
      rw [q] at h
      cases h
    | some is =>
      rw [q] at h
      cases h
      obtain ⟨h1, h2, h3⟩ := pgs_w C q
      exact pg_tup C.calm h1 h2 h3
  | _ => cases h
end
section
variable {S : Type} {K : PySem.W.Frag} {W : Wd S} {F H : Hp}
theorem gSlots_put : ∀ {is : List Nat} {vs : List V} {ds : List PyData} {σ : L2.St} {ε : En} {Q : L2.St → Hp → Prop}, ds.length = is.length → RpAll K F vs ds → Ers K W F H σ ε →
    (∀ σ2, Ers K W F H σ2 (setAll ε is ds) → σ2.length = σ.length → (∀ k, k ∉ is → σ2[k]? = σ[k]?) → Q σ2 H) → gSlots is vs σ H Q
  | [], vs, ds, σ, ε, Q, hl, r, er, k => by
    cases ds with
    | nil =>
      cases r
      exact ⟨rfl, k σ er rfl fun _ _ => rfl⟩
    | cons _ _ => cases hl
  | i :: is, vs, ds, σ, ε, Q, hl, r, er, k => by
    cases ds with
    | nil => cases hl
    | cons d ds =>
      cases r with
      | @cons v vs2 _ _ r1 r2 =>
        refine ⟨v, vs2, rfl, ?_⟩
        have er2 : Ers K W F H (σ.set i (some v)) (ε.set i (some (.d d))) := er.put (s := .d d) r1 i
        refine gSlots_put (Nat.succ.inj hl) r2 er2 fun σ2 e2 l2 h2 => k σ2 e2 (by rw [l2, List.length_set]) fun j hj => ?_
        rw [h2 j (fun z => hj (List.mem_cons_of_mem _ z)), List.getElem?_set_ne (fun z => hj (by rw [z]; exact List.mem_cons_self))]
theorem gS_put {sl : Bool × List Nat} {v : V} {d : PyData} {σ : L2.St} {ε ε2 : En} {Q : L2.St → Hp → Prop} (ex : Ex F H) (hb : bindS sl d ε = some ε2) (r : Rp K F v d) (er : Ers K W F H σ ε) (hs : sl.1 = false → ∃ i, sl.2 = [i])
    (k : ∀ σ2, Ers K W F H σ2 ε2 → σ2.length = σ.length → (∀ k, k ∉ sl.2 → σ2[k]? = σ[k]?) → Q σ2 H) : gS K sl v σ H Q := by
  obtain ⟨b, is⟩ := sl
  cases b with
  | true =>
    simp only [bindS] at hb
    cases d with
    | tuple ds =>
      simp only at hb
      by_cases hl : ds.length = is.length
      · rw [if_pos hl] at hb
        cases hb
        cases r with
        | @tup a xs _ ha ra => exact ⟨a, xs, rfl, ex_t ex ha, (rpAll_len ra).trans hl, gSlots_put hl ra er k⟩
      · rw [if_neg hl] at hb
        cases hb
    | _ => cases hb
  | false =>
    obtain ⟨i, e⟩ := hs rfl
    have e' : is = [i] := e
    subst e'
    simp only [bindS, setAll] at hb
    cases hb
    exact k _ (er.put (s := .d d) r i) (by rw [List.length_set]) fun j hj => List.getElem?_set_ne (fun z => hj (by rw [z]; exact List.mem_cons_self))
end
theorem slotsT_one {N : List Str} {sc : Scope} {tg : Expr} {sl : Bool × List Nat} (h : slotsT N sc tg = some sl) (e : sl.1 = false) : ∃ i, sl.2 = [i] := by
  cases tg with
  | Name x p =>
    simp only [slotsT, slotsN] at h
    cases q : sc.names.lookup x with
    | none =>
      simp only [q] at h
      cases h
    | some k =>
      cases k <;> simp only [q] at h <;> first | (cases h; done) | (cases q2 : ixOf N x <;> simp only [q2] at h <;> first | (cases h; done) | (cases h; exact ⟨_, rfl⟩))
  | Tuple es k p =>
    simp only [slotsT] at h
    cases q : slotsN N sc es <;> rw [q] at h <;> cases h
    cases e
  | _ => cases h
/-! ### a block's own names -/
theorem own_in {N : List Str} {x : Str} {i : Nat} (hi : ixOf N x = some i) : ∀ {names : List (Str × NameKind)}, ((x, .local) ∈ names ∨ (x, .cell) ∈ names) → i ∈ (ownOf N names).map (·.2)
  | [], h => by rcases h with h | h <;> cases h
  | (y, k) :: r, h => by
    have tl : ((x, .local) ∈ r ∨ (x, .cell) ∈ r) → i ∈ (ownOf N r).map (·.2) := own_in hi
    have up : i ∈ (ownOf N r).map (·.2) → i ∈ (ownOf N ((y, k) :: r)).map (·.2) := fun m => by
      cases k <;> simp only [ownOf] <;> first | exact m | (cases ixOf N y <;> simp only <;> first | exact m | exact List.mem_cons_of_mem _ m)
    rcases h with h | h
    · rcases List.mem_cons.mp h with e | h
      · cases e
        simp only [ownOf, hi, List.map_cons]
        exact List.mem_cons_self
      · exact up (tl (.inl h))
    · rcases List.mem_cons.mp h with e | h
      · cases e
        simp only [ownOf, hi, List.map_cons]
        exact List.mem_cons_self
      · exact up (tl (.inr h))
theorem slotsN_own {N : List Str} {sc : Scope} : ∀ {es : List Expr} {is : List Nat}, slotsN N sc es = some is → ∀ i ∈ is, i ∈ (ownOf N sc.names).map (·.2)
  | [], is, h => by
    cases h
    exact fun i z => by cases z
  | e :: es, is, h => by
    obtain ⟨x, p, i, js, rfl, rfl, hk, hi, hr⟩ := slotsN_cons h
    intro j hj
    rcases List.mem_cons.mp hj with e | hj
    · subst e
      rcases hk with hk | hk
      · exact own_in hi (.inl (look_mem hk))
      · exact own_in hi (.inr (look_mem hk))
    · exact slotsN_own hr j hj
theorem slotsT_own {N : List Str} {sc : Scope} {tg : Expr} {sl : Bool × List Nat} (h : slotsT N sc tg = some sl) : ∀ i ∈ sl.2, i ∈ (ownOf N sc.names).map (·.2) := by
  cases tg with
  | Name x p =>
    simp only [slotsT] at h
    cases q : slotsN N sc [.Name x p] <;> rw [q] at h <;> cases h
    exact slotsN_own q
  | Tuple es k p =>
    simp only [slotsT] at h
    cases q : slotsN N sc es <;> rw [q] at h <;> cases h
    exact slotsN_own q
  | _ => cases h
theorem wipe_at {σ : L2.St} : ∀ {vs : List Nat} {i : Nat}, (L2.wipe σ vs)[i]? = if i ∈ vs then (σ[i]?).map (fun _ => none) else σ[i]?
  | [], i => by simp [L2.wipe]
  | v :: vs, i => by
    unfold L2.wipe
    by_cases e : v = i
    · subst e
      rw [List.getElem?_set_self', if_pos List.mem_cons_self, wipe_at]
      split <;> cases σ[v]? <;> rfl
    · rw [List.getElem?_set_ne e, wipe_at]
      by_cases h : i ∈ vs
      · rw [if_pos h, if_pos (List.mem_cons_of_mem _ h)]
      · rw [if_neg h, if_neg (by rw [List.mem_cons]; exact fun z => z.elim (fun q => e q.symm) h)]
theorem wipe_eq {σ σ2 : L2.St} {vs : List Nat} (hl : σ2.length = σ.length) (h : ∀ k, k ∉ vs → σ2[k]? = σ[k]?) : L2.wipe σ2 vs = L2.wipe σ vs := by
  apply List.ext_getElem?
  intro i
  rw [wipe_at, wipe_at]
  by_cases hi : i ∈ vs
  · rw [if_pos hi, if_pos hi]
    by_cases hz : i < σ.length
    · rw [List.getElem?_eq_getElem hz, List.getElem?_eq_getElem (by omega)]
      rfl
    · rw [List.getElem?_eq_none (by omega), List.getElem?_eq_none (by omega)]
  · rw [if_neg hi, if_neg hi, h i hi]
theorem wipe_wipe {σ : L2.St} {vs : List Nat} : L2.wipe (L2.wipe σ vs) vs = L2.wipe σ vs := by
  apply List.ext_getElem?
  intro i
  rw [wipe_at, wipe_at]
  split
  · cases σ[i]? <;> rfl
  · rfl
/-! ### the block's context -/
def rl (env : Env) (p : Str × NameKind) : Str × NameKind := if (p.2 == NameKind.free && env.scope.kind == .function && env.kindOf p.1 == some .cell) then (p.1, NameKind.cell) else (p.1, p.2)
theorem rl_fst (env : Env) (p : Str × NameKind) : (rl env p).1 = p.1 := by
  unfold rl
  split <;> rfl
theorem rl_cons {env : Env} {x y : Str} {k : NameKind} {r : List (Str × NameKind)} : (((y, k) :: r).map (rl env)).lookup x = if x == y then some (rl env (y, k)).2 else (r.map (rl env)).lookup x := by
  rw [List.map_cons]
  show (match x == (rl env (y, k)).1 with
    | true => some (rl env (y, k)).2
    | false => (r.map (rl env)).lookup x) = _
  rw [rl_fst]
  cases x == y <;> rfl
theorem rel_other0 {env : Env} {x : Str} {k : NameKind} (hk : k ≠ .free) : ∀ {names : List (Str × NameKind)}, names.lookup x = some k → (names.map (rl env)).lookup x = some k
  | [], h => by cases h
  | (y, j) :: r, h => by
    rw [List.lookup_cons] at h
    rw [rl_cons]
    cases e : x == y with
    | true =>
      rw [e] at h
      cases h
      rw [if_pos rfl]
      have n1 : (k == NameKind.free) = false := by
        cases k <;> first | rfl | exact absurd rfl hk
      unfold rl
      simp only [n1, Bool.false_and, Bool.false_eq_true, if_false]
    | false =>
      rw [e] at h
      rw [if_neg Bool.false_ne_true]
      exact rel_other0 hk h
theorem rel_free0 {env : Env} {x : Str} : ∀ {names : List (Str × NameKind)}, names.lookup x = some .free → (names.map (rl env)).lookup x = some .cell ∨ (names.map (rl env)).lookup x = some .free
  | [], h => by cases h
  | (y, j) :: r, h => by
    rw [List.lookup_cons] at h
    rw [rl_cons]
    cases e : x == y with
    | true =>
      rw [e] at h
      cases h
      rw [if_pos rfl]
      unfold rl
      split
      · exact .inl rfl
      · exact .inr rfl
    | false =>
      rw [e] at h
      rw [if_neg Bool.false_ne_true]
      exact rel_free0 h
theorem rel_other {env : Env} {x : Str} {k : NameKind} (hk : k ≠ .free) {names : List (Str × NameKind)} (h : names.lookup x = some k) :
    (names.map fun (n, k) => if (k == NameKind.free && env.scope.kind == .function && env.kindOf n == some .cell) then (n, NameKind.cell) else (n, k)).lookup x = some k := rel_other0 (env := env) hk h
theorem rel_free {env : Env} {x : Str} {names : List (Str × NameKind)} (h : names.lookup x = some .free) :
    (names.map fun (n, k) => if (k == NameKind.free && env.scope.kind == .function && env.kindOf n == some .cell) then (n, NameKind.cell) else (n, k)).lookup x = some .cell ∨
    (names.map fun (n, k) => if (k == NameKind.free && env.scope.kind == .function && env.kindOf n == some .cell) then (n, NameKind.cell) else (n, k)).lookup x = some .free := rel_free0 (env := env) h
def Wd.quiet {S : Type} (W : Wd S) : Wd S := { W with xe := E0 }
theorem er_quiet {S : Type} {K : PySem.W.Frag} {W : Wd S} {F H : Hp} {σ : L2.St} {ε : En} {ps : List Addr} (h : Er K W F H σ ε ps) : Er K W.quiet F H σ ε ps := by
  induction h with
  | nil => exact Er.nil (W := W.quiet)
  | no _ ih => exact .no ih
  | d hd _ ih => exact .d hd ih
  | v _ ih => exact .v ih
  | own h0 hf hp hd hn _ ih => exact .own h0 hf hp hd hn ih
theorem ers_quiet {S : Type} {K : PySem.W.Frag} {W : Wd S} {F H : Hp} {σ : L2.St} {ε : En} (h : Ers K W F H σ ε) : Ers K W.quiet F H σ ε := let ⟨ps, r⟩ := h; ⟨ps, er_quiet r⟩
section
variable {S : Type} {X : Cx} {W : Wd S} {Γ : Gam S} {sc sc2 : Scope}
theorem CxOk.blk (C : CxOk X W Γ sc) (ok2 : okSc sc2 = true) (k2 : sc2.kind = .function) (s : Shared) (H : Hp) (c : Addr) (cl : List (Str × Addr)) (fp : List Addr) : CxOk (X.blk s H sc2 (compEnvC sc2 cl c X.env) fp) W.quiet Γ sc2 where
  calm := C.calm
  n := C.n
  nd := C.nd
  gl := fun x h => rel_other (fun z => by cases z) h
  lo := fun x h => rel_other (fun z => by cases z) h
  ce := fun x h => rel_other (fun z => by cases z) h
  fr := fun x h => rel_free h
  fnx := fun x h => by
    show (sc2.names.lookup x == some .cell) = true
    rw [h]
    rfl
  dbg := ok2
  free := C.free
  glob := C.glob
  fns := fun f spec h => by
    obtain ⟨CX, k, a, G, hr, hm, hk, hx, p0⟩ := C.fns f spec h
    exact ⟨CX, k, a, G, hr, hm, hk, p0 _ rfl rfl rfl, fun X' h1 h2 h3 => p0 X' h1 h2 h3⟩
  kind := k2
  po := PassesOwn.never
  room := C.room
  gs := C.gs
  kfs := fun f n ks spec h => by
    obtain ⟨CX, k, a, G, hr, hm, hk, hx, p0⟩ := C.kfs f n ks spec h
    exact ⟨CX, k, a, G, hr, hm, hk, p0 _ rfl rfl rfl, fun X' h1 h2 h3 => p0 X' h1 h2 h3⟩
end
end Z
set_option Elab.async false
set_option linter.all false
set_option maxRecDepth 100000
set_option maxHeartbeats 4000000
namespace Z
open PySem PySem.Spec PyProof.Rows L2 Evl
theorem Fm.mut {rs : List Addr} {F H F2 H2 : Hp} {p : Addr} {o : HO} (m : Fm rs F H F2 H2) (h : H p = none) (f : F2 p = none) : Fm rs F H F2 (upd H2 p o) := by
  refine ⟨m.ff, fun a u e => ?_, fun a u n e => ?_, m.nn, m.nf⟩
  · rw [upd_ne (ne_of_none e f)]
    exact m.fh a u e
  · rw [upd_ne (ne_of_none e h)]
    exact m.hh a u n e
section
variable {S : Type}
theorem Wd.rs_ne {W : Wd S} {s : S} {F H : Hp} (j : W.J s F H) {p : Addr} (h : H p = none) : p ∉ W.rs := fun z => (W.ne s F H j p z).1 h
theorem Wd.put {W : Wd S} {s : S} {F H : Hp} (j : W.J s F H) {p : Addr} (h : p ∉ W.rs) (hl : ∀ u, H p = some u → ∃ xs, u = .lst xs) (o : HO) : W.J s F (upd H p o) :=
  W.st s F H F _ j (fun a u e z => by
    have n : a ≠ p := fun y => by
      subst y
      rcases z with z | z
      · exact h z
      · obtain ⟨xs, rfl⟩ := hl u e
        exact z xs rfl
    rw [upd_ne n]
    exact e) (fun a ha => (W.ne s F H j a ha).2) fun _ _ e => .inl e
variable {X : Cx} {W : Wd S} {Γ : Gam S} {sc sc2 : Scope} {n : Nat}
/-- the word of one turn -/
abbrev lcT (Γ : Gam S) (n : Nat) (sc2 : Scope) (sl : Bool × List Nat) (own : List Nat) (ε : En) (ifs : List Expr) (elt : Expr) : PyData → S → (Option PyData → S → Prop) → Prop :=
  lcTurn (fun x => bindS sl x (wipeE ε own)) (fun ε2 s Q => wE Γ n false sc2 ε2 s elt Q (fun _ _ => False)) (match ifs with
    | c :: _ => some fun ε2 s Q => wE Γ n true sc2 ε2 s c Q (fun _ _ => False)
    | [] => none)
section
variable {bnd : PyData → Option En} {el : En → S → QS S → Prop} {ts : En → S → QS S → Prop} {to : Option (En → S → QS S → Prop)} {x : PyData} {s2 : S} {k : Option PyData → S → Prop} {ε2 : En}
theorem lcTurn_no (h : bnd x = none) : ¬ lcTurn bnd el to x s2 k := fun w => by
  unfold lcTurn at w
  rw [h] at w
  exact w
theorem lcTurn_nil (h : bnd x = some ε2) (w : lcTurn bnd el none x s2 k) : el ε2 s2 (fun y s3 => match y with
      | .d y => k (some y) s3
      | _ => False) := by
  unfold lcTurn at w
  rw [h] at w
  exact w
theorem lcTurn_one (h : bnd x = some ε2) (w : lcTurn bnd el (some ts) x s2 k) : ts ε2 s2 (fun b s3 => match b with
      | .d (.bool true) => el ε2 s3 (fun y s4 => match y with
        | .d y => k (some y) s4
        | _ => False)
      | .d (.bool false) => k none s3
      | _ => False) := by
  unfold lcTurn at w
  rw [h] at w
  exact w
end
/-- a comprehension's end: its list is nobody else's -/
def tLcW (K : PySem.W.Frag) (W : Wd S) (Γ : Gam S) (n : Nat) (sc : Scope) (e : Expr) : TE := fun σ H R => ∃ ε s Qd Ed F, wE Γ n false sc ε s e Qd Ed ∧ Cy K W F H σ ε s Ed ∧
  ∀ (D : Addr) (acc : List V) (ys : List PyData) (s3 : S) (F2 H2 F3 H3 : Hp), Fm W.rs F H F2 H2 → H2 D = none → Fm W.rs F2 H2 F3 H3 → W.J s3 F3 H3 → D ∉ W.rs → F3 D = none → H3 D = some (.lst acc) → RpAll K F3 acc ys → Qd (.d (.list ys)) s3 → R (.ref D) H3
theorem lcw_of {K : PySem.W.Frag} {e : Expr} {σ : L2.St} {H : Hp} {R : VK} (h : tWE K W Γ n sc e σ H R) : tLcW K W Γ n sc e σ H R := by
  obtain ⟨ε, s, Qd, Ed, F, w, cy, kq⟩ := h
  refine ⟨ε, s, Qd, Ed, F, w, cy, fun D acc ys s3 F2 H2 F3 H3 m hD m3 j3 hr fd hd ra w4 => ?_⟩
  have hnf : ∀ a o, upd F3 D (.lst acc) a = some o → F2 a = some o ∨ Nt o := fun a o z => by
    by_cases ha : a = D
    · subst ha
      rw [upd_same] at z
      cases z
      exact .inr fun _ y => by cases y
    · rw [upd_ne ha] at z
      exact m3.nf a o z
  have fz : Fm W.rs F2 H2 (upd F3 D (.lst acc)) H3 := by
    refine ⟨m3.ff.trans (Ex.new fd), fun a o z => ?_, m3.hh, fun a o c na fa => ?_, hnf⟩
    · by_cases ha : a = D
      · subst ha
        rw [upd_same] at z
        cases z
        exact hd
      · rw [upd_ne ha] at z
        exact m3.fh a o z
    · rw [upd_ne (ne_of_none na hD)]
      exact m3.nn a o c na fa
  have jz : W.J s3 (upd F3 D (.lst acc)) H3 := W.st s3 F3 H3 _ H3 j3 (fun _ _ e _ => e) (fun a ha => by
    rw [upd_ne (show a ≠ D from fun z => hr (by rw [← z]; exact ha))]
    exact (W.ne s3 F3 H3 j3 a ha).2) fun a o z => by
    by_cases ha : a = D
    · subst ha
      rw [upd_same] at z
      cases z
      exact .inr fun _ y => by cases y
    · rw [upd_ne ha] at z
      exact .inl z
  exact kq _ _ s3 _ H3 (m.trans fz) jz w4 (.lst upd_same (dpAll_ex (Ex.new fd) _ _ ra))
/-- a comprehension's state ahead of turn i -/
structure LcAt (K : PySem.W.Frag) (W : Wd S) (F2 H2 : Hp) (D : Addr) (f : PyData → S → (Option PyData → S → Prop) → Prop) (xs : List PyData) (Q : List PyData → S → Prop) (i : Nat) (H : Hp) : Prop where
  le : i ≤ xs.length
  big : xs.length ≤ 1000000
  ex : ∃ (acc : List V) (ys : List PyData) (s3 : S) (F3 : Hp), Fm W.rs F2 H2 F3 H ∧ W.J s3 F3 H ∧ F3 D = none ∧ H D = some (.lst acc) ∧ RpAll K F3 acc ys ∧ ys.length ≤ i ∧ wMap f (xs.drop i) s3 fun zs s4 => Q (ys ++ zs) s4
theorem lc_next {K : PySem.W.Frag} {F2 H2 F3 H3 : Hp} {D : Addr} {f : PyData → S → (Option PyData → S → Prop) → Prop} {xs : List PyData} {Q : List PyData → S → Prop} {i : Nat} {acc : List V} {ys : List PyData} {s3 : S} {v : V} {y : PyData}
    (hD : H2 D = none) (hr : D ∉ W.rs) (m : Fm W.rs F2 H2 F3 H3) (j : W.J s3 F3 H3) (fd : F3 D = none) (hd : H3 D = some (.lst acc)) (r : RpAll K F3 acc ys) (rv : Rp K F3 v y) (hi : i < xs.length) (hb : xs.length ≤ 1000000) (hy : ys.length ≤ i)
    (w : wMap f (xs.drop (i + 1)) s3 fun zs s4 => Q (ys ++ y :: zs) s4) : LcAt K W F2 H2 D f xs Q (i + 1) (upd H3 D (.lst (acc ++ [v]))) :=
  ⟨hi, hb, acc ++ [v], ys ++ [y], s3, F3, m.mut hD fd, Wd.put j hr (fun u e => ⟨acc, by rw [hd] at e; exact (Option.some.inj e).symm⟩) _, fd, upd_same, rpAll_append r (.cons rv .nil), by rw [List.length_append]; simp; omega, by
    have e : (fun zs s4 => Q (ys ++ [y] ++ zs) s4) = fun zs s4 => Q (ys ++ y :: zs) s4 := by
      funext zs s4
      rw [List.append_assoc]
      rfl
    rw [e]
    exact w⟩
variable (C : CxOk X W Γ sc) (ihX : ∀ (X' : Cx) (W' : Wd S) (sc' : Scope), CxOk X' W' Γ sc' → ∀ e, PE X' e (tWE X'.K W' Γ n sc' e) ∧ PT X' e (tWT X'.K W' Γ n sc' e))
include C ihX
theorem lc_all {elt tg iter : Expr} {ifs : List Expr} {pos : Pos} : (∀ σ H R, ¬ tLcW X.K W Γ (n + 1) sc (.ListComp elt [⟨tg, iter, ifs, 0⟩] sc2 pos) σ H R) ∨ ∃ (wi : TI) (g : TG) (tt : TT) (te : TE) (own : List (Str × Nat)),
    PI X tg iter wi ∧ BlkOk X.N X.env.scope sc2 own ∧ (∀ (s : Shared) (H : Hp) (c : Addr) (cl : List (Str × Addr)) (fp : List Addr), PG (X.blk s H sc2 (compEnvC sc2 cl c X.env) fp) tg g) ∧
    (∀ (s : Shared) (H : Hp) (c : Addr) (cl : List (Str × Addr)) (fp : List Addr), PTs (X.blk s H sc2 (compEnvC sc2 cl c X.env) fp) ifs tt) ∧ (∀ (s : Shared) (H : Hp) (c : Addr) (cl : List (Str × Addr)) (fp : List Addr), PE (X.blk s H sc2 (compEnvC sc2 cl c X.env) fp) elt te) ∧
    (∀ x, foldedSetIterable iter X.env x = pure x) ∧ ∀ σ H R, tLcW X.K W Γ (n + 1) sc (.ListComp elt [⟨tg, iter, ifs, 0⟩] sc2 pos) σ H R → tLc wi g tt te (own.map (·.2)) σ H R := by
  by_cases hh : okSc sc2 = true ∧ setE iter = false ∧ ifs.length ≤ 1 ∧ blkC Γ.N sc sc2 (ownOf Γ.N sc2.names) = true
  case neg =>
    refine .inl fun σ H R ⟨ε, s, Qd, Ed, F, w, cy, kq⟩ => ?_
    simp only [wE, chk_iff, chkN_iff, Bool.and_eq_true, decide_eq_true_eq, isG_iff, Bool.not_eq_true', and_assoc] at w
    exact hh ⟨w.1, w.2.1, w.2.2.1, w.2.2.2.1⟩
  obtain ⟨ok2, hset, hifs, hblk⟩ := hh
  cases hsl : slotsT Γ.N sc2 tg with
  | none =>
    refine .inl fun σ H R ⟨ε, s, Qd, Ed, F, w, cy, kq⟩ => ?_
    simp only [wE, chk_iff, chkN_iff, Bool.and_eq_true, decide_eq_true_eq, isG_iff, Bool.not_eq_true', and_assoc, hsl] at w
    exact w.2.2.2.2
  | some sl =>
    have nd : X.N.Nodup := by
      rw [C.n]
      exact C.nd
    have bok : BlkOk X.N X.env.scope sc2 (ownOf Γ.N sc2.names) := by
      have b := blkOk_by hblk
      rw [C.n]
      refine ⟨b.kind, b.uniq, b.ix, fun y hy e => ?_, b.own⟩
      rcases b.free y hy e with z | z
      · exact .inl (C.ce _ z)
      · exact C.fr _ z
    have CB := fun (s : Shared) (H : Hp) (c : Addr) (cl : List (Str × Addr)) (fp : List Addr) => C.blk ok2 bok.kind s H c cl fp
    have hown := slotsT_own hsl
    -- one turn
    have turn : ∀ (σ : L2.St) (ε : En) (s3 : S) (F2 H2 F3 H3 F4 H4 : Hp) (D : Addr) (acc : List V) (ys xs : List PyData) (Q : List PyData → S → Prop) (i : Nat) (x : PyData) (v : V) (tt : TT),
        (ifs = [] ∧ tt = tYes ∨ ∃ c, ifs = [c] ∧ tt = tWT X.K W.quiet Γ n sc2 c) → H2 D = none → D ∉ W.rs → xs.length ≤ 1000000 → xs[i]? = some x → ys.length ≤ i → Fm W.rs F2 H2 F3 H3 → W.J s3 F3 H3 → F3 D = none → H3 D = some (.lst acc) → RpAll X.K F3 acc ys → Fm [] F3 H3 F4 H4 → Rp X.K F4 v x → Ers X.K W F4 H4 σ ε →
        lcT Γ n sc2 sl ((ownOf Γ.N sc2.names).map (·.2)) ε ifs elt x s3 (fun y s1 => wMap (lcT Γ n sc2 sl ((ownOf Γ.N sc2.names).map (·.2)) ε ifs elt) (xs.drop (i + 1)) s1 fun zs s4 => Q (ys ++ (match y with
          | some y => y :: zs
          | none => zs)) s4) →
        gS X.K sl v (L2.wipe σ ((ownOf Γ.N sc2.names).map (·.2))) H4 fun σ2 H5 => L2.wipe σ2 ((ownOf Γ.N sc2.names).map (·.2)) = L2.wipe σ ((ownOf Γ.N sc2.names).map (·.2)) ∧ tt σ2 H5 fun b H6 =>
          if b = true then tWE X.K W.quiet Γ n sc2 elt σ2 H6 fun y H7 => ∃ acc, H7 D = some (.lst acc) ∧ acc.length < sizeLine ∧ LcAt X.K W F2 H2 D (lcT Γ n sc2 sl ((ownOf Γ.N sc2.names).map (·.2)) ε ifs elt) xs Q (i + 1) (upd H7 D (.lst (acc ++ [y])))
          else LcAt X.K W F2 H2 D (lcT Γ n sc2 sl ((ownOf Γ.N sc2.names).map (·.2)) ε ifs elt) xs Q (i + 1) H6 := by
      intro σ ε s3 F2 H2 F3 H3 F4 H4 D acc ys xs Q i x v tt htt hD hr hb hx hy m3 j3 fd hd ra m4 rv er w
      cases hbd : bindS sl x (wipeE ε ((ownOf Γ.N sc2.names).map (·.2))) with
      | none => exact (lcTurn_no (bnd := fun x => bindS sl x (wipeE ε ((ownOf Γ.N sc2.names).map (·.2)))) hbd w).elim
      | some ε2 =>
        have hi : i < xs.length := (List.getElem?_eq_some_iff.mp hx).1
        have m34 : Fm W.rs F2 H2 F4 H4 := m3.trans m4.more
        have j4 : W.J s3 F4 H4 := Wd.pure j3 m4
        have fd4 : F4 D = none := m4.nn D _ (.inl rfl) hd fd
        have hd4 : H4 D = some (.lst acc) := m4.ex D _ hd
        have ra4 : RpAll X.K F4 acc ys := dpAll_ex m4.ff _ _ ra
        refine gS_put m4.fh hbd rv (er.wipe _) (slotsT_one hsl) fun σ2 e2 l2 h2 => ?_
        have hw : L2.wipe σ2 ((ownOf Γ.N sc2.names).map (·.2)) = L2.wipe σ ((ownOf Γ.N sc2.names).map (·.2)) :=
          (wipe_eq l2 fun k hk => h2 k fun z => hk (hown k z)).trans wipe_wipe
        refine ⟨hw, ?_⟩
        have elem : ∀ (s5 : S) (F5 H5 : Hp), Fm W.rs F4 H4 F5 H5 → W.J s5 F5 H5 →
            wE Γ n false sc2 ε2 s5 elt (fun y s3 => match y with
              | .d y => wMap (lcT Γ n sc2 sl ((ownOf Γ.N sc2.names).map (·.2)) ε ifs elt) (xs.drop (i + 1)) s3 fun zs s4 => Q (ys ++ y :: zs) s4
              | _ => False) (fun _ _ => False) →
            tWE X.K W.quiet Γ n sc2 elt σ2 H5 fun y H7 => ∃ acc, H7 D = some (.lst acc) ∧ acc.length < sizeLine ∧ LcAt X.K W F2 H2 D (lcT Γ n sc2 sl ((ownOf Γ.N sc2.names).map (·.2)) ε ifs elt) xs Q (i + 1) (upd H7 D (.lst (acc ++ [y]))) := by
          intro s5 F5 H5 m5 j5 w5
          refine ⟨ε2, s5, _, _, F5, w5, ⟨m5.fh, ers_quiet (e2.fm m5), j5, fun _ _ _ _ _ _ _ _ _ z => z.elim⟩, fun y sl7 s7 F7 H7 m7 j7 q7 r7 => ?_⟩
          cases sl7 with
          | d yd =>
            have m57 : Fm W.rs F4 H4 F7 H7 := m5.trans m7
            have hd7 : H7 D = some (.lst acc) := m57.hh D _ (.inr ⟨hr, fun _ z => by cases z⟩) hd4
            have fd7 : F7 D = none := m57.nn D _ (.inr ⟨hr, fun _ z => by cases z⟩) hd4 fd4
            have ra7 : RpAll X.K F7 acc ys := dpAll_ex m57.ff _ _ ra4
            refine ⟨acc, hd7, ?_, lc_next hD hr (m34.trans m57) j7 fd7 hd7 ra7 r7 hi hb hy q7⟩
            rw [rpAll_len ra7]
            have : (1000000 : Nat) < sizeLine := by decide
            omega
          | _ => exact False.elim q7
        rcases htt with ⟨rfl, rfl⟩ | ⟨c, rfl, rfl⟩
        · have z := elem s3 F4 H4 (Fm.refl m4.fh) j4 (lcTurn_nil (bnd := fun x => bindS sl x (wipeE ε ((ownOf Γ.N sc2.names).map (·.2)))) hbd w)
          exact z
        · refine ⟨ε2, s3, _, _, F4, lcTurn_one (bnd := fun x => bindS sl x (wipeE ε ((ownOf Γ.N sc2.names).map (·.2)))) hbd w, ⟨m4.fh, ers_quiet e2, j4, fun _ _ _ _ _ _ _ _ _ z => z.elim⟩, fun b s5 F5 H5 m5 j5 q5 => ?_⟩
          cases b with
          | true =>
            rw [if_pos rfl]
            exact elem s5 F5 H5 m5 j5 q5
          | false =>
            rw [if_neg Bool.false_ne_true]
            refine ⟨hi, hb, acc, ys, s5, F5, m34.trans m5, j5, m5.nn D _ (.inr ⟨hr, fun _ z => by cases z⟩) hd4 fd4, m5.hh D _ (.inr ⟨hr, fun _ z => by cases z⟩) hd4, dpAll_ex m5.ff _ _ ra4, by omega, q5⟩
    -- the whole
    have whole : ∀ (tt : TT), (ifs = [] ∧ tt = tYes ∨ ∃ c, ifs = [c] ∧ tt = tWT X.K W.quiet Γ n sc2 c) → (∀ (s : Shared) (H : Hp) (c : Addr) (cl : List (Str × Addr)) (fp : List Addr), PTs (X.blk s H sc2 (compEnvC sc2 cl c X.env) fp) ifs tt) →
        ∃ (wi : TI) (g : TG) (tt : TT) (te : TE) (own : List (Str × Nat)),
        PI X tg iter wi ∧ BlkOk X.N X.env.scope sc2 own ∧ (∀ (s : Shared) (H : Hp) (c : Addr) (cl : List (Str × Addr)) (fp : List Addr), PG (X.blk s H sc2 (compEnvC sc2 cl c X.env) fp) tg g) ∧
        (∀ (s : Shared) (H : Hp) (c : Addr) (cl : List (Str × Addr)) (fp : List Addr), PTs (X.blk s H sc2 (compEnvC sc2 cl c X.env) fp) ifs tt) ∧ (∀ (s : Shared) (H : Hp) (c : Addr) (cl : List (Str × Addr)) (fp : List Addr), PE (X.blk s H sc2 (compEnvC sc2 cl c X.env) fp) elt te) ∧
        (∀ x, foldedSetIterable iter X.env x = pure x) ∧ ∀ σ H R, tLcW X.K W Γ (n + 1) sc (.ListComp elt [⟨tg, iter, ifs, 0⟩] sc2 pos) σ H R → tLc wi g tt te (own.map (·.2)) σ H R := by
      intro tt htt hts
      refine ⟨_, gS X.K sl, tt, tWE X.K W.quiet Γ n sc2 elt, ownOf Γ.N sc2.names, pi_w C (fun e => (ihX X W sc C e).1) iter, bok, fun s H c cl fp => pg_w (CB s H c cl fp) hsl, hts, fun s H c cl fp => (ihX _ _ _ (CB s H c cl fp) elt).1, fold0 X.env hset, ?_⟩
      rintro σ H R ⟨ε, s, Qd, Ed, F, w, cy, kq⟩
      simp only [wE, chk_iff, chkN_iff, Bool.and_eq_true, decide_eq_true_eq, isG_iff, Bool.not_eq_true', and_assoc, hsl] at w
      refine ⟨ε, s, _, Ed, F, w.2.2.2.2, cy, fun J xs s2 F2 H2 m j q wk => ?_⟩
      obtain ⟨hb, wm⟩ := q
      intro D hD
      have hr : D ∉ W.rs := Wd.rs_ne j hD
      have f2 : F2 D = none := fresh_back m.fh hD
      refine ⟨fun i m H => m = xs.length - i ∧ LcAt X.K W F2 H2 D (lcT Γ n sc2 sl ((ownOf Γ.N sc2.names).map (·.2)) ε ifs elt) xs (fun zs s4 => Qd (.d (.list zs)) s4) i H, ⟨xs.length, rfl, Nat.zero_le _, hb, [], [], s2, F2, (Fm.refl m.fh).mut hD f2, Wd.put j hr (fun u e => by rw [hD] at e; cases e) _, f2, upd_same, .nil, Nat.le_refl _, wm⟩, ?_⟩
      rintro i mm H3 ⟨rfl, hle, _, acc, ys, s3, F3, m3, j3, fd, hd, ra, hy, w3⟩
      by_cases hi : i < xs.length
      · right
        have hx : xs[i]? = some xs[i] := List.getElem?_eq_getElem hi
        obtain ⟨go, yld⟩ := (wk i F3 H3 m3.ff m3.fh).1 _ hx
        refine ⟨go, LcAt X.K W F2 H2 D (lcT Γ n sc2 sl ((ownOf Γ.N sc2.names).map (·.2)) ε ifs elt) xs (fun zs s4 => Qd (.d (.list zs)) s4) (i + 1), fun H' z => ⟨xs.length - (i + 1), by omega, rfl, z⟩, fun v H4 hv => ?_⟩
        obtain ⟨F4, m4, rv⟩ := yld v H4 hv
        rw [List.drop_eq_getElem_cons hi] at w3
        exact turn σ ε s3 F2 H2 F3 H3 F4 H4 D acc ys xs _ i _ v tt htt hD hr hb hx hy m3 j3 fd hd ra m4 rv (cy.er.fm ((m.trans m3).trans m4.more)) w3
      · left
        have e : i = xs.length := by omega
        subst e
        refine ⟨(wk _ F3 H3 m3.ff m3.fh).2 (Nat.le_refl _), ?_⟩
        rw [List.drop_length] at w3
        have w4 : Qd (.d (.list (ys ++ []))) s3 := w3
        rw [List.append_nil] at w4
        exact kq D acc ys s3 F2 H2 F3 H3 m hD m3 j3 hr fd hd ra w4
    cases ifs with
    | nil => exact .inr (whole tYes (.inl ⟨rfl, rfl⟩) fun _ _ _ _ _ => pts_nil)
    | cons c r =>
      cases r with
      | nil => exact .inr (whole _ (.inr ⟨c, rfl, rfl⟩) fun s H c2 cl fp => pts_one (ihX _ _ _ (CB s H c2 cl fp) c).2)
      | cons c2 r => exact absurd hifs (by simp)
theorem pe_lcw {elt tg iter : Expr} {ifs : List Expr} {pos : Pos} : PE X (.ListComp elt [⟨tg, iter, ifs, 0⟩] sc2 pos) (tWE X.K W Γ (n + 1) sc (.ListComp elt [⟨tg, iter, ifs, 0⟩] sc2 pos)) := by
  have nd : X.N.Nodup := by
    rw [C.n]
    exact C.nd
  rcases lc_all C ihX (elt := elt) (tg := tg) (iter := iter) (ifs := ifs) (pos := pos) (sc2 := sc2) with h | ⟨wi, g, tt, te, own, h1, h2, h3, h4, h5, h6, h7⟩
  · exact pe_false fun σ H R z => h σ H R (lcw_of z)
  · exact pe_imp (pe_lc C.calm nd h1 h2 h3 h4 h5 h6) fun σ H R z => h7 σ H R (lcw_of z)
end
end Z
set_option Elab.async false
set_option linter.all false
set_option maxRecDepth 100000
set_option maxHeartbeats 4000000
namespace Z
open PySem PySem.Spec PyProof.Rows L2 Evl
theorem kw_ok : ∀ {ks : List Keyword} {nm : List Str}, kwNames ks = some nm → ∀ (pos : Pos) (env : Env), (backToKw pos (keywordEach ks env)).all (·.1.isSome) = true ∧ (backToKw pos (keywordEach ks env)).filterMap (·.1) = nm ∧ (backToKw pos (keywordEach ks env)).any (·.1.isNone) = false
  | [], nm, h, pos, env => by
    cases h
    exact ⟨rfl, rfl, rfl⟩
  | ⟨none, e, p⟩ :: ks, nm, h, pos, env => by cases h
  | ⟨some x, e, p⟩ :: ks, nm, h, pos, env => by
    unfold kwNames at h
    cases q : kwNames ks with
    | none =>
      rw [q] at h
      cases h
    | some xs =>
      rw [q] at h
      cases h
      obtain ⟨h1, h2, h3⟩ := kw_ok q pos env
      refine ⟨?_, ?_, ?_⟩
      · show (true && (backToKw pos (keywordEach ks env)).all (·.1.isSome)) = true
        rw [h1]
        rfl
      · show x :: (backToKw pos (keywordEach ks env)).filterMap (·.1) = x :: xs
        rw [h2]
      · show (false || (backToKw pos (keywordEach ks env)).any (·.1.isNone)) = false
        rw [h3]
        rfl
theorem srAll_length {K : PySem.W.Frag} {F : Hp} : ∀ {vs : List V} {ss : List Sl}, SrAll K F vs ss → vs.length = ss.length
  | [], [], _ => rfl
  | _ :: _, _ :: _, h => congrArg Nat.succ (srAll_length h.2)
  | [], _ :: _, h => h.elim
  | _ :: _, [], h => h.elim
theorem srAll_app {K : PySem.W.Frag} {F : Hp} : ∀ {vs us : List V} {ss ts : List Sl}, SrAll K F vs ss → SrAll K F us ts → SrAll K F (vs ++ us) (ss ++ ts)
  | [], _, [], _, _, r => r
  | _ :: _, _, _ :: _, _, h, r => ⟨h.1, srAll_app h.2 r⟩
  | [], _, _ :: _, _, h, _ => h.elim
  | _ :: _, _, [], _, h, _ => h.elim
section
variable {S : Type} {X : Cx} {W : Wd S} {Γ : Gam S} {sc : Scope} {n : Nat} (C : CxOk X W Γ sc) (ih : ∀ e, PE X e (tWE X.K W Γ n sc e))
include C ih
theorem pe_kw {f : Str} {args : List Expr} {k : Keyword} {ks : List Keyword} {p pos : Pos} : PE X (.Call (.Name f p) args (k :: ks) pos) (tWE X.K W Γ (n + 1) sc (.Call (.Name f p) args (k :: ks) pos)) := by
  by_cases hp : args.all plainE = true ∧ sc.names.lookup f = some .globalImplicit
  · obtain ⟨hp, hl⟩ := hp
    have hg : Gl X f := C.gl f hl
    have nd := okSc_no C.dbg hl
    cases hn : kwNames (k :: ks) with
    | none =>
      refine pe_false fun σ H R ⟨ε, s, Qd, Ed, F, w, cy, kq⟩ => ?_
      simp only [wE, chk_iff, chkN_iff, Bool.and_eq_true, decide_eq_true_eq, isG_iff, Bool.not_eq_true', and_assoc, hn] at w
      exact w.2.2
    | some nm =>
      obtain ⟨k1, k2, k3⟩ := kw_ok hn pos X.env
      cases hf : kfOf Γ.kfn f args.length nm with
      | none =>
        refine pe_false fun σ H R ⟨ε, s, Qd, Ed, F, w, cy, kq⟩ => ?_
        simp only [wE, chk_iff, chkN_iff, Bool.and_eq_true, decide_eq_true_eq, isG_iff, Bool.not_eq_true', and_assoc, hn, hf] at w
        exact w.2.2
      | some spec =>
        obtain ⟨CX, j, a, G, hr, hm, hk, hx, _⟩ := C.kfs f _ _ spec hf
        cases args with
        | nil =>
          refine pe_w (pe_kg0 G C.gs hr hg hm hk hx (pk_w ih (k :: ks)) k1 k2 nd.1 k3) fun σ H R ε s Qd Ed F w cy kq => ?_
          simp only [wE, chk_iff, chkN_iff, Bool.and_eq_true, decide_eq_true_eq, isG_iff, Bool.not_eq_true', and_assoc, hn, hf, wArgs, List.nil_append] at w
          refine ⟨ε, s, _, Ed, F, w.2.2, cy, fun vs ss s2 F2 H2 m jj q r => ?_⟩
          exact ⟨(srAll_length r).trans q.2.1, ss, s2, F2, Qd, Ed, m.fh, r, jj, q.2.2, kq.next m, cy.kx.next m⟩
        | cons e es =>
          have hp2 := hp
          rw [List.all_cons, Bool.and_eq_true] at hp2
          refine pe_w (pe_kg G C.gs hr hg hm hk hx (pa_w ih _ hp) (pk_w ih (k :: ks)) k1 k2 nd.1 (star1 es X.env hp2.1) ?_) fun σ H R ε s Qd Ed F w cy kq => ?_
          · rw [k3, Bool.or_false]
            exact any0 (pos := pos) X.env hp
          simp only [wE, chk_iff, chkN_iff, Bool.and_eq_true, decide_eq_true_eq, isG_iff, Bool.not_eq_true', and_assoc, hn, hf] at w
          refine ⟨ε, s, _, Ed, F, w.2.2, cy, fun vs ss s2 F2 H2 m jj q r => ?_⟩
          refine ⟨ε, s2, _, Ed, F2, q, cy.next m jj, fun us ts s3 F3 H3 m3 j3 q3 r3 => ?_⟩
          have rr := srAll_ex m3.ff r
          exact ⟨(srAll_length r).trans q3.1, (srAll_length r3).trans q3.2.1, ss ++ ts, s3, F3, Qd, Ed, m3.fh, srAll_app rr r3, j3, q3.2.2, kq.next (m.trans m3), cy.kx.next (m.trans m3)⟩
  · refine pe_false fun σ H R ⟨ε, s, Qd, Ed, F, w, cy, kq⟩ => ?_
    simp only [wE, chk_iff, chkN_iff, Bool.and_eq_true, decide_eq_true_eq, isG_iff, Bool.not_eq_true', and_assoc] at w
    exact hp ⟨w.1, w.2.1⟩
end
end Z
set_option Elab.async false
set_option linter.all false
set_option maxRecDepth 100000
set_option maxHeartbeats 4000000
namespace Z
open PySem PySem.Spec PyProof.Rows L2 Evl
section
variable {S : Type}
/-- THE RULE: what the word says ahead of an expression, or a test, holds of the run -/
theorem sound (Γ : Gam S) : ∀ (n : Nat) (X : Cx) (W : Wd S) (sc : Scope), CxOk X W Γ sc → ∀ e : Expr, PE X e (tWE X.K W Γ n sc e) ∧ PT X e (tWT X.K W Γ n sc e) := by
  intro n
  induction n with
  | zero =>
    intro X W sc C e
    refine ⟨pe_false fun σ H R ⟨ε, s, Qd, Ed, F, w, cy, kq⟩ => ?_, pt_false fun σ H R ⟨ε, s, Qd, Ed, F, w, cy, kq⟩ => ?_⟩
    · simp only [wE, chk_iff, chkN_iff, Bool.and_eq_true, decide_eq_true_eq, isG_iff, Bool.not_eq_true', and_assoc] at w
    · simp only [wE, chk_iff, chkN_iff, Bool.and_eq_true, decide_eq_true_eq, isG_iff, Bool.not_eq_true', and_assoc] at w
  | succ n ihn =>
    intro X W sc C e
    have ih : ∀ e, PE X e (tWE X.K W Γ n sc e) := fun e => (ihn X W sc C e).1
    have it : ∀ e, PT X e (tWT X.K W Γ n sc e) := fun e => (ihn X W sc C e).2
    have no : ∀ e : Expr, (∀ ε s (Qd : QS S) Ed, ¬ wE Γ (n + 1) false sc ε s e Qd Ed) → PE X e (tWE X.K W Γ (n + 1) sc e) := fun e h => pe_false fun σ H R ⟨ε, s, Qd, Ed, F, w, cy, kq⟩ => h ε s Qd Ed w
    have noT : ∀ e : Expr, (∀ ε s (Qd : QS S) Ed, ¬ wE Γ (n + 1) true sc ε s e Qd Ed) → PT X e (tWT X.K W Γ (n + 1) sc e) := fun e h => pt_false fun σ H R ⟨ε, s, Qd, Ed, F, w, cy, kq⟩ => h ε s Qd Ed w
    constructor
    · cases e with
      | Name x p => exact pe_nm C
      | Constant c k p => exact pe_cst C
      | BinOp a op b p => exact pe_bo C ih
      | UnaryOp op a p =>
        cases op with
        | Not => exact pe_not C ih
        | USub => exact pe_neg C ih
        | _ => exact no _ fun ε s Qd Ed w => by simp only [wE, chk_iff, chkN_iff, Bool.and_eq_true, decide_eq_true_eq, isG_iff, Bool.not_eq_true', and_assoc] at w
      | BoolOp op es p =>
        cases op with
        | And =>
          refine pe_imp (pe_ands C ih es) fun σ H R ⟨ε, s, Qd, Ed, F, w, cy, kq⟩ => ⟨ε, s, Qd, Ed, F, ?_, cy, kq⟩
          simpa only [wE, chk_iff, chkN_iff, Bool.and_eq_true, decide_eq_true_eq, isG_iff, Bool.not_eq_true', and_assoc] using w
        | Or =>
          refine pe_imp (pe_ors C ih es) fun σ H R ⟨ε, s, Qd, Ed, F, w, cy, kq⟩ => ⟨ε, s, Qd, Ed, F, ?_, cy, kq⟩
          simpa only [wE, chk_iff, chkN_iff, Bool.and_eq_true, decide_eq_true_eq, isG_iff, Bool.not_eq_true', and_assoc] using w
      | Compare a ops bs p =>
        match ops, bs with
        | [op], [b] => exact pe_c1 C ih
        | [op, op2], [b, c] => exact pe_c2 C ih
        | [], _ => exact no _ fun ε s Qd Ed w => by simp only [wE, chk_iff, chkN_iff, Bool.and_eq_true, decide_eq_true_eq, isG_iff, Bool.not_eq_true', and_assoc] at w
        | [_], [] => exact no _ fun ε s Qd Ed w => by simp only [wE, chk_iff, chkN_iff, Bool.and_eq_true, decide_eq_true_eq, isG_iff, Bool.not_eq_true', and_assoc] at w
        | [_], _ :: _ :: _ => exact no _ fun ε s Qd Ed w => by simp only [wE, chk_iff, chkN_iff, Bool.and_eq_true, decide_eq_true_eq, isG_iff, Bool.not_eq_true', and_assoc] at w
        | [_, _], [] => exact no _ fun ε s Qd Ed w => by simp only [wE, chk_iff, chkN_iff, Bool.and_eq_true, decide_eq_true_eq, isG_iff, Bool.not_eq_true', and_assoc] at w
        | [_, _], [_] => exact no _ fun ε s Qd Ed w => by simp only [wE, chk_iff, chkN_iff, Bool.and_eq_true, decide_eq_true_eq, isG_iff, Bool.not_eq_true', and_assoc] at w
        | [_, _], _ :: _ :: _ :: _ => exact no _ fun ε s Qd Ed w => by simp only [wE, chk_iff, chkN_iff, Bool.and_eq_true, decide_eq_true_eq, isG_iff, Bool.not_eq_true', and_assoc] at w
        | _ :: _ :: _ :: _, _ => exact no _ fun ε s Qd Ed w => by simp only [wE, chk_iff, chkN_iff, Bool.and_eq_true, decide_eq_true_eq, isG_iff, Bool.not_eq_true', and_assoc] at w
      | IfExp c a b p => exact pe_if ih it
      | Tuple es k p => exact pe_tpl C ih
      | List es p => exact pe_lis C ih
      | Subscript a i p =>
        cases i with
        | Slice lo hi st p2 =>
          cases st with
          | none => exact pe_sl ih
          | some st => exact no _ fun ε s Qd Ed w => by (simp only [wE, chk_iff, chkN_iff, Bool.and_eq_true, decide_eq_true_eq, isG_iff, Bool.not_eq_true', and_assoc, slE] at w; exact Bool.false_ne_true w.1.symm)
        | _ => exact pe_sub C ih rfl
      | Call f args kws p =>
        cases kws with
        | cons _ _ =>
          cases f with
          | Name g q => exact pe_kw C ih
          | _ => exact no _ fun ε s Qd Ed w => by simp only [wE, chk_iff, chkN_iff, Bool.and_eq_true, decide_eq_true_eq, isG_iff, Bool.not_eq_true', and_assoc] at w
        | nil =>
          cases f with
          | Name g q => exact pe_cl C ih
          | Attribute o m q =>
            match args with
            | [a] => exact pe_jn C ih
            | [] => exact no _ fun ε s Qd Ed w => by simp only [wE, chk_iff, chkN_iff, Bool.and_eq_true, decide_eq_true_eq, isG_iff, Bool.not_eq_true', and_assoc] at w
            | _ :: _ :: _ => exact no _ fun ε s Qd Ed w => by simp only [wE, chk_iff, chkN_iff, Bool.and_eq_true, decide_eq_true_eq, isG_iff, Bool.not_eq_true', and_assoc] at w
          | _ => exact no _ fun ε s Qd Ed w => by simp only [wE, chk_iff, chkN_iff, Bool.and_eq_true, decide_eq_true_eq, isG_iff, Bool.not_eq_true', and_assoc] at w
      | ListComp elt gens sc2 p =>
        match gens with
        | [⟨tg, iter, ifs, k⟩] =>
          by_cases hk : k = 0
          · subst hk
            exact pe_lcw C fun X' W' sc' C' e => ihn X' W' sc' C' e
          · refine no _ fun ε s Qd Ed w => ?_
            unfold wE at w
            split at w
            all_goals first
              | (rename_i h; cases h; done)
              | simp_all
        | [] => exact no _ fun ε s Qd Ed w => by simp only [wE, chk_iff, chkN_iff, Bool.and_eq_true, decide_eq_true_eq, isG_iff, Bool.not_eq_true', and_assoc] at w
        | _ :: _ :: _ => exact no _ fun ε s Qd Ed w => by simp only [wE, chk_iff, chkN_iff, Bool.and_eq_true, decide_eq_true_eq, isG_iff, Bool.not_eq_true', and_assoc] at w
      | _ => exact no _ fun ε s Qd Ed w => by simp only [wE, chk_iff, chkN_iff, Bool.and_eq_true, decide_eq_true_eq, isG_iff, Bool.not_eq_true', and_assoc] at w
    · have gen : ∀ e : Expr, condE e = false → (∀ ε s (Qd : QS S) Ed, wE Γ (n + 1) true sc ε s e Qd Ed → wE Γ n false sc ε s e (fun x s1 => dtru x fun b => Qd (.d (.bool b)) s1) Ed) → PT X e (tWT X.K W Γ (n + 1) sc e) := fun e he hw => pt_gen ih he hw
      cases e with
      | UnaryOp op a p =>
        cases op with
        | Not => exact pt_nt ih it
        | _ => exact gen _ rfl fun ε s Qd Ed w => by (simp only [wE, chk_iff, chkN_iff, Bool.and_eq_true, decide_eq_true_eq, isG_iff, Bool.not_eq_true', and_assoc] at w; exact w.2)
      | BoolOp op es p =>
        cases op with
        | And =>
          refine pt_imp (pt_ands ih it es).pt fun σ H R ⟨ε, s, Qd, Ed, F, w, cy, kq⟩ => ⟨ε, s, Qd, Ed, F, ?_, cy, kq⟩
          simpa only [wE, chk_iff, chkN_iff, Bool.and_eq_true, decide_eq_true_eq, isG_iff, Bool.not_eq_true', and_assoc] using w
        | Or =>
          refine pt_imp (pt_ors ih it es).pt fun σ H R ⟨ε, s, Qd, Ed, F, w, cy, kq⟩ => ⟨ε, s, Qd, Ed, F, ?_, cy, kq⟩
          simpa only [wE, chk_iff, chkN_iff, Bool.and_eq_true, decide_eq_true_eq, isG_iff, Bool.not_eq_true', and_assoc] using w
      | Compare a ops bs p =>
        match ops, bs with
        | [op], [b] => exact pt_c1 C ih
        | [op, op2], [b, c] => exact pt_c2 C ih
        | [], _ => exact noT _ fun ε s Qd Ed w => by (simp only [wE, chk_iff, chkN_iff, Bool.and_eq_true, decide_eq_true_eq, isG_iff, Bool.not_eq_true', and_assoc, condE] at w; exact Bool.false_ne_true w.1.symm)
        | [_], [] => exact noT _ fun ε s Qd Ed w => by (simp only [wE, chk_iff, chkN_iff, Bool.and_eq_true, decide_eq_true_eq, isG_iff, Bool.not_eq_true', and_assoc, condE] at w; exact Bool.false_ne_true w.1.symm)
        | [_], _ :: _ :: _ => exact noT _ fun ε s Qd Ed w => by (simp only [wE, chk_iff, chkN_iff, Bool.and_eq_true, decide_eq_true_eq, isG_iff, Bool.not_eq_true', and_assoc, condE] at w; exact Bool.false_ne_true w.1.symm)
        | [_, _], [] => exact noT _ fun ε s Qd Ed w => by (simp only [wE, chk_iff, chkN_iff, Bool.and_eq_true, decide_eq_true_eq, isG_iff, Bool.not_eq_true', and_assoc, condE] at w; exact Bool.false_ne_true w.1.symm)
        | [_, _], [_] => exact noT _ fun ε s Qd Ed w => by (simp only [wE, chk_iff, chkN_iff, Bool.and_eq_true, decide_eq_true_eq, isG_iff, Bool.not_eq_true', and_assoc, condE] at w; exact Bool.false_ne_true w.1.symm)
        | [_, _], _ :: _ :: _ :: _ => exact noT _ fun ε s Qd Ed w => by (simp only [wE, chk_iff, chkN_iff, Bool.and_eq_true, decide_eq_true_eq, isG_iff, Bool.not_eq_true', and_assoc, condE] at w; exact Bool.false_ne_true w.1.symm)
        | _ :: _ :: _ :: _, _ => exact noT _ fun ε s Qd Ed w => by (simp only [wE, chk_iff, chkN_iff, Bool.and_eq_true, decide_eq_true_eq, isG_iff, Bool.not_eq_true', and_assoc, condE] at w; exact Bool.false_ne_true w.1.symm)
      | IfExp c a b p => exact noT _ fun ε s Qd Ed w => by simp only [wE, chk_iff, chkN_iff, Bool.and_eq_true, decide_eq_true_eq, isG_iff, Bool.not_eq_true', and_assoc] at w
      | _ => exact gen _ rfl fun ε s Qd Ed w => by (simp only [wE, chk_iff, chkN_iff, Bool.and_eq_true, decide_eq_true_eq, isG_iff, Bool.not_eq_true', and_assoc] at w; exact w.2)
end
end Z
set_option Elab.async false
set_option linter.all false
set_option maxRecDepth 100000
set_option maxHeartbeats 4000000
namespace Z
open PySem PySem.Spec PyProof.Rows L2 Evl
/-! ### lists of one's own -/
def compE : Expr → Bool
  | .ListComp _ _ _ _ => true
  | .SetComp _ _ _ _ => true
  | .DictComp _ _ _ _ _ => true
  | _ => false
/-- data without a list -/
inductive Nl : PyData → Prop
  | none : Nl .none
  | bool (b : Bool) : Nl (.bool b)
  | int (i : Int) : Nl (.int i)
  | str (s : Str) : Nl (.str s)
  | tup (ds : List PyData) : (∀ d ∈ ds, Nl d) → Nl (.tuple ds)
/-- F2 keeps what F holds, lists aside -/
def Nx (F F2 : Hp) : Prop := ∀ a o, F a = some o → (∀ xs, o ≠ .lst xs) → F2 a = some o
theorem sqT_nl {K : PySem.W.Frag} {F F2 : Hp} (e : Nx F F2) {a : Addr} {xs : List V} (h : SqT K F a xs) : SqT K F2 a xs := by
  rcases h with h | h
  · rcases h with h | ⟨o, h⟩
    · exact .inl (.inl (e _ _ h fun _ z => by cases z))
    · exact .inl (.inr ⟨o, e _ _ h fun _ z => by cases z⟩)
  · exact .inr h
mutual
theorem rp_nl {K : PySem.W.Frag} {F F2 : Hp} (e : Nx F F2) : ∀ (d : PyData) (v : V), Nl d → Rp K F v d → Rp K F2 v d
  | .none, _, _, h => by cases h; exact .non
  | .bool b, _, _, h => by cases h; exact .bl b
  | .int i, _, _, h => by cases h; exact .int i
  | .str x, _, _, h => by cases h; exact .str x
  | .list ds, _, n, _ => by cases n
  | .tuple ds, _, n, h => by
    cases n with
    | tup _ n => cases h with
      | tup hs ha => exact .tup (sqT_nl e hs) (rpAll_nl e ds _ n ha)
  | .dict _, _, _, h => by cases h
theorem rpAll_nl {K : PySem.W.Frag} {F F2 : Hp} (e : Nx F F2) : ∀ (ds : List PyData) (vs : List V), (∀ d ∈ ds, Nl d) → RpAll K F vs ds → RpAll K F2 vs ds
  | [], _, _, h => by cases h; exact .nil
  | d :: ds, _, n, h => by
    cases h with
    | cons h1 h2 => exact .cons (rp_nl e d _ (n d List.mem_cons_self) h1) (rpAll_nl e ds _ (fun x hx => n x (List.mem_cons_of_mem _ hx)) h2)
end
/-- own lists read as data -/
def fz1 : Option Sl → Option Sl
  | some (.own xs) => some (.d (.list xs))
  | x => x
def frz (ε : En) : En := ε.map fz1
/-- the frozen part with the own lists -/
def fzF (F H : Hp) (ps rs : List Addr) : Hp := fun a => match F a with
  | some o => some o
  | none => if a ∈ ps ∧ a ∉ rs then H a else none
/-- the frozen part without new lists -/
def thF (F F2 : Hp) : Hp := fun a => match F a with
  | some o => some o
  | none => match F2 a with
    | some (.lst _) => none
    | z => z
theorem thF_ex {F F2 : Hp} : Ex F (thF F F2) := fun a o h => by
  show (match F a with
    | some o => some o
    | none => _) = some o
  rw [h]
theorem thF_sub {F F2 : Hp} (e : Ex F F2) {a : Addr} {o : HO} (h : thF F F2 a = some o) : F2 a = some o := by
  unfold thF at h
  cases f : F a with
  | some u =>
    simp only [f] at h
    cases h
    exact e a _ f
  | none =>
    simp only [f] at h
    split at h
    · cases h
    · exact h
theorem thF_none {F F2 : Hp} (e : Ex F F2) {a : Addr} (h : F2 a = none) : thF F F2 a = none := by
  cases z : thF F F2 a with
  | none => rfl
  | some o =>
    rw [thF_sub e z] at h
    cases h
theorem thF_lst {F F2 : Hp} {a : Addr} {xs : List V} (h : F a = none) (h2 : F2 a = some (.lst xs)) : thF F F2 a = none := by
  unfold thF
  simp only [h, h2]
theorem thF_nx {F F2 : Hp} (e : Ex F F2) : Nx F2 (thF F F2) := fun a o h n => by
  unfold thF
  cases f : F a with
  | some u =>
    have := e a u f
    rw [h] at this
    cases this
    rfl
  | none =>
    simp only [h]
    split
    · rename_i xs z
      cases z
      exact (n _ rfl).elim
    · rfl
section
variable {S : Type} {K : PySem.W.Frag} {W : Wd S} {F H F' F2 H2 : Hp} {σ : L2.St} {ε : En} {ps : List Addr} {s s2 : S} {Ed : QX S}
theorem fzF_ex {F H : Hp} {ps rs : List Addr} : Ex F (fzF F H ps rs) := fun a o h => by
  unfold fzF
  simp only [h]
theorem fzF_at {F H : Hp} {ps rs : List Addr} (e : Ex F H) {p : Addr} (hp : p ∈ ps) (hr : p ∉ rs) : fzF F H ps rs p = H p := by
  unfold fzF
  cases f : F p with
  | some o =>
    simp only
    exact (e p o f).symm
  | none =>
    simp only
    rw [if_pos ⟨hp, hr⟩]
theorem fzF_cases {F H : Hp} {ps rs : List Addr} {a : Addr} {o : HO} (h : fzF F H ps rs a = some o) : F a = some o ∨ (F a = none ∧ a ∈ ps ∧ a ∉ rs ∧ H a = some o) := by
  unfold fzF at h
  cases f : F a with
  | some u =>
    simp only [f] at h
    exact .inl h
  | none =>
    simp only [f] at h
    split at h
    · rename_i c
      exact .inr ⟨rfl, c.1, c.2, h⟩
    · cases h
theorem Er.ownAll (h : Er K W F H σ ε ps) : ∀ p ∈ ps, p ∉ W.rs → ∃ vs, H p = some (.lst vs) ∧ F p = none ∧ ∀ o, W.H0 p = some o → ¬ Nt o := by
  induction h with
  | nil => exact fun p hp hn => (hn hp).elim
  | no _ ih => exact ih
  | d _ _ ih => exact ih
  | v _ ih => exact ih
  | @own p vs xs _ _ _ h0 hf hp hd hn r ih =>
    intro q hq hr
    rcases List.mem_cons.mp hq with rfl | hq
    · exact ⟨vs, hp, hf, h0⟩
    · exact ih q hq hr
theorem Er.frz (h : Er K W F H σ ε ps) (e : Ex F F') (c : ∀ p ∈ ps, p ∉ W.rs → F' p = H p) : Er K W F' H σ (frz ε) W.rs := by
  induction h with
  | nil => exact .nil
  | no _ ih => exact .no (ih c)
  | d hd _ ih => exact .d (dp_ex e _ _ hd) (ih c)
  | v _ ih => exact .v (ih c)
  | @own p vs xs _ _ _ h0 hf hp hd hn r ih =>
    have hr : p ∉ W.rs := fun z => hn (r.rs p z)
    exact .d (.lst ((c p List.mem_cons_self hr).trans hp) (dpAll_ex e _ _ hd)) (ih fun q hq => c q (List.mem_cons_of_mem _ hq))
/-- own lists are frozen for a while -/
structure Fz (K : PySem.W.Frag) (W : Wd S) (F H F' : Hp) (σ : L2.St) (ε : En) (s : S) (ps : List Addr) : Prop where
  ex : Ex F F'
  fm : Fm W.rs W.F0 W.H0 F' H
  er : Er K W F' H σ (Z.frz ε) W.rs
  j : W.J s F' H
  at_ : ∀ p ∈ ps, p ∉ W.rs → ∃ vs, H p = some (.lst vs) ∧ F' p = some (.lst vs) ∧ F p = none
theorem freeze (fm : Fm W.rs W.F0 W.H0 F H) (h : Er K W F H σ ε ps) (j : W.J s F H) : Fz K W F H (fzF F H ps W.rs) σ ε s ps := by
  have ex : Ex F (fzF F H ps W.rs) := fzF_ex
  have nt : ∀ a o, fzF F H ps W.rs a = some o → F a = some o ∨ Nt o := fun a o z => by
    rcases fzF_cases z with z | ⟨_, z1, z2, z3⟩
    · exact .inl z
    · obtain ⟨vs, e, _, _⟩ := h.ownAll a z1 z2
      rw [z3] at e
      cases e
      exact .inr fun _ y => by cases y
  have rsn : ∀ a ∈ W.rs, fzF F H ps W.rs a = none := fun a ha => by
    cases z : fzF F H ps W.rs a with
    | none => rfl
    | some o =>
      rcases fzF_cases z with z | ⟨_, _, z2, _⟩
      · rw [(W.ne s F H j a ha).2] at z
        cases z
      · exact (z2 ha).elim
  refine ⟨ex, ⟨fm.ff.trans ex, fun a o z => ?_, fm.hh, fun a o c z f => ?_, fun a o z => ?_⟩, h.frz ex fun p hp hr => fzF_at fm.fh hp hr, W.st s F H _ H j (fun _ _ z _ => z) rsn nt, fun p hp hr => ?_⟩
  · rcases fzF_cases z with z | ⟨_, _, _, z⟩
    · exact fm.fh a o z
    · exact z
  · cases y : fzF F H ps W.rs a with
    | none => rfl
    | some u =>
      rcases fzF_cases y with y | ⟨_, y1, y2, y3⟩
      · rw [fm.nn a o c z f] at y
        cases y
      · obtain ⟨vs, _, _, e0⟩ := h.ownAll a y1 y2
        rcases c with c | ⟨_, c⟩
        · have := fm.hh a o (.inl c) z
          have no : ¬ Nt o := e0 o z
          rw [y3] at this
          cases this
          obtain ⟨vs, e, _, _⟩ := h.ownAll a y1 y2
          rw [y3] at e
          cases e
          exact (no fun _ y => by cases y).elim
        · exact (e0 o z c).elim
  · rcases nt a o z with z | z
    · exact fm.nf a o z
    · exact .inr z
  · obtain ⟨vs, e, f, _⟩ := h.ownAll p hp hr
    exact ⟨vs, e, (fzF_at fm.fh hp hr).trans e, f⟩
/-- behind an evaluation over the frozen part: the lists are one's own again -/
theorem thaw (fm : Fm W.rs W.F0 W.H0 F H) (h : Er K W F H σ ε ps) (z : Fz K W F H F' σ ε s ps) (m : Fm W.rs F' H F2 H2) (j : W.J s2 F2 H2) :
    Ex F (thF F F2) ∧ Fm W.rs W.F0 W.H0 (thF F F2) H2 ∧ Er K W (thF F F2) H2 σ ε ps ∧ W.J s2 (thF F F2) H2 ∧ Nx F2 (thF F F2) := by
  have e2 : Ex F F2 := z.ex.trans m.ff
  have t := z.fm.trans m
  refine ⟨thF_ex, ⟨fm.ff.trans thF_ex, fun a o y => m.fh a o (thF_sub e2 y), t.hh, fun a o c y f => thF_none e2 (t.nn a o c y f), fun a o y => t.nf a o (thF_sub e2 y)⟩, h.keep thF_ex (fun p hp hr vs y => ?_) (fun p hp hr f vs y => ?_), W.st s2 F2 H2 _ H2 j (fun _ _ y _ => y) (fun a ha => thF_none e2 (W.ne s2 F2 H2 j a ha).2) fun a o y => .inl (thF_sub e2 y), thF_nx e2⟩
  · obtain ⟨us, e, f, _⟩ := z.at_ p hp hr
    rw [y] at e
    cases e
    exact m.fh p _ (m.ff p _ f)
  · obtain ⟨us, e, f', _⟩ := z.at_ p hp hr
    exact thF_lst f (m.ff p _ f')
/-- an own list is changed -/
theorem Er.change (h : Er K W F H σ ε ps) : ∀ {i : Nat} {xs : List PyData}, ε[i]? = some (some (.own xs)) → ∃ p vs, σ[i]? = some (some (.ref p)) ∧ p ∈ ps ∧ H p = some (.lst vs) ∧ RpAll K F vs xs ∧ p ∉ W.rs ∧ F p = none ∧ (∀ o, W.H0 p = some o → ¬ Nt o) ∧
    ∀ us ys, RpAll K F us ys → Er K W F (upd H p (.lst us)) σ (ε.set i (some (.own ys))) ps := by
  induction h with
  | nil =>
    intro i xs e
    simp at e
  | no _ ih =>
    intro i xs e
    cases i with
    | zero => simp at e
    | succ i =>
      obtain ⟨p, vs, h1, h2, h3, h4, h5, h6, h7, k⟩ := ih (i := i) (xs := xs) (by simpa using e)
      exact ⟨p, vs, by simpa using h1, h2, h3, h4, h5, h6, h7, fun us ys r => .no (k us ys r)⟩
  | d hd _ ih =>
    intro i xs e
    cases i with
    | zero => simp at e
    | succ i =>
      obtain ⟨p, vs, h1, h2, h3, h4, h5, h6, h7, k⟩ := ih (i := i) (xs := xs) (by simpa using e)
      exact ⟨p, vs, by simpa using h1, h2, h3, h4, h5, h6, h7, fun us ys r => .d hd (k us ys r)⟩
  | v _ ih =>
    intro i xs e
    cases i with
    | zero => simp at e
    | succ i =>
      obtain ⟨p, vs, h1, h2, h3, h4, h5, h6, h7, k⟩ := ih (i := i) (xs := xs) (by simpa using e)
      exact ⟨p, vs, by simpa using h1, h2, h3, h4, h5, h6, h7, fun us ys r => .v (k us ys r)⟩
  | @own p vs ys σ ε ps h0 hf hp hd hn r ih =>
    intro i xs e
    cases i with
    | zero =>
      simp at e
      subst e
      have hr : p ∉ W.rs := fun z => hn (r.rs p z)
      refine ⟨p, vs, rfl, List.mem_cons_self, hp, hd, hr, hf, h0, fun us zs rr => .own h0 hf upd_same rr hn ?_⟩
      exact r.keep (Ex.refl F) (fun q hq _ ws y => by
        rw [upd_ne (fun z => hn (by rw [← z]; exact hq))]
        exact y) fun q hq _ f _ _ => f
    | succ i =>
      obtain ⟨q, us, h1, h2, h3, h4, h5, h6, h7, k⟩ := ih (i := i) (xs := xs) (by simpa using e)
      refine ⟨q, us, by simpa using h1, List.mem_cons_of_mem _ h2, h3, h4, h5, h6, h7, fun ws zs rr => .own h0 hf ?_ hd hn (k ws zs rr)⟩
      rw [upd_ne (fun z => hn (by rw [z]; exact h2))]
      exact hp
/-- an own list of a slot -/
theorem Er.putOwn (h : Er K W F H σ ε ps) {p : Addr} {vs : List V} {xs : List PyData} (h0 : ∀ o, W.H0 p = some o → ¬ Nt o) (hf : F p = none) (hp : H p = some (.lst vs)) (hd : RpAll K F vs xs) (hn : p ∉ ps) :
    ∀ i : Nat, ∃ ps', Er K W F H (σ.set i (some (.ref p))) (ε.set i (some (.own xs))) ps' ∧ ∀ q ∈ ps', q = p ∨ q ∈ ps := by
  induction h with
  | nil => exact fun i => ⟨_, .nil, fun _ h => .inr h⟩
  | no r ih =>
    intro i
    cases i with
    | zero => exact ⟨_, .own h0 hf hp hd hn r, fun q hq => List.mem_cons.mp hq⟩
    | succ i =>
      obtain ⟨q, r2, k⟩ := ih hn i
      exact ⟨q, .no r2, k⟩
  | d hx r ih =>
    intro i
    cases i with
    | zero => exact ⟨_, .own h0 hf hp hd hn r, fun q hq => List.mem_cons.mp hq⟩
    | succ i =>
      obtain ⟨q, r2, k⟩ := ih hn i
      exact ⟨q, .d hx r2, k⟩
  | v r ih =>
    intro i
    cases i with
    | zero => exact ⟨_, .own h0 hf hp hd hn r, fun q hq => List.mem_cons.mp hq⟩
    | succ i =>
      obtain ⟨q, r2, k⟩ := ih hn i
      exact ⟨q, .v r2, k⟩
  | @own p2 us ys σ ε ps g0 gf gp gd gn r ih =>
    have n2 : p ∉ ps := fun z => hn (List.mem_cons_of_mem _ z)
    intro i
    cases i with
    | zero => exact ⟨_, .own h0 hf hp hd n2 r, fun q hq => (List.mem_cons.mp hq).imp id (List.mem_cons_of_mem _)⟩
    | succ i =>
      obtain ⟨q, r2, k⟩ := ih n2 i
      refine ⟨_, .own g0 gf gp gd (fun z => ?_) r2, fun x hx => ?_⟩
      · rcases k p2 z with e | e
        · exact hn (by rw [← e]; exact List.mem_cons_self)
        · exact gn e
      · rcases List.mem_cons.mp hx with e | hx
        · exact .inr (by rw [e]; exact List.mem_cons_self)
        · exact (k x hx).imp id (List.mem_cons_of_mem _)
/-- a frozen part stays when an own list changes -/
theorem Fm.change (fm : Fm W.rs W.F0 W.H0 F H) {p : Addr} (h0 : ∀ o, W.H0 p = some o → ¬ Nt o) (hf : F p = none) (hl : H p = none ∨ ∃ vs, H p = some (.lst vs)) (o : HO) : Fm W.rs W.F0 W.H0 F (upd H p o) := by
  refine ⟨fm.ff, fun a u e => ?_, fun a u c e => ?_, fm.nn, fm.nf⟩
  · rw [upd_ne (fun z => by rw [z, hf] at e; cases e)]
    exact fm.fh a u e
  · rw [upd_ne (fun z => by
      subst z
      rcases c with c | ⟨_, c⟩
      · have h := fm.hh _ u (.inl c) e
        rcases hl with hl | ⟨vs, hl⟩
        · rw [hl] at h
          cases h
        · rw [hl] at h
          cases h
          exact h0 _ e fun _ y => by cases y
      · exact h0 u e c)]
    exact fm.hh a u c e
/-- a new list is nobody's -/
theorem Fm.fresh0 (fm : Fm W.rs W.F0 W.H0 F H) (j : W.J s F H) {p : Addr} (hp : H p = none) : ∀ o, W.H0 p = some o → ¬ Nt o := fun o e n => by
  have hr : p ∉ W.rs := fun z => (W.ne s F H j p z).1 hp
  rw [fm.hh p o (.inr ⟨hr, n⟩) e] at hp
  cases hp
theorem Er.ne (h : Er K W F H σ ε ps) (j : W.J s F H) : ∀ p ∈ ps, H p ≠ none := fun p hp => by
  by_cases hr : p ∈ W.rs
  · exact (W.ne s F H j p hr).1
  · obtain ⟨vs, e, _, _⟩ := h.ownAll p hp hr
    rw [e]
    exact fun z => by cases z
end
/-- names that are changed in place behind here -/
def mutS : Nat → Str → List Stmt → Bool
  | 0, _, _ => false
  | _, _, [] => false
  | n + 1, x, st :: rest => (match st with
    | .Expr (.Call (.Attribute (.Name y _) m _) [_] [] _) _ => (decide (m = "append") || decide (m = "extend")) && decide (y = x)
    | .Assign [.Subscript (.Name y _) _ _] _ _ => decide (y = x)
    | .For _ _ b _ _ => mutS n x b
    | .If _ a b _ => mutS n x a || mutS n x b
    | _ => false) || mutS n x rest
/-- x.append(a), x a list of one's own -/
def appOf (N : List Str) (sc : Scope) (ε : En) : Expr → Option (Nat × List PyData × Expr)
  | .Call (.Attribute (.Name x _) m apos) [a] [] pos => (match decide (m = "append") && (plainE a && ((apos.endLine == pos.line) && decide (sc.names.lookup x = some .local))) with
    | true => (match ixOf N x with
      | some i => (match ε[i]? with
        | some (some (.own xs)) => some (i, xs, a)
        | _ => none)
      | none => none)
    | false => none)
  | _ => none
theorem appOf_some {N : List Str} {sc : Scope} {ε : En} {e : Expr} {i : Nat} {xs : List PyData} {a : Expr} (h : appOf N sc ε e = some (i, xs, a)) :
    ∃ x p apos pos, e = .Call (.Attribute (.Name x p) "append" apos) [a] [] pos ∧ plainE a = true ∧ (apos.endLine == pos.line) = true ∧ sc.names.lookup x = some .local ∧ ixOf N x = some i ∧ ε[i]? = some (some (.own xs)) := by
  unfold appOf at h
  split at h
  · rename_i x p m apos b pos
    split at h
    · rename_i hc
      simp only [Bool.and_eq_true, decide_eq_true_eq] at hc
      obtain ⟨rfl, h1, h2, h3⟩ := hc
      split at h
      · rename_i k hk
        split at h
        · rename_i ys hy
          cases h
          exact ⟨x, p, apos, pos, rfl, h1, h2, h3, hk, hy⟩
        · cases h
      · cases h
    · cases h
  · cases h
/-- x.extend(a), x a list of one's own -/
def extOf (N : List Str) (sc : Scope) (ε : En) : Expr → Option (Nat × List PyData × Expr)
  | .Call (.Attribute (.Name x _) m apos) [a] [] pos => (match decide (m = "extend") && (plainE a && ((apos.endLine == pos.line) && decide (sc.names.lookup x = some .local))) with
    | true => (match ixOf N x with
      | some i => (match ε[i]? with
        | some (some (.own xs)) => some (i, xs, a)
        | _ => none)
      | none => none)
    | false => none)
  | _ => none
theorem extOf_some {N : List Str} {sc : Scope} {ε : En} {e : Expr} {i : Nat} {xs : List PyData} {a : Expr} (h : extOf N sc ε e = some (i, xs, a)) :
    ∃ x p apos pos, e = .Call (.Attribute (.Name x p) "extend" apos) [a] [] pos ∧ plainE a = true ∧ (apos.endLine == pos.line) = true ∧ sc.names.lookup x = some .local ∧ ixOf N x = some i ∧ ε[i]? = some (some (.own xs)) := by
  unfold extOf at h
  split at h
  · rename_i x p m apos b pos
    split at h
    · rename_i hc
      simp only [Bool.and_eq_true, decide_eq_true_eq] at hc
      obtain ⟨rfl, h1, h2, h3⟩ := hc
      split at h
      · rename_i k hk
        split at h
        · rename_i ys hy
          cases h
          exact ⟨x, p, apos, pos, rfl, h1, h2, h3, hk, hy⟩
        · cases h
      · cases h
    · cases h
  · cases h
theorem rpAll_set {K : PySem.W.Frag} {F : Hp} {v : V} {d : PyData} (r : Rp K F v d) : ∀ {vs : List V} {ds : List PyData} (j : Nat), RpAll K F vs ds → RpAll K F (vs.set j v) (ds.set j d)
  | _, _, _, .nil => .nil
  | _, _, 0, .cons _ t => .cons r t
  | _, _, j + 1, .cons h t => .cons h (rpAll_set r j t)
section
variable {S : Type}
/-- a list of one's own is made -/
def wMk (Γ : Gam S) (m : Nat) (sc : Scope) (ε : En) (s : S) (e : Expr) (Q : List PyData → S → Prop) (E : QX S) : Prop := match e with
  | .List es _ => wArgs (fun e s Q => wE Γ m false sc ε s e Q E) es s fun ss s1 => (match dataAll ss with
    | some ds => ds.length ≤ sizeLine ∧ Q ds s1
    | none => False)
  | .BinOp a .Add b _ => wE Γ m false sc ε s a (fun x s1 => wE Γ m false sc ε s1 b (fun y s2 => match x, y with
    | .d (.list xs), .d (.list ys) => xs.length + ys.length ≤ sizeLine ∧ Q (xs ++ ys) s2
    | _, _ => False) E) E
  | .ListComp elt gs sc2 p => wE Γ m false sc ε s (.ListComp elt gs sc2 p) (fun v s1 => match v with
    | .d (.list ds) => Q ds s1
    | _ => False) E
  | _ => False
def tMk (K : PySem.W.Frag) (W : Wd S) (Γ : Gam S) (m : Nat) (sc : Scope) (e : Expr) : TE := fun σ H R => ∃ ε s Qm Ed F, wMk Γ m sc ε s e Qm Ed ∧ Cy K W F H σ ε s Ed ∧
  ∀ (p : Addr) (vs : List V) (ds : List PyData) (s2 : S) (F2 H2 : Hp), Fm W.rs F H F2 H2 → W.J s2 F2 H2 → Qm ds s2 → H2 p = none → RpAll K F2 vs ds → R (.ref p) (upd H2 p (.lst vs))
variable {X : Cx} {W : Wd S} {Γ : Gam S} {sc : Scope} {m : Nat}
/-- a comprehension's list as one's own -/
theorem lcw_own {K : PySem.W.Frag} {elt : Expr} {gs : List Comprehension} {sc2 : Scope} {pp : Pos} {σ : L2.St} {H : Hp} {R : VK} (h : tMk K W Γ m sc (.ListComp elt gs sc2 pp) σ H R) : tLcW K W Γ m sc (.ListComp elt gs sc2 pp) σ H R := by
  obtain ⟨ε, s, Qm, Ed, F, w, cy, k⟩ := h
  refine ⟨ε, s, _, Ed, F, w, cy, fun D acc ys s3 F2 H2 F3 H3 mm hD m3 j3 hr fd hd ra w4 => ?_⟩
  have nd : ∀ a o, F3 a = some o → a ≠ D := fun a o e z => by
    rw [z, fd] at e
    cases e
  have f3 : Fm W.rs F2 H2 F3 (fun a => if a = D then none else H3 a) := by
    refine ⟨m3.ff, fun a o e => ?_, fun a o c e => ?_, m3.nn, m3.nf⟩
    · show (if a = D then none else H3 a) = some o
      rw [if_neg (nd a o e)]
      exact m3.fh a o e
    · show (if a = D then none else H3 a) = some o
      rw [if_neg (fun z => by rw [z, hD] at e; cases e)]
      exact m3.hh a o c e
  have j4 : W.J s3 F3 (fun a => if a = D then none else H3 a) := W.st s3 F3 H3 F3 _ j3 (fun a o e z => by
    show (if a = D then none else H3 a) = some o
    rw [if_neg (fun y => by
      subst y
      rcases z with z | z
      · exact hr z
      · rw [hd] at e
        cases e
        exact z _ rfl)]
    exact e) (fun a ha => (W.ne s3 F3 H3 j3 a ha).2) fun _ _ e => .inl e
  have r := k D acc ys s3 F3 _ (mm.trans f3) j4 w4 (if_pos rfl) ra
  have e : upd (fun a => if a = D then none else H3 a) D (.lst acc) = H3 := by
    funext a
    by_cases ha : a = D
    · rw [ha, upd_same, hd]
    · rw [upd_ne ha, if_neg ha]
  rw [e] at r
  exact r
theorem pe_mk (C : CxOk X W Γ sc) {e : Expr} (hc : compE e = false) : PE X e (tMk X.K W Γ m sc e) := by
  have ih : ∀ e, PE X e (tWE X.K W Γ m sc e) := fun e => (sound Γ m X W sc C e).1
  have no : (∀ ε s (Q : List PyData → S → Prop) E, ¬ wMk Γ m sc ε s e Q E) → PE X e (tMk X.K W Γ m sc e) := fun h => pe_false fun σ H R ⟨ε, s, Q, E, F, w, _⟩ => h ε s Q E w
  cases e with
  | List es pos =>
    refine pe_imp (pe_lst (pa_wa ih es)) fun σ H R ⟨ε, s, Qm, Ed, F, w, cy, k⟩ => ?_
    refine ⟨ε, s, _, Ed, F, w, cy, fun vs ss s2 F2 H2 mm j q r => ?_⟩
    split at q
    · rename_i ds e
      have ra := data_all e r
      exact ⟨by rw [rpAll_len ra]; exact q.1, fun p hp => k p vs ds s2 F2 H2 mm j q.2 hp ra⟩
    · exact q.elim
  | BinOp a op b pos =>
    cases op with
    | Add =>
      refine pe_imp (pe_op op_cat (ih a) (ih b)) fun σ H R ⟨ε, s, Qm, Ed, F, w, cy, k⟩ => ?_
      refine ⟨ε, s, _, Ed, F, w, cy, fun v x s2 F2 H2 mm j q r => ?_⟩
      refine ⟨ε, s2, _, Ed, F2, q, cy.next mm j, fun u y s3 F3 H3 m3 j3 q3 r3 => ?_⟩
      dsimp only at q3
      split at q3
      · rename_i xs ys
        have r2 := sr_ex m3.ff r
        cases r2 with
        | @lst pa va _ ha ra => cases r3 with
          | @lst pb vb _ hb rb =>
            refine ⟨pa, pb, va, vb, rfl, rfl, m3.fh _ _ ha, m3.fh _ _ hb, by rw [rpAll_len ra, rpAll_len rb]; exact q3.1, fun p hp => ?_⟩
            exact k p _ _ s3 F3 H3 (mm.trans m3) j3 q3.2 hp (rpAll_append ra rb)
      · exact q3.elim
    | _ => exact no fun ε s Q E w => w
  | ListComp elt gs sc2 p => cases hc
  | _ => exact no fun ε s Q E w => w
end
end Z
set_option Elab.async false
set_option linter.all false
set_option maxRecDepth 100000
set_option maxHeartbeats 4000000
namespace Z
open PySem PySem.Spec PyProof.Rows L2 Evl
/-! ### what the compiler does with an assignment -/
theorem swaps0 {e : Expr} {t : Option Expr} {l : Nat} {env : Env} (h : compE e = false) : swapsWith e t l env = pure false := by
  cases e <;> first | rfl | cases h
def lineE (e : Expr) : Nat := e.pos.line
/-- two names take two values, stored from the right -/
def par2 (sc : Scope) (x y : Str) (px py : Pos) (a b : Expr) : Bool :=
  decide (sc.names.lookup x = some .local) && (decide (sc.names.lookup y = some .local) && (decide (x ≠ y) && (decide (py.line = px.line) && (plainE a && (plainE b && (!(([a, b] : List Expr).all (foldedForSure 8)) && !(([a, b] : List Expr).all (constantsAlone 8))))))))
def par3 (sc : Scope) (x y z : Str) (px py pz : Pos) (a b c : Expr) : Bool :=
  decide (sc.names.lookup x = some .local) && (decide (sc.names.lookup y = some .local) && (decide (sc.names.lookup z = some .local) && (decide (x ≠ y) && (decide (x ≠ z) && (decide (y ≠ z) && (decide (py.line = px.line) && (decide (pz.line = px.line) &&
  (plainE a && (plainE b && (plainE c && (!(([a, b, c] : List Expr).all (foldedForSure 8)) && !(([a, b, c] : List Expr).all (constantsAlone 8)))))))))))))
theorem star_any {es : List Expr} (h : es.all plainE = true) : (es.any fun | .Starred .. => true | _ => false) = false := by
  rw [List.any_eq_false]
  intro e he
  have := List.all_eq_true.mp h e he
  cases e <;> first | (intro z; cases z; done) | cases this
theorem star_no {a : Expr} (h : plainE a = true) : (match a with | .Starred .. => true | _ => false) = false := by
  cases a <;> first | rfl | cases h
theorem sws2 {env : Env} {x y : Str} {px py pt pt2 : Pos} {kt k2 : Nat} {a b : Expr} (hk : env.scope.kind = .function) (hx : env.scope.names.lookup x = some .local) (hy : env.scope.names.lookup y = some .local) (hne : x ≠ y) (hl : py.line = px.line)
    (ha : plainE a = true) (hb : plainE b = true) (h1 : (([a, b] : List Expr).all (foldedForSure 8)) = false) (h2 : (([a, b] : List Expr).all (constantsAlone 8)) = false) :
    swappedStores [.Tuple [.Name x px, .Name y py] kt pt] (.Tuple [a, b] k2 pt2) env = pure (some [x, y]) := by
  have bk : env.blockKind = .function := by
    unfold Env.blockKind
    rw [hk]
    rfl
  have kx : env.kindOf x = some .local := hx
  have ky : env.kindOf y = some .local := hy
  have st := star_any (es := [a, b]) (by simp [ha, hb])
  unfold swappedStores
  simp only [List.length_cons, List.length_nil, bk, st, h1, h2, List.filterMap_cons, List.filterMap_nil, kx, ky, List.head?_cons, Option.map_some, Option.getD_some, Expr.pos, hl]
  have e : ([x, y] : List Str).eraseDups = [x, y] := by
    rw [List.eraseDups_cons]
    have : (List.filter (fun b => !b == x) [y]) = [y] := by
      simp [List.filter_cons, beq_iff_eq, Ne.symm hne]
    rw [this]
    rfl
  simp [e]
  intro h
  exfalso
  rcases h with h | h
  · revert h
    cases a <;> first | (cases ha; done) | (intro h; cases h; done)
  · revert h
    cases b <;> first | (cases hb; done) | (intro h; cases h; done)
theorem sws3 {env : Env} {x y z : Str} {px py pz pt pt2 : Pos} {kt k2 : Nat} {a b c : Expr} (hk : env.scope.kind = .function) (hx : env.scope.names.lookup x = some .local) (hy : env.scope.names.lookup y = some .local) (hz : env.scope.names.lookup z = some .local) (hne : x ≠ y) (hn2 : x ≠ z) (hn3 : y ≠ z) (hl : py.line = px.line) (hl2 : pz.line = px.line)
    (ha : plainE a = true) (hb : plainE b = true) (hc : plainE c = true) (h1 : (([a, b, c] : List Expr).all (foldedForSure 8)) = false) (h2 : (([a, b, c] : List Expr).all (constantsAlone 8)) = false) :
    swappedStores [.Tuple [.Name x px, .Name y py, .Name z pz] kt pt] (.Tuple [a, b, c] k2 pt2) env = pure (some [x, y, z]) := by
  have bk : env.blockKind = .function := by
    unfold Env.blockKind
    rw [hk]
    rfl
  have kx : env.kindOf x = some .local := hx
  have ky : env.kindOf y = some .local := hy
  have kz : env.kindOf z = some .local := hz
  have st := star_any (es := [a, b, c]) (by simp [ha, hb, hc])
  unfold swappedStores
  simp only [List.length_cons, List.length_nil, bk, st, h1, h2, List.filterMap_cons, List.filterMap_nil, kx, ky, kz, List.head?_cons, Option.map_some, Option.getD_some, Expr.pos, hl, hl2]
  have e : ([x, y, z] : List Str).eraseDups = [x, y, z] := by
    rw [List.eraseDups_cons]
    have : (List.filter (fun b => !b == x) [y, z]) = [y, z] := by
      simp [List.filter_cons, beq_iff_eq, Ne.symm hne, Ne.symm hn2]
    rw [this, List.eraseDups_cons]
    have : (List.filter (fun b => !b == y) [z]) = [z] := by
      simp [List.filter_cons, beq_iff_eq, Ne.symm hn3]
    rw [this]
    rfl
  simp [e]
  intro h
  exfalso
  rcases h with h | h | h
  · revert h
    cases a <;> first | (cases ha; done) | (intro h; cases h; done)
  · revert h
    cases b <;> first | (cases hb; done) | (intro h; cases h; done)
  · revert h
    cases c <;> first | (cases hc; done) | (intro h; cases h; done)
/-- a pair of which one is a cell is not swapped -/
def cel2 (sc : Scope) (x y : Str) : Bool := decide (sc.names.lookup x = some .cell) || decide (sc.names.lookup y = some .cell)
theorem swsC {env : Env} {x y : Str} {px py pt pt2 : Pos} {kt k2 : Nat} {a b : Expr} (h : env.scope.names.lookup x = some .cell ∨ env.scope.names.lookup y = some .cell) : swappedStores [.Tuple [.Name x px, .Name y py] kt pt] (.Tuple [a, b] k2 pt2) env = pure none := by
  have k : (env.kindOf x == some NameKind.local) = false ∨ (env.kindOf y == some NameKind.local) = false := by
    rcases h with h | h
    · left
      have : env.kindOf x = some .cell := h
      rw [this]
      rfl
    · right
      have : env.kindOf y = some .cell := h
      rw [this]
      rfl
  unfold swappedStores
  rcases k with k | k
  · simp only [List.filterMap_cons, List.filterMap_nil, k, Bool.false_and]
    cases h2 : (env.kindOf y == some NameKind.local && py.line == (Option.map (fun x => x.pos.line) ([Expr.Name x px, Expr.Name y py].head?)).getD 0) <;> simp [h2]
  · simp only [List.filterMap_cons, List.filterMap_nil, k, Bool.false_and]
    cases h2 : (env.kindOf x == some NameKind.local && px.line == (Option.map (fun x => x.pos.line) ([Expr.Name x px, Expr.Name y py].head?)).getD 0) <;> simp [h2]
/-- no pair of displays -/
theorem swap_nm {x : Str} {p : Pos} {e : Expr} {env : Env} : swappedStores [.Name x p] e env = pure none := by
  cases e <;> rfl
theorem swap_ne {tg e : Expr} {env : Env} (h : tupE e = false) : swappedStores [tg] e env = pure none := by
  cases e <;> first | (cases h; done) | (cases tg <;> rfl)
theorem each1 {tg : Expr} {env : Env} (h : plainE tg = true) : (assignEach [tg] env).map (·.2) = [assign tg env] := by
  cases tg <;> first | rfl | cases h
/-- what a statement comes to -/
inductive Out where
  | nx (ε : En)
  | rt (s : Sl)
  | bk (ε : En)
  | ct (ε : En)
section
variable {S : Type}
/-- a loop's turns -/
def wFor (f : PyData → En → S → (Out → S → Prop) → Prop) : List PyData → En → S → (Out → S → Prop) → Prop
  | [], ε, s, O => O (.nx ε) s
  | x :: xs, ε, s, O => f x ε s fun o s1 => match o with
    | .nx ε1 => wFor f xs ε1 s1 O
    | .ct ε1 => wFor f xs ε1 s1 O
    | .bk ε1 => O (.nx ε1) s1
    | .rt v => O (.rt v) s1
def notOwn : Sl → Bool
  | .own _ => false
  | _ => true
/-- what follows a statement -/
def wThen (k : En → S → Prop) (O : Out → S → Prop) (o : Out) (s : S) : Prop := match o with
  | .nx ε => k ε s
  | o => O o s
/-- a name may take this value -/
def asgOk (sc : Scope) (x : Str) (p : Pos) (e : Expr) : Bool := (decide (sc.names.lookup x = some .local) || decide (sc.names.lookup x = some .cell)) && (!compE e || (match e with
  | .ListComp _ _ sc2 p2 => decide (sc.names.lookup x = some .local) && ((p.line == p2.line) && !(sc2.names.any fun (n, k) => n == x && (k == .local || k == .cell)))
  | _ => false))
theorem asgOk_iff {sc : Scope} {x : Str} {p : Pos} {e : Expr} (h : asgOk sc x p e = true) : (sc.names.lookup x = some .local ∨ sc.names.lookup x = some .cell) ∧ (compE e = false ∨ ∃ elt gs sc2 p2, e = .ListComp elt gs sc2 p2 ∧ sc.names.lookup x = some .local ∧ (p.line == p2.line) = true ∧ (sc2.names.any fun (n, k) => n == x && (k == .local || k == .cell)) = false) := by
  unfold asgOk at h
  obtain ⟨h1, h2⟩ := Bool.and_eq_true_iff.mp h
  refine ⟨?_, ?_⟩
  · rcases Bool.or_eq_true_iff.mp h1 with z | z
    · exact .inl (of_decide_eq_true z)
    · exact .inr (of_decide_eq_true z)
  · rcases Bool.or_eq_true_iff.mp h2 with z | z
    · left
      cases q : compE e with
      | false => rfl
      | true =>
        rw [q] at z
        cases z
    · right
      split at z
      · obtain ⟨z1, z2⟩ := Bool.and_eq_true_iff.mp z
        obtain ⟨z2, z3⟩ := Bool.and_eq_true_iff.mp z2
        refine ⟨_, _, _, _, rfl, of_decide_eq_true z1, z2, ?_⟩
        revert z3
        generalize (List.any _ _) = w
        intro z3
        cases w
        · rfl
        · cases z3
      · cases z
/-- the weakest word ahead of a block; m bounds the depth of its expressions, n its own -/
def wB (Γ : Gam S) (m : Nat) : Nat → Scope → En → S → List Stmt → (Out → S → Prop) → QX S → Prop
  | 0, _, _, _, _, _, _ => False
  | n + 1, sc, ε, s, sts, O, E => (match sts with
    | [] => O (.nx ε) s
    | st :: rest => (match st with
      | .Return (some e) _ => wE Γ m false sc (frz ε) s e (fun x s1 => O (.rt x) s1) E
      | .Return none _ => O (.rt (.d .none)) s
      | .Pass _ => wB Γ m n sc ε s rest O E
      | .Break _ => O (.bk ε) s
      | .Continue _ => O (.ct ε) s
      | .Expr e _ => (match appOf Γ.N sc ε e with
        | some (i, xs, a) => (match Γ.raw with
          | true => wE Γ m false sc ε s a (fun v s1 => match v with
            | .d d => xs.length < 100000 ∧ wB Γ m n sc (ε.set i (some (.own (xs ++ [d])))) s1 rest O E
            | _ => False) E
          | false => wE Γ m false sc (frz ε) s a (fun v s1 => match v with
            | .d d => Nl d ∧ (xs.length < 100000 ∧ wB Γ m n sc (ε.set i (some (.own (xs ++ [d])))) s1 rest O E)
            | _ => False) E)
        | none => (match extOf Γ.N sc ε e with
          | some (i, xs, a) => chk Γ.raw (wE Γ m false sc ε s a (fun v s1 => match v with
            | .d (.list ds) => xs.length + ds.length ≤ sizeLine ∧ wB Γ m n sc (ε.set i (some (.own (xs ++ ds)))) s1 rest O E
            | _ => False) E)
          | none => chkN (compE e) (wE Γ m false sc ε s e (fun _ s1 => wB Γ m n sc ε s1 rest O E) E)))
      | .If c a b _ => wE Γ m true sc ε s c (fun x s1 => match x with
        | .d (.bool true) => wB Γ m n sc ε s1 a (wThen (fun ε s => wB Γ m n sc ε s rest O E) O) E
        | .d (.bool false) => wB Γ m n sc ε s1 b (wThen (fun ε s => wB Γ m n sc ε s rest O E) O) E
        | _ => False) E
      | .For tg it body [] _ => chkN (setE it) (match slotsT Γ.N sc tg with
        | none => False
        | some sl => wIter Γ.free sc tg (fun e s Q => wE Γ m false sc ε s e Q E) it s fun xs s1 =>
          wFor (fun x ε s k => match bindS sl x ε with
            | none => False
            | some ε2 => wB Γ m n sc ε2 s body k E) xs ε s1 (wThen (fun ε s => wB Γ m n sc ε s rest O E) O))
      | .Assign [.Name x p] e pos => (match ixOf Γ.N x with
        | none => False
        | some i => chk (asgOk sc x p e) (match mutS n x rest with
          | true => wMk Γ m sc ε s e (fun ds s1 => wB Γ m n sc (ε.set i (some (.own ds))) s1 rest O E) E
          | false => wE Γ m false sc ε s e (fun v s1 => wB Γ m n sc (ε.set i (some v)) s1 rest O E) E))
      | .Assign [.Subscript (.Name x _) ie _] e _ => (match ixOf Γ.N x with
        | none => False
        | some i => (match ε[i]? with
          | some (some (.own xs)) => chk (decide (sc.names.lookup x = some .local) && (!(compE e) && (!(slE ie) && !(tupE e)))) (wE Γ m false sc (frz ε) s e (fun v s1 => match v with
            | .d d => Nl d ∧ wE Γ m false sc (frz ε) s1 ie (fun k s2 => match k with
              | .d (.int k) => (match ixN xs.length k with
                | some j => wB Γ m n sc (ε.set i (some (.own (xs.set j d)))) s2 rest O E
                | none => False)
              | _ => False) E
            | _ => False) E)
          | _ => False))
      | .Assign [.Tuple ts kt pt] e pos => (match ts, e with
        | [.Name x px, .Name y py], .Tuple [a, b] k2 pt2 => (match ixOf Γ.N x, ixOf Γ.N y with
          | some i, some j => (match par2 sc x y px py a b with
            | true => wArgs (fun e s Q => wE Γ m false sc ε s e Q E) [a, b] s fun vs s1 => (match vs with
            | [v, w] => wB Γ m n sc ((ε.set i (some v)).set j (some w)) s1 rest O E
            | _ => False)
            | false => chk (cel2 sc x y) (match slotsT Γ.N sc (.Tuple [.Name x px, .Name y py] kt pt) with
              | none => False
              | some sl => wE Γ m false sc ε s (.Tuple [a, b] k2 pt2) (fun v s1 => match v with
                | .d d => (match bindS sl d ε with
                  | none => False
                  | some ε2 => wB Γ m n sc ε2 s1 rest O E)
                | _ => False) E))
          | _, _ => False)
        | [.Name x px, .Name y py, .Name z pz], .Tuple [a, b, c] k2 pt2 => (match ixOf Γ.N x, ixOf Γ.N y, ixOf Γ.N z with
          | some i, some j, some l => chk (par3 sc x y z px py pz a b c) (wArgs (fun e s Q => wE Γ m false sc ε s e Q E) [a, b, c] s fun vs s1 => (match vs with
            | [v, w, u] => wB Γ m n sc (((ε.set i (some v)).set j (some w)).set l (some u)) s1 rest O E
            | _ => False))
          | _, _, _ => False)
        | ts, e => (match slotsT Γ.N sc (.Tuple ts kt pt) with
          | none => False
          | some sl => chkN (tupE e || compE e) (wE Γ m false sc ε s e (fun v s1 => match v with
            | .d d => (match bindS sl d ε with
              | none => False
              | some ε2 => wB Γ m n sc ε2 s1 rest O E)
            | _ => False) E)))
      | _ => False))
end
end Z
set_option Elab.async false
set_option linter.all false
set_option maxRecDepth 100000
set_option maxHeartbeats 4000000
namespace Z
open PySem PySem.Spec PyProof.Rows L2 Evl
section
variable {S : Type}
/-- what is wanted behind, from the frozen part F1 on -/
def Hold1 (K : PySem.W.Frag) (W : Wd S) (D : Ends) (F1 : Hp) (s : S) : Out → Prop
  | .nx ε => ∀ σ F H, Fm W.rs W.F0 W.H0 F H → Ex F1 F → Ers K W F H σ ε → W.J s F H → D.nx σ H
  | .bk ε => ∀ σ F H, Fm W.rs W.F0 W.H0 F H → Ex F1 F → Ers K W F H σ ε → W.J s F H → D.bk σ H
  | .ct ε => ∀ σ F H, Fm W.rs W.F0 W.H0 F H → Ex F1 F → Ers K W F H σ ε → W.J s F H → D.ct σ H
  | .rt sl => ∀ v F H, Fm W.rs W.F0 W.H0 F H → W.J s F H → Sr K F v sl → D.rt v H
def Hold (K : PySem.W.Frag) (W : Wd S) (D : Ends) (F1 : Hp) (O : Out → S → Prop) : Prop := ∀ o s, O o s → Hold1 K W D F1 s o
theorem Hold.next {K : PySem.W.Frag} {W : Wd S} {D : Ends} {F1 F2 : Hp} {O : Out → S → Prop} (h : Hold K W D F1 O) (e : Ex F1 F2) : Hold K W D F2 O := fun o s q => by
  have z := h o s q
  cases o with
  | nx ε => exact fun σ F H a b c d => z σ F H a (e.trans b) c d
  | bk ε => exact fun σ F H a b c d => z σ F H a (e.trans b) c d
  | ct ε => exact fun σ F H a b c d => z σ F H a (e.trans b) c d
  | rt sl => exact z
structure Cz (K : PySem.W.Frag) (W : Wd S) (F H : Hp) (σ : L2.St) (ε : En) (s : S) (Ed : QX S) : Prop where
  fm : Fm W.rs W.F0 W.H0 F H
  er : Ers K W F H σ ε
  j : W.J s F H
  kx : Kx K W.rs W.J W.cls W.F0 W.H0 Ed W.xe
theorem Cz.cy {K : PySem.W.Frag} {W : Wd S} {F H : Hp} {σ : L2.St} {ε : En} {s : S} {Ed : QX S} (c : Cz K W F H σ ε s Ed) : Cy K W F H σ ε s Ed := ⟨c.fm.fh, c.er, c.j, c.kx.next c.fm⟩
theorem Cz.next {K : PySem.W.Frag} {W : Wd S} {F H F2 H2 : Hp} {σ : L2.St} {ε : En} {s s2 : S} {Ed : QX S} (c : Cz K W F H σ ε s Ed) (m : Fm W.rs F H F2 H2) (j : W.J s2 F2 H2) : Cz K W F2 H2 σ ε s2 Ed := ⟨c.fm.trans m, c.er.fm m, j, c.kx⟩
/-- a block's reading -/
def tWB (K : PySem.W.Frag) (W : Wd S) (Γ : Gam S) (m n : Nat) (sc : Scope) (sts : List Stmt) : TS := fun D σ H => ∃ ε s O Ed F, wB Γ m n sc ε s sts O Ed ∧ Cz K W F H σ ε s Ed ∧ Hold K W D F O
theorem pss_false {X : Cx} {sts : List Stmt} {t : TS} (h : ∀ D σ H, ¬ t D σ H) : PSs X sts t := ⟨fun _ _ σ H D _ q => (h D σ H q).elim⟩
variable {X : Cx} {W : Wd S} {Γ : Gam S} {sc : Scope} {m n : Nat}
/-- behind the first statement -/
theorem hold_then {K : PySem.W.Frag} {D : Ends} {F1 : Hp} {O : Out → S → Prop} {rest : List Stmt} {Ed : QX S} (h : Hold K W D F1 O) (kx : Kx K W.rs W.J W.cls W.F0 W.H0 Ed W.xe) :
    Hold K W { D with nx := tWB K W Γ m n sc rest D } F1 (wThen (fun ε s => wB Γ m n sc ε s rest O Ed) O) := by
  intro o s q
  cases o with
  | nx ε => exact fun σ F H a b c d => ⟨ε, s, O, Ed, F, q, ⟨a, c, d, kx⟩, h.next b⟩
  | bk ε => exact h _ s q
  | ct ε => exact h _ s q
  | rt sl => exact h _ s q
theorem sole0 {tg e : Expr} {l : Nat} {env : Env} (h : compE e = false) : swapsWithSole [tg] e l env = pure false := by
  unfold swapsWithSole
  exact swaps0 h
theorem not_t {b : Bool} (h : (!b) = true) : b = false := by
  cases b
  · rfl
  · cases h
theorem loop_at {α : Type} {xs : List α} {i : Nat} (h : i < xs.length) : xs.drop i = xs[i] :: xs.drop (i + 1) := List.drop_eq_getElem_cons h
variable (C : CxOk X W Γ sc)
include C
theorem ps_forw {tg it : Expr} {body rest : List Stmt} {pos : Pos} (ihb : ∀ sts, PSs X sts (tWB X.K W Γ m n sc sts)) :
    PSs X (.For tg it body [] pos :: rest) (tWB X.K W Γ m (n + 1) sc (.For tg it body [] pos :: rest)) := by
  have ih : ∀ e, PE X e (tWE X.K W Γ m sc e) := fun e => (sound Γ m X W sc C e).1
  cases hset : setE it with
  | true =>
    refine pss_false fun D σ H ⟨ε, s, O, Ed, F, w, cz, ho⟩ => ?_
    simp only [wB, chk_iff, chkN_iff, hset] at w
    exact Bool.false_ne_true w.1.symm
  | false =>
    cases hsl : slotsT Γ.N sc tg with
    | none =>
      refine pss_false fun D σ H ⟨ε, s, O, Ed, F, w, cz, ho⟩ => ?_
      simp only [wB, chk_iff, chkN_iff, hsl] at w
      exact w.2
    | some sl =>
      refine pss_imp (pss_cons (ps_for C.po C.calm (pi_w C ih it) (pg_w C hsl) (ihb body) (fold0 X.env hset)) (ihb rest)) fun D σ H ⟨ε, s, O, Ed, F, w, cz, ho⟩ => ?_
      simp only [wB, chk_iff, chkN_iff, hsl] at w
      refine ⟨ε, s, _, Ed, F, w.2, cz.cy, fun J xs s2 F2 H2 mm j q wk => ?_⟩
      have cz2 : Cz X.K W F2 H2 σ ε s2 Ed := cz.next mm j
      have ho2 : Hold X.K W { D with nx := tWB X.K W Γ m n sc rest D } F2 (wThen (fun ε s => wB Γ m n sc ε s rest O Ed) O) := hold_then (ho.next mm.ff) cz.kx
      refine ⟨fun i k σ H => k = xs.length - i ∧ i ≤ xs.length ∧ ∃ ε s F, Cz X.K W F H σ ε s Ed ∧ Ex F2 F ∧ wFor (fun x ε s k => match bindS sl x ε with
            | none => False
            | some ε2 => wB Γ m n sc ε2 s body k Ed) (xs.drop i) ε s (wThen (fun ε s => wB Γ m n sc ε s rest O Ed) O), ⟨xs.length, rfl, Nat.zero_le _, ε, s2, F2, cz2, Ex.refl F2, q⟩, ?_⟩
      rintro i k σ3 H3 ⟨rfl, hle, ε3, s3, F3, cz3, e3, w3⟩
      by_cases hi : i < xs.length
      · right
        obtain ⟨go, yld⟩ := (wk i F3 H3 e3 cz3.fm.fh).1 _ (List.getElem?_eq_getElem hi)
        rw [loop_at hi] at w3
        simp only [wFor] at w3
        refine ⟨go, fun σ4 H4 => ∃ ε s F, Cz X.K W F H4 σ4 ε s Ed ∧ Ex F2 F ∧ wFor (fun x ε s k => match bindS sl x ε with
            | none => False
            | some ε2 => wB Γ m n sc ε2 s body k Ed) (xs.drop (i + 1)) ε s (wThen (fun ε s => wB Γ m n sc ε s rest O Ed) O), fun σ4 H4 z => ⟨xs.length - (i + 1), by omega, rfl, hi, z⟩, fun v H4 hv => ?_⟩
        obtain ⟨F4, m4, rv⟩ := yld v H4 hv
        have cz4 := cz3.next m4.more (Wd.pure cz3.j m4)
        cases hb : bindS sl xs[i] ε3 with
        | none =>
          simp only [hb] at w3
        | some ε2 =>
          simp only [hb] at w3
          refine gS_put m4.fh hb rv cz4.er (slotsT_one hsl) fun σ5 e5 _ _ => ?_
          refine ⟨ε2, s3, _, Ed, F4, w3, ⟨cz4.fm, e5, cz4.j, cz.kx⟩, fun o s6 q6 => ?_⟩
          cases o with
          | nx ε6 => exact fun σ F H a b c d => ⟨ε6, s6, F, ⟨a, c, d, cz.kx⟩, (e3.trans m4.ff).trans b, q6⟩
          | ct ε6 => exact fun σ F H a b c d => ⟨ε6, s6, F, ⟨a, c, d, cz.kx⟩, (e3.trans m4.ff).trans b, q6⟩
          | bk ε6 => exact fun σ F H a b c d => (ho2.next (e3.trans m4.ff)) (.nx ε6) s6 q6 σ F H a b c d
          | rt v6 => exact ho2 (.rt v6) s6 q6
      · left
        have e : i = xs.length := by omega
        subst e
        refine ⟨(wk _ F3 H3 e3 cz3.fm.fh).2 (Nat.le_refl _), ?_⟩
        rw [List.drop_length] at w3
        exact (ho2.next e3) (.nx ε3) s3 w3 σ3 F3 H3 cz3.fm (Ex.refl F3) cz3.er cz3.j
theorem nmSlot {x : Str} {i : Nat} (e : ixOf Γ.N x = some i) : X.N[i]? = some x := by
  rw [C.n]
  exact ixOf_get e
theorem ps_nmw {x : Str} {p pos : Pos} {e : Expr} {rest : List Stmt} (ihb : ∀ sts, PSs X sts (tWB X.K W Γ m n sc sts)) :
    PSs X (.Assign [.Name x p] e pos :: rest) (tWB X.K W Γ m (n + 1) sc (.Assign [.Name x p] e pos :: rest)) := by
  cases hx : ixOf Γ.N x with
  | none =>
    refine pss_false fun D σ H ⟨ε, s, O, Ed, F, w, cz, ho⟩ => ?_
    simp only [wB, chk_iff, chkN_iff, hx] at w
  | some i =>
    by_cases hk : asgOk sc x p e = true
    case neg =>
      refine pss_false fun D σ H ⟨ε, s, O, Ed, F, w, cz, ho⟩ => ?_
      simp only [wB, chk_iff, chkN_iff, hx] at w
      exact hk w.1
    obtain ⟨hloc, hcomp⟩ := asgOk_iff hk
    have mk : ∀ (D : Ends) (σ : L2.St) (H : Hp), mutS n x rest = true → tWB X.K W Γ m (n + 1) sc (.Assign [.Name x p] e pos :: rest) D σ H → tMk X.K W Γ m sc e σ H fun v H1 => tWB X.K W Γ m n sc rest D (σ.set i (some v)) H1 := by
      rintro D σ H hmut ⟨ε, s, O, Ed, F, w, cz, ho⟩
      simp only [wB, chk_iff, chkN_iff, hx, hmut] at w
      refine ⟨ε, s, _, Ed, F, w.2, cz.cy, fun p vs ds s2 F2 H2 mm j q hp ra => ?_⟩
      have c2 := cz.next mm j
      have fo : Fm W.rs F2 H2 F2 (upd H2 p (.lst vs)) := Fm.own c2.fm.fh hp
      obtain ⟨ps, er⟩ := c2.er
      obtain ⟨ps', er3, _⟩ := (er.fm fo).putOwn (c2.fm.fresh0 j hp) (fresh_back c2.fm.fh hp) upd_same ra (fun z => er.ne j p z hp) i
      exact ⟨ε.set i (some (.own ds)), s2, O, Ed, F2, q, ⟨c2.fm.trans fo, ⟨ps', er3⟩, Wd.put j (Wd.rs_ne j hp) (fun u e => by rw [hp] at e; cases e) _, cz.kx⟩, ho.next mm.ff⟩
    have fin : ∀ (D : Ends) (σ : L2.St) (H : Hp), mutS n x rest = false → tWB X.K W Γ m (n + 1) sc (.Assign [.Name x p] e pos :: rest) D σ H → tWE X.K W Γ m sc e σ H fun v H1 => tWB X.K W Γ m n sc rest D (σ.set i (some v)) H1 := by
      rintro D σ H hmut ⟨ε, s, O, Ed, F, w, cz, ho⟩
      simp only [wB, chk_iff, chkN_iff, hx, hmut] at w
      refine ⟨ε, s, _, Ed, F, w.2, cz.cy, fun v sl s2 F2 H2 mm j q r => ?_⟩
      have c2 := cz.next mm j
      exact ⟨ε.set i (some sl), s2, O, Ed, F2, q, ⟨c2.fm, c2.er.put r i, j, cz.kx⟩, ho.next mm.ff⟩
    rcases hcomp with hc | ⟨elt, gs, sc2, p2, rfl, hl, hline, hany⟩
    · cases hmut : mutS n x rest with
      | true => exact pss_imp (pss_cons (ps_asg (pe_mk (m := m) C hc) (pg_nm C hloc hx) (sole0 hc) swap_nm (each1 rfl)) (ihb rest)) fun D σ H h => mk D σ H hmut h
      | false => exact pss_imp (pss_cons (ps_asg (sound Γ m X W sc C e).1 (pg_nm C hloc hx) (sole0 hc) swap_nm (each1 rfl)) (ihb rest)) fun D σ H h => fin D σ H hmut h
    · have both : ∀ (D : Ends) (σ : L2.St) (H : Hp), tWB X.K W Γ m (n + 1) sc (.Assign [.Name x p] (.ListComp elt gs sc2 p2) pos :: rest) D σ H → tLcW X.K W Γ m sc (.ListComp elt gs sc2 p2) σ H fun v H1 => tWB X.K W Γ m n sc rest D (σ.set i (some v)) H1 := fun D σ H z => by
        cases hmut : mutS n x rest with
        | true => exact lcw_own (mk D σ H hmut z)
        | false => exact lcw_of (fin D σ H hmut z)
      have gone : (∀ σ H R, ¬ tLcW X.K W Γ m sc (.ListComp elt gs sc2 p2) σ H R) → PSs X (.Assign [.Name x p] (.ListComp elt gs sc2 p2) pos :: rest) (tWB X.K W Γ m (n + 1) sc (.Assign [.Name x p] (.ListComp elt gs sc2 p2) pos :: rest)) :=
        fun h => pss_false fun D σ H z => h σ H _ (both D σ H z)
      have nd : X.N.Nodup := by
        rw [C.n]
        exact C.nd
      cases m with
      | zero =>
        refine gone fun σ H R ⟨ε, s, Qd, Ed, F, w, cy, kq⟩ => ?_
        simp only [wE, chk_iff, chkN_iff, Bool.and_eq_true, decide_eq_true_eq, isG_iff, Bool.not_eq_true', and_assoc] at w
      | succ m =>
        match gs with
        | [⟨tg, iter, ifs, k⟩] =>
          by_cases hk : k = 0
          · subst hk
            rcases lc_all C (fun X' W' sc' C' e => sound Γ m X' W' sc' C' e) (elt := elt) (tg := tg) (iter := iter) (ifs := ifs) (pos := p2) (sc2 := sc2) with h | ⟨wi, g, tt, te, own, h1, h2, h3, h4, h5, h6, h7⟩
            · exact gone h
            · refine pss_imp (pss_cons (ps_setLc C.calm nd (nmSlot C hx) (C.lo x hl) (sw_true C.kind (C.lo x hl) hline hany) h1 h2 h3 h4 h5 h6) (ihb rest)) fun D σ H z => ?_
              exact h7 σ H _ (both D σ H z)
          · refine gone fun σ H R ⟨ε, s, Qd, Ed, F, w, cy, kq⟩ => ?_
            unfold wE at w
            split at w
            all_goals first
              | (rename_i h; cases h; done)
              | simp_all
        | [] =>
          refine gone fun σ H R ⟨ε, s, Qd, Ed, F, w, cy, kq⟩ => ?_
          simp only [wE, chk_iff, chkN_iff, Bool.and_eq_true, decide_eq_true_eq, isG_iff, Bool.not_eq_true', and_assoc] at w
        | _ :: _ :: _ =>
          refine gone fun σ H R ⟨ε, s, Qd, Ed, F, w, cy, kq⟩ => ?_
          simp only [wE, chk_iff, chkN_iff, Bool.and_eq_true, decide_eq_true_eq, isG_iff, Bool.not_eq_true', and_assoc] at w
theorem ps_setO {x : Str} {px p2 pos : Pos} {ie e : Expr} {rest : List Stmt} (ihb : ∀ sts, PSs X sts (tWB X.K W Γ m n sc sts)) :
    PSs X (.Assign [.Subscript (.Name x px) ie p2] e pos :: rest) (tWB X.K W Γ m (n + 1) sc (.Assign [.Subscript (.Name x px) ie p2] e pos :: rest)) := by
  have ih : ∀ e, PE X e (tWE X.K W Γ m sc e) := fun e => (sound Γ m X W sc C e).1
  cases hx : ixOf Γ.N x with
  | none =>
    refine pss_false fun D σ H ⟨ε, s, O, Ed, F, w, cz, ho⟩ => ?_
    simp only [wB, chk_iff, chkN_iff, hx] at w
  | some i =>
    by_cases hk : sc.names.lookup x = some .local ∧ compE e = false ∧ slE ie = false ∧ tupE e = false
    case neg =>
      refine pss_false fun D σ H ⟨ε, s, O, Ed, F, w, cz, ho⟩ => ?_
      simp only [wB, chk_iff, chkN_iff, hx] at w
      split at w
      · simp only [chk_iff, Bool.and_eq_true, decide_eq_true_eq, Bool.not_eq_true'] at w
        exact hk w.1
      · exact w
    obtain ⟨hl, hc, hsl, ht⟩ := hk
    have nd := okSc_no C.dbg hl
    have ha : ∀ v, assign (.Subscript (.Name x px) ie p2) X.env v = (do
      let ov ← holding [v] (eval (.Name x px) X.env)
      let iv ← holding [v, ov] (eval ie X.env)
      standAt p2
      holding [v, ov, iv] (setItem ov iv v)
      release [v, ov, iv] []) := by
      intro v
      cases ie <;> first | rfl | cases hsl
    refine pss_imp (pss_cons (ps_asg (ih e) (pg_sub (pe_var (nmSlot C hx) (CxOk.vis C (.inl hl)) nd.1 nd.2.1) (ih ie) L2.set_list ha) (sole0 hc) (swap_ne ht) (each1 rfl)) (ihb rest)) fun D σ H ⟨ε, s, O, Ed, F, w, cz, ho⟩ => ?_
    simp only [wB, chk_iff, chkN_iff, hx] at w
    split at w
    · rename_i xs hown
      replace w := w.2
      obtain ⟨ps, er⟩ := cz.er
      have z := freeze cz.fm er cz.j
      refine ⟨frz ε, s, _, Ed, _, w, ⟨z.fm.fh, ⟨_, z.er⟩, z.j, cz.kx.next z.fm⟩, fun v sl s2 F2 H2 mm j q r => ?_⟩
      obtain ⟨e1, fm1, er1, j1, nx1⟩ := thaw cz.fm er z mm j
      dsimp only at q
      split at q
      · rename_i d
        obtain ⟨nl, q⟩ := q
        have r1 : Rp X.K (thF F F2) v d := rp_nl nx1 d v nl r
        obtain ⟨p, vs, g1, _⟩ := er1.change hown
        have z2 := freeze fm1 er1 j1
        refine ⟨.ref p, g1, frz ε, s2, _, Ed, _, q, ⟨z2.fm.fh, ⟨_, z2.er⟩, z2.j, cz.kx.next z2.fm⟩, fun k slk s3 F3 H3 m3 j3 q3 r3 => ?_⟩
        obtain ⟨e2, fm2, er2, j2, nx2⟩ := thaw fm1 er1 z2 m3 j3
        dsimp only at q3
        split at q3
        · rename_i kk
          cases r3
          split at q3
          · rename_i jj hj
            obtain ⟨p', vs', g1', mem, hp, ra, hr, hf, h0, ch⟩ := er2.change hown
            have pe : p' = p := by
              rw [g1] at g1'
              cases g1'
              rfl
            subst pe
            refine ⟨p', vs', kk, jj, rfl, rfl, hp, by rw [rpAll_len ra]; exact hj, ?_⟩
            exact ⟨ε.set i (some (.own (xs.set jj d))), s3, O, Ed, _, q3, ⟨fm2.change h0 hf (.inr ⟨vs', hp⟩) _, ⟨ps, ch _ _ (rpAll_set (dp_ex e2 _ _ r1) jj ra)⟩, Wd.put j2 hr (fun u e => by rw [hp] at e; cases e; exact ⟨_, rfl⟩) _, cz.kx⟩, ho.next (e1.trans e2)⟩
          · exact q3.elim
        · exact q3.elim
      · exact q.elim
    · exact w.elim
theorem ps_appO {x : Str} {px apos cpos pos : Pos} {a : Expr} {rest : List Stmt} {i : Nat} (ihb : ∀ sts, PSs X sts (tWB X.K W Γ m n sc sts))
    (h1 : plainE a = true) (h2 : (apos.endLine == cpos.line) = true) (hl : sc.names.lookup x = some .local) (hx : ixOf Γ.N x = some i) :
    PSs X (.Expr (.Call (.Attribute (.Name x px) "append" apos) [a] [] cpos) pos :: rest) (fun D σ H => ∃ ε s O Ed F xs, ε[i]? = some (some (.own xs)) ∧ wE Γ m false sc (frz ε) s a (fun v s1 => match v with
          | .d d => Nl d ∧ (xs.length < 100000 ∧ wB Γ m n sc (ε.set i (some (.own (xs ++ [d])))) s1 rest O Ed)
          | _ => False) Ed ∧ Cz X.K W F H σ ε s Ed ∧ Hold X.K W D F O) := by
  have ih : ∀ e, PE X e (tWE X.K W Γ m sc e) := fun e => (sound Γ m X W sc C e).1
  have nd := okSc_no C.dbg hl
  refine pss_imp (pss_cons (ps_expr (pe_bm F.plainAttrs_list F.slot_list_append F.type_list_append mt_append (pe_var (nmSlot C hx) (CxOk.vis C (.inl hl)) nd.1 nd.2.1) (pa_cons (ih a) pa_nil (star1 [] X.env h1)) (base0 X.env rfl) (by rw [star1 [] X.env h1]; rfl) h2 (star1 [] X.env h1) rfl) (swaps0 rfl)) (ihb rest)) fun D σ H ⟨ε, s, O, Ed, F, xs, hown, w, cz, ho⟩ => ?_
  obtain ⟨ps, er⟩ := cz.er
  have z := freeze cz.fm er cz.j
  obtain ⟨p, vs, g1, _, hp, _⟩ := er.change hown
  refine ⟨.ref p, g1, Or.inl ⟨rfl, vs, sq_of hp⟩, frz ε, s, _, Ed, _, w, ⟨z.fm.fh, ⟨_, z.er⟩, z.j, cz.kx.next z.fm⟩, fun v sl s2 F2 H2 mm j q r => ?_⟩
  obtain ⟨e1, fm1, er1, j1, nx1⟩ := thaw cz.fm er z mm j
  dsimp only at q
  split at q
  · rename_i d
    obtain ⟨nl, hz, q⟩ := q
    have r1 : Rp X.K (thF F F2) v d := rp_nl nx1 d v nl r
    obtain ⟨p', vs', g1', mem, hp', ra, hr, hf, h0, ch⟩ := er1.change hown
    have pe : p' = p := by
      rw [g1] at g1'
      cases g1'
      rfl
    subst pe
    refine ⟨p', vs', v, rfl, rfl, hp', sz_lt (by rw [rpAll_len ra]; exact hz), ?_⟩
    exact ⟨ε.set i (some (.own (xs ++ [d]))), s2, O, Ed, _, q, ⟨fm1.change h0 hf (.inr ⟨vs', hp'⟩) _, ⟨ps, ch _ _ (rpAll_append ra (.cons r1 .nil))⟩, Wd.put j1 hr (fun u e => by rw [hp'] at e; cases e; exact ⟨_, rfl⟩) _, cz.kx⟩, ho.next e1⟩
  · exact q.elim
/-- an own list that may hold lists: the argument is read without it -/
theorem ps_appR {x : Str} {px apos cpos pos : Pos} {a : Expr} {rest : List Stmt} {i : Nat} (ihb : ∀ sts, PSs X sts (tWB X.K W Γ m n sc sts))
    (h1 : plainE a = true) (h2 : (apos.endLine == cpos.line) = true) (hl : sc.names.lookup x = some .local) (hx : ixOf Γ.N x = some i) :
    PSs X (.Expr (.Call (.Attribute (.Name x px) "append" apos) [a] [] cpos) pos :: rest) (fun D σ H => ∃ ε s O Ed F xs, ε[i]? = some (some (.own xs)) ∧ wE Γ m false sc ε s a (fun v s1 => match v with
          | .d d => xs.length < 100000 ∧ wB Γ m n sc (ε.set i (some (.own (xs ++ [d])))) s1 rest O Ed
          | _ => False) Ed ∧ Cz X.K W F H σ ε s Ed ∧ Hold X.K W D F O) := by
  have ih : ∀ e, PE X e (tWE X.K W Γ m sc e) := fun e => (sound Γ m X W sc C e).1
  have nd := okSc_no C.dbg hl
  refine pss_imp (pss_cons (ps_expr (pe_bm F.plainAttrs_list F.slot_list_append F.type_list_append mt_append (pe_var (nmSlot C hx) (CxOk.vis C (.inl hl)) nd.1 nd.2.1) (pa_cons (ih a) pa_nil (star1 [] X.env h1)) (base0 X.env rfl) (by rw [star1 [] X.env h1]; rfl) h2 (star1 [] X.env h1) rfl) (swaps0 rfl)) (ihb rest)) fun D σ H ⟨ε, s, O, Ed, F, xs, hown, w, cz, ho⟩ => ?_
  obtain ⟨ps, er⟩ := cz.er
  obtain ⟨p, vs, g1, _, hp, _⟩ := er.change hown
  refine ⟨.ref p, g1, Or.inl ⟨rfl, vs, sq_of hp⟩, ε, s, _, Ed, F, w, cz.cy, fun v sl s2 F2 H2 mm j q r => ?_⟩
  have c2 := cz.next mm j
  have er1 := er.fm mm
  dsimp only at q
  split at q
  · rename_i d
    obtain ⟨hz, q⟩ := q
    obtain ⟨p', vs', g1', mem, hp', ra, hr, hf, h0, ch⟩ := er1.change hown
    have pe : p' = p := by
      rw [g1] at g1'
      cases g1'
      rfl
    subst pe
    refine ⟨p', vs', v, rfl, rfl, hp', sz_lt (by rw [rpAll_len ra]; exact hz), ?_⟩
    exact ⟨ε.set i (some (.own (xs ++ [d]))), s2, O, Ed, _, q, ⟨c2.fm.change h0 hf (.inr ⟨vs', hp'⟩) _, ⟨ps, ch _ _ (rpAll_append ra (.cons r .nil))⟩, Wd.put j hr (fun u e => by rw [hp'] at e; cases e; exact ⟨_, rfl⟩) _, cz.kx⟩, ho.next mm.ff⟩
  · exact q.elim
theorem ps_extR {x : Str} {px apos cpos pos : Pos} {a : Expr} {rest : List Stmt} {i : Nat} (ihb : ∀ sts, PSs X sts (tWB X.K W Γ m n sc sts))
    (h1 : plainE a = true) (h2 : (apos.endLine == cpos.line) = true) (hl : sc.names.lookup x = some .local) (hx : ixOf Γ.N x = some i) :
    PSs X (.Expr (.Call (.Attribute (.Name x px) "extend" apos) [a] [] cpos) pos :: rest) (fun D σ H => ∃ ε s O Ed F xs, ε[i]? = some (some (.own xs)) ∧ wE Γ m false sc ε s a (fun v s1 => match v with
          | .d (.list ds) => xs.length + ds.length ≤ sizeLine ∧ wB Γ m n sc (ε.set i (some (.own (xs ++ ds)))) s1 rest O Ed
          | _ => False) Ed ∧ Cz X.K W F H σ ε s Ed ∧ Hold X.K W D F O) := by
  have ih : ∀ e, PE X e (tWE X.K W Γ m sc e) := fun e => (sound Γ m X W sc C e).1
  have nd := okSc_no C.dbg hl
  refine pss_imp (pss_cons (ps_expr (pe_bm F.plainAttrs_list F.slot_list_extend F.type_list_extend mt_extend (pe_var (nmSlot C hx) (CxOk.vis C (.inl hl)) nd.1 nd.2.1) (pa_cons (ih a) pa_nil (star1 [] X.env h1)) (base0 X.env rfl) (by rw [star1 [] X.env h1]; rfl) h2 (star1 [] X.env h1) rfl) (swaps0 rfl)) (ihb rest)) fun D σ H ⟨ε, s, O, Ed, F, xs, hown, w, cz, ho⟩ => ?_
  obtain ⟨ps, er⟩ := cz.er
  obtain ⟨p, vs, g1, _, hp, _⟩ := er.change hown
  refine ⟨.ref p, g1, Or.inl ⟨rfl, vs, sq_of hp⟩, ε, s, _, Ed, F, w, cz.cy, fun v sl s2 F2 H2 mm j q r => ?_⟩
  have c2 := cz.next mm j
  have er1 := er.fm mm
  dsimp only at q
  split at q
  · rename_i ds
    obtain ⟨hz, q⟩ := q
    obtain ⟨p', vs', g1', mem, hp', ra, hr, hf, h0, ch⟩ := er1.change hown
    have pe : p' = p := by
      rw [g1] at g1'
      cases g1'
      rfl
    subst pe
    have r : Rp X.K F2 v (.list ds) := r
    cases r with
    | @lst b zs _ hb rb =>
      refine ⟨p', b, vs', zs, rfl, rfl, hp', mm.fh b _ hb, by rw [rpAll_len ra, rpAll_len rb]; exact hz, ?_⟩
      exact ⟨ε.set i (some (.own (xs ++ ds))), s2, O, Ed, _, q, ⟨c2.fm.change h0 hf (.inr ⟨vs', hp'⟩) _, ⟨ps, ch _ _ (rpAll_append ra rb)⟩, Wd.put j hr (fun u e => by rw [hp'] at e; cases e; exact ⟨_, rfl⟩) _, cz.kx⟩, ho.next mm.ff⟩
  · exact q.elim
theorem ps_tupw {ts : List Expr} {kt : Nat} {pt pos : Pos} {e : Expr} {rest : List Stmt} (ihb : ∀ sts, PSs X sts (tWB X.K W Γ m n sc sts))
    (hw : ∀ ε s (O : Out → S → Prop) Ed, wB Γ m (n + 1) sc ε s (.Assign [.Tuple ts kt pt] e pos :: rest) O Ed → (match slotsT Γ.N sc (.Tuple ts kt pt) with
          | none => False
          | some sl => chkN (tupE e || compE e) (wE Γ m false sc ε s e (fun v s1 => match v with
            | .d d => (match bindS sl d ε with
              | none => False
              | some ε2 => wB Γ m n sc ε2 s1 rest O Ed)
            | _ => False) Ed))) :
    PSs X (.Assign [.Tuple ts kt pt] e pos :: rest) (tWB X.K W Γ m (n + 1) sc (.Assign [.Tuple ts kt pt] e pos :: rest)) := by
  cases hsl : slotsT Γ.N sc (.Tuple ts kt pt) with
  | none =>
    refine pss_false fun D σ H ⟨ε, s, O, Ed, F, w, cz, ho⟩ => ?_
    have z := hw ε s O Ed w
    simp only [hsl] at z
  | some sl =>
    by_cases hk : tupE e = false ∧ compE e = false
    case neg =>
      refine pss_false fun D σ H ⟨ε, s, O, Ed, F, w, cz, ho⟩ => ?_
      have z := hw ε s O Ed w
      simp only [hsl, chkN_iff, Bool.or_eq_false_iff] at z
      exact hk z.1
    refine pss_imp (pss_cons (ps_asg (sound Γ m X W sc C e).1 (pg_w C hsl) (sole0 hk.2) (swap_ne hk.1) (each1 rfl)) (ihb rest)) fun D σ H ⟨ε, s, O, Ed, F, w, cz, ho⟩ => ?_
    have z := hw ε s O Ed w
    simp only [hsl, chkN_iff, Bool.or_eq_false_iff] at z
    refine ⟨ε, s, _, Ed, F, z.2, cz.cy, fun v sv s2 F2 H2 mm j q r => ?_⟩
    have c2 := cz.next mm j
    cases sv with
    | d d =>
      dsimp only at q
      cases hb : bindS sl d ε with
      | none =>
        rw [hb] at q
        exact q.elim
      | some ε2 =>
        simp only [hb] at q
        exact gS_put mm.fh hb r c2.er (slotsT_one hsl) fun σ5 e5 _ _ => ⟨ε2, s2, O, Ed, F2, q, ⟨c2.fm, e5, j, cz.kx⟩, ho.next mm.ff⟩
    | _ => exact False.elim q
theorem ps_tupg {ts : List Expr} {kt : Nat} {pt pos : Pos} {e : Expr} {rest : List Stmt} (ihb : ∀ sts, PSs X sts (tWB X.K W Γ m n sc sts)) (hc : compE e = false) (hs : swappedStores [.Tuple ts kt pt] e X.env = pure none)
    (hw : ∀ ε s (O : Out → S → Prop) Ed, wB Γ m (n + 1) sc ε s (.Assign [.Tuple ts kt pt] e pos :: rest) O Ed → (match slotsT Γ.N sc (.Tuple ts kt pt) with
          | none => False
          | some sl => (wE Γ m false sc ε s e (fun v s1 => match v with
            | .d d => (match bindS sl d ε with
              | none => False
              | some ε2 => wB Γ m n sc ε2 s1 rest O Ed)
            | _ => False) Ed))) :
    PSs X (.Assign [.Tuple ts kt pt] e pos :: rest) (tWB X.K W Γ m (n + 1) sc (.Assign [.Tuple ts kt pt] e pos :: rest)) := by
  cases hsl : slotsT Γ.N sc (.Tuple ts kt pt) with
  | none =>
    refine pss_false fun D σ H ⟨ε, s, O, Ed, F, w, cz, ho⟩ => ?_
    have z := hw ε s O Ed w
    simp only [hsl] at z
  | some sl =>
    refine pss_imp (pss_cons (ps_asg (sound Γ m X W sc C e).1 (pg_w C hsl) (sole0 hc) hs (each1 rfl)) (ihb rest)) fun D σ H ⟨ε, s, O, Ed, F, w, cz, ho⟩ => ?_
    have z := hw ε s O Ed w
    simp only [hsl] at z
    refine ⟨ε, s, _, Ed, F, z, cz.cy, fun v sv s2 F2 H2 mm j q r => ?_⟩
    have c2 := cz.next mm j
    cases sv with
    | d d =>
      dsimp only at q
      cases hb : bindS sl d ε with
      | none =>
        rw [hb] at q
        exact q.elim
      | some ε2 =>
        simp only [hb] at q
        exact gS_put mm.fh hb r c2.er (slotsT_one hsl) fun σ5 e5 _ _ => ⟨ε2, s2, O, Ed, F2, q, ⟨c2.fm, e5, j, cz.kx⟩, ho.next mm.ff⟩
    | _ => exact False.elim q
theorem b_and {a b : Bool} (h : (a && b) = true) : a = true ∧ b = true := Bool.and_eq_true_iff.mp h
theorem ps_par2w {x y : Str} {px py pt pt2 pos : Pos} {kt k2 : Nat} {a b : Expr} {rest : List Stmt} (ihb : ∀ sts, PSs X sts (tWB X.K W Γ m n sc sts)) :
    PSs X (.Assign [.Tuple [.Name x px, .Name y py] kt pt] (.Tuple [a, b] k2 pt2) pos :: rest) (tWB X.K W Γ m (n + 1) sc (.Assign [.Tuple [.Name x px, .Name y py] kt pt] (.Tuple [a, b] k2 pt2) pos :: rest)) := by
  cases hx : ixOf Γ.N x with
  | none =>
    refine pss_false fun D σ H ⟨ε, s, O, Ed, F, w, cz, ho⟩ => ?_
    simp only [wB, chk_iff, chkN_iff, hx] at w
  | some i =>
    cases hy : ixOf Γ.N y with
    | none =>
      refine pss_false fun D σ H ⟨ε, s, O, Ed, F, w, cz, ho⟩ => ?_
      simp only [wB, chk_iff, chkN_iff, hx, hy] at w
    | some j =>
      cases hp : par2 sc x y px py a b with
      | false =>
        cases hcl : cel2 sc x y with
        | false =>
          refine pss_false fun D σ H ⟨ε, s, O, Ed, F, w, cz, ho⟩ => ?_
          simp only [wB, chk_iff, chkN_iff, hx, hy, hp, hcl] at w
          exact Bool.false_ne_true w.1
        | true =>
          refine ps_tupg C ihb rfl (swsC ?_) fun ε s O Ed w => ?_
          · rcases Bool.or_eq_true_iff.mp hcl with z | z
            · exact .inl (C.ce x (of_decide_eq_true z))
            · exact .inr (C.ce y (of_decide_eq_true z))
          · simp only [wB, chk_iff, chkN_iff, hx, hy, hp, hcl] at w
            exact w.2
      | true =>
        obtain ⟨p1, hp2⟩ := b_and C hp
        obtain ⟨p2, hp2⟩ := b_and C hp2
        obtain ⟨p3, hp2⟩ := b_and C hp2
        obtain ⟨p4, hp2⟩ := b_and C hp2
        obtain ⟨p5, hp2⟩ := b_and C hp2
        obtain ⟨p6, hp2⟩ := b_and C hp2
        obtain ⟨p7, p8⟩ := b_and C hp2
        have nd : X.N.Nodup := by
          rw [C.n]
          exact C.nd
        have hi := nmSlot C hx
        have hj := nmSlot C hy
        have ij : i ≠ j := fun z => by
          subst z
          rw [hi] at hj
          exact of_decide_eq_true p3 (Option.some.inj hj)
        have lx := C.lo x (of_decide_eq_true p1)
        have ly := C.lo y (of_decide_eq_true p2)
        have hpl : ([a, b] : List Expr).all plainE = true := by simp [p5, p6]
        refine pss_imp (pss_cons (ps_par C.calm nd hi hj ij lx ly (pa_w (fun e => (sound Γ m X W sc C e).1) [a, b] hpl) (sws2 C.kind lx ly (of_decide_eq_true p3) (of_decide_eq_true p4) p5 p6 (not_t p7) (not_t p8)) rfl) (ihb rest)) fun D σ H ⟨ε, s, O, Ed, F, w, cz, ho⟩ => ?_
        simp only [wB, chk_iff, chkN_iff, hx, hy, hp] at w
        refine ⟨ε, s, _, Ed, F, w, cz.cy, fun vs ss s2 F2 H2 mm jj q r => ?_⟩
        have c2 := cz.next mm jj
        split at q
        · rename_i sv sw
          match vs, r with
          | [v, u], r => exact ⟨v, u, rfl, (ε.set i (some sv)).set j (some sw), s2, O, Ed, F2, q, ⟨c2.fm, (c2.er.put r.1 i).put r.2.1 j, jj, cz.kx⟩, ho.next mm.ff⟩
        · exact q.elim
theorem ps_par3w {x y z : Str} {px py pz pt pt2 pos : Pos} {kt k2 : Nat} {a b c : Expr} {rest : List Stmt} (ihb : ∀ sts, PSs X sts (tWB X.K W Γ m n sc sts)) :
    PSs X (.Assign [.Tuple [.Name x px, .Name y py, .Name z pz] kt pt] (.Tuple [a, b, c] k2 pt2) pos :: rest) (tWB X.K W Γ m (n + 1) sc (.Assign [.Tuple [.Name x px, .Name y py, .Name z pz] kt pt] (.Tuple [a, b, c] k2 pt2) pos :: rest)) := by
  cases hx : ixOf Γ.N x with
  | none =>
    refine pss_false fun D σ H ⟨ε, s, O, Ed, F, w, cz, ho⟩ => ?_
    simp only [wB, chk_iff, chkN_iff, hx] at w
  | some i =>
    cases hy : ixOf Γ.N y with
    | none =>
      refine pss_false fun D σ H ⟨ε, s, O, Ed, F, w, cz, ho⟩ => ?_
      simp only [wB, chk_iff, chkN_iff, hx, hy] at w
    | some j =>
      cases hz : ixOf Γ.N z with
      | none =>
        refine pss_false fun D σ H ⟨ε, s, O, Ed, F, w, cz, ho⟩ => ?_
        simp only [wB, chk_iff, chkN_iff, hx, hy, hz] at w
      | some l =>
        cases hp : par3 sc x y z px py pz a b c with
        | false =>
          refine pss_false fun D σ H ⟨ε, s, O, Ed, F, w, cz, ho⟩ => ?_
          simp only [wB, chk_iff, chkN_iff, hx, hy, hz, hp] at w
          exact Bool.false_ne_true w.1
        | true =>
          obtain ⟨p1, hp2⟩ := b_and C hp
          obtain ⟨p2, hp2⟩ := b_and C hp2
          obtain ⟨p3, hp2⟩ := b_and C hp2
          obtain ⟨p4, hp2⟩ := b_and C hp2
          obtain ⟨p5, hp2⟩ := b_and C hp2
          obtain ⟨p6, hp2⟩ := b_and C hp2
          obtain ⟨p7, hp2⟩ := b_and C hp2
          obtain ⟨p8, hp2⟩ := b_and C hp2
          obtain ⟨p9, hp2⟩ := b_and C hp2
          obtain ⟨p10, hp2⟩ := b_and C hp2
          obtain ⟨p11, hp2⟩ := b_and C hp2
          obtain ⟨p12, p13⟩ := b_and C hp2
          have nd : X.N.Nodup := by
            rw [C.n]
            exact C.nd
          have hi := nmSlot C hx
          have hj := nmSlot C hy
          have hl := nmSlot C hz
          have ij : i ≠ j := fun z => by
            subst z
            rw [hi] at hj
            exact of_decide_eq_true p4 (Option.some.inj hj)
          have il : i ≠ l := fun z => by
            subst z
            rw [hi] at hl
            exact of_decide_eq_true p5 (Option.some.inj hl)
          have jl : j ≠ l := fun z => by
            subst z
            rw [hj] at hl
            exact of_decide_eq_true p6 (Option.some.inj hl)
          have lx := C.lo x (of_decide_eq_true p1)
          have ly := C.lo y (of_decide_eq_true p2)
          have lz := C.lo z (of_decide_eq_true p3)
          have hpl : ([a, b, c] : List Expr).all plainE = true := by simp [p9, p10, p11]
          refine pss_imp (pss_cons (ps_par3 C.calm nd hi hj hl ij il jl lx ly lz (pa_w (fun e => (sound Γ m X W sc C e).1) [a, b, c] hpl) (sws3 C.kind lx ly lz (of_decide_eq_true p4) (of_decide_eq_true p5) (of_decide_eq_true p6) (of_decide_eq_true p7) (of_decide_eq_true p8) p9 p10 p11 (not_t p12) (not_t p13)) rfl) (ihb rest)) fun D σ H ⟨ε, s, O, Ed, F, w, cz, ho⟩ => ?_
          simp only [wB, chk_iff, chkN_iff, hx, hy, hz] at w
          refine ⟨ε, s, _, Ed, F, w.2, cz.cy, fun vs ss s2 F2 H2 mm jj q r => ?_⟩
          have c2 := cz.next mm jj
          split at q
          · rename_i sv sw su
            match vs, r with
            | [v, u, t], r => exact ⟨v, u, t, rfl, ((ε.set i (some sv)).set j (some sw)).set l (some su), s2, O, Ed, F2, q, ⟨c2.fm, ((c2.er.put r.1 i).put r.2.1 j).put r.2.2.1 l, jj, cz.kx⟩, ho.next mm.ff⟩
          · exact q.elim
end
end Z
set_option Elab.async false
set_option linter.all false
set_option maxRecDepth 100000
set_option maxHeartbeats 4000000
namespace Z
open PySem PySem.Spec PyProof.Rows L2 Evl
section
variable {S : Type} {X : Cx} {W : Wd S} {Γ : Gam S} {sc : Scope} {m : Nat} (C : CxOk X W Γ sc)
include C
theorem soundB : ∀ (n : Nat) (sts : List Stmt), PSs X sts (tWB X.K W Γ m n sc sts) := by
  intro n
  induction n with
  | zero =>
    intro sts
    refine pss_false fun D σ H ⟨ε, s, O, Ed, F, w, cz, ho⟩ => ?_
    simp only [wB, chk_iff, chkN_iff] at w
  | succ n ihb =>
    intro sts
    have ih : ∀ e, PE X e (tWE X.K W Γ m sc e) := fun e => (sound Γ m X W sc C e).1
    have it : ∀ e, PT X e (tWT X.K W Γ m sc e) := fun e => (sound Γ m X W sc C e).2
    have no : ∀ sts : List Stmt, (∀ ε s (O : Out → S → Prop) Ed, ¬ wB Γ m (n + 1) sc ε s sts O Ed) → PSs X sts (tWB X.K W Γ m (n + 1) sc sts) := fun sts h => pss_false fun D σ H ⟨ε, s, O, Ed, F, w, cz, ho⟩ => h ε s O Ed w
    cases sts with
    | nil =>
      refine pss_imp pss_nil fun D σ H ⟨ε, s, O, Ed, F, w, cz, ho⟩ => ?_
      simp only [wB, chk_iff, chkN_iff] at w
      exact ho (.nx ε) s w σ F H cz.fm (Ex.refl F) cz.er cz.j
    | cons st rest =>
      cases st with
      | Return v p =>
        cases v with
        | none =>
          refine pss_imp (pss_cons ps_retN (ihb rest)) fun D σ H ⟨ε, s, O, Ed, F, w, cz, ho⟩ => ?_
          simp only [wB, chk_iff, chkN_iff] at w
          exact ho (.rt (.d .none)) s w .non F H cz.fm cz.j .non
        | some e =>
          refine pss_imp (pss_cons (ps_ret (ih e)) (ihb rest)) fun D σ H ⟨ε, s, O, Ed, F, w, cz, ho⟩ => ?_
          simp only [wB, chk_iff, chkN_iff] at w
          obtain ⟨ps, er⟩ := cz.er
          have z := freeze cz.fm er cz.j
          exact ⟨frz ε, s, _, Ed, _, w, ⟨z.fm.fh, ⟨_, z.er⟩, z.j, cz.kx.next z.fm⟩, fun v sl s2 F2 H2 mm j q r => ho (.rt sl) s2 q v F2 H2 (z.fm.trans mm) j r⟩
      | Pass p =>
        refine pss_imp (pss_cons ps_pass (ihb rest)) fun D σ H ⟨ε, s, O, Ed, F, w, cz, ho⟩ => ?_
        simp only [wB, chk_iff, chkN_iff] at w
        exact ⟨ε, s, O, Ed, F, w, cz, ho⟩
      | Break p =>
        refine pss_imp (pss_cons ps_break (ihb rest)) fun D σ H ⟨ε, s, O, Ed, F, w, cz, ho⟩ => ?_
        simp only [wB, chk_iff, chkN_iff] at w
        exact ho (.bk ε) s w σ F H cz.fm (Ex.refl F) cz.er cz.j
      | Continue p =>
        refine pss_imp (pss_cons ps_continue (ihb rest)) fun D σ H ⟨ε, s, O, Ed, F, w, cz, ho⟩ => ?_
        simp only [wB, chk_iff, chkN_iff] at w
        exact ho (.ct ε) s w σ F H cz.fm (Ex.refl F) cz.er cz.j
      | Expr e p =>
        refine ⟨fun pins sh σ H D I ⟨ε, s, O, Ed, F, w, cz, ho⟩ => ?_⟩
        simp only [wB, chk_iff, chkN_iff] at w
        split at w
        · rename_i i xs a hap
          obtain ⟨x, px, apos, pos, rfl, h1, h2, h3, h4, h5⟩ := appOf_some hap
          split at w
          · exact (ps_appR C ihb h1 h2 h3 h4).run pins sh σ H D I ⟨ε, s, O, Ed, F, xs, h5, w, cz, ho⟩
          · exact (ps_appO C ihb h1 h2 h3 h4).run pins sh σ H D I ⟨ε, s, O, Ed, F, xs, h5, w, cz, ho⟩
        split at w
        · rename_i i xs a hap
          obtain ⟨x, px, apos, pos, rfl, h1, h2, h3, h4, h5⟩ := extOf_some hap
          exact (ps_extR C ihb h1 h2 h3 h4).run pins sh σ H D I ⟨ε, s, O, Ed, F, xs, h5, w.2, cz, ho⟩
        · have hc := w.1
          exact (pss_cons (ps_expr (ih e) (swaps0 hc)) (ihb rest)).run pins sh σ H D I ⟨ε, s, _, Ed, F, w.2, cz.cy, fun v sl s2 F2 H2 mm j q r => ⟨ε, s2, O, Ed, F2, q, cz.next mm j, ho.next mm.ff⟩⟩
      | If c a b p =>
        refine pss_imp (pss_cons (ps_if (it c) (ihb a) (ihb b)) (ihb rest)) fun D σ H ⟨ε, s, O, Ed, F, w, cz, ho⟩ => ?_
        simp only [wB, chk_iff, chkN_iff] at w
        refine ⟨ε, s, _, Ed, F, w, cz.cy, fun k s2 F2 H2 mm j q => ?_⟩
        cases k with
        | true => exact ⟨ε, s2, _, Ed, F2, q, cz.next mm j, hold_then (ho.next mm.ff) cz.kx⟩
        | false => exact ⟨ε, s2, _, Ed, F2, q, cz.next mm j, hold_then (ho.next mm.ff) cz.kx⟩
      | For tg i body els p =>
        cases els with
        | nil => exact ps_forw C ihb
        | cons _ _ => exact no _ fun ε s O Ed w => by simp only [wB, chk_iff, chkN_iff] at w
      | Assign tgs e p =>
        match tgs with
        | [] => exact no _ fun ε s O Ed w => by simp only [wB, chk_iff, chkN_iff] at w
        | _ :: _ :: _ => exact no _ fun ε s O Ed w => by simp only [wB, chk_iff, chkN_iff] at w
        | [tg] =>
          cases tg with
          | Name x px => exact ps_nmw C ihb
          | Tuple ts kt pt =>
            by_cases h2 : (∃ x px y py a b k2 pt2, ts = [.Name x px, .Name y py] ∧ e = .Tuple [a, b] k2 pt2) ∨ (∃ x px y py z pz a b c k2 pt2, ts = [.Name x px, .Name y py, .Name z pz] ∧ e = .Tuple [a, b, c] k2 pt2)
            · rcases h2 with ⟨x, px, y, py, a, b, k2, pt2, rfl, rfl⟩ | ⟨x, px, y, py, z, pz, a, b, c, k2, pt2, rfl, rfl⟩
              · exact ps_par2w C ihb
              · exact ps_par3w C ihb
            · refine ps_tupw C ihb fun ε s O Ed w => ?_
              unfold wB at w
              dsimp only at w
              split at w
              · exact (h2 (.inl ⟨_, _, _, _, _, _, _, _, rfl, rfl⟩)).elim
              · exact (h2 (.inr ⟨_, _, _, _, _, _, _, _, _, _, _, rfl, rfl⟩)).elim
              · exact w
          | Subscript o ie p2 =>
            cases o with
            | Name x px => exact ps_setO C ihb
            | _ => exact no _ fun ε s O Ed w => by simp only [wB, chk_iff, chkN_iff] at w
          | _ => exact no _ fun ε s O Ed w => by simp only [wB, chk_iff, chkN_iff] at w
      | _ => exact no _ fun ε s O Ed w => by simp only [wB, chk_iff, chkN_iff] at w
end
/-- what all bodies of a law share -/
structure Wq (S : Type) where
  rs : List Addr
  J : S → Hp → Hp → Prop
  ne : ∀ s F H, J s F H → ∀ a ∈ rs, H a ≠ none ∧ F a = none
  st : ∀ s F H F2 H2, J s F H → (∀ a o, H a = some o → (a ∈ rs ∨ ∀ xs, o ≠ .lst xs) → H2 a = some o) → (∀ a ∈ rs, F2 a = none) → (∀ a o, F2 a = some o → F a = some o ∨ Nt o) → J s F2 H2
  cls : Str → Option Addr
def Wq.wd {S : Type} (q : Wq S) (F H : Hp) (E : XK) : Wd S := ⟨F, H, q.rs, q.J, q.ne, q.st, q.cls, E⟩
def startE (N : List Str) (ss : List Sl) : En := ss.map some ++ List.replicate (N.length - ss.length) none
theorem er_none {S : Type} {K : PySem.W.Frag} {W : Wd S} {F H : Hp} : ∀ n : Nat, Er K W F H (List.replicate n none) (List.replicate n none) W.rs
  | 0 => .nil
  | n + 1 => .no (er_none n)
theorem er_args {S : Type} {K : PySem.W.Frag} {W : Wd S} {F H : Hp} : ∀ {vs : List V} {ss : List Sl} (n : Nat), SrAll K F vs ss → Er K W F H (vs.map some ++ List.replicate n none) (ss.map some ++ List.replicate n none) W.rs
  | [], [], n, _ => er_none n
  | v :: vs, .d x :: ss, n, h => .d h.1 (er_args n h.2)
  | v :: vs, .v x :: ss, n, h => by
    have e : v = x := h.1
    subst e
    exact .v (er_args n h.2)
  | v :: vs, .own x :: ss, n, h => h.1.elim
  | [], _ :: _, _, h => h.elim
  | _ :: _, [], _, h => h.elim
theorem srAll_len {K : PySem.W.Frag} {F : Hp} : ∀ {vs : List V} {ss : List Sl}, SrAll K F vs ss → vs.length = ss.length
  | [], [], _ => rfl
  | _ :: _, _ :: _, h => congrArg Nat.succ (srAll_len h.2)
  | [], _ :: _, h => h.elim
  | _ :: _, [], h => h.elim
/-- a body's end -/
def fnO {S : Type} (Qd : QS S) : Out → S → Prop
  | .rt v, s => Qd v s
  | .nx _, s => Qd (.d .none) s
  | _, _ => False
/-- a def of the program by its name, called by values | by n values and keywords -/
structure FnH (S : Type) (r : Bool) (P : Program) (w : World) (K : PySem.W.Frag) (mg : Str → Option Value) (base : Heap) (q : Wq S) (k : Nat) (x : Str) (spec : Fsp S) : Prop where
  ex : ∃ a : Addr, FnC r P w K mg base (L2.CX P w) k a (spOf K q.rs q.J q.cls spec) ∧ mg x = some (.ref a) ∧ PySem.W.keepIn K (.ref a) = true
structure FnKH (S : Type) (r : Bool) (P : Program) (w : World) (K : PySem.W.Frag) (mg : Str → Option Value) (base : Heap) (q : Wq S) (k : Nat) (x : Str) (n : Nat) (ks : List Str) (spec : Fsp S) : Prop where
  ex : ∃ a : Addr, FnKC r P w K mg base (L2.CX P w) k a n ks (spOf K q.rs q.J q.cls spec) ∧ mg x = some (.ref a) ∧ PySem.W.keepIn K (.ref a) = true
section
variable {S : Type} {r : Bool} {P : Program} {w : World} {K : PySem.W.Frag} {mg : Str → Option Value} {base : Heap} {q : Wq S} {j k n : Nat} {x : Str} {ks : List Str} {spec : Fsp S}
theorem FnH.mono (h : FnH S r P w K mg base q j x spec) (l : j ≤ k) : FnH S r P w K mg base q k x spec := by
  obtain ⟨a, G, z⟩ := h.ex
  exact ⟨a, G.mono l, z⟩
theorem FnKH.mono (h : FnKH S r P w K mg base q j x n ks spec) (l : j ≤ k) : FnKH S r P w K mg base q k x n ks spec := by
  obtain ⟨a, G, z⟩ := h.ex
  exact ⟨a, G.mono l, z⟩
theorem FnH.weak (h : FnH S false P w K mg base q k x spec) (r : Bool) : FnH S r P w K mg base q k x spec := by
  obtain ⟨a, G, z⟩ := h.ex
  exact ⟨a, G.weak r, z⟩
/-- what a def's body may let out is taken -/
theorem passes_def {N : List Str} {qual : Str} {scope : Scope} {f : Addr} {cdv : Value} {A : Around} {outer : List Env} {sh : Shared} {H : Hp} {E : XK} :
    Passes (L2.CX P w) (cxOf (L2.CX P w) P w K mg base N qual scope f cdv A outer sh H E) E :=
  passes_call (X := cxOf (L2.CX P w) P w K mg base N qual scope f cdv A outer sh H E) (takes_of rfl rfl rfl rfl) fun _ _ _ _ h => h
theorem passes_no (X : Cx) (h1 : X.prog = P) (h2 : X.w = w) : Passes (L2.CX P w) X E0 := fun _ _ _ _ _ _ _ ⟨_, _, _, _, _, _, _, _, _, _, _, _, z⟩ => z.elim
/-- the context of a def's body -/
theorem ctx_def (q : Wq S) (Γ : Gam S) {qual : Str} {scope : Scope} {N ps : List Str} (SC : FnScope N ps scope) (hN : Γ.N = N) (ok : okSc scope = true)
    (free : ∀ x, Γ.free.contains x = true → mg x = none) (glob : ∀ x sl, Γ.glob.lookup x = some sl → ∃ v u, mg x = some u ∧ RelV v u ∧ ∀ F, Sr K F v sl)
    (fns : ∀ f spec, Γ.fns.lookup f = some spec → FnH S Γ.rep P w K mg base q k f spec) (kfs : ∀ f n ks spec, kfOf Γ.kfn f n ks = some spec → FnKH S Γ.rep P w K mg base q k f n ks spec)
    {f : Addr} {cdv : Value} {A : Around} {outer : List Env} {sh : Shared} {H : Hp} {E : XK} (F1 H1 : Hp)
    (hg : Γ.rep = true → (A.deeper (envOfC qual scope sh.heap.objs.size f cdv)).guards = some []) (hr : Room k (A.deeper (envOfC qual scope sh.heap.objs.size f cdv))) :
    CxOk (cxOf (L2.CX P w) P w K mg base N qual scope f cdv A outer sh H E) (q.wd F1 H1 E) Γ scope := by
  refine ⟨rfl, hN.symm, by rw [hN]; exact SC.nd, fun x h => h, fun x h => h, fun x h => h, fun x h => .inr h, fun _ _ => rfl, ok, free, glob, ?_, ?_, SC.kind, passes_of (E₁ := fun e' s'' => L2.CX P w outer H sh E e' s'') rfl, ?_, hg⟩
  · intro g sp hgs
    obtain ⟨a, G, h1, h2⟩ := (fns g sp hgs).ex
    exact ⟨L2.CX P w, k, a, G, hr, h1, h2, passes_def, fun X' e1 e2 _ => passes_no X' e1 e2⟩
  · intro g n ks sp hgs
    obtain ⟨a, G, h1, h2⟩ := (kfs g n ks sp hgs).ex
    exact ⟨L2.CX P w, k, a, G, hr, h1, h2, passes_def, fun X' e1 e2 _ => passes_no X' e1 e2⟩
  · have := hr.un
    show (A.deeper (envOfC qual scope sh.heap.objs.size f cdv)).units + 66 < cLine
    omega
/-- a def's body keeps its promise -/
theorem fn_body {qual : Str} {params : Arguments} {body : List Stmt} {scope : Scope} {dvs : List V} {kws : List (Str × V)} {f : Addr} {fd : FuncData}
    {N ps : List Str} (q : Wq S) (Γ : Gam S) (m n : Nat) (F : FunD K x qual params body scope dvs kws f fd) (SC : FnScope N ps scope) (hN : Γ.N = N) (ok : okSc scope = true)
    (free : ∀ x, Γ.free.contains x = true → mg x = none) (glob : ∀ x sl, Γ.glob.lookup x = some sl → ∃ v u, mg x = some u ∧ RelV v u ∧ ∀ F, Sr K F v sl)
    (fns : ∀ f spec, Γ.fns.lookup f = some spec → FnH S Γ.rep P w K mg base q k f spec) (kfs : ∀ f n ks spec, kfOf Γ.kfn f n ks = some spec → FnKH S Γ.rep P w K mg base q k f n ks spec)
    (many : ∀ ss s Qd Ed, spec ss s Qd Ed → ss.length = ps.length)
    (hw : ∀ ss s Qd Ed, spec ss s Qd Ed → wB Γ m n scope (startE N ss) s body (fnO Qd) Ed) : FnG Γ.rep P w K mg base (L2.CX P w) (k + 1) f fd ps (spOf K q.rs q.J q.cls spec) := by
  refine FunD_okG F SC ?_ ?_
  · rintro vs H Q E ⟨ss, s, F1, Qd, Ed, ex, sr, j, hs, kq, kx⟩
    exact (srAll_len sr).trans (many ss s Qd Ed hs)
  · rintro cdv A outer sh H vs Q E hg hr ⟨ss, s, F1, Qd, Ed, ex, sr, j, hs, kq, kx⟩
    have C := ctx_def (P := P) (w := w) (K := K) (mg := mg) (base := base) (qual := qual) (f := f) (cdv := cdv) (A := A) (outer := outer) (sh := sh) (H := H) (E := E) q Γ SC hN ok free glob fns kfs F1 H hg hr
    refine ⟨tWB K (q.wd F1 H E) Γ m n scope body, soundB C n body, ?_⟩
    refine ⟨startE N ss, s, fnO Qd, Ed, F1, hw ss s Qd Ed hs, ⟨Fm.refl ex, ⟨(q.wd F1 H E).rs, ?_⟩, j, kx⟩, ?_⟩
    · unfold L2.start startE
      rw [srAll_len sr]
      exact er_args _ sr
    · intro o s2 ho
      cases o with
      | rt v => exact fun v2 F2 H2 fm j2 r => kq v2 v s2 F2 H2 fm j2 ho r
      | nx ε => exact fun σ F2 H2 fm _ _ j2 => kq .non (.d .none) s2 F2 H2 fm j2 ho .non
      | bk ε => exact ho.elim
      | ct ε => exact ho.elim
/-- by name, all values written -/
theorem FnG.fnh {f : Addr} {fd : FuncData} {ps : List Str} (G : FnG r P w K mg base (L2.CX P w) k f fd ps (spOf K q.rs q.J q.cls spec)) (hb : Binds K fd ps []) (hm : mg x = some (.ref f)) (kp : PySem.W.keepIn K (.ref f) = true) : FnH S r P w K mg base q k x spec := by
  have c := G.call hb .nil
  refine ⟨f, ⟨fun A outer s H us vs Q E hg hr he rv h => c.go A outer s H us vs Q E hg hr he rv ?_⟩, hm, kp⟩
  rw [List.append_nil]
  exact h
/-- by name, the last ones by default -/
theorem FnG.fnd {f : Addr} {fd : FuncData} {ps : List Str} {dv : List V} {du : List Value} {ds : List Sl} (G : FnG r P w K mg base (L2.CX P w) k f fd ps (spOf K q.rs q.J q.cls spec)) (hb : Binds K fd ps du) (hd : Vals dv du) (hs : ∀ F, SrAll K F dv ds)
    (hm : mg x = some (.ref f)) (kp : PySem.W.keepIn K (.ref f) = true) : FnH S r P w K mg base q k x fun ss => spec (ss ++ ds) := by
  have c := G.call hb hd
  refine ⟨f, ⟨fun A outer s H us vs Q E hg hr he rv h => c.go A outer s H us vs Q E hg hr he rv ?_⟩, hm, kp⟩
  obtain ⟨ss, s1, F1, Qd, Ed, ex, sr, z⟩ := h
  exact ⟨ss ++ ds, s1, F1, Qd, Ed, ex, srAll_app sr (hs F1), z⟩
/-- by name, by keywords -/
theorem FnG.fnk {f : Addr} {fd : FuncData} {ps : List Str} {g : List Value → List Value → List Value} {gV : List V → List V → List V} {gS : List Sl → List Sl} (G : FnG r P w K mg base (L2.CX P w) k f fd ps (spOf K q.rs q.J q.cls spec)) (hb : KBn K fd ps n ks g gV)
    (hs : ∀ F vs ss, vs.length = n + ks.length → SrAll K F vs ss → SrAll K F (gV (vs.take n) (vs.drop n)) (gS ss)) (hm : mg x = some (.ref f)) (kp : PySem.W.keepIn K (.ref f) = true) : FnKH S r P w K mg base q k x n ks fun ss => spec (gS ss) := by
  have c := G.callK hb
  refine ⟨f, ⟨fun A outer s H us ws vs zs Q E hg hr he rv rz l1 l2 h => c.go A outer s H us ws vs zs Q E hg hr he rv rz l1 l2 ?_⟩, hm, kp⟩
  obtain ⟨ss, s1, F1, Qd, Ed, ex, sr, z⟩ := h
  exact ⟨gS ss, s1, F1, Qd, Ed, ex, hs F1 _ _ (by rw [List.length_append, l1, l2]) sr, z⟩
end
end Z
set_option Elab.async false
set_option linter.all false
set_option maxRecDepth 100000
set_option maxHeartbeats 4000000
namespace Z
open PySem PySem.Spec PyProof.Rows L2 Evl
section
variable {S : Type}
/-! ### the words of the printed bodies -/
def bif2 (b : Bool) (A B : Prop) : Prop := match b with
  | true => A
  | false => B
def asSeq (x : Sl) (Q : List PyData → Prop) : Prop := match x with
  | .d (.list xs) => Q xs
  | .d (.tuple xs) => Q xs
  | .d (.str z) => Q (z.cps.toList.map fun c => .str ⟨#[c]⟩)
  | _ => False
def asInt (x : Sl) (Q : Int → Prop) : Prop := match x with
  | .d (.int i) => Q i
  | _ => False
def allD (xs : List Sl) (Q : List PyData → Prop) : Prop := match dataAll xs with
  | some ds => Q ds
  | none => False
def outD (x : Sl) (Q : PyData → Prop) : Prop := match x with
  | .d y => Q y
  | _ => False
def zipS (x y : Sl) (Q : List PyData → Prop) : Prop := match x, y with
  | .d (.list a), .d (.list b) => Q (zipD a b)
  | .d (.tuple a), .d (.tuple b) => Q (zipD a b)
  | _, _ => False
def rangeS1 (x : Sl) (Q : List PyData → Prop) : Prop := match x with
  | .d (.int n) => n ≤ 2 ^ 61 ∧ -(2 ^ 61) ≤ n ∧ Q (rangeD 0 n)
  | _ => False
def rangeS2 (x y : Sl) (Q : List PyData → Prop) : Prop := match x, y with
  | .d (.int m), .d (.int n) => n ≤ 2 ^ 61 ∧ -(2 ^ 61) ≤ n ∧ m ≤ 2 ^ 61 ∧ -(2 ^ 61) ≤ m ∧ Q (rangeD m n)
  | _, _ => False
def enumerateS (x : Sl) (Q : List PyData → Prop) : Prop := match x with
  | .d (.list xs) => Q (enumD 0 xs)
  | _ => False
def noX : QX S := fun _ _ => False
/-! ### a comprehension whose turns leave the world as it is -/
theorem wMap_all {f : PyData → S → (Option PyData → S → Prop) → Prop} {g : PyData → PyData} {s : S} : ∀ {xs : List PyData} {Q : List PyData → S → Prop}, (∀ x ∈ xs, ∀ k : Option PyData → S → Prop, k (some (g x)) s → f x s k) → Q (xs.map g) s → wMap f xs s Q
  | [], Q, _, q => q
  | x :: xs, Q, h, q => h x List.mem_cons_self _ (wMap_all (xs := xs) (fun y hy => h y (List.mem_cons_of_mem _ hy)) q)
theorem wMap_sel {f : PyData → S → (Option PyData → S → Prop) → Prop} {p : PyData → Bool} {g : PyData → PyData} {s : S} : ∀ {xs : List PyData} {Q : List PyData → S → Prop}, (∀ x ∈ xs, ∀ k : Option PyData → S → Prop, k (if p x = true then some (g x) else none) s → f x s k) → Q ((xs.filter p).map g) s → wMap f xs s Q
  | [], Q, _, q => q
  | x :: xs, Q, h, q => h x List.mem_cons_self _ (wMap_sel (xs := xs) (fun y hy => h y (List.mem_cons_of_mem _ hy)) (by
      by_cases e : p x = true
      · simpa [e] using q
      · simpa [e] using q))
theorem boolsD_map (p : PyData → Bool) : ∀ xs : List PyData, boolsD (xs.map fun x => .bool (p x)) = some (xs.map p)
  | [] => rfl
  | x :: xs => by simp [boolsD, boolsD_map p xs]
def spl (x : Sl) (Q : List PyData → Prop) : Prop := match x with
  | .d (.list ds) => Q ds
  | .d (.tuple ds) => Q ds
  | _ => False
/-- specs by name -/
theorem fns_nil {r : Bool} {P : Program} {w : World} {K : PySem.W.Frag} {mg : Str → Option Value} {base : Heap} {q : Wq S} {k : Nat} : ∀ (f : Str) (sp : Fsp S), ([] : List (Str × Fsp S)).lookup f = some sp → FnH S r P w K mg base q k f sp := fun f sp h => by cases h
theorem fns_cons {r : Bool} {P : Program} {w : World} {K : PySem.W.Frag} {mg : Str → Option Value} {base : Heap} {q : Wq S} {k : Nat} {x : Str} {spec : Fsp S} {l : List (Str × Fsp S)} (h : FnH S r P w K mg base q k x spec) (t : ∀ (f : Str) (sp : Fsp S), l.lookup f = some sp → FnH S r P w K mg base q k f sp) : ∀ (f : Str) (sp : Fsp S), ((x, spec) :: l).lookup f = some sp → FnH S r P w K mg base q k f sp := by
  intro f sp e
  rw [List.lookup_cons] at e
  split at e
  · next e2 =>
    have e3 : f = x := by simpa using e2
    cases e
    rw [e3]
    exact h
  · exact t f sp e
theorem kfs_nil {r : Bool} {P : Program} {w : World} {K : PySem.W.Frag} {mg : Str → Option Value} {base : Heap} {q : Wq S} {k : Nat} : ∀ (f : Str) (n : Nat) (ks : List Str) (sp : Fsp S), kfOf ([] : List ((Str × Nat × List Str) × Fsp S)) f n ks = some sp → FnKH S r P w K mg base q k f n ks sp := fun f n ks sp h => by cases h
end
/-! ### data of bounded depth and length -/
def okD (L : Nat) : Nat → PyData → Bool
  | _, .none => true
  | _, .bool _ => true
  | _, .int _ => true
  | _, .str z => PyData.strOk z && decide (z.length ≤ L)
  | n + 1, .list xs => decide (xs.length ≤ L) && xs.all (okD L n)
  | n + 1, .tuple xs => decide (xs.length ≤ L) && xs.all (okD L n)
  | 0, .list _ => false
  | 0, .tuple _ => false
  | _, .dict _ => false
theorem okD_mono {L M : Nat} (l : L ≤ M) : ∀ {n m : Nat} {d : PyData}, n ≤ m → okD L n d = true → okD M m d = true
  | _, _, .none, _, _ => by simp [okD]
  | _, _, .bool _, _, _ => by simp [okD]
  | _, _, .int _, _, _ => by simp [okD]
  | _, _, .str z, _, h => by
    simp only [okD, Bool.and_eq_true, decide_eq_true_eq] at h ⊢
    exact ⟨h.1, by omega⟩
  | _, _, .dict _, _, h => by simp [okD] at h
  | 0, _, .list _, _, h => by simp [okD] at h
  | 0, _, .tuple _, _, h => by simp [okD] at h
  | n + 1, 0, .list _, k, h => by omega
  | n + 1, 0, .tuple _, k, h => by omega
  | n + 1, m + 1, .list xs, k, h => by
    simp only [okD, Bool.and_eq_true, decide_eq_true_eq, List.all_eq_true] at h ⊢
    exact ⟨by omega, fun x hx => okD_mono l (by omega) (h.2 x hx)⟩
  | n + 1, m + 1, .tuple xs, k, h => by
    simp only [okD, Bool.and_eq_true, decide_eq_true_eq, List.all_eq_true] at h ⊢
    exact ⟨by omega, fun x hx => okD_mono l (by omega) (h.2 x hx)⟩
theorem canLayAll0_of : ∀ {xs : List PyData}, (∀ x ∈ xs, x.canLay0 = true) → PyData.canLayAll0 xs = true
  | [], _ => by simp only [PyData.canLayAll0]
  | x :: xs, h => by
    simp only [PyData.canLayAll0, Bool.and_eq_true]
    exact ⟨h x List.mem_cons_self, canLayAll0_of fun y hy => h y (List.mem_cons_of_mem _ hy)⟩
theorem depthAll_of {n : Nat} : ∀ {xs : List PyData}, (∀ x ∈ xs, x.depth ≤ n) → PyData.depthAll xs ≤ n
  | [], _ => by simp [PyData.depthAll]
  | x :: xs, h => by
    have h1 := h x List.mem_cons_self
    have h2 := depthAll_of (xs := xs) fun y hy => h y (List.mem_cons_of_mem _ hy)
    simp only [PyData.depthAll]
    omega
theorem okD_lay {L : Nat} : ∀ {n : Nat} {d : PyData}, okD L n d = true → d.canLay0 = true ∧ d.depth ≤ n + 1
  | _, .none, _ => by simp [PyData.canLay0, PyData.depth]
  | _, .bool _, _ => by simp [PyData.canLay0, PyData.depth]
  | _, .int _, _ => by simp [PyData.canLay0, PyData.depth]
  | _, .str z, h => by
    simp only [okD, Bool.and_eq_true, decide_eq_true_eq] at h
    simp [PyData.canLay0, PyData.depth, h.1]
  | _, .dict _, h => by simp [okD] at h
  | 0, .list _, h => by simp [okD] at h
  | 0, .tuple _, h => by simp [okD] at h
  | n + 1, .list xs, h => by
    simp only [okD, Bool.and_eq_true, decide_eq_true_eq, List.all_eq_true] at h
    have hd := depthAll_of (n := n + 1) fun x hx => (okD_lay (h.2 x hx)).2
    refine ⟨by simpa only [PyData.canLay0] using canLayAll0_of fun x hx => (okD_lay (h.2 x hx)).1, ?_⟩
    simp only [PyData.depth]
    omega
  | n + 1, .tuple xs, h => by
    simp only [okD, Bool.and_eq_true, decide_eq_true_eq, List.all_eq_true] at h
    have hd := depthAll_of (n := n + 1) fun x hx => (okD_lay (h.2 x hx)).2
    refine ⟨by simpa only [PyData.canLay0] using canLayAll0_of fun x hx => (okD_lay (h.2 x hx)).1, ?_⟩
    simp only [PyData.depth]
    omega
abbrev Ok (d : PyData) : Prop := okD 100 60 d = true
theorem Ok.shaped {d : PyData} (h : Ok d) : SeqAt.shaped d = true := by
  obtain ⟨h1, h2⟩ := okD_lay h
  unfold SeqAt.shaped
  rw [h1, Bool.true_and]
  exact decide_eq_true (by omega)
theorem Ok.tup {xs : List PyData} (h : Ok (.tuple xs)) : xs.length ≤ 100 ∧ ∀ x ∈ xs, Ok x := by
  simp only [Ok, okD, Bool.and_eq_true, decide_eq_true_eq, List.all_eq_true] at h
  exact ⟨h.1, fun x hx => okD_mono (Nat.le_refl _) (by omega) (h.2 x hx)⟩
theorem Ok.lst {xs : List PyData} (h : Ok (.list xs)) : xs.length ≤ 100 ∧ ∀ x ∈ xs, Ok x := by
  simp only [Ok, okD, Bool.and_eq_true, decide_eq_true_eq, List.all_eq_true] at h
  exact ⟨h.1, fun x hx => okD_mono (Nat.le_refl _) (by omega) (h.2 x hx)⟩
theorem Ok.str {z : Str} (h : Ok (.str z)) : z.length ≤ 100 := by
  simp only [Ok, okD, Bool.and_eq_true, decide_eq_true_eq] at h
  exact h.2
end Z
set_option Elab.async false
set_option linter.all false
set_option maxRecDepth 100000
set_option maxHeartbeats 4000000
namespace Z
open PySem PySem.Spec PyProof.Rows L2 Evl
section
variable {S : Type}
def gLETTERS : Str := "abcdefghijklmnopqrstuvwxyz"
def isInt : PyData → Bool
  | .int _ => true
  | _ => false
def isNum : PyData → Bool
  | .int i => decide (0 ≤ i)
  | _ => false
def isNm : PyData → Bool
  | .str z => decide (1 ≤ z.length) && (decide (z.length ≤ 8) && z.cps.toList.all fun c => decide (c ∈ gLETTERS.cps.toList))
  | _ => false
def isStr : PyData → Bool
  | .str _ => true
  | _ => false
def isTup : PyData → Bool
  | .tuple _ => true
  | _ => false
def isLst : PyData → Bool
  | .list _ => true
  | _ => false
def isIb : PyData → Bool
  | .int _ => true
  | .bool _ => true
  | _ => false
def isBl : PyData → Bool
  | .bool _ => true
  | _ => false
def inI (is : List Int) : PyData → Bool
  | .int j => is.contains j
  | _ => false
def inS (ws : List PyData) (d : PyData) : Bool := isStr d && ws.any fun y => eqF y d
abbrev Wok (G : Gam S) (st : Stmt) (sp : Fsp S) : Prop := ∀ ss s Q E, sp ss s Q E → wB G 30 30 (defScope st) (startE G.N ss) s (defBody st) (fnO Q) E
def sp1 (f : PyData → Bool) : Fsp S := fun ss s Q _ => ∃ d, ss = [.d d] ∧ Ok d ∧ Q (.d (.bool (f d))) s
theorem sp1_in {f : PyData → Bool} {d : PyData} {s : S} {Q : QS S} {E : QX S} (h : Ok d) (q : Q (.d (.bool (f d))) s) : sp1 f [.d d] s Q E := ⟨d, rfl, h, q⟩
theorem dI_int {x : PyData} {Q : Sl → Prop} : dcall .isinstance [.d x, .v (.ty "int")] Q = Q (.d (.bool (isIb x))) := by cases x <;> rfl
theorem dI_bool {x : PyData} {Q : Sl → Prop} : dcall .isinstance [.d x, .v (.ty "bool")] Q = Q (.d (.bool (isBl x))) := by cases x <;> rfl
theorem dI_str {x : PyData} {Q : Sl → Prop} : dcall .isinstance [.d x, .v (.ty "str")] Q = Q (.d (.bool (isStr x))) := by cases x <;> rfl
theorem dI_tup {x : PyData} {Q : Sl → Prop} : dcall .isinstance [.d x, .v (.ty "tuple")] Q = Q (.d (.bool (isTup x))) := by cases x <;> rfl
theorem dI_lst {x : PyData} {Q : Sl → Prop} : dcall .isinstance [.d x, .v (.ty "list")] Q = Q (.d (.bool (isLst x))) := by cases x <;> rfl
theorem dT_b {b : Bool} {Q : Bool → Prop} : dtru (.d (.bool b)) Q = Q b := rfl
theorem dL_t {xs : List PyData} {Q : Sl → Prop} : dcall .len [.d (.tuple xs)] Q = Q (.d (.int xs.length)) := rfl
theorem dL_l {xs : List PyData} {Q : Sl → Prop} : dcall .len [.d (.list xs)] Q = Q (.d (.int xs.length)) := rfl
theorem dL_s {z : Str} {Q : Sl → Prop} : dcall .len [.d (.str z)] Q = (z.length ≤ sizeLine ∧ Q (.d (.int z.length))) := rfl
theorem dA_b {f : PyData → Bool} {xs : List PyData} {Q : Sl → Prop} : dcall .all_ [.d (.list (xs.map fun x => .bool (f x)))] Q = Q (.d (.bool (xs.all f))) := by
  unfold dcall
  simp [boolsD_map, List.all_map]
theorem bT {A B : Prop} : bif2 true A B = A := rfl
theorem bF {A B : Prop} : bif2 false A B = B := rfl
theorem aT {xs : List PyData} {Q : List PyData → Prop} : asSeq (.d (.tuple xs)) Q = Q xs := rfl
theorem aL {xs : List PyData} {Q : List PyData → Prop} : asSeq (.d (.list xs)) Q = Q xs := rfl
theorem aS {z : Str} {Q : List PyData → Prop} : asSeq (.d (.str z)) Q = Q (z.cps.toList.map fun c => .str ⟨#[c]⟩) := rfl
theorem oD {x : PyData} {Q : PyData → Prop} : outD (.d x) Q = Q x := rfl
theorem le100 {n : Nat} (h : n ≤ 100) : n ≤ 1000000 := by omega
theorem le100s {n : Nat} (h : n ≤ 100) : n ≤ sizeLine := Nat.le_trans h (by decide)
theorem wMap_bool {f : PyData → S → (Option PyData → S → Prop) → Prop} {g : PyData → Bool} {s : S} {xs : List PyData} {Q : Sl → S → Prop} (h : ∀ x ∈ xs, ∀ k : Option PyData → S → Prop, k (some (.bool (g x))) s → f x s k) (q : Q (.d (.bool (xs.all g))) s) :
    wMap f xs s fun ys s2 => dcall .all_ [.d (.list ys)] fun z => Q z s2 := by
  refine wMap_all (g := fun x => .bool (g x)) h ?_
  rw [dA_b]
  exact q
theorem anyI {z : Int} : ∀ is : List Int, ((is.map PyData.int).any fun y => eqF y (.int z)) = is.contains z
  | [] => rfl
  | a :: as => by
    rw [List.map_cons, List.any_cons, anyI as, List.contains_cons]
    congr 1
    show (a == z) = (z == a)
    by_cases q : a = z
    · subst q
      simp
    · exact (beq_false_of_ne q).trans (beq_false_of_ne (Ne.symm q)).symm
theorem atI0 {α : Type} {x : α} {xs : List α} : atI (x :: xs) 0 = some x := by
  have : atI (x :: xs) ((0 : Nat) : Int) = some x := by
    unfold atI ixN
    simp
  exact this
theorem dx0 {a : PyData} {xs : List PyData} {Q : Sl → Prop} : dix (.d (.tuple (a :: xs))) (.d (.int 0)) Q = Q (.d a) := by simp only [dix, atI0]
theorem cut1 {α : Type} {a : α} {xs : List α} : cutG (a :: xs) (some 1) none = xs := by
  simp [cutG, HT.sIx]
theorem ds1 {a : PyData} {xs : List PyData} {Q : Sl → Prop} : dsl (.d (.tuple (a :: xs))) (some 1) none Q = Q (.d (.tuple xs)) := by simp only [dsl, cut1]
theorem shI {a : Int} : SeqAt.shaped (.int a) = true := rfl
theorem dEq_i {a b : Int} {Q : Bool → Prop} : dcmp .Eq (.d (.int a)) (.d (.int b)) Q = Q (decide (a = b)) := by
  simp [dcmp, shI, PyData.eqv]
  rw [show (a == b) = decide (a = b) from rfl]
theorem dNe_i {a b : Int} {Q : Bool → Prop} : dcmp .NotEq (.d (.int a)) (.d (.int b)) Q = Q (!decide (a = b)) := by
  simp [dcmp, shI, PyData.eqv]
  rw [show (a == b) = decide (a = b) from rfl]
theorem len4 {xs : List PyData} (h : xs.length = 4) : ∃ a b c e, xs = [a, b, c, e] := by
  match xs, h with
  | [a, b, c, e], _ => exact ⟨a, b, c, e, rfl⟩
theorem len3 {xs : List PyData} (h : xs.length = 3) : ∃ a b c, xs = [a, b, c] := by
  match xs, h with
  | [a, b, c], _ => exact ⟨a, b, c, rfl⟩
theorem len2 {xs : List PyData} (h : xs.length = 2) : ∃ a b, xs = [a, b] := by
  match xs, h with
  | [a, b], _ => exact ⟨a, b, rfl⟩
theorem len5 {xs : List PyData} (h : xs.length = 5) : ∃ a b c e f, xs = [a, b, c, e, f] := by
  match xs, h with
  | [a, b, c, e, f], _ => exact ⟨a, b, c, e, f, rfl⟩
theorem dEq_s {a b : Str} {Q : Bool → Prop} (h : SeqAt.shaped (.str a) = true) (k : SeqAt.shaped (.str b) = true) (q : Q (a == b)) : dcmp .Eq (.d (.str a)) (.d (.str b)) Q := by
  refine ⟨h, k, ?_⟩
  simpa only [PyData.eqv] using q
theorem flat_str {d : PyData} (h : isStr d = true) : flatD d = true := by cases d <;> first | rfl | cases h
theorem inS_str {ws : List PyData} {d : PyData} (h : inS ws d = true) : isStr d = true := (Bool.and_eq_true_iff.mp h).1
theorem atI1 {α : Type} {x y : α} {xs : List α} : atI (x :: y :: xs) 1 = some y := by
  have : atI (x :: y :: xs) ((1 : Nat) : Int) = some y := by
    unfold atI ixN
    rw [if_pos (by omega), if_pos (by simp only [List.length_cons]; omega)]
    rfl
  exact this
theorem dx1 {a b : PyData} {xs : List PyData} {Q : Sl → Prop} : dix (.d (.tuple (a :: b :: xs))) (.d (.int 1)) Q = Q (.d b) := by simp only [dix, atI1]
theorem dTt {xs : List PyData} {Q : Bool → Prop} : dtru (.d (.tuple xs)) Q = Q (!xs.isEmpty) := rfl
theorem cut_mem {x : PyData} {xs : List PyData} {lo hi : Option Int} (h : x ∈ cutG xs lo hi) : x ∈ xs := List.mem_of_mem_drop (List.mem_of_mem_take h)
def loopF (Γ : Gam S) (m n : Nat) (sc : Scope) (sl : Bool × List Nat) (body : List Stmt) (E : QX S) : PyData → En → S → (Out → S → Prop) → Prop := fun x ε s k => match bindS sl x ε with
  | none => False
  | some ε2 => wB Γ m n sc ε2 s body k E
def forBody : Stmt → List Stmt
  | .For _ _ b _ _ => b
  | _ => []
def isStrS (x : Sl) : Prop := ∃ z : Str, x = .d (.str z)
theorem wFor_look {f : PyData → En → S → (Out → S → Prop) → Prop} {I : En → Prop} {p : PyData → Bool} {s : S} {no : Sl} {O : Out → S → Prop} : ∀ (xs : List PyData) (ε : En), I ε →
    (∀ x ∈ xs, ∀ ε k, I ε → (p x = true → ∀ ε2, I ε2 → k (.nx ε2) s) → (p x = false → k (.rt no) s) → f x ε s k) →
    (xs.all p = true → ∀ ε, I ε → O (.nx ε) s) → (xs.all p = false → O (.rt no) s) → wFor f xs ε s O
  | [], ε, i, h, y, n => y rfl ε i
  | x :: xs, ε, i, h, y, n => h x List.mem_cons_self ε _ i (fun px ε2 i2 => wFor_look xs ε2 i2 (fun z hz => h z (List.mem_cons_of_mem _ hz)) (fun a => y (by simp [px, a])) (fun a => n (by simp [a]))) (fun px => n (by simp [px]))
theorem shL {xs : List PyData} (h : ∀ x ∈ xs, Ok x) : SeqAt.shaped (.list xs) = true := by
  unfold SeqAt.shaped
  have h1 : (PyData.list xs).canLay0 = true := by simpa only [PyData.canLay0] using canLayAll0_of fun x hx => (okD_lay (h x hx)).1
  have h2 := depthAll_of (n := 61) fun x hx => (okD_lay (h x hx)).2
  rw [h1, Bool.true_and]
  refine decide_eq_true ?_
  simp only [PyData.depth]
  omega
theorem eqv_nil {xs : List PyData} : PyData.eqv (.list xs) (.list []) = xs.isEmpty := by
  cases xs <;> simp [PyData.eqv, PyData.eqvAll]
theorem dNe_nil {xs : List PyData} {Q : Bool → Prop} (h : ∀ x ∈ xs, Ok x) (q : Q (!xs.isEmpty)) : dcmp .NotEq (.d (.list xs)) (.d (.list [])) Q := by
  refine ⟨shL h, rfl, ?_⟩
  rw [eqv_nil]
  exact q
theorem dEq_nil {xs : List PyData} {Q : Bool → Prop} (h : ∀ x ∈ xs, Ok x) (q : Q xs.isEmpty) : dcmp .Eq (.d (.list xs)) (.d (.list [])) Q := by
  refine ⟨shL h, rfl, ?_⟩
  rw [eqv_nil]
  exact q
theorem sel_empty (p : PyData → Bool) : ∀ xs : List PyData, ((xs.filter fun x => !p x).map id).isEmpty = xs.all p
  | [] => rfl
  | x :: xs => by
    have ih := sel_empty p xs
    cases h : p x with
    | true => simpa [h] using ih
    | false => simp [h]
def getV (x : Sl) (Q : Sl → Prop) : Prop := getE [some x] 0 Q
theorem gV_d {d : PyData} {Q : Sl → Prop} : getV (.d d) Q = Q (.d d) := rfl
theorem eqv_tup {xs : List PyData} : PyData.eqv (.tuple xs) (.tuple []) = xs.isEmpty := by
  cases xs <;> simp [PyData.eqv, PyData.eqvAll]
theorem dEq_tup {xs : List PyData} {Q : Bool → Prop} (h : Ok (.tuple xs)) (q : Q xs.isEmpty) : dcmp .Eq (.d (.tuple xs)) (.d (.tuple [])) Q := by
  refine ⟨h.shaped, rfl, ?_⟩
  rw [eqv_tup]
  exact q
theorem dGe_i {a b : Int} {Q : Bool → Prop} : dcmp .GtE (.d (.int a)) (.d (.int b)) Q = Q (decide (b ≤ a)) := rfl
theorem dLt_i {a b : Int} {Q : Bool → Prop} : dcmp .Lt (.d (.int a)) (.d (.int b)) Q = Q (decide (a < b)) := rfl
theorem dGt_i {a b : Int} {Q : Bool → Prop} : dcmp .Gt (.d (.int a)) (.d (.int b)) Q = Q (decide (b < a)) := rfl
def pairK {S : Type} (sl : Bool × List Nat) (ε : En) (xs : List Sl) (s : S) (K : En → S → Prop) : Prop := match dataAll xs with
  | some ds => ds.length ≤ sizeLine ∧ (match bindS sl (.tuple ds) ε with
    | none => False
    | some ε2 => K ε2 s)
  | none => False
theorem wFor_inv {f : PyData → En → S → (Out → S → Prop) → Prop} (I : Nat → En → S → Prop) {O : Out → S → Prop} : ∀ (xs : List PyData) (ε : En) (s : S), I xs.length ε s →
    (∀ x ∈ xs, ∀ n ε s k, I (n + 1) ε s → (∀ ε2 s2, I n ε2 s2 → k (.nx ε2) s2) → f x ε s k) → (∀ ε s, I 0 ε s → O (.nx ε) s) → wFor f xs ε s O
  | [], ε, s, i, _, y => y ε s i
  | x :: xs, ε, s, i, h, y => h x List.mem_cons_self xs.length ε s _ i fun ε2 s2 i2 => wFor_inv I xs ε2 s2 i2 (fun z hz => h z (List.mem_cons_of_mem _ hz)) y
theorem intsD_map : ∀ is : List Int, intsD (is.map .int) = some is
  | [] => rfl
  | i :: is => by simp [intsD, intsD_map is]
theorem strsD_map : ∀ is : List Str, strsD (is.map .str) = some is
  | [] => rfl
  | i :: is => by simp [strsD, strsD_map is]
theorem atI_in {α : Type} {xs : List α} {i : Int} (h0 : 0 ≤ i) (h1 : i < xs.length) : ∃ x ∈ xs, atI xs i = some x := by
  have hn : i.toNat < xs.length := by omega
  refine ⟨xs[i.toNat], List.getElem_mem hn, ?_⟩
  unfold atI ixN
  rw [if_pos h0, if_pos h1]
  show xs[i.toNat]? = _
  exact List.getElem?_eq_getElem hn
theorem add_i {a b : Int} {Q : Sl → Prop} : dbin .Add (.d (.int a)) (.d (.int b)) Q = Q (.d (.int (a + b))) := rfl
theorem sub_i {a b : Int} {Q : Sl → Prop} : dbin .Sub (.d (.int a)) (.d (.int b)) Q = Q (.d (.int (a - b))) := rfl
theorem one_sign {zs : List Str} (h : ∀ z ∈ zs, z.length = 1) : (zs.map (·.length)).sum = zs.length := by
  induction zs with
  | nil => rfl
  | cons z zs ih =>
    simp only [List.map_cons, List.sum_cons, List.length_cons]
    rw [ih fun u hu => h u (List.mem_cons_of_mem _ hu), h z List.mem_cons_self]
    omega
theorem ok_add {a b : Str} (h : PyData.strOk a = true) (k : PyData.strOk b = true) : PyData.strOk (a ++ b) = true := by
  unfold PyData.strOk at *
  show ((a.cps ++ b.cps).all _) = true
  rw [Array.all_append, h, k]
  rfl
theorem ok_join : ∀ zs : List Str, (∀ z ∈ zs, PyData.strOk z = true) → PyData.strOk (Str.join "" zs) = true
  | [], _ => by decide +kernel
  | [x], h => h x (by simp)
  | x :: y :: r, h => by
    show PyData.strOk (x ++ "" ++ Str.join "" (y :: r)) = true
    exact ok_add (ok_add (h x (by simp)) (by decide +kernel)) (ok_join (y :: r) fun z hz => h z (List.mem_cons_of_mem _ hz))
theorem oT {L n : Nat} {xs : List PyData} (hl : xs.length ≤ L) (h : ∀ x ∈ xs, okD L n x = true) : okD L (n + 1) (.tuple xs) = true := by
  simp only [okD, Bool.and_eq_true, decide_eq_true_eq, List.all_eq_true]
  exact ⟨hl, h⟩
theorem oL {L n : Nat} {xs : List PyData} (hl : xs.length ≤ L) (h : ∀ x ∈ xs, okD L n x = true) : okD L (n + 1) (.list xs) = true := by
  simp only [okD, Bool.and_eq_true, decide_eq_true_eq, List.all_eq_true]
  exact ⟨hl, h⟩
theorem oI {L n : Nat} {i : Int} : okD L n (.int i) = true := by simp [okD]
theorem allD_i {xs : List Sl} {ds : List PyData} {Q : List PyData → Prop} (h : dataAll xs = some ds) (q : Q ds) : allD xs Q := by
  unfold allD
  rw [h]
  exact q
theorem tup_l {xs : List PyData} {Q : Sl → Prop} : dcall .tuple_ [.d (.list xs)] Q = Q (.d (.tuple xs)) := rfl
theorem dix_l {xs : List PyData} {i : Int} {Q : Sl → Prop} (h0 : 0 ≤ i) (h1 : i < xs.length) (q : ∀ x ∈ xs, Q (.d x)) : dix (.d (.list xs)) (.d (.int i)) Q := by
  obtain ⟨x, hx, e⟩ := atI_in h0 h1
  simp only [dix, e]
  exact q x hx
theorem dix_s {w : Str} {i : Int} {Q : Sl → Prop} (hw : w.length ≤ sizeLine) (h0 : 0 ≤ i) (h1 : i < w.cps.toList.length) (q : ∀ c ∈ w.cps.toList, Q (.d (.str ⟨#[c]⟩))) : dix (.d (.str w)) (.d (.int i)) Q := by
  obtain ⟨c, hc, e⟩ := atI_in h0 h1
  refine ⟨hw, ?_⟩
  rw [e]
  exact q c hc
theorem asI {i : Int} {Q : Int → Prop} : asInt (.d (.int i)) Q = Q i := rfl
theorem cut_to {α : Type} {xs : List α} {i : Int} (h : 0 ≤ i) : cutG xs none (some i) = xs.take i.toNat := by
  unfold cutG HT.sIx
  dsimp only
  rw [if_neg (by omega)]
  simp only [List.drop_zero, Nat.sub_zero]
  by_cases c : i.toNat ≤ xs.length
  · rw [Nat.min_eq_left c]
  · rw [Nat.min_eq_right (by omega), List.take_of_length_le (by omega), List.take_of_length_le (by omega)]
theorem cut_from {α : Type} {xs : List α} {i : Int} (h : 0 ≤ i) : cutG xs (some i) none = xs.drop i.toNat := by
  unfold cutG HT.sIx
  dsimp only
  rw [if_neg (by omega)]
  by_cases c : i.toNat ≤ xs.length
  · rw [Nat.min_eq_left c, List.take_of_length_le (by simp)]
  · rw [Nat.min_eq_right (by omega), List.drop_of_length_le (by omega), List.drop_of_length_le (by omega)]
    simp
theorem cut_len {α : Type} {xs : List α} {lo hi : Option Int} : (cutG xs lo hi).length ≤ xs.length := by
  unfold cutG
  simp only [List.length_take, List.length_drop]
  omega
theorem cut_one {α : Type} {xs : List α} {i : Int} (h : 0 ≤ i) : (cutG xs (some i) (some (i + 1))).length ≤ 1 := by
  unfold cutG HT.sIx
  dsimp only
  rw [if_neg (by omega), if_neg (by omega)]
  simp only [List.length_take, List.length_drop]
  omega
theorem add_t {a b : List PyData} {Q : Sl → Prop} (h : a.length + b.length ≤ 100) (q : Q (.d (.tuple (a ++ b)))) : dbin .Add (.d (.tuple a)) (.d (.tuple b)) Q := ⟨le100s h, q⟩
theorem ds_t {xs : List PyData} {lo hi : Option Int} {Q : Sl → Prop} : dsl (.d (.tuple xs)) lo hi Q = Q (.d (.tuple (cutG xs lo hi))) := rfl
def tupD : PyData → List PyData
  | .tuple xs => xs
  | _ => []
end
end Z
set_option Elab.async false
set_option linter.all false
set_option maxRecDepth 100000
set_option maxHeartbeats 4000000
namespace Z
open PySem PySem.Spec PyProof.Rows L2 Evl
/-! ### readings -/
def gNUMBERED_WORDS : List PyData := [.str "go", .str "take"]
def gSTEP_WORDS : List PyData := [.str "go", .str "fork", .str "take", .str "none", .str "later", .str "kill", .str "release", .str "exit"]
def gl0 : List (Str × Sl) := [("LETTERS", .d (.str gLETTERS)), ("STEP_WORDS", .d (.tuple gSTEP_WORDS)), ("NUMBERED_WORDS", .d (.tuple gNUMBERED_WORDS))]
def fr0 : List Str := ["isinstance", "len", "all", "int", "bool", "str", "tuple", "list", "range", "sorted", "set"]
def isStp : PyData → Bool
  | .tuple [a, w, c] => isNum a && (inS gSTEP_WORDS w && (if (gNUMBERED_WORDS.any fun y => eqF y w) = true then isNum c else inI [-1] c))
  | _ => false
theorem isStp_no {xs : List PyData} (h : xs.length ≠ 3) : isStp (.tuple xs) = false := by
  unfold isStp
  split
  · next e =>
    cases e
    exact absurd rfl h
  · rfl
def gEX : List PyData := [.str "exclude", .str "allow"]
def gON : List PyData := [.str "on", .str "off"]
def isGd (d : PyData) : Bool := inS gON d
def ev1 (w : Str) (a : PyData) : Bool :=
  if (w == "step") = true then isStp a else if (w == "guard") = true then isGd a else ((w == "mark") && isNm a)
def ev3 (a b c : PyData) : Bool := isNm a && (isNum b && isNm c)
def evP (w : Str) (ps : List PyData) : Bool :=
  if inS gEX (.str w) = true then (match ps with
    | [a, b, c] => ev3 a b c
    | _ => false) else (match ps with
    | [a] => ev1 w a
    | _ => false)
def isEv : PyData → Bool
  | .tuple (.str w :: ps) => evP w ps
  | _ => false
/-! ### specs -/
section
variable {S : Type}
abbrev sp_is_integer : Fsp S := sp1 isInt
abbrev sp_is_number : Fsp S := sp1 isNum
abbrev sp_is_name : Fsp S := sp1 isNm
abbrev sp_is_step : Fsp S := sp1 isStp
abbrev sp_is_event : Fsp S := sp1 isEv
abbrev sp_is_guard : Fsp S := sp1 isGd
def sp_is_word : Fsp S := fun ss s Q _ => ∃ d ys, ss = [.d d, .d (.tuple ys)] ∧ Ok d ∧ ys.all flatD = true ∧ Q (.d (.bool (inS ys d))) s
def sp_is_one_of : Fsp S := fun ss s Q _ => ∃ d is, ss = [.d d, .d (.tuple (List.map PyData.int is))] ∧ Ok d ∧ Q (.d (.bool (inI is d))) s
abbrev sp_law_is_number : Fsp S := sp1 isNum
abbrev sp_law_is_name : Fsp S := sp1 isNm
abbrev sp_law_is_step : Fsp S := sp1 isStp
abbrev sp_law_is_event : Fsp S := sp1 isEv
abbrev sp_law_right : Fsp S := sp1 fun _ => true
variable (p : Addr)
def spDraw : Fsp S := fun ss s Q _ => ∃ n : Int, ss = [.v (.ref p), .d (.int n)] ∧ 0 < n ∧ n ≤ 1000 ∧ ∀ i : Int, 0 ≤ i → i < n → Q (.d (.int i)) s
def spPick : Fsp S := fun ss s Q _ => (∃ xs : List PyData, ss = [.v (.ref p), .d (.list xs)] ∧ xs ≠ [] ∧ xs.length ≤ 100 ∧ ∀ x ∈ xs, Q (.d x) s) ∨
  ∃ z : Str, ss = [.v (.ref p), .d (.str z)] ∧ 0 < z.cps.toList.length ∧ z.length ≤ 100 ∧ ∀ c ∈ z.cps.toList, Q (.d (.str ⟨#[c]⟩)) s
def spStrange : Fsp S := fun ss s Q _ => ss = [.v (.ref p)] ∧ ∀ d, okD 10 2 d = true → Q (.d d) s
def spBent (L m : Nat) : Fsp S := fun ss s Q _ => ∃ d, ss = [.v (.ref p), .d d] ∧ okD L m d = true ∧ ∀ d2, okD (L + 1) (m + 2) d2 = true → Q (.d d2) s
/-- bent, at any bounds, up to a depth; 0: not at all -/
def spBentU : Nat → Fsp S
  | 0 => fun _ _ _ _ => False
  | n + 1 => fun ss s Q E => ∃ L m, 10 ≤ L ∧ L ≤ 40 ∧ m ≤ n ∧ spBent p L m ss s Q E
class Fd where
  p : Addr
class Dpt where
  n : Nat
end
section
variable {S : Type} [Fd]
abbrev sp_law_draw : Fsp S := spDraw Fd.p
abbrev sp_law_pick : Fsp S := spPick Fd.p
abbrev sp_law_strange : Fsp S := spStrange Fd.p
abbrev sp_law_bent [Dpt] : Fsp S := spBentU Fd.p Dpt.n
end
end Z
set_option Elab.async false
set_option linter.all false
set_option maxRecDepth 100000
set_option maxHeartbeats 4000000
namespace Z
open PySem PySem.Spec PyProof.Rows L2 Evl
section
variable {S : Type} 

def top (i : Nat) : Stmt := PySem.Challenge.pw_forkyields_k66_events.main.body.getD i (.Pass ⟨0, 0, 0, 0⟩)
abbrev s_is_integer : Stmt := top 4
theorem sc_is_integer : FnScope ["thing"] ["thing"] (defScope s_is_integer) := ⟨rfl, rfl, rfl, by decide +kernel, rfl, by decide +kernel, by decide +kernel⟩
abbrev G_is_integer : Gam S := ⟨["thing"], gl0, [], fr0, [], false, false⟩
def J_is_integer_1 (Q : QS S) (E : QX S) (d0 : PyData) (x1 : Sl) (s2 : S) : Prop :=
Q x1 s2
theorem f_is_integer (d0 : PyData) (s : S) (Q : QS S) (E : QX S) : wB G_is_integer 30 30 (defScope s_is_integer) (startE ["thing"] [.d d0]) s (defBody s_is_integer) (fnO Q) E = (
dcall .isinstance [(.d d0), (.v (.ty "int"))] fun z3 =>
dtru z3 fun b4 =>
if b4 = true then (dcall .isinstance [(.d d0), (.v (.ty "bool"))] fun z5 =>
dtru z5 fun b6 =>
J_is_integer_1 Q E d0 (.d (.bool (!b6))) s) else (J_is_integer_1 Q E d0 (z3) s)) := by kernel_rfl

abbrev s_is_number : Stmt := top 5
theorem sc_is_number : FnScope ["thing"] ["thing"] (defScope s_is_number) := ⟨rfl, rfl, rfl, by decide +kernel, rfl, by decide +kernel, by decide +kernel⟩
abbrev G_is_number : Gam S := ⟨["thing"], gl0, [("is_integer", sp_is_integer)], fr0, [], false, false⟩
def J_is_number_1 (Q : QS S) (E : QX S) (d0 : PyData) (x1 : Sl) (s2 : S) : Prop :=
Q x1 s2
theorem f_is_number (d0 : PyData) (s : S) (Q : QS S) (E : QX S) : wB G_is_number 30 30 (defScope s_is_number) (startE ["thing"] [.d d0]) s (defBody s_is_number) (fnO Q) E = (
sp_is_integer [(.d d0)] s (fun y3 s4 =>
dtru y3 fun b5 =>
if b5 = true then (dcmp .GtE (.d d0) (.d (.int 0)) fun c6 =>
J_is_number_1 Q E d0 (.d (.bool c6)) s4) else (J_is_number_1 Q E d0 (y3) s4)) E) := by kernel_rfl

abbrev s_is_name : Stmt := top 6
theorem sc_is_name : FnScope ["thing", "letter"] ["thing"] (defScope s_is_name) := ⟨rfl, rfl, rfl, by decide +kernel, rfl, by decide +kernel, by decide +kernel⟩
abbrev G_is_name : Gam S := ⟨["thing", "letter"], gl0, [], fr0, [], false, false⟩
def J_is_name_1 (Q : QS S) (E : QX S) (d0 : PyData) (x1 : Sl) (s2 : S) : Prop :=
Q x1 s2
theorem f_is_name (d0 : PyData) (s : S) (Q : QS S) (E : QX S) : wB G_is_name 30 30 (defScope s_is_name) (startE ["thing", "letter"] [.d d0]) s (defBody s_is_name) (fnO Q) E = (
dcall .isinstance [(.d d0), (.v (.ty "str"))] fun z3 =>
dtru z3 fun b4 =>
if b4 = true then (dcall .len [(.d d0)] fun z5 =>
dcmp .LtE (.d (.int 1)) z5 fun c6 =>
if c6 = true then (dcmp .LtE z5 (.d (.int 8)) fun c7 =>
if c7 = true then (asSeq (.d d0) fun xs8 =>
xs8.length ≤ 1000000 ∧ wMap (fun x9 s10 k11 => dcmp .In (.d x9) (.d (.str gLETTERS)) fun c12 =>
outD (.d (.bool c12)) fun y => k11 (some y) s10) xs8 s fun ys13 s14 =>
dcall .all_ [(.d (.list ys13))] fun z15 =>
J_is_name_1 Q E d0 (z15) s14) else (J_is_name_1 Q E d0 (.d (.bool c7)) s)) else (J_is_name_1 Q E d0 (.d (.bool false)) s)) else (J_is_name_1 Q E d0 (z3) s)) := by kernel_rfl

abbrev s_is_word : Stmt := top 7
theorem sc_is_word : FnScope ["thing", "words"] ["thing", "words"] (defScope s_is_word) := ⟨rfl, rfl, rfl, by decide +kernel, rfl, by decide +kernel, by decide +kernel⟩
abbrev G_is_word : Gam S := ⟨["thing", "words"], gl0, [], fr0, [], false, false⟩
def J_is_word_1 (Q : QS S) (E : QX S) (d0 : PyData) (d1 : PyData) (x1 : Sl) (s2 : S) : Prop :=
Q x1 s2
theorem f_is_word (d0 : PyData) (d1 : PyData) (s : S) (Q : QS S) (E : QX S) : wB G_is_word 30 30 (defScope s_is_word) (startE ["thing", "words"] [.d d0, .d d1]) s (defBody s_is_word) (fnO Q) E = (
dcall .isinstance [(.d d0), (.v (.ty "str"))] fun z3 =>
dtru z3 fun b4 =>
if b4 = true then (dcmp .In (.d d0) (.d d1) fun c5 =>
J_is_word_1 Q E d0 d1 (.d (.bool c5)) s) else (J_is_word_1 Q E d0 d1 (z3) s)) := by kernel_rfl

abbrev s_is_one_of : Stmt := top 8
theorem sc_is_one_of : FnScope ["thing", "numbers"] ["thing", "numbers"] (defScope s_is_one_of) := ⟨rfl, rfl, rfl, by decide +kernel, rfl, by decide +kernel, by decide +kernel⟩
abbrev G_is_one_of : Gam S := ⟨["thing", "numbers"], gl0, [("is_integer", sp_is_integer)], fr0, [], false, false⟩
def J_is_one_of_1 (Q : QS S) (E : QX S) (d0 : PyData) (d1 : PyData) (x1 : Sl) (s2 : S) : Prop :=
Q x1 s2
theorem f_is_one_of (d0 : PyData) (d1 : PyData) (s : S) (Q : QS S) (E : QX S) : wB G_is_one_of 30 30 (defScope s_is_one_of) (startE ["thing", "numbers"] [.d d0, .d d1]) s (defBody s_is_one_of) (fnO Q) E = (
sp_is_integer [(.d d0)] s (fun y3 s4 =>
dtru y3 fun b5 =>
if b5 = true then (dcmp .In (.d d0) (.d d1) fun c6 =>
J_is_one_of_1 Q E d0 d1 (.d (.bool c6)) s4) else (J_is_one_of_1 Q E d0 d1 (y3) s4)) E) := by kernel_rfl

abbrev s_is_step : Stmt := top 9
theorem sc_is_step : FnScope ["thing", "process", "word", "number"] ["thing"] (defScope s_is_step) := ⟨rfl, rfl, rfl, by decide +kernel, rfl, by decide +kernel, by decide +kernel⟩
abbrev G_is_step : Gam S := ⟨["thing", "process", "word", "number"], gl0, [("is_number", sp_is_number), ("is_one_of", sp_is_one_of), ("is_word", sp_is_word)], fr0, [], false, false⟩
def J_is_step_1 (Q : QS S) (E : QX S) (d0 : PyData) (x1 : Bool) (s2 : S) : Prop :=
bif2 x1 (Q (.d (.bool false)) s2) (wB G_is_step 30 29 (defScope s_is_step) [some (.d d0), none, none, none] s2 ((defBody s_is_step).drop 1) (fnO Q) E)
theorem f_is_step (d0 : PyData) (s : S) (Q : QS S) (E : QX S) : wB G_is_step 30 30 (defScope s_is_step) (startE ["thing", "process", "word", "number"] [.d d0]) s (defBody s_is_step) (fnO Q) E = (
dcall .isinstance [(.d d0), (.v (.ty "tuple"))] fun z3 =>
dtru z3 fun b4 =>
if (!b4) = true then (J_is_step_1 Q E d0 (!b4) s) else (dcall .len [(.d d0)] fun z5 =>
dcmp .NotEq z5 (.d (.int 3)) fun c6 =>
J_is_step_1 Q E d0 (c6) s)) := by kernel_rfl

def J_is_step_2 (Q : QS S) (E : QX S) (e0 : PyData) (e1 : PyData) (e2 : PyData) (x7 : Bool) (s8 : S) : Prop :=
bif2 x7 (Q (.d (.bool false)) s8) (dcmp .In (.d e1) (.d (.tuple gNUMBERED_WORDS)) fun c9 =>
bif2 c9 (sp_is_number [(.d e2)] s8 (fun y10 s11 =>
Q y10 s11) E) ((List.length ([(.int (-1))] : List PyData)) ≤ sizeLine ∧
sp_is_one_of [(.d e2), (.d (.tuple [(.int (-1))]))] s8 (fun y12 s13 =>
Q y12 s13) E))
theorem f_is_step_r (e0 e1 e2 : PyData) (s : S) (Q : QS S) (E : QX S) : wB G_is_step 30 29 (defScope s_is_step) [some (.d (.tuple [e0, e1, e2])), none, none, none] s ((defBody s_is_step).drop 1) (fnO Q) E = (
sp_is_number [(.d e0)] s (fun y14 s15 =>
dtru y14 fun b16 =>
if (!b16) = true then (J_is_step_2 Q E e0 e1 e2 (!b16) s15) else (sp_is_word [(.d e1), (.d (.tuple gSTEP_WORDS))] s15 (fun y17 s18 =>
dtru y17 fun b19 =>
J_is_step_2 Q E e0 e1 e2 (!b19) s18) E)) E) := by kernel_rfl

abbrev s_is_event : Stmt := top 11
theorem sc_is_event : FnScope ["thing", "word", "parts"] ["thing"] (defScope s_is_event) := ⟨rfl, rfl, rfl, by decide +kernel, rfl, by decide +kernel, by decide +kernel⟩
abbrev G_is_event : Gam S := ⟨["thing", "word", "parts"], gl0, [("is_name", sp_is_name), ("is_number", sp_is_number), ("is_step", sp_is_step), ("is_guard", sp_is_guard)], fr0, [], false, false⟩
def J_is_event_2 (Q : QS S) (E : QX S) (d0 : PyData) (x1 : Bool) (s2 : S) (z3 : Sl) (z4 : Sl) (c5 : Bool) (x6 : Sl) (s7 : S) : Prop :=
Q x6 s7
def J_is_event_3 (Q : QS S) (E : QX S) (d0 : PyData) (x1 : Bool) (s2 : S) (z3 : Sl) (z4 : Sl) (c5 : Bool) (z21 : Sl) (c22 : Bool) (c23 : Bool) (c27 : Bool) (x31 : Sl) (s32 : S) : Prop :=
Q x31 s32
def J_is_event_1 (Q : QS S) (E : QX S) (d0 : PyData) (x1 : Bool) (s2 : S) : Prop :=
bif2 x1 (Q (.d (.bool false)) s2) (dix (.d d0) (.d (.int 0)) fun z3 =>
dsl (.d d0) (some 1) none fun z4 =>
(List.length ([(.str "exclude"), (.str "allow")] : List PyData)) ≤ sizeLine ∧
dcmp .In z3 (.d (.tuple [(.str "exclude"), (.str "allow")])) fun c5 =>
bif2 c5 (dcall .len [z4] fun z8 =>
dcmp .Eq z8 (.d (.int 3)) fun c9 =>
if c9 = true then (dix z4 (.d (.int 0)) fun z10 =>
sp_is_name [z10] s2 (fun y11 s12 =>
dtru y11 fun b13 =>
if b13 = true then (dix z4 (.d (.int 1)) fun z14 =>
sp_is_number [z14] s12 (fun y15 s16 =>
dtru y15 fun b17 =>
if b17 = true then (dix z4 (.d (.int 2)) fun z18 =>
sp_is_name [z18] s16 (fun y19 s20 =>
J_is_event_2 Q E d0 x1 s2 z3 z4 c5 (y19) s20) E) else (J_is_event_2 Q E d0 x1 s2 z3 z4 c5 (y15) s16)) E) else (J_is_event_2 Q E d0 x1 s2 z3 z4 c5 (y11) s12)) E) else (J_is_event_2 Q E d0 x1 s2 z3 z4 c5 (.d (.bool c9)) s2)) (dcall .len [z4] fun z21 =>
dcmp .NotEq z21 (.d (.int 1)) fun c22 =>
bif2 c22 (Q (.d (.bool false)) s2) (dcmp .Eq z3 (.d (.str "step")) fun c23 =>
bif2 c23 (dix z4 (.d (.int 0)) fun z24 =>
sp_is_step [z24] s2 (fun y25 s26 =>
Q y25 s26) E) (dcmp .Eq z3 (.d (.str "guard")) fun c27 =>
bif2 c27 (dix z4 (.d (.int 0)) fun z28 =>
sp_is_guard [z28] s2 (fun y29 s30 =>
Q y29 s30) E) (dcmp .Eq z3 (.d (.str "mark")) fun c33 =>
if c33 = true then (dix z4 (.d (.int 0)) fun z34 =>
sp_is_name [z34] s2 (fun y35 s36 =>
J_is_event_3 Q E d0 x1 s2 z3 z4 c5 z21 c22 c23 c27 (y35) s36) E) else (J_is_event_3 Q E d0 x1 s2 z3 z4 c5 z21 c22 c23 c27 (.d (.bool c33)) s2))))))
theorem f_is_event (d0 : PyData) (s : S) (Q : QS S) (E : QX S) : wB G_is_event 30 30 (defScope s_is_event) (startE ["thing", "word", "parts"] [.d d0]) s (defBody s_is_event) (fnO Q) E = (
dcall .isinstance [(.d d0), (.v (.ty "tuple"))] fun z37 =>
dtru z37 fun b38 =>
if (!b38) = true then (J_is_event_1 Q E d0 (!b38) s) else (dcall .len [(.d d0)] fun z39 =>
dcmp .Lt z39 (.d (.int 2)) fun c40 =>
if c40 = true then (J_is_event_1 Q E d0 (c40) s) else (dix (.d d0) (.d (.int 0)) fun z41 =>
dcall .isinstance [z41, (.v (.ty "str"))] fun z42 =>
dtru z42 fun b43 =>
J_is_event_1 Q E d0 (!b43) s))) := by kernel_rfl

abbrev s_is_guard : Stmt := top 12
theorem sc_is_guard : FnScope ["thing"] ["thing"] (defScope s_is_guard) := ⟨rfl, rfl, rfl, by decide +kernel, rfl, by decide +kernel, by decide +kernel⟩
abbrev G_is_guard : Gam S := ⟨["thing"], gl0, [("is_word", sp_is_word)], fr0, [], false, false⟩
theorem f_is_guard (d0 : PyData) (s : S) (Q : QS S) (E : QX S) : wB G_is_guard 30 30 (defScope s_is_guard) (startE ["thing"] [.d d0]) s (defBody s_is_guard) (fnO Q) E = (
(List.length ([(.str "on"), (.str "off")] : List PyData)) ≤ sizeLine ∧
sp_is_word [(.d d0), (.d (.tuple [(.str "on"), (.str "off")]))] s (fun y1 s2 =>
Q y1 s2) E) := by kernel_rfl

abbrev s_law_is_number : Stmt := top 17
theorem sc_law_is_number : FnScope ["_law_thing"] ["_law_thing"] (defScope s_law_is_number) := ⟨rfl, rfl, rfl, by decide +kernel, rfl, by decide +kernel, by decide +kernel⟩
abbrev G_law_is_number : Gam S := ⟨["_law_thing"], gl0, [], fr0, [], false, false⟩
def J_law_is_number_1 (Q : QS S) (E : QX S) (d0 : PyData) (x1 : Sl) (s2 : S) : Prop :=
Q x1 s2
theorem f_law_is_number (d0 : PyData) (s : S) (Q : QS S) (E : QX S) : wB G_law_is_number 30 30 (defScope s_law_is_number) (startE ["_law_thing"] [.d d0]) s (defBody s_law_is_number) (fnO Q) E = (
dcall .isinstance [(.d d0), (.v (.ty "int"))] fun z3 =>
dtru z3 fun b4 =>
if b4 = true then (dcall .isinstance [(.d d0), (.v (.ty "bool"))] fun z5 =>
dtru z5 fun b6 =>
if (!b6) = true then (dcmp .GtE (.d d0) (.d (.int 0)) fun c7 =>
J_law_is_number_1 Q E d0 (.d (.bool c7)) s) else (J_law_is_number_1 Q E d0 (.d (.bool (!b6))) s)) else (J_law_is_number_1 Q E d0 (z3) s)) := by kernel_rfl

abbrev s_law_is_name : Stmt := top 18
theorem sc_law_is_name : FnScope ["_law_thing", "_law_sign"] ["_law_thing"] (defScope s_law_is_name) := ⟨rfl, rfl, rfl, by decide +kernel, rfl, by decide +kernel, by decide +kernel⟩
abbrev G_law_is_name : Gam S := ⟨["_law_thing", "_law_sign"], gl0, [], fr0, [], false, false⟩
def J_law_is_name_1 (Q : QS S) (E : QX S) (d0 : PyData) (x1 : Bool) (s2 : S) : Prop :=
bif2 x1 (Q (.d (.bool false)) s2) (asSeq (.d d0) fun xs3 =>
xs3.length ≤ 1000000 ∧ wMap (fun x4 s5 k6 => dcmp .NotIn (.d x4) (.d (.str "abcdefghijklmnopqrstuvwxyz")) fun c7 =>
bif2 c7 (outD (.d x4) fun y => k6 (some y) s5) (k6 none s5)) xs3 s2 fun ys8 s9 =>
(List.length ([] : List PyData)) ≤ sizeLine ∧
dcmp .Eq (.d (.list ys8)) (.d (.list [])) fun c10 =>
Q (.d (.bool c10)) s9)
theorem f_law_is_name (d0 : PyData) (s : S) (Q : QS S) (E : QX S) : wB G_law_is_name 30 30 (defScope s_law_is_name) (startE ["_law_thing", "_law_sign"] [.d d0]) s (defBody s_law_is_name) (fnO Q) E = (
dcall .isinstance [(.d d0), (.v (.ty "str"))] fun z11 =>
dtru z11 fun b12 =>
if (!b12) = true then (J_law_is_name_1 Q E d0 (!b12) s) else (dcall .len [(.d d0)] fun z13 =>
dcmp .LtE (.d (.int 1)) z13 fun c14 =>
if c14 = true then (dcmp .LtE z13 (.d (.int 8)) fun c15 =>
J_law_is_name_1 Q E d0 (!c15) s) else (J_law_is_name_1 Q E d0 (!false) s))) := by kernel_rfl

abbrev s_law_is_step : Stmt := top 19
theorem sc_law_is_step : FnScope ["_law_thing", "_law_is_word"] ["_law_thing"] (defScope s_law_is_step) := ⟨rfl, rfl, rfl, by decide +kernel, rfl, by decide +kernel, by decide +kernel⟩
abbrev G_law_is_step : Gam S := ⟨["_law_thing", "_law_is_word"], gl0, [("_law_is_number", sp_law_is_number)], fr0, [], false, false⟩
def J_law_is_step_2 (Q : QS S) (E : QX S) (d0 : PyData) (x1 : Bool) (s2 : S) (z3 : Sl) (c4 : Bool) (z8 : Sl) (c9 : Bool) (x10 : Sl) (s11 : S) : Prop :=
Q x10 s11
def J_law_is_step_1 (Q : QS S) (E : QX S) (d0 : PyData) (x1 : Bool) (s2 : S) : Prop :=
bif2 x1 (Q (.d (.bool false)) s2) (dix (.d d0) (.d (.int 1)) fun z3 =>
(List.length ([(.str "go"), (.str "take")] : List PyData)) ≤ sizeLine ∧
dcmp .In z3 (.d (.tuple [(.str "go"), (.str "take")])) fun c4 =>
bif2 c4 (dix (.d d0) (.d (.int 2)) fun z5 =>
sp_law_is_number [z5] s2 (fun y6 s7 =>
Q y6 s7) E) (dix (.d d0) (.d (.int 1)) fun z8 =>
(List.length ([(.str "fork"), (.str "none"), (.str "later"), (.str "kill"), (.str "release"), (.str "exit")] : List PyData)) ≤ sizeLine ∧
dcmp .In z8 (.d (.tuple [(.str "fork"), (.str "none"), (.str "later"), (.str "kill"), (.str "release"), (.str "exit")])) fun c9 =>
if c9 = true then (dix (.d d0) (.d (.int 2)) fun z12 =>
dcall .isinstance [z12, (.v (.ty "int"))] fun z13 =>
dtru z13 fun b14 =>
if b14 = true then (dix (.d d0) (.d (.int 2)) fun z15 =>
dcall .isinstance [z15, (.v (.ty "bool"))] fun z16 =>
dtru z16 fun b17 =>
if (!b17) = true then (dix (.d d0) (.d (.int 2)) fun z18 =>
dcmp .Eq z18 (.d (.int (-1))) fun c19 =>
J_law_is_step_2 Q E d0 x1 s2 z3 c4 z8 c9 (.d (.bool c19)) s2) else (J_law_is_step_2 Q E d0 x1 s2 z3 c4 z8 c9 (.d (.bool (!b17))) s2)) else (J_law_is_step_2 Q E d0 x1 s2 z3 c4 z8 c9 (z13) s2)) else (J_law_is_step_2 Q E d0 x1 s2 z3 c4 z8 c9 (.d (.bool c9)) s2)))
theorem f_law_is_step (d0 : PyData) (s : S) (Q : QS S) (E : QX S) : wB G_law_is_step 30 30 (defScope s_law_is_step) (startE ["_law_thing", "_law_is_word"] [.d d0]) s (defBody s_law_is_step) (fnO Q) E = (
dcall .isinstance [(.d d0), (.v (.ty "tuple"))] fun z20 =>
dtru z20 fun b21 =>
if (!b21) = true then (J_law_is_step_1 Q E d0 (!b21) s) else (dcall .len [(.d d0)] fun z22 =>
dcmp .NotEq z22 (.d (.int 3)) fun c23 =>
if c23 = true then (J_law_is_step_1 Q E d0 (c23) s) else (dix (.d d0) (.d (.int 0)) fun z24 =>
sp_law_is_number [z24] s (fun y25 s26 =>
dtru y25 fun b27 =>
if (!b27) = true then (J_law_is_step_1 Q E d0 (!b27) s26) else (dix (.d d0) (.d (.int 1)) fun z28 =>
dcall .isinstance [z28, (.v (.ty "str"))] fun z29 =>
dtru z29 fun b30 =>
J_law_is_step_1 Q E d0 (!b30) s26)) E))) := by kernel_rfl

abbrev s_law_is_event : Stmt := top 20
theorem sc_law_is_event : FnScope ["_law_thing"] ["_law_thing"] (defScope s_law_is_event) := ⟨rfl, rfl, rfl, by decide +kernel, rfl, by decide +kernel, by decide +kernel⟩
abbrev G_law_is_event : Gam S := ⟨["_law_thing"], gl0, [("_law_is_name", sp_law_is_name), ("_law_is_number", sp_law_is_number), ("_law_is_step", sp_law_is_step)], fr0, [], false, false⟩
def J_law_is_event_2 (Q : QS S) (E : QX S) (d0 : PyData) (x1 : Bool) (s2 : S) (z3 : Sl) (c4 : Bool) (x5 : Sl) (s6 : S) : Prop :=
Q x5 s6
def J_law_is_event_3 (Q : QS S) (E : QX S) (d0 : PyData) (x1 : Bool) (s2 : S) (z3 : Sl) (c4 : Bool) (z20 : Sl) (c21 : Bool) (z22 : Sl) (c23 : Bool) (z27 : Sl) (c28 : Bool) (x29 : Sl) (s30 : S) : Prop :=
Q x29 s30
def J_law_is_event_4 (Q : QS S) (E : QX S) (d0 : PyData) (x1 : Bool) (s2 : S) (z3 : Sl) (c4 : Bool) (z20 : Sl) (c21 : Bool) (z22 : Sl) (c23 : Bool) (z27 : Sl) (c28 : Bool) (x36 : Sl) (s37 : S) : Prop :=
Q x36 s37
def J_law_is_event_1 (Q : QS S) (E : QX S) (d0 : PyData) (x1 : Bool) (s2 : S) : Prop :=
bif2 x1 (Q (.d (.bool false)) s2) (dix (.d d0) (.d (.int 0)) fun z3 =>
(List.length ([(.str "exclude"), (.str "allow")] : List PyData)) ≤ sizeLine ∧
dcmp .In z3 (.d (.tuple [(.str "exclude"), (.str "allow")])) fun c4 =>
bif2 c4 (dcall .len [(.d d0)] fun z7 =>
dcmp .Eq z7 (.d (.int 4)) fun c8 =>
if c8 = true then (dix (.d d0) (.d (.int 1)) fun z9 =>
sp_law_is_name [z9] s2 (fun y10 s11 =>
dtru y10 fun b12 =>
if b12 = true then (dix (.d d0) (.d (.int 2)) fun z13 =>
sp_law_is_number [z13] s11 (fun y14 s15 =>
dtru y14 fun b16 =>
if b16 = true then (dix (.d d0) (.d (.int 3)) fun z17 =>
sp_law_is_name [z17] s15 (fun y18 s19 =>
J_law_is_event_2 Q E d0 x1 s2 z3 c4 (y18) s19) E) else (J_law_is_event_2 Q E d0 x1 s2 z3 c4 (y14) s15)) E) else (J_law_is_event_2 Q E d0 x1 s2 z3 c4 (y10) s11)) E) else (J_law_is_event_2 Q E d0 x1 s2 z3 c4 (.d (.bool c8)) s2)) (dcall .len [(.d d0)] fun z20 =>
dcmp .NotEq z20 (.d (.int 2)) fun c21 =>
bif2 c21 (Q (.d (.bool false)) s2) (dix (.d d0) (.d (.int 0)) fun z22 =>
dcmp .Eq z22 (.d (.str "step")) fun c23 =>
bif2 c23 (dix (.d d0) (.d (.int 1)) fun z24 =>
sp_law_is_step [z24] s2 (fun y25 s26 =>
Q y25 s26) E) (dix (.d d0) (.d (.int 0)) fun z27 =>
dcmp .Eq z27 (.d (.str "guard")) fun c28 =>
bif2 c28 (dix (.d d0) (.d (.int 1)) fun z31 =>
dcall .isinstance [z31, (.v (.ty "str"))] fun z32 =>
dtru z32 fun b33 =>
if b33 = true then (dix (.d d0) (.d (.int 1)) fun z34 =>
(List.length ([(.str "on"), (.str "off")] : List PyData)) ≤ sizeLine ∧
dcmp .In z34 (.d (.tuple [(.str "on"), (.str "off")])) fun c35 =>
J_law_is_event_3 Q E d0 x1 s2 z3 c4 z20 c21 z22 c23 z27 c28 (.d (.bool c35)) s2) else (J_law_is_event_3 Q E d0 x1 s2 z3 c4 z20 c21 z22 c23 z27 c28 (z32) s2)) (dix (.d d0) (.d (.int 0)) fun z38 =>
dcmp .Eq z38 (.d (.str "mark")) fun c39 =>
if c39 = true then (dix (.d d0) (.d (.int 1)) fun z40 =>
sp_law_is_name [z40] s2 (fun y41 s42 =>
J_law_is_event_4 Q E d0 x1 s2 z3 c4 z20 c21 z22 c23 z27 c28 (y41) s42) E) else (J_law_is_event_4 Q E d0 x1 s2 z3 c4 z20 c21 z22 c23 z27 c28 (.d (.bool c39)) s2))))))
theorem f_law_is_event (d0 : PyData) (s : S) (Q : QS S) (E : QX S) : wB G_law_is_event 30 30 (defScope s_law_is_event) (startE ["_law_thing"] [.d d0]) s (defBody s_law_is_event) (fnO Q) E = (
dcall .isinstance [(.d d0), (.v (.ty "tuple"))] fun z43 =>
dtru z43 fun b44 =>
if (!b44) = true then (J_law_is_event_1 Q E d0 (!b44) s) else (dcall .len [(.d d0)] fun z45 =>
dcmp .Lt z45 (.d (.int 2)) fun c46 =>
if c46 = true then (J_law_is_event_1 Q E d0 (c46) s) else (dix (.d d0) (.d (.int 0)) fun z47 =>
dcall .isinstance [z47, (.v (.ty "str"))] fun z48 =>
dtru z48 fun b49 =>
J_law_is_event_1 Q E d0 (!b49) s))) := by kernel_rfl

abbrev s_law_right : Stmt := top 23
theorem sc_law_right : FnScope ["_law_thing", "_law_told"] ["_law_thing"] (defScope s_law_right) := ⟨rfl, rfl, rfl, by decide +kernel, rfl, by decide +kernel, by decide +kernel⟩
abbrev G_law_right : Gam S := ⟨["_law_thing", "_law_told"], gl0, [("is_event", sp_is_event), ("_law_is_event", sp_law_is_event)], fr0, [], false, false⟩
def J_law_right_1 (Q : QS S) (E : QX S) (d0 : PyData) (y1 : Sl) (s2 : S) (x3 : Sl) (s4 : S) : Prop :=
Q x3 s4
theorem f_law_right (d0 : PyData) (s : S) (Q : QS S) (E : QX S) : wB G_law_right 30 30 (defScope s_law_right) (startE ["_law_thing", "_law_told"] [.d d0]) s (defBody s_law_right) (fnO Q) E = (
sp_is_event [(.d d0)] s (fun y1 s2 =>
dcall .isinstance [y1, (.v (.ty "bool"))] fun z5 =>
dtru z5 fun b6 =>
if b6 = true then (sp_law_is_event [(.d d0)] s2 (fun y7 s8 =>
dcmp .Eq y1 y7 fun c9 =>
J_law_right_1 Q E d0 y1 s2 (.d (.bool c9)) s8) E) else (J_law_right_1 Q E d0 y1 s2 (z5) s2)) E) := by kernel_rfl

end
end Z
set_option Elab.async false
set_option linter.all false
set_option maxRecDepth 100000
set_option maxHeartbeats 4000000
namespace Z
open PySem PySem.Spec PyProof.Rows L2 Evl
section
variable {S : Type}

theorem ok_is_integer : Wok (S := S) G_is_integer s_is_integer sp_is_integer := by
  rintro ss s Q E ⟨d, rfl, hd, hq⟩
  refine Eq.mpr (f_is_integer d s Q E) ?_
  simp only [dI_int, dI_bool, dT_b, J_is_integer_1]
  cases d <;> simpa [isIb, isBl, isInt] using hq
theorem ok_is_number : Wok (S := S) G_is_number s_is_number sp_is_number := by
  rintro ss s Q E ⟨d, rfl, hd, hq⟩
  refine Eq.mpr (f_is_number d s Q E) (sp1_in hd ?_)
  cases d <;> simpa [dT_b, isInt, isNum, dcmp, J_is_number_1] using hq
theorem ok_is_name : Wok (S := S) G_is_name s_is_name sp_is_name := by
  rintro ss s Q E ⟨d, rfl, hd, hq⟩
  refine Eq.mpr (f_is_name d s Q E) ?_
  simp only [dI_str, dT_b]
  cases d with
  | str z =>
    have hz := hd.str
    simp only [isStr, if_true, dL_s, dcmp, aS, J_is_name_1]
    refine ⟨le100s hz, ?_⟩
    simp only [isNm] at hq
    by_cases h1 : (1 : Int) ≤ z.length
    · have h1' : 1 ≤ z.length := by omega
      by_cases h8 : (z.length : Int) ≤ 8
      · have h8' : z.length ≤ 8 := by omega
        simp only [h1, h8, h1', h8', decide_true, if_true, Bool.true_and, List.length_map] at hq ⊢
        refine ⟨?_, ?_⟩
        · have : z.cps.toList.length = z.length := by simp [Str.length]
          omega
        · refine wMap_all (g := fun x => .bool (match x with
            | .str c => decide (c.cps.toList.headD 0 ∈ gLETTERS.cps.toList)
            | _ => false)) (fun x hx k hk => ?_) ?_
          · obtain ⟨c, hc, rfl⟩ := List.mem_map.mp hx
            exact ⟨c, rfl, by simpa [oD] using hk⟩
          · rw [dA_b, List.all_map]
            exact hq
      · have h8' : ¬ z.length ≤ 8 := by omega
        simpa [h1, h8, h1', h8'] using hq
    · have h1' : ¬ 1 ≤ z.length := by omega
      simpa [h1, h1'] using hq
  | _ => simpa [isStr, isNm, J_is_name_1] using hq
theorem ok_is_word : Wok (S := S) G_is_word s_is_word sp_is_word := by
  rintro ss s Q E ⟨d, ys, rfl, hd, hy, hq⟩
  refine Eq.mpr (f_is_word d (.tuple ys) s Q E) ?_
  simp only [dI_str, dT_b]
  cases d with
  | str z =>
    simp only [isStr, if_true, dcmp, flatD, J_is_word_1]
    exact ⟨True.intro, hy, by simpa [isStr, inS] using hq⟩
  | _ => simpa [isStr, inS, J_is_word_1] using hq
theorem ok_is_one_of : Wok (S := S) G_is_one_of s_is_one_of sp_is_one_of := by
  rintro ss s Q E ⟨d, is, rfl, hd, hq⟩
  refine Eq.mpr (f_is_one_of d (.tuple (is.map .int)) s Q E) (sp1_in hd ?_)
  rw [dT_b]
  cases d with
  | int z =>
    simp only [isInt, if_true, dcmp, flatD, J_is_one_of_1]
    refine ⟨True.intro, by simp [flatD], ?_⟩
    rw [anyI]
    exact hq
  | _ => simpa [isInt, inI, J_is_one_of_1] using hq
theorem ok_is_step : Wok (S := S) G_is_step s_is_step sp_is_step := by
  rintro ss s Q E ⟨d, rfl, hd, hq⟩
  refine Eq.mpr (f_is_step d s Q E) ?_
  simp only [dI_tup, dT_b]
  cases d with
  | tuple xs =>
    obtain ⟨hl, hm⟩ := hd.tup
    simp only [isTup, Bool.not_true, Bool.false_eq_true, if_false, dL_t, dNe_i]
    by_cases h3 : xs.length = 3
    · obtain ⟨a, b, c, rfl⟩ := len3 h3
      show bif2 false _ _
      rw [bF]
      refine Eq.mpr (f_is_step_r a b c s Q E) (sp1_in (hm a (by simp)) ?_)
      rw [dT_b]
      simp only [isStp] at hq
      cases ha : isNum a with
      | false => simpa [ha, J_is_step_2, bT] using hq
      | true =>
        simp only [Bool.not_true, Bool.false_eq_true, if_false]
        refine ⟨b, gSTEP_WORDS, rfl, hm b (by simp), rfl, ?_⟩
        show J_is_step_2 Q E a b c (!inS gSTEP_WORDS b) s
        cases hb : inS gSTEP_WORDS b with
        | false => simpa [ha, hb, J_is_step_2, bT] using hq
        | true =>
          simp only [ha, hb, Bool.true_and] at hq
          simp only [J_is_step_2, Bool.not_true, bF, dcmp]
          refine ⟨flat_str (inS_str hb), rfl, ?_⟩
          cases hn : (gNUMBERED_WORDS.any fun y => eqF y b) with
          | true =>
            simp only [hn, if_true] at hq
            exact sp1_in (E := E) (hm c (by simp)) hq
          | false =>
            simp only [hn, Bool.false_eq_true, if_false] at hq
            exact ⟨by decide, c, [-1], rfl, hm c (by simp), hq⟩
    · have e : (!decide ((xs.length : Int) = 3)) = true := by simpa using (by omega : ¬ (xs.length : Int) = 3)
      rw [e]
      simpa [J_is_step_1, bT, isStp_no h3] using hq
  | _ => simpa [isTup, isStp, J_is_step_1, bif2] using hq
theorem wMap_not {f : PyData → S → (Option PyData → S → Prop) → Prop} {p : PyData → Bool} {s : S} {xs : List PyData} {Q : List PyData → S → Prop} (h : ∀ x ∈ xs, ∀ k : Option PyData → S → Prop, k (if p x = true then none else some x) s → f x s k) (q : Q ((xs.filter fun x => !p x).map id) s) : wMap f xs s Q :=
  wMap_sel (p := fun x => !p x) (g := id) (fun x hx k hk => h x hx k (by cases e : p x <;> simpa [e] using hk)) q
theorem sel_ok {p : PyData → Bool} {xs : List PyData} (h : ∀ x ∈ xs, Ok x) : ∀ x ∈ ((xs.filter fun x => !p x).map id), Ok x := by
  intro x hx
  simp only [List.map_id, List.mem_filter] at hx
  exact h x hx.1
theorem wSel {p : PyData → Bool} {xs : List PyData} {s : S} {R : List PyData → S → Prop} (h : ∀ x ∈ xs, Ok x) (q : R ((xs.filter fun x => !p x).map id) s) :
    wMap (fun x s k => sp1 p [.d x] s (fun y s1 => dtru y fun b => bif2 (!b) (outD (.d x) fun y => k (some y) s1) (k none s1)) noX) xs s R :=
  wMap_not (p := p) (fun x hx k hk => sp1_in (h x hx) (by
    rw [dT_b]
    cases e : p x <;> simpa [e, bif2, outD] using hk)) q
theorem dx2 {a b c : PyData} {xs : List PyData} {Q : Sl → Prop} : dix (.d (.tuple (a :: b :: c :: xs))) (.d (.int 2)) Q = Q (.d c) := by
  have : atI (a :: b :: c :: xs) ((2 : Nat) : Int) = some c := by
    unfold atI ixN
    rw [if_pos (by omega), if_pos (by simp only [List.length_cons]; omega)]
    rfl
  have e : atI (a :: b :: c :: xs) 2 = some c := this
  simp only [dix, e]
theorem dx3 {a b c e : PyData} {xs : List PyData} {Q : Sl → Prop} : dix (.d (.tuple (a :: b :: c :: e :: xs))) (.d (.int 3)) Q = Q (.d e) := by
  have : atI (a :: b :: c :: e :: xs) ((3 : Nat) : Int) = some e := by
    unfold atI ixN
    rw [if_pos (by omega), if_pos (by simp only [List.length_cons]; omega)]
    rfl
  have h : atI (a :: b :: c :: e :: xs) 3 = some e := this
  simp only [dix, h]
theorem dNin_c {c : Nat} {z : Str} {Q : Bool → Prop} (q : Q (!decide (c ∈ z.cps.toList))) : dcmp .NotIn (.d (.str ⟨#[c]⟩)) (.d (.str z)) Q := ⟨c, rfl, q⟩
theorem in_strs {ws : List PyData} {w : Str} {Q : Bool → Prop} (hw : ws.all flatD = true) (q : Q (inS ws (.str w))) : dcmp .In (.d (.str w)) (.d (.tuple ws)) Q := ⟨rfl, hw, q⟩
theorem isStp_t {a w c : PyData} : isStp (.tuple [a, w, c]) = (isNum a && (inS gSTEP_WORDS w && (if (gNUMBERED_WORDS.any fun y => eqF y w) = true then isNum c else inI [-1] c))) := rfl
theorem steps_rest {w : Str} (h : inS [.str "go", .str "take"] (.str w) = false) : inS [.str "fork", .str "none", .str "later", .str "kill", .str "release", .str "exit"] (.str w) = inS gSTEP_WORDS (.str w) := by
  simp only [inS, isStr, List.any_cons, List.any_nil, Bool.or_false, Bool.true_and, Bool.or_eq_false_iff, gSTEP_WORDS] at h ⊢
  obtain ⟨h1, h2⟩ := h
  rw [h1, h2]
  simp
theorem steps_some {w : Str} (h : inS [.str "go", .str "take"] (.str w) = true) : inS gSTEP_WORDS (.str w) = true := by
  simp only [inS, isStr, List.any_cons, List.any_nil, Bool.or_false, Bool.true_and, gSTEP_WORDS] at h ⊢
  rcases Bool.or_eq_true_iff.mp h with h | h <;> rw [h] <;> simp
theorem ok_law_is_number : Wok (S := S) G_law_is_number s_law_is_number sp_law_is_number := by
  rintro ss s Q E ⟨d, rfl, hd, hq⟩
  refine Eq.mpr (f_law_is_number d s Q E) ?_
  simp only [dI_int, dI_bool, dT_b, J_law_is_number_1]
  cases d <;> simpa [isIb, isBl, isNum, dcmp] using hq
theorem ok_law_is_name : Wok (S := S) G_law_is_name s_law_is_name sp_law_is_name := by
  rintro ss s Q E ⟨d, rfl, hd, hq⟩
  refine Eq.mpr (f_law_is_name d s Q E) ?_
  simp only [dI_str, dT_b]
  cases d with
  | str z =>
    have hz := hd.str
    have hok := hd
    simp only [isStr, Bool.not_true, Bool.false_eq_true, if_false, dL_s, dcmp]
    refine ⟨le100s hz, ?_⟩
    simp only [isNm] at hq
    by_cases h1 : (1 : Int) ≤ z.length
    · have h1' : 1 ≤ z.length := by omega
      by_cases h8 : (z.length : Int) ≤ 8
      · have h8' : z.length ≤ 8 := by omega
        simp only [h1, h8, h1', h8', decide_true, if_true, Bool.true_and, Bool.not_true, J_law_is_name_1, bF, aS, List.length_map] at hq ⊢
        have hlen : z.cps.toList.length = z.length := by simp [Str.length]
        have hchars : ∀ x ∈ (z.cps.toList.map fun c => PyData.str ⟨#[c]⟩), Ok x := by
          intro x hx
          obtain ⟨c, hc, rfl⟩ := List.mem_map.mp hx
          simp only [Ok, okD, Bool.and_eq_true, decide_eq_true_eq] at hok ⊢
          refine ⟨?_, by simp [Str.length]⟩
          have := hok.1
          unfold PyData.strOk at this ⊢
          rw [← Array.all_toList] at this ⊢
          simpa using List.all_eq_true.mp this c hc
        refine ⟨by omega, wMap_not (p := fun x => match x with
          | .str c => decide (c.cps.toList.headD 0 ∈ gLETTERS.cps.toList)
          | _ => false) (fun x hx k hk => ?_) ⟨by decide, dEq_nil (sel_ok hchars) ?_⟩⟩
        · obtain ⟨c, hc, rfl⟩ := List.mem_map.mp hx
          refine dNin_c (z := "abcdefghijklmnopqrstuvwxyz") ?_
          have e : gLETTERS = ("abcdefghijklmnopqrstuvwxyz" : Str) := rfl
          rw [← e]
          have hk' : k (if decide (c ∈ gLETTERS.cps.toList) = true then none else some (.str ⟨#[c]⟩)) s := hk
          cases q : decide (c ∈ gLETTERS.cps.toList) with
          | true =>
            rw [q] at hk'
            exact hk'
          | false =>
            rw [q] at hk'
            exact hk'
        · rw [sel_empty, List.all_map]
          exact hq
      · have h8' : ¬ z.length ≤ 8 := by omega
        simpa [h1, h8, h1', h8', J_law_is_name_1, bT] using hq
    · have h1' : ¬ 1 ≤ z.length := by omega
      simpa [h1, h1', J_law_is_name_1, bT] using hq
  | _ => simpa [isStr, isNm, J_law_is_name_1, bif2] using hq
theorem ok_law_is_step : Wok (S := S) G_law_is_step s_law_is_step sp_law_is_step := by
  rintro ss s Q E ⟨d, rfl, hd, hq⟩
  refine Eq.mpr (f_law_is_step d s Q E) ?_
  simp only [dI_tup, dT_b]
  cases d with
  | tuple xs =>
    obtain ⟨hl, hm⟩ := hd.tup
    simp only [isTup, Bool.not_true, Bool.false_eq_true, if_false, dL_t, dNe_i]
    by_cases h3 : xs.length = 3
    · obtain ⟨a, b, c, rfl⟩ := len3 h3
      have e : (!decide ((([a, b, c] : List PyData).length : Int) = 3)) = false := by simp
      rw [isStp_t] at hq
      rw [e, if_neg (by simp), dx0]
      refine sp1_in (hm a (by simp)) ?_
      rw [dT_b]
      cases ha : isNum a with
      | false => simpa [ha, J_law_is_step_1, bT] using hq
      | true =>
        simp only [ha, Bool.true_and] at hq
        simp only [Bool.not_true, Bool.false_eq_true, if_false, dx1, dI_str, dT_b]
        cases b with
        | str w =>
          simp only [isStr, Bool.not_true, J_law_is_step_1, bF, dx1, dx2]
          refine ⟨by decide, in_strs rfl ?_⟩
          have en : (gNUMBERED_WORDS.any fun y => eqF y (.str w)) = inS [.str "go", .str "take"] (.str w) := rfl
          rw [en] at hq
          cases hn : inS [.str "go", .str "take"] (.str w) with
          | true =>
            rw [bT]
            rw [steps_some hn, hn] at hq
            exact sp1_in (E := E) (hm c (by simp)) hq
          | false =>
            rw [bF]
            rw [hn, ← steps_rest hn] at hq
            refine ⟨by decide, in_strs rfl ?_⟩
            cases hs : inS [.str "fork", .str "none", .str "later", .str "kill", .str "release", .str "exit"] (.str w) with
            | false => simpa [hs, J_law_is_step_2] using hq
            | true =>
              rw [hs] at hq
              rw [if_pos rfl, dI_int, dT_b, dI_bool]
              cases c with
              | int i =>
                rw [show isIb (.int i) = true from rfl, if_pos rfl, dT_b, show isBl (.int i) = false from rfl, if_pos (by rfl), dEq_i]
                have : inI [-1] (.int i) = decide (i = -1) := by
                  by_cases z : i = -1
                  · subst z
                    rfl
                  · simp [inI, z]
                simp only [Bool.false_eq_true, if_false, this, Bool.true_and] at hq
                exact hq
              | _ => simpa [isIb, isBl, dT_b, inI, J_law_is_step_2] using hq
        | _ => simpa [isStr, inS, J_law_is_step_1, bT] using hq
    · have e : (!decide ((xs.length : Int) = 3)) = true := by simpa using (by omega : ¬ (xs.length : Int) = 3)
      rw [e, if_pos rfl]
      simpa [J_law_is_step_1, bT, isStp_no h3] using hq
  | _ => simpa [isTup, isStp, J_law_is_step_1, bif2] using hq
theorem ok_is_guard : Wok (S := S) G_is_guard s_is_guard sp_is_guard := by
  rintro ss s Q E ⟨d, rfl, hd, hq⟩
  exact Eq.mpr (f_is_guard d s Q E) ⟨le100s (by simp), d, gON, rfl, hd, by decide +kernel, hq⟩
theorem sh_of {z : Str} (h : Ok (.str z)) : SeqAt.shaped (.str z) = true := h.shaped
theorem evP_3 {w : Str} {ps : List PyData} (h : ps.length ≠ 3) (hx : inS gEX (.str w) = true) : evP w ps = false := by
  unfold evP
  rw [if_pos hx]
  split
  · exact absurd rfl h
  · rfl
theorem evP_1 {w : Str} {ps : List PyData} (h : ps.length ≠ 1) (hx : inS gEX (.str w) = false) : evP w ps = false := by
  unfold evP
  rw [if_neg (by simp [hx])]
  split
  · exact absurd rfl h
  · rfl
theorem evP_t {w : Str} {a b c : PyData} (hx : inS gEX (.str w) = true) : evP w [a, b, c] = ev3 a b c := by
  unfold evP
  rw [if_pos hx]
theorem evP_o {w : Str} {a : PyData} (hx : inS gEX (.str w) = false) : evP w [a] = ev1 w a := by
  unfold evP
  rw [if_neg (by simp [hx])]
theorem ok_is_event : Wok (S := S) G_is_event s_is_event sp_is_event := by
  rintro ss s Q E ⟨d, rfl, hd, hq⟩
  refine Eq.mpr (f_is_event d s Q E) ?_
  simp only [dI_tup, dT_b]
  cases d with
  | tuple xs =>
    obtain ⟨hl, hm⟩ := hd.tup
    simp only [isTup, Bool.not_true, Bool.false_eq_true, if_false, dL_t, dLt_i]
    cases xs with
    | nil => simpa [J_is_event_1, bT, isEv] using hq
    | cons a ps =>
      cases ps with
      | nil =>
        have e : isEv (.tuple [a]) = false := by
          cases a <;> simp [isEv, evP]
        rw [e] at hq
        simpa [J_is_event_1, bT] using hq
      | cons b ps =>
        rw [decide_eq_false (by simp only [List.length_cons]; omega), if_neg (by simp), dx0, dI_str, dT_b]
        cases a with
        | str w =>
          have hw := hm (.str w) (by simp)
          have hps : ∀ x ∈ b :: ps, Ok x := fun x hx => hm x (List.mem_cons_of_mem _ hx)
          have hq2 : Q (.d (.bool (evP w (b :: ps)))) s := hq
          clear hq
          generalize b :: ps = rs at *
          show J_is_event_1 Q E _ false s
          simp only [J_is_event_1, bF, dx0, ds1]
          refine ⟨le100s (by simp), in_strs (ws := gEX) (by decide +kernel) ?_⟩
          cases hx : inS gEX (.str w) with
          | true =>
            rw [bT, dL_t, dEq_i]
            by_cases h3 : rs.length = 3
            · obtain ⟨a, b, c, rfl⟩ := len3 h3
              rw [evP_t hx] at hq2
              rw [decide_eq_true (by simp), if_pos rfl, dx0]
              refine sp1_in (hps a (by simp)) ?_
              rw [dT_b]
              cases ha : isNm a with
              | false => simpa [ev3, ha, J_is_event_2] using hq2
              | true =>
                rw [if_pos rfl, dx1]
                refine sp1_in (hps b (by simp)) ?_
                rw [dT_b]
                cases hb : isNum b with
                | false => simpa [ev3, ha, hb, J_is_event_2] using hq2
                | true =>
                  rw [if_pos rfl, dx2]
                  refine sp1_in (hps c (by simp)) ?_
                  simpa [ev3, ha, hb, J_is_event_2] using hq2
            · rw [evP_3 h3 hx] at hq2
              rw [decide_eq_false (by omega)]
              simpa [J_is_event_2] using hq2
          | false =>
            rw [bF, dL_t, dNe_i]
            by_cases h1 : rs.length = 1
            · obtain ⟨a, rfl⟩ := List.length_eq_one_iff.mp h1
              rw [evP_o hx] at hq2
              rw [decide_eq_true (by simp), Bool.not_true, bF]
              refine dEq_s (sh_of hw) (by decide +kernel) ?_
              unfold ev1 at hq2
              cases k1 : (w == "step") with
              | true =>
                rw [if_pos k1] at hq2
                rw [bT, dx0]
                exact sp1_in (hps a (by simp)) hq2
              | false =>
                rw [if_neg (by simp [k1])] at hq2
                rw [bF]
                refine dEq_s (sh_of hw) (by decide +kernel) ?_
                cases k2 : (w == "guard") with
                | true =>
                  rw [if_pos k2] at hq2
                  rw [bT, dx0]
                  exact sp1_in (hps a (by simp)) hq2
                | false =>
                  rw [if_neg (by simp [k2])] at hq2
                  rw [bF]
                  refine dEq_s (sh_of hw) (by decide +kernel) ?_
                  cases k3 : (w == "mark") with
                  | true =>
                    rw [k3] at hq2
                    rw [if_pos rfl, dx0]
                    exact sp1_in (hps a (by simp)) hq2
                  | false =>
                    rw [k3] at hq2
                    rw [if_neg (by simp)]
                    exact hq2
            · rw [evP_1 h1 hx] at hq2
              rw [decide_eq_false (by omega), Bool.not_false, bT]
              exact hq2
        | _ => simpa [isStr, isEv, J_is_event_1, bT] using hq
  | _ => simpa [isTup, isEv, J_is_event_1, bif2] using hq
theorem dI_strG {x : PyData} {Q : Sl → Prop} (q : Q (.d (.bool (isStr x)))) : dcall .isinstance [.d x, .v (.ty "str")] Q := by rw [dI_str]; exact q
theorem ok_law_is_event : Wok (S := S) G_law_is_event s_law_is_event sp_law_is_event := by
  rintro ss s Q E ⟨d, rfl, hd, hq⟩
  refine Eq.mpr (f_law_is_event d s Q E) ?_
  simp only [dI_tup, dT_b]
  cases d with
  | tuple xs =>
    obtain ⟨hl, hm⟩ := hd.tup
    simp only [isTup, Bool.not_true, Bool.false_eq_true, if_false, dL_t, dLt_i]
    cases xs with
    | nil => simpa [J_law_is_event_1, bT, isEv] using hq
    | cons a ps =>
      cases ps with
      | nil =>
        have e : isEv (.tuple [a]) = false := by
          cases a <;> simp [isEv, evP]
        rw [e] at hq
        simpa [J_law_is_event_1, bT] using hq
      | cons b ps =>
        rw [decide_eq_false (by simp only [List.length_cons]; omega), if_neg (by simp), dx0, dI_str, dT_b]
        cases a with
        | str w =>
          have hw := hm (.str w) (by simp)
          have hps : ∀ x ∈ b :: ps, Ok x := fun x hx => hm x (List.mem_cons_of_mem _ hx)
          have hq2 : Q (.d (.bool (evP w (b :: ps)))) s := hq
          clear hq
          generalize b :: ps = rs at *
          show J_law_is_event_1 Q E _ false s
          simp only [J_law_is_event_1, bF, dx0]
          refine ⟨le100s (by simp), in_strs (ws := gEX) (by decide +kernel) ?_⟩
          cases hx : inS gEX (.str w) with
          | true =>
            rw [bT, dL_t, dEq_i]
            by_cases h3 : rs.length = 3
            · obtain ⟨a, b, c, rfl⟩ := len3 h3
              rw [evP_t hx] at hq2
              rw [decide_eq_true (by simp), if_pos rfl, dx1]
              refine sp1_in (hps a (by simp)) ?_
              rw [dT_b]
              cases ha : isNm a with
              | false => simpa [ev3, ha, J_law_is_event_2] using hq2
              | true =>
                rw [if_pos rfl, dx2]
                refine sp1_in (hps b (by simp)) ?_
                rw [dT_b]
                cases hb : isNum b with
                | false => simpa [ev3, ha, hb, J_law_is_event_2] using hq2
                | true =>
                  rw [if_pos rfl, dx3]
                  refine sp1_in (hps c (by simp)) ?_
                  simpa [ev3, ha, hb, J_law_is_event_2] using hq2
            · rw [evP_3 h3 hx] at hq2
              rw [decide_eq_false (by simp only [List.length_cons]; omega)]
              simpa [J_law_is_event_2] using hq2
          | false =>
            rw [bF, dL_t, dNe_i]
            by_cases h1 : rs.length = 1
            · obtain ⟨a, rfl⟩ := List.length_eq_one_iff.mp h1
              rw [evP_o hx] at hq2
              rw [decide_eq_true (by simp), Bool.not_true, bF]
              refine dEq_s (sh_of hw) (by decide +kernel) ?_
              unfold ev1 at hq2
              cases k1 : (w == "step") with
              | true =>
                rw [if_pos k1] at hq2
                rw [bT, dx1]
                exact sp1_in (hps a (by simp)) hq2
              | false =>
                rw [if_neg (by simp [k1])] at hq2
                rw [bF]
                refine dEq_s (sh_of hw) (by decide +kernel) ?_
                cases k2 : (w == "guard") with
                | true =>
                  rw [if_pos k2] at hq2
                  rw [bT, dx1, dI_str, dT_b]
                  cases hs : isStr a with
                  | false =>
                    rw [if_neg (by simp)]
                    simpa [isGd, inS, hs, J_law_is_event_3] using hq2
                  | true =>
                    rw [if_pos rfl]
                    refine ⟨le100s (by simp), ?_⟩
                    cases a with
                    | str z => exact in_strs (ws := gON) (by decide +kernel) hq2
                    | _ => cases hs
                | false =>
                  rw [if_neg (by simp [k2])] at hq2
                  rw [bF]
                  refine dEq_s (sh_of hw) (by decide +kernel) ?_
                  cases k3 : (w == "mark") with
                  | true =>
                    rw [k3] at hq2
                    rw [if_pos rfl, dx1]
                    exact sp1_in (hps a (by simp)) hq2
                  | false =>
                    rw [k3] at hq2
                    rw [if_neg (by simp)]
                    exact hq2
            · rw [evP_1 h1 hx] at hq2
              rw [decide_eq_false (by simp only [List.length_cons]; omega), Bool.not_false, bT]
              exact hq2
        | _ => simpa [isStr, isEv, J_law_is_event_1, bT] using hq
  | _ => simpa [isTup, isEv, J_law_is_event_1, bif2] using hq
theorem ok_law_right : Wok (S := S) G_law_right s_law_right sp_law_right := by
  rintro ss s Q E ⟨d, rfl, hd, hq⟩
  refine Eq.mpr (f_law_right d s Q E) (sp1_in hd ?_)
  rw [dI_bool, dT_b, show isBl (.bool (isEv d)) = true from rfl, if_pos rfl]
  refine sp1_in hd ⟨rfl, rfl, ?_⟩
  have e : PyData.eqv (.bool (isEv d)) (.bool (isEv d)) = true := by
    cases isEv d <;> decide +kernel
  rw [e]
  exact hq

end
end Z

set_option Elab.async false
set_option linter.all false
set_option maxRecDepth 100000
set_option maxHeartbeats 4000000
namespace Z
open PySem PySem.Spec PyProof.Rows L2 Evl
section
variable {S : Type} [Fd] [Dpt]

abbrev s_law_pick : Stmt := top 16
theorem sc_law_pick : FnScope ["_law_feed_here", "_law_things"] ["_law_feed_here", "_law_things"] (defScope s_law_pick) := ⟨rfl, rfl, rfl, by decide +kernel, rfl, by decide +kernel, by decide +kernel⟩
abbrev G_law_pick : Gam S := ⟨["_law_feed_here", "_law_things"], gl0, [("_law_draw", sp_law_draw)], fr0, [], false, false⟩
theorem f_law_pick (d0 : V) (d1 : PyData) (s : S) (Q : QS S) (E : QX S) : wB G_law_pick 30 30 (defScope s_law_pick) (startE ["_law_feed_here", "_law_things"] [.v d0, .d d1]) s (defBody s_law_pick) (fnO Q) E = (
dcall .len [(.d d1)] fun z1 =>
sp_law_draw [(.v d0), z1] s (fun y2 s3 =>
dix (.d d1) y2 fun z4 =>
Q z4 s3) E) := by kernel_rfl

abbrev s_law_strange : Stmt := top 21
theorem sc_law_strange : FnScope ["_law_feed_here", "_law_things"] ["_law_feed_here"] (defScope s_law_strange) := ⟨rfl, rfl, rfl, by decide +kernel, rfl, by decide +kernel, by decide +kernel⟩
abbrev G_law_strange : Gam S := ⟨["_law_feed_here", "_law_things"], gl0, [("_law_pick", sp_law_pick)], fr0, [], false, true⟩
theorem f_law_strange (d0 : V) (s : S) (Q : QS S) (E : QX S) : wB G_law_strange 30 30 (defScope s_law_strange) (startE ["_law_feed_here", "_law_things"] [.v d0]) s (defBody s_law_strange) (fnO Q) E = (
(List.length ([] : List PyData)) ≤ sizeLine ∧
(List.length ([] : List PyData)) ≤ sizeLine ∧
(List.length ([(.str "a")] : List PyData)) ≤ sizeLine ∧
allD [(.d (.int 0)), (.d (.int 1)), (.d (.int (-1))), (.d (.int 2)), (.d (.bool true)), (.d (.bool false)), (.d .none), (.d (.str "")), (.d (.str "a")), (.d (.str "abcdefgh")), (.d (.str "abcdefghi")), (.d (.str "A")), (.d (.str "a b")), (.d (.str "a1")), (.d (.str "-")), (.d (.tuple [])), (.d (.list [])), (.d (.tuple [(.str "a")]))] fun ds1 => ds1.length ≤ sizeLine ∧
(List.length ([(.str "a")] : List PyData)) ≤ sizeLine ∧
(List.length ([(.list [(.str "a")]), (.str "on"), (.str "off"), (.str "On"), (.str "step"), (.str "mark"), (.str "guard"), (.str "exclude"), (.str "allow"), (.str "go"), (.str "fork"), (.str "take"), (.str "none")] : List PyData)) ≤ sizeLine ∧
List.length ds1 + List.length ([(.list [(.str "a")]), (.str "on"), (.str "off"), (.str "On"), (.str "step"), (.str "mark"), (.str "guard"), (.str "exclude"), (.str "allow"), (.str "go"), (.str "fork"), (.str "take"), (.str "none")] : List PyData) ≤ sizeLine ∧
dbin .Pow (.d (.int 10)) (.d (.int 59)) fun z2 =>
dbin .Pow (.d (.int 10)) (.d (.int 59)) fun z3 =>
asInt z3 fun i4 =>
(List.length ([(.int 0), (.str "go"), (.int 1)] : List PyData)) ≤ sizeLine ∧
(List.length ([(.int 0), (.str "exit"), (.int (-1))] : List PyData)) ≤ sizeLine ∧
allD [(.d (.str "later")), (.d (.str "kill")), (.d (.str "release")), (.d (.str "exit")), (.d (.str "wait")), z2, (.d (.int (-i4))), (.d (.tuple [(.int 0), (.str "go"), (.int 1)])), (.d (.tuple [(.int 0), (.str "exit"), (.int (-1))])), (.d (.int 40))] fun ds5 => ds5.length ≤ sizeLine ∧
List.length (ds1 ++ [(.list [(.str "a")]), (.str "on"), (.str "off"), (.str "On"), (.str "step"), (.str "mark"), (.str "guard"), (.str "exclude"), (.str "allow"), (.str "go"), (.str "fork"), (.str "take"), (.str "none")]) + List.length (ds5 : List PyData) ≤ sizeLine ∧
(List.length ([(.int 0), (.str "go"), (.int 1)] : List PyData)) ≤ sizeLine ∧
(List.length ([(.int 0), (.str "take")] : List PyData)) ≤ sizeLine ∧
(List.length ([(.int 0), (.str "none"), (.int (-1))] : List PyData)) ≤ sizeLine ∧
(List.length ([(.str "step"), (.tuple [(.int 0), (.str "none"), (.int (-1))])] : List PyData)) ≤ sizeLine ∧
(List.length ([(.str "mark"), (.str "a")] : List PyData)) ≤ sizeLine ∧
(List.length ([(.str "guard"), (.bool true)] : List PyData)) ≤ sizeLine ∧
(List.length ([.none, .none] : List PyData)) ≤ sizeLine ∧
(List.length ([(.list [(.int 0), (.str "go"), (.int 1)]), (.tuple [(.int 0), (.str "take")]), (.tuple [(.str "step"), (.tuple [(.int 0), (.str "none"), (.int (-1))])]), (.tuple [(.str "mark"), (.str "a")]), (.tuple [(.str "guard"), (.bool true)]), (.tuple [.none, .none])] : List PyData)) ≤ sizeLine ∧
List.length ((ds1 ++ [(.list [(.str "a")]), (.str "on"), (.str "off"), (.str "On"), (.str "step"), (.str "mark"), (.str "guard"), (.str "exclude"), (.str "allow"), (.str "go"), (.str "fork"), (.str "take"), (.str "none")]) ++ ds5) + List.length ([(.list [(.int 0), (.str "go"), (.int 1)]), (.tuple [(.int 0), (.str "take")]), (.tuple [(.str "step"), (.tuple [(.int 0), (.str "none"), (.int (-1))])]), (.tuple [(.str "mark"), (.str "a")]), (.tuple [(.str "guard"), (.bool true)]), (.tuple [.none, .none])] : List PyData) ≤ sizeLine ∧
sp_law_pick [(.v d0), (.d (.list (((ds1 ++ [(.list [(.str "a")]), (.str "on"), (.str "off"), (.str "On"), (.str "step"), (.str "mark"), (.str "guard"), (.str "exclude"), (.str "allow"), (.str "go"), (.str "fork"), (.str "take"), (.str "none")]) ++ ds5) ++ [(.list [(.int 0), (.str "go"), (.int 1)]), (.tuple [(.int 0), (.str "take")]), (.tuple [(.str "step"), (.tuple [(.int 0), (.str "none"), (.int (-1))])]), (.tuple [(.str "mark"), (.str "a")]), (.tuple [(.str "guard"), (.bool true)]), (.tuple [.none, .none])])))] s (fun y6 s7 =>
Q y6 s7) E) := by kernel_rfl

abbrev s_law_bent : Stmt := top 22
theorem sc_law_bent : FnScope ["_law_feed_here", "_law_thing", "_law_k", "_law_way", "_law_strange_here"] ["_law_feed_here", "_law_thing"] (defScope s_law_bent) := ⟨rfl, rfl, rfl, by decide +kernel, rfl, by decide +kernel, by decide +kernel⟩
abbrev G_law_bent : Gam S := ⟨["_law_feed_here", "_law_thing", "_law_k", "_law_way", "_law_strange_here"], gl0, [("_law_draw", sp_law_draw), ("_law_bent", sp_law_bent), ("_law_strange", sp_law_strange), ("_law_pick", sp_law_pick)], fr0, [], false, false⟩
def J_law_bent_3 (Q : QS S) (E : QX S) (d0 : V) (d1 : PyData) (x1 : Bool) (s2 : S) (y20 : Sl) (s21 : S) (y22 : Sl) (s23 : S) (x24 : Bool) (s25 : S) (x78 : Bool) (s79 : S) : Prop :=
bif2 x78 (getV y20 fun v80 =>
asInt v80 fun i81 =>
dsl (.d d1) none (some i81) fun z82 =>
(List.length ([(.str "a"), (.str "A"), (.str ""), (.str " "), (.str "z"), (.str "0")] : List PyData)) ≤ sizeLine ∧
sp_law_pick [(.v d0), (.d (.list [(.str "a"), (.str "A"), (.str ""), (.str " "), (.str "z"), (.str "0")]))] s79 (fun y83 s84 =>
dbin .Add z82 y83 fun z85 =>
getV y20 fun v86 =>
asInt v86 fun i87 =>
dsl (.d d1) (some i87) none fun z88 =>
dbin .Add z85 z88 fun z89 =>
Q z89 s84) E) (getV y22 fun v90 =>
Q v90 s79)
def J_law_bent_2 (Q : QS S) (E : QX S) (d0 : V) (d1 : PyData) (x1 : Bool) (s2 : S) (y20 : Sl) (s21 : S) (y22 : Sl) (s23 : S) (x24 : Bool) (s25 : S) : Prop :=
bif2 x24 (dcall .len [(.d d1)] fun z26 =>
dbin .Add z26 (.d (.int 1)) fun z27 =>
sp_law_draw [(.v d0), z27] s25 (fun y28 s29 =>
getV y20 fun v30 =>
dcmp .Eq v30 (.d (.int 0)) fun c31 =>
bif2 c31 (dcall .list_ [(.d d1)] fun z32 =>
Q z32 s29) (getV y20 fun v33 =>
dcmp .Eq v33 (.d (.int 1)) fun c34 =>
bif2 c34 (getV y28 fun v35 =>
asInt v35 fun i36 =>
dsl (.d d1) none (some i36) fun z37 =>
getV y28 fun v38 =>
dbin .Add v38 (.d (.int 1)) fun z39 =>
asInt z39 fun i40 =>
dsl (.d d1) (some i40) none fun z41 =>
dbin .Add z37 z41 fun z42 =>
Q z42 s29) (getV y20 fun v43 =>
dcmp .Eq v43 (.d (.int 2)) fun c44 =>
bif2 c44 (getV y28 fun v45 =>
asInt v45 fun i46 =>
dsl (.d d1) none (some i46) fun z47 =>
getV y28 fun v48 =>
asInt v48 fun i49 =>
getV y28 fun v50 =>
dbin .Add v50 (.d (.int 1)) fun z51 =>
asInt z51 fun i52 =>
dsl (.d d1) (some i49) (some i52) fun z53 =>
dbin .Add z47 z53 fun z54 =>
getV y28 fun v55 =>
asInt v55 fun i56 =>
dsl (.d d1) (some i56) none fun z57 =>
dbin .Add z54 z57 fun z58 =>
Q z58 s29) (getV y20 fun v59 =>
dcmp .Eq v59 (.d (.int 3)) fun c60 =>
bif2 c60 (getV y28 fun v61 =>
asInt v61 fun i62 =>
dsl (.d d1) none (some i62) fun z63 =>
getV y22 fun v64 =>
allD [v64] fun ds65 => ds65.length ≤ sizeLine ∧
dbin .Add z63 (.d (.tuple ds65)) fun z66 =>
getV y28 fun v67 =>
asInt v67 fun i68 =>
dsl (.d d1) (some i68) none fun z69 =>
dbin .Add z66 z69 fun z70 =>
Q z70 s29) (getV y28 fun v71 =>
asInt v71 fun i72 =>
dsl (.d d1) (some i72) none fun z73 =>
getV y28 fun v74 =>
asInt v74 fun i75 =>
dsl (.d d1) none (some i75) fun z76 =>
dbin .Add z73 z76 fun z77 =>
Q z77 s29))))) E) (dcall .isinstance [(.d d1), (.v (.ty "str"))] fun z91 =>
dtru z91 fun b92 =>
if b92 = true then (getV y20 fun v93 =>
dcmp .Lt v93 (.d (.int 4)) fun c94 =>
J_law_bent_3 Q E d0 d1 x1 s2 y20 s21 y22 s23 x24 s25 (c94) s25) else (J_law_bent_3 Q E d0 d1 x1 s2 y20 s21 y22 s23 x24 s25 (b92) s25))
def J_law_bent_1 (Q : QS S) (E : QX S) (d0 : V) (d1 : PyData) (x1 : Bool) (s2 : S) : Prop :=
bif2 x1 (dcall .len [(.d d1)] fun z3 =>
sp_law_draw [(.v d0), z3] s2 (fun y4 s5 =>
getV y4 fun v6 =>
asInt v6 fun i7 =>
dsl (.d d1) none (some i7) fun z8 =>
getV y4 fun v9 =>
dix (.d d1) v9 fun z10 =>
sp_law_bent [(.v d0), z10] s5 (fun y11 s12 =>
allD [y11] fun ds13 => ds13.length ≤ sizeLine ∧
dbin .Add z8 (.d (.tuple ds13)) fun z14 =>
getV y4 fun v15 =>
dbin .Add v15 (.d (.int 1)) fun z16 =>
asInt z16 fun i17 =>
dsl (.d d1) (some i17) none fun z18 =>
dbin .Add z14 z18 fun z19 =>
Q z19 s12) E) E) (sp_law_draw [(.v d0), (.d (.int 7))] s2 (fun y20 s21 =>
sp_law_strange [(.v d0)] s21 (fun y22 s23 =>
dcall .isinstance [(.d d1), (.v (.ty "tuple"))] fun z95 =>
dtru z95 fun b96 =>
if b96 = true then (getV y20 fun v97 =>
dcmp .Lt v97 (.d (.int 5)) fun c98 =>
J_law_bent_2 Q E d0 d1 x1 s2 y20 s21 y22 s23 (c98) s23) else (J_law_bent_2 Q E d0 d1 x1 s2 y20 s21 y22 s23 (b96) s23)) E) E)
theorem f_law_bent (d0 : V) (d1 : PyData) (s : S) (Q : QS S) (E : QX S) : wB G_law_bent 30 30 (defScope s_law_bent) (startE ["_law_feed_here", "_law_thing", "_law_k", "_law_way", "_law_strange_here"] [.v d0, .d d1]) s (defBody s_law_bent) (fnO Q) E = (
dcall .isinstance [(.d d1), (.v (.ty "tuple"))] fun z99 =>
dtru z99 fun b100 =>
if b100 = true then (dcall .len [(.d d1)] fun z101 =>
dcmp .Gt z101 (.d (.int 0)) fun c102 =>
if c102 = true then (sp_law_draw [(.v d0), (.d (.int 5))] s (fun y103 s104 =>
dcmp .Gt y103 (.d (.int 0)) fun c105 =>
J_law_bent_1 Q E d0 d1 (c105) s104) E) else (J_law_bent_1 Q E d0 d1 (c102) s)) else (J_law_bent_1 Q E d0 d1 (b100) s)) := by kernel_rfl

abbrev s_law : Stmt := top 24
theorem sc_law : FnScope ["_law_script", "_law_feed_here", "_law_things", "_law_words", "_law_lap", "_law_name", "_law_number", "_law_word", "_law_event", "_law_late", "_law_thing", "_law_k"] ["_law_script"] (defScope s_law) := ⟨rfl, rfl, rfl, by decide +kernel, rfl, by decide +kernel, by decide +kernel⟩
abbrev G_law : Gam S := ⟨["_law_script", "_law_feed_here", "_law_things", "_law_words", "_law_lap", "_law_name", "_law_number", "_law_word", "_law_event", "_law_late", "_law_thing", "_law_k"], gl0, [("_law_strange", sp_law_strange), ("_law_draw", sp_law_draw), ("_law_pick", sp_law_pick), ("_law_bent", sp_law_bent), ("_law_right", sp_law_right)], fr0, [], false, true⟩
theorem f_law (d0 : V) (s : S) (Q : QS S) (E : QX S) : wB G_law 30 29 (defScope s_law) [none, some (.v d0), none, none, none, none, none, none, none, none, none, none] s ((defBody s_law).drop 1) (fnO Q) E = (
rangeS1 (.d (.int 12)) fun xs1 =>
xs1.length ≤ 1000000 ∧ wMap (fun x2 s3 k4 => sp_law_strange [(.v d0)] s3 (fun y5 s6 =>
outD y5 fun y => k4 (some y) s6) noX) xs1 s fun ys7 s8 =>
(List.length ([(.str "go"), (.str "fork"), (.str "take"), (.str "none"), (.str "later"), (.str "kill"), (.str "release"), (.str "exit")] : List PyData)) ≤ sizeLine ∧
rangeS1 (.d (.int 14)) fun xs9 =>
wFor (loopF G_law 30 26 (defScope s_law) (false, [4]) (forBody ((defBody s_law).getD 3 (.Pass ⟨0, 0, 0, 0⟩))) E) xs9 [none, some (.v d0), some (.own ys7), some (.d (.list [(.str "go"), (.str "fork"), (.str "take"), (.str "none"), (.str "later"), (.str "kill"), (.str "release"), (.str "exit")])), none, none, none, none, none, none, none, none] s8 (wThen (fun ε s => wB G_law 30 26 (defScope s_law) ε s ((defBody s_law).drop 4) (fnO Q) E) (fnO Q))) := by kernel_rfl

theorem f_law_b3 (d0 : V) (c3 : PyData) (c2 : List PyData) (o0 : Option Sl) (o4 : Option Sl) (o5 : Option Sl) (o6 : Option Sl) (o7 : Option Sl) (o8 : Option Sl) (o9 : Option Sl) (o10 : Option Sl) (o11 : Option Sl) (x : PyData) (s : S) (k : Out → S → Prop) (E : QX S) : loopF G_law 30 26 (defScope s_law) (false, [4]) (forBody ((defBody s_law).getD 3 (.Pass ⟨0, 0, 0, 0⟩))) E x [o0, some (.v d0), some (.own c2), some (.d c3), o4, o5, o6, o7, o8, o9, o10, o11] s k = (
isStrS (.d (.str "")) ∧
sp_law_draw [(.v d0), (.d (.int 8))] s (fun y10 s11 =>
dbin .Add (.d (.int 1)) y10 fun z12 =>
rangeS1 z12 fun xs13 =>
xs13.length ≤ 1000000 ∧ wMap (fun x14 s15 k16 => sp_law_pick [(.v d0), (.d (.str "abmz"))] s15 (fun y17 s18 =>
outD y17 fun y => k16 (some y) s18) noX) xs13 s11 fun ys19 s20 =>
djoin (.d (.str "")) (.d (.list ys19)) fun z21 =>
dbin .Pow (.d (.int 10)) (.d (.int 59)) fun z22 =>
allD [(.d (.int 0)), (.d (.int 1)), (.d (.int 7)), (.d (.int 12)), z22, (.d (.int 3))] fun ds23 => ds23.length ≤ sizeLine ∧
sp_law_pick [(.v d0), (.d (.list ds23))] s20 (fun y24 s25 =>
sp_law_pick [(.v d0), (.d c3)] s25 (fun y26 s27 =>
getV y24 fun v28 =>
getV y26 fun v29 =>
getV y26 fun v30 =>
(List.length ([(.str "go"), (.str "take")] : List PyData)) ≤ sizeLine ∧
dcmp .In v30 (.d (.tuple [(.str "go"), (.str "take")])) fun c31 =>
bif2 c31 (sp_law_draw [(.v d0), (.d (.int 9))] s27 (fun y32 s33 =>
allD [v28, v29, y32] fun ds34 => ds34.length ≤ sizeLine ∧
(List.length ([(.str "step"), (.tuple ds34)] : List PyData)) ≤ sizeLine ∧
(List.length ([(.str "exclude"), (.str "allow")] : List PyData)) ≤ sizeLine ∧
sp_law_pick [(.v d0), (.d (.list [(.str "exclude"), (.str "allow")]))] s33 (fun y35 s36 =>
getV z21 fun v37 =>
getV y24 fun v38 =>
getV z21 fun v39 =>
allD [(.d (.str "h")), (.d (.str "abcdefgh")), v39] fun ds40 => ds40.length ≤ sizeLine ∧
sp_law_pick [(.v d0), (.d (.list ds40))] s36 (fun y41 s42 =>
allD [y35, v37, v38, y41] fun ds43 => ds43.length ≤ sizeLine ∧
getV z21 fun v44 =>
allD [(.d (.str "mark")), v44] fun ds45 => ds45.length ≤ sizeLine ∧
(List.length ([(.str "on"), (.str "off")] : List PyData)) ≤ sizeLine ∧
sp_law_pick [(.v d0), (.d (.list [(.str "on"), (.str "off")]))] s42 (fun y46 s47 =>
allD [(.d (.str "guard")), y46] fun ds48 => ds48.length ≤ sizeLine ∧
(List.length ([(.tuple [(.str "step"), (.tuple ds34)]), (.tuple ds43), (.tuple ds45), (.tuple ds48)] : List PyData)) ≤ sizeLine ∧
List.length c2 < 100000 ∧
sp_law_bent [(.v d0), (.d (.tuple [(.str "step"), (.tuple ds34)]))] s47 (fun y49 s50 =>
outD y49 fun d51 => List.length (c2 ++ [(.tuple [(.str "step"), (.tuple ds34)])]) < 100000 ∧
List.length ((c2 ++ [(.tuple [(.str "step"), (.tuple ds34)])]) ++ [d51]) < 100000 ∧
sp_law_bent [(.v d0), (.d (.tuple ds43))] s50 (fun y52 s53 =>
outD y52 fun d54 => List.length (((c2 ++ [(.tuple [(.str "step"), (.tuple ds34)])]) ++ [d51]) ++ [(.tuple ds43)]) < 100000 ∧
List.length ((((c2 ++ [(.tuple [(.str "step"), (.tuple ds34)])]) ++ [d51]) ++ [(.tuple ds43)]) ++ [d54]) < 100000 ∧
sp_law_bent [(.v d0), (.d (.tuple ds45))] s53 (fun y55 s56 =>
outD y55 fun d57 => List.length (((((c2 ++ [(.tuple [(.str "step"), (.tuple ds34)])]) ++ [d51]) ++ [(.tuple ds43)]) ++ [d54]) ++ [(.tuple ds45)]) < 100000 ∧
List.length ((((((c2 ++ [(.tuple [(.str "step"), (.tuple ds34)])]) ++ [d51]) ++ [(.tuple ds43)]) ++ [d54]) ++ [(.tuple ds45)]) ++ [d57]) < 100000 ∧
sp_law_bent [(.v d0), (.d (.tuple ds48))] s56 (fun y58 s59 =>
outD y58 fun d60 => List.length (((((((c2 ++ [(.tuple [(.str "step"), (.tuple ds34)])]) ++ [d51]) ++ [(.tuple ds43)]) ++ [d54]) ++ [(.tuple ds45)]) ++ [d57]) ++ [(.tuple ds48)]) < 100000 ∧
sp_law_bent [(.v d0), (.d (.tuple [(.str "step"), (.tuple ds34)]))] s59 (fun y61 s62 =>
sp_law_bent [(.v d0), y61] s62 (fun y63 s64 =>
outD y63 fun d65 => List.length ((((((((c2 ++ [(.tuple [(.str "step"), (.tuple ds34)])]) ++ [d51]) ++ [(.tuple ds43)]) ++ [d54]) ++ [(.tuple ds45)]) ++ [d57]) ++ [(.tuple ds48)]) ++ [d60]) < 100000 ∧
getV y24 fun v66 =>
getV y26 fun v67 =>
(List.length ([(.int (-1)), (.int 0), (.int 1), (.bool true), .none, (.int (-2))] : List PyData)) ≤ sizeLine ∧
sp_law_pick [(.v d0), (.d (.list [(.int (-1)), (.int 0), (.int 1), (.bool true), .none, (.int (-2))]))] s64 (fun y68 s69 =>
allD [v66, v67, y68] fun ds70 => ds70.length ≤ sizeLine ∧
(List.length ([(.str "step"), (.tuple ds70)] : List PyData)) ≤ sizeLine ∧
List.length (((((((((c2 ++ [(.tuple [(.str "step"), (.tuple ds34)])]) ++ [d51]) ++ [(.tuple ds43)]) ++ [d54]) ++ [(.tuple ds45)]) ++ [d57]) ++ [(.tuple ds48)]) ++ [d60]) ++ [d65]) < 100000 ∧
k (.nx [o0, some (.v d0), some (.own ((((((((((c2 ++ [(.tuple [(.str "step"), (.tuple ds34)])]) ++ [d51]) ++ [(.tuple ds43)]) ++ [d54]) ++ [(.tuple ds45)]) ++ [d57]) ++ [(.tuple ds48)]) ++ [d60]) ++ [d65]) ++ [(.tuple [(.str "step"), (.tuple ds70)])])), some (.d c3), some (.d x), some z21, some y24, some y26, some (.d (.tuple [(.str "step"), (.tuple ds34)])), some (.d (.tuple ds43)), some (.d (.tuple ds48)), o11]) s69) E) E) E) E) E) E) E) E) E) E) E) (allD [v28, v29, (.d (.int (-1)))] fun ds71 => ds71.length ≤ sizeLine ∧
(List.length ([(.str "step"), (.tuple ds71)] : List PyData)) ≤ sizeLine ∧
(List.length ([(.str "exclude"), (.str "allow")] : List PyData)) ≤ sizeLine ∧
sp_law_pick [(.v d0), (.d (.list [(.str "exclude"), (.str "allow")]))] s27 (fun y72 s73 =>
getV z21 fun v74 =>
getV y24 fun v75 =>
getV z21 fun v76 =>
allD [(.d (.str "h")), (.d (.str "abcdefgh")), v76] fun ds77 => ds77.length ≤ sizeLine ∧
sp_law_pick [(.v d0), (.d (.list ds77))] s73 (fun y78 s79 =>
allD [y72, v74, v75, y78] fun ds80 => ds80.length ≤ sizeLine ∧
getV z21 fun v81 =>
allD [(.d (.str "mark")), v81] fun ds82 => ds82.length ≤ sizeLine ∧
(List.length ([(.str "on"), (.str "off")] : List PyData)) ≤ sizeLine ∧
sp_law_pick [(.v d0), (.d (.list [(.str "on"), (.str "off")]))] s79 (fun y83 s84 =>
allD [(.d (.str "guard")), y83] fun ds85 => ds85.length ≤ sizeLine ∧
(List.length ([(.tuple [(.str "step"), (.tuple ds71)]), (.tuple ds80), (.tuple ds82), (.tuple ds85)] : List PyData)) ≤ sizeLine ∧
List.length c2 < 100000 ∧
sp_law_bent [(.v d0), (.d (.tuple [(.str "step"), (.tuple ds71)]))] s84 (fun y86 s87 =>
outD y86 fun d88 => List.length (c2 ++ [(.tuple [(.str "step"), (.tuple ds71)])]) < 100000 ∧
List.length ((c2 ++ [(.tuple [(.str "step"), (.tuple ds71)])]) ++ [d88]) < 100000 ∧
sp_law_bent [(.v d0), (.d (.tuple ds80))] s87 (fun y89 s90 =>
outD y89 fun d91 => List.length (((c2 ++ [(.tuple [(.str "step"), (.tuple ds71)])]) ++ [d88]) ++ [(.tuple ds80)]) < 100000 ∧
List.length ((((c2 ++ [(.tuple [(.str "step"), (.tuple ds71)])]) ++ [d88]) ++ [(.tuple ds80)]) ++ [d91]) < 100000 ∧
sp_law_bent [(.v d0), (.d (.tuple ds82))] s90 (fun y92 s93 =>
outD y92 fun d94 => List.length (((((c2 ++ [(.tuple [(.str "step"), (.tuple ds71)])]) ++ [d88]) ++ [(.tuple ds80)]) ++ [d91]) ++ [(.tuple ds82)]) < 100000 ∧
List.length ((((((c2 ++ [(.tuple [(.str "step"), (.tuple ds71)])]) ++ [d88]) ++ [(.tuple ds80)]) ++ [d91]) ++ [(.tuple ds82)]) ++ [d94]) < 100000 ∧
sp_law_bent [(.v d0), (.d (.tuple ds85))] s93 (fun y95 s96 =>
outD y95 fun d97 => List.length (((((((c2 ++ [(.tuple [(.str "step"), (.tuple ds71)])]) ++ [d88]) ++ [(.tuple ds80)]) ++ [d91]) ++ [(.tuple ds82)]) ++ [d94]) ++ [(.tuple ds85)]) < 100000 ∧
sp_law_bent [(.v d0), (.d (.tuple [(.str "step"), (.tuple ds71)]))] s96 (fun y98 s99 =>
sp_law_bent [(.v d0), y98] s99 (fun y100 s101 =>
outD y100 fun d102 => List.length ((((((((c2 ++ [(.tuple [(.str "step"), (.tuple ds71)])]) ++ [d88]) ++ [(.tuple ds80)]) ++ [d91]) ++ [(.tuple ds82)]) ++ [d94]) ++ [(.tuple ds85)]) ++ [d97]) < 100000 ∧
getV y24 fun v103 =>
getV y26 fun v104 =>
(List.length ([(.int (-1)), (.int 0), (.int 1), (.bool true), .none, (.int (-2))] : List PyData)) ≤ sizeLine ∧
sp_law_pick [(.v d0), (.d (.list [(.int (-1)), (.int 0), (.int 1), (.bool true), .none, (.int (-2))]))] s101 (fun y105 s106 =>
allD [v103, v104, y105] fun ds107 => ds107.length ≤ sizeLine ∧
(List.length ([(.str "step"), (.tuple ds107)] : List PyData)) ≤ sizeLine ∧
List.length (((((((((c2 ++ [(.tuple [(.str "step"), (.tuple ds71)])]) ++ [d88]) ++ [(.tuple ds80)]) ++ [d91]) ++ [(.tuple ds82)]) ++ [d94]) ++ [(.tuple ds85)]) ++ [d97]) ++ [d102]) < 100000 ∧
k (.nx [o0, some (.v d0), some (.own ((((((((((c2 ++ [(.tuple [(.str "step"), (.tuple ds71)])]) ++ [d88]) ++ [(.tuple ds80)]) ++ [d91]) ++ [(.tuple ds82)]) ++ [d94]) ++ [(.tuple ds85)]) ++ [d97]) ++ [d102]) ++ [(.tuple [(.str "step"), (.tuple ds107)])])), some (.d c3), some (.d x), some z21, some y24, some y26, some (.d (.tuple [(.str "step"), (.tuple ds71)])), some (.d (.tuple ds80)), some (.d (.tuple ds85)), o11]) s106) E) E) E) E) E) E) E) E) E) E)) E) E) E) := by kernel_rfl

theorem f_law_a3 (d0 : V) (c3 : PyData) (c2 : List PyData) (o0 : Option Sl) (o4 : Option Sl) (o5 : Option Sl) (o6 : Option Sl) (o7 : Option Sl) (o8 : Option Sl) (o9 : Option Sl) (o10 : Option Sl) (o11 : Option Sl) (s : S) (Q : QS S) (E : QX S) : wB G_law 30 26 (defScope s_law) [o0, some (.v d0), some (.own c2), some (.d c3), o4, o5, o6, o7, o8, o9, o10, o11] s ((defBody s_law).drop 4) (fnO Q) E = (
dbin .Mult (.d (.str "a")) (.d (.int 9)) fun z108 =>
allD [(.d (.str "mark")), z108] fun ds109 => ds109.length ≤ sizeLine ∧
(List.length ([(.str "exclude"), (.str "a"), (.int 0), (.str "")] : List PyData)) ≤ sizeLine ∧
(List.length ([(.str "mark"), (.str "a")] : List PyData)) ≤ sizeLine ∧
(List.length ([(.tuple ds109), (.tuple [(.str "exclude"), (.str "a"), (.int 0), (.str "")]), (.list [(.str "mark"), (.str "a")])] : List PyData)) ≤ sizeLine ∧
List.length c2 + List.length ([(.tuple ds109), (.tuple [(.str "exclude"), (.str "a"), (.int 0), (.str "")]), (.list [(.str "mark"), (.str "a")])] : List PyData) ≤ sizeLine ∧
(List.length ([(.int 0), (.str "go"), (.int 1)] : List PyData)) ≤ sizeLine ∧
(List.length ([(.str "step"), (.list [(.int 0), (.str "go"), (.int 1)])] : List PyData)) ≤ sizeLine ∧
(List.length ([(.bool true), (.str "go"), (.int 1)] : List PyData)) ≤ sizeLine ∧
(List.length ([(.str "step"), (.tuple [(.bool true), (.str "go"), (.int 1)])] : List PyData)) ≤ sizeLine ∧
(List.length ([(.str "exclude"), (.str "a"), (.bool true), (.str "h")] : List PyData)) ≤ sizeLine ∧
(List.length ([(.str "guard"), .none] : List PyData)) ≤ sizeLine ∧
(List.length ([(.tuple [(.str "step"), (.list [(.int 0), (.str "go"), (.int 1)])]), (.tuple [(.str "step"), (.tuple [(.bool true), (.str "go"), (.int 1)])]), (.tuple [(.str "exclude"), (.str "a"), (.bool true), (.str "h")]), (.tuple [(.str "guard"), .none])] : List PyData)) ≤ sizeLine ∧
List.length (c2 ++ [(.tuple ds109), (.tuple [(.str "exclude"), (.str "a"), (.int 0), (.str "")]), (.list [(.str "mark"), (.str "a")])]) + List.length ([(.tuple [(.str "step"), (.list [(.int 0), (.str "go"), (.int 1)])]), (.tuple [(.str "step"), (.tuple [(.bool true), (.str "go"), (.int 1)])]), (.tuple [(.str "exclude"), (.str "a"), (.bool true), (.str "h")]), (.tuple [(.str "guard"), .none])] : List PyData) ≤ sizeLine ∧
(List.length ([(.str "step"), (.int 0), (.str "go"), (.int 1)] : List PyData)) ≤ sizeLine ∧
List.length ((c2 ++ [(.tuple ds109), (.tuple [(.str "exclude"), (.str "a"), (.int 0), (.str "")]), (.list [(.str "mark"), (.str "a")])]) ++ [(.tuple [(.str "step"), (.list [(.int 0), (.str "go"), (.int 1)])]), (.tuple [(.str "step"), (.tuple [(.bool true), (.str "go"), (.int 1)])]), (.tuple [(.str "exclude"), (.str "a"), (.bool true), (.str "h")]), (.tuple [(.str "guard"), .none])]) < 100000 ∧
asSeq (.d (.list (((c2 ++ [(.tuple ds109), (.tuple [(.str "exclude"), (.str "a"), (.int 0), (.str "")]), (.list [(.str "mark"), (.str "a")])]) ++ [(.tuple [(.str "step"), (.list [(.int 0), (.str "go"), (.int 1)])]), (.tuple [(.str "step"), (.tuple [(.bool true), (.str "go"), (.int 1)])]), (.tuple [(.str "exclude"), (.str "a"), (.bool true), (.str "h")]), (.tuple [(.str "guard"), .none])]) ++ [(.tuple [(.str "step"), (.int 0), (.str "go"), (.int 1)])]))) fun xs110 =>
xs110.length ≤ 1000000 ∧ wMap (fun x111 s112 k113 => sp_law_right [(.d x111)] s112 (fun y114 s115 =>
dtru y114 fun b116 =>
bif2 (!b116) (outD (.d x111) fun y => k113 (some y) s115) (k113 none s115)) noX) xs110 s fun ys117 s118 =>
(List.length ([] : List PyData)) ≤ sizeLine ∧
dcmp .Eq (.d (.list ys117)) (.d (.list [])) fun c119 =>
Q (.d (.bool c119)) s118) := by kernel_rfl

end
end Z
set_option Elab.async false
set_option linter.all false
set_option maxRecDepth 100000
set_option maxHeartbeats 4000000
namespace Z
open PySem PySem.Spec PyProof.Rows L2 Evl
section
variable {S : Type} [Fd] [Dpt]
theorem dr {n : Int} {s : S} {Q : QS S} {E : QX S} (h0 : 0 < n) (h1 : n ≤ 1000) (q : ∀ i : Int, 0 ≤ i → i < n → Q (.d (.int i)) s) : sp_law_draw [.v (.ref Fd.p), .d (.int n)] s Q E := ⟨n, rfl, h0, h1, q⟩
theorem pk {xs : List PyData} {s : S} {Q : QS S} {E : QX S} (h0 : xs ≠ []) (h1 : xs.length ≤ 100) (q : ∀ x ∈ xs, Q (.d x) s) : sp_law_pick [.v (.ref Fd.p), .d (.list xs)] s Q E := .inl ⟨xs, rfl, h0, h1, q⟩
theorem pks {z : Str} {s : S} {Q : QS S} {E : QX S} (h0 : 0 < z.cps.toList.length) (h1 : z.length ≤ 100) (q : ∀ c ∈ z.cps.toList, Q (.d (.str ⟨#[c]⟩)) s) : sp_law_pick [.v (.ref Fd.p), .d (.str z)] s Q E := .inr ⟨z, rfl, h0, h1, q⟩
theorem str_i {s : S} {Q : QS S} {E : QX S} (q : ∀ d, okD 10 2 d = true → Q (.d d) s) : sp_law_strange [.v (.ref Fd.p)] s Q E := ⟨rfl, q⟩
theorem bent_i {L m : Nat} {d : PyData} {s : S} {Q : QS S} {E : QX S} (hn : m + 1 ≤ Dpt.n) (hL : 10 ≤ L) (h40 : L ≤ 40) (hd : okD L m d = true) (q : ∀ d2, okD (L + 1) (m + 2) d2 = true → Q (.d d2) s) : sp_law_bent [.v (.ref Fd.p), .d d] s Q E := by
  obtain ⟨k, hk⟩ : ∃ k, Dpt.n = k + 1 := ⟨Dpt.n - 1, by omega⟩
  show spBentU Fd.p Dpt.n _ _ _ _
  rw [hk]
  exact ⟨L, m, hL, h40, by omega, d, rfl, hd, q⟩
theorem ok_law_pick : Wok (S := S) G_law_pick s_law_pick sp_law_pick := by
  rintro ss s Q E (⟨xs, rfl, hne, hl, hq⟩ | ⟨z, rfl, hz, hl, hq⟩)
  · refine Eq.mpr (f_law_pick (.ref Fd.p) (.list xs) s Q E) ?_
    rw [dL_l]
    have hp : 0 < xs.length := List.length_pos_iff.mpr hne
    exact dr (by omega) (by omega) fun i h0 h1 => dix_l h0 h1 fun x hx => hq x hx
  · refine Eq.mpr (f_law_pick (.ref Fd.p) (.str z) s Q E) ?_
    rw [dL_s]
    have hn : z.cps.toList.length = z.length := by simp [Str.length]
    exact ⟨le100s hl, dr (by omega) (by omega) fun i h0 h1 => dix_s (le100s hl) h0 (by omega) hq⟩
theorem pow59 {Q : Sl → Prop} (q : Q (.d (.int (10 ^ 59)))) : dbin .Pow (.d (.int 10)) (.d (.int 59)) Q := ⟨⟨by decide, by decide, by decide⟩, q⟩
def oddA : List PyData := [.int 0, .int 1, .int (-1), .int 2, .bool true, .bool false, .none, .str "", .str "a", .str "abcdefgh", .str "abcdefghi", .str "A", .str "a b", .str "a1", .str "-", .tuple [], .list [], .tuple [.str "a"]]
def oddB : List PyData := [.list [.str "a"], .str "on", .str "off", .str "On", .str "step", .str "mark", .str "guard", .str "exclude", .str "allow", .str "go", .str "fork", .str "take", .str "none"]
def oddC : List PyData := [.str "later", .str "kill", .str "release", .str "exit", .str "wait", .int (10 ^ 59), .int (-(10 ^ 59)), .tuple [.int 0, .str "go", .int 1], .tuple [.int 0, .str "exit", .int (-1)], .int 40]
def oddD : List PyData := [.list [.int 0, .str "go", .int 1], .tuple [.int 0, .str "take"], .tuple [.str "step", .tuple [.int 0, .str "none", .int (-1)]], .tuple [.str "mark", .str "a"], .tuple [.str "guard", .bool true], .tuple [.none, .none]]
def odds : List PyData := ((oddA ++ oddB) ++ oddC) ++ oddD
theorem odds_ok : odds.all (okD 10 2) = true := by decide +kernel
theorem ok_law_strange : Wok (S := S) G_law_strange s_law_strange sp_law_strange := by
  rintro ss s Q E ⟨rfl, hq⟩
  refine Eq.mpr (f_law_strange (.ref Fd.p) s Q E) ⟨le100s (by simp), le100s (by simp), le100s (by simp), allD_i (ds := oddA) rfl ⟨by decide, le100s (by simp), le100s (by simp), by decide, pow59 (pow59 ?_)⟩⟩
  rw [asI]
  refine ⟨le100s (by simp), le100s (by simp), allD_i (ds := oddC) rfl ⟨by decide, by decide, le100s (by simp), le100s (by simp), le100s (by simp), le100s (by simp), le100s (by simp), le100s (by simp), le100s (by simp), le100s (by simp), by decide, ?_⟩⟩
  exact pk (xs := odds) (by simp [odds, oddA]) (by decide) fun x hx => hq x (List.all_eq_true.mp odds_ok x hx)
theorem sign_in {a : Array Nat} {xs : List Nat} (h : (⟨a⟩ : Str).cps.all (fun c => true) = true) : True := True.intro
theorem ok_cut {z : Str} {lo hi : Option Int} (h : PyData.strOk z = true) : PyData.strOk ⟨(cutG z.cps.toList lo hi).toArray⟩ = true := by
  unfold PyData.strOk at *
  rw [← Array.all_toList] at h ⊢
  refine List.all_eq_true.mpr fun c hc => List.all_eq_true.mp h c ?_
  have hc2 : c ∈ cutG z.cps.toList lo hi := by simpa using hc
  exact List.mem_of_mem_drop (List.mem_of_mem_take hc2)
theorem len_cut {z : Str} {lo hi : Option Int} : (⟨(cutG z.cps.toList lo hi).toArray⟩ : Str).length = (cutG z.cps.toList lo hi).length := by simp [Str.length]
theorem len_add {a b : Str} : (a ++ b).length = a.length + b.length := by
  show (a.cps ++ b.cps).size = _
  simp [Str.length]
theorem ds_s {z : Str} {lo hi : Option Int} {Q : Sl → Prop} (h : z.length ≤ 100) (q : Q (.d (.str ⟨(cutG z.cps.toList lo hi).toArray⟩))) : dsl (.d (.str z)) lo hi Q := ⟨le100s h, q⟩
theorem add_s {a b : Str} {Q : Sl → Prop} (h : a.length + b.length ≤ 100) (q : Q (.d (.str (a ++ b)))) : dbin .Add (.d (.str a)) (.d (.str b)) Q := ⟨le100s h, q⟩
theorem ls_t {xs : List PyData} {Q : Sl → Prop} : dcall .list_ [.d (.tuple xs)] Q = Q (.d (.list xs)) := rfl
theorem oS {L n : Nat} {z : Str} (h : PyData.strOk z = true) (k : z.length ≤ L) : okD L n (.str z) = true := by
  cases n <;> simp [okD, h, k]
theorem ok_law_bent (h50 : Dpt.n ≤ 50) : ∀ ss s Q E, spBentU (S := S) Fd.p (Dpt.n + 1) ss s Q E → wB G_law_bent 30 30 (defScope s_law_bent) (startE (G_law_bent (S := S)).N ss) s (defBody s_law_bent) (fnO Q) E := by
  rintro ss s Q E ⟨L, m, h10, h40, hm, d, rfl, hd, hq⟩
  refine Eq.mpr (f_law_bent (.ref Fd.p) d s Q E) ?_
  simp only [dI_tup, dT_b]
  have hstr : ∀ z, okD 10 2 z = true → Q (.d z) s := fun z hz => hq z (okD_mono (by omega) (by omega) hz)
  cases d with
  | tuple xs =>
    obtain ⟨n, rfl⟩ : ∃ n, m = n + 1 := by
      cases m with
      | zero => simp [okD] at hd
      | succ n => exact ⟨n, rfl⟩
    simp only [okD, Bool.and_eq_true, decide_eq_true_eq, List.all_eq_true] at hd
    obtain ⟨hl, hx⟩ := hd
    have big : ∀ {ys : List PyData}, ys.length ≤ L + 1 → (∀ y ∈ ys, okD (L + 1) (n + 2) y = true) → Q (.d (.tuple ys)) s := fun {ys} h1 h2 => hq _ (okD_mono (Nat.le_refl _) (by omega) (oT (n := n + 2) h1 h2))
    have hx2 : ∀ y ∈ xs, okD (L + 1) (n + 2) y = true := fun y hy => okD_mono (by omega) (by omega) (hx y hy)
    have low : J_law_bent_1 Q E (.ref Fd.p) (.tuple xs) false s := by
      simp only [J_law_bent_1, bF]
      refine dr (by omega) (by omega) fun w w0 w7 => str_i fun z hz => ?_
      rw [dI_tup, dT_b, show isTup (.tuple xs) = true from rfl, if_pos rfl, gV_d, dLt_i]
      by_cases c5 : w < 5
      · rw [decide_eq_true c5]
        simp only [J_law_bent_2, bT, dL_t]
        rw [add_i]
        refine dr (by omega) (by omega) fun i i0 i1 => ?_
        have e1 := cut_to (xs := xs) i0
        have l1 := cut_len (xs := xs) (lo := none) (hi := some i)
        rw [gV_d, dEq_i]
        by_cases c0 : w = 0
        · rw [decide_eq_true c0, bT, ls_t]
          exact hq _ (okD_mono (Nat.le_refl _) (by omega) (oL (L := L + 1) (n := n + 2) (by omega) hx2))
        rw [decide_eq_false c0, bF, gV_d, dEq_i]
        by_cases c1 : w = 1
        · rw [decide_eq_true c1, bT, gV_d, asI, ds_t, gV_d, add_i, asI, ds_t]
          have e2 := cut_from (xs := xs) (i := i + 1) (by omega)
          have l2 := cut_len (xs := xs) (lo := some (i + 1)) (hi := none)
          refine add_t (by omega) (big ?_ fun y hy => hx2 y ?_)
          · rw [e1, e2, List.length_append, List.length_take, List.length_drop]
            omega
          · rcases List.mem_append.mp hy with h | h <;> exact cut_mem h
        rw [decide_eq_false c1, bF, gV_d, dEq_i]
        by_cases c2 : w = 2
        · rw [decide_eq_true c2, bT, gV_d, asI, ds_t, gV_d, asI, gV_d, add_i, asI, ds_t]
          have e2 := cut_from (xs := xs) i0
          have l2 := cut_len (xs := xs) (lo := some i) (hi := none)
          have l3 := cut_one (xs := xs) i0
          refine add_t (by omega) ?_
          rw [gV_d, asI, ds_t]
          refine add_t (by rw [List.length_append]; omega) (big ?_ fun y hy => hx2 y ?_)
          · rw [e1, e2, List.length_append, List.length_append, List.length_take, List.length_drop]
            omega
          · rcases List.mem_append.mp hy with h | h
            · rcases List.mem_append.mp h with h | h <;> exact cut_mem h
            · exact cut_mem h
        rw [decide_eq_false c2, bF, gV_d, dEq_i]
        have e2 := cut_from (xs := xs) i0
        have l2 := cut_len (xs := xs) (lo := some i) (hi := none)
        by_cases c3 : w = 3
        · rw [decide_eq_true c3, bT, gV_d, asI, ds_t, gV_d]
          refine allD_i rfl ⟨le100s (by simp), add_t (by simp; omega) ?_⟩
          rw [gV_d, asI, ds_t]
          refine add_t (by simp; omega) (big ?_ fun y hy => ?_)
          · rw [e1, e2, List.length_append, List.length_append, List.length_take, List.length_drop]
            simp
            omega
          · rcases List.mem_append.mp hy with h | h
            · rcases List.mem_append.mp h with h | h
              · exact hx2 y (cut_mem h)
              · rw [List.mem_singleton.mp h]
                exact okD_mono (by omega) (by omega) hz
            · exact hx2 y (cut_mem h)
        · rw [decide_eq_false c3, bF, gV_d, asI, ds_t, gV_d, asI, ds_t]
          refine add_t (by omega) (big ?_ fun y hy => hx2 y ?_)
          · rw [e1, e2, List.length_append, List.length_take, List.length_drop]
            omega
          · rcases List.mem_append.mp hy with h | h <;> exact cut_mem h
      · rw [decide_eq_false c5]
        simp only [J_law_bent_2, bF]
        rw [dI_str, dT_b, show isStr (.tuple xs) = false from rfl, if_neg (by simp)]
        simp only [J_law_bent_3, bF]
        rw [gV_d]
        exact hstr z hz
    rw [show isTup (.tuple xs) = true from rfl, if_pos rfl, dL_t, dGt_i]
    by_cases hp : (0 : Int) < xs.length
    · rw [decide_eq_true hp, if_pos rfl]
      refine dr (by omega) (by omega) fun o _ _ => ?_
      rw [dGt_i]
      by_cases ho : 0 < o
      · rw [decide_eq_true ho]
        simp only [J_law_bent_1, bT, dL_t]
        refine dr (by omega) (by omega) fun i i0 i1 => ?_
        rw [gV_d, asI, ds_t, gV_d]
        obtain ⟨x, hxm, ex⟩ := atI_in i0 i1
        show (match atI xs i with
          | some z => _
          | none => False)
        rw [ex]
        refine bent_i (L := L) (m := n) (by omega) h10 h40 (hx x hxm) fun z hz => allD_i rfl ⟨le100s (by simp), ?_⟩
        have l1 := cut_len (xs := xs) (lo := none) (hi := some i)
        have l2 := cut_len (xs := xs) (lo := some (i + 1)) (hi := none)
        have e1 := cut_to (xs := xs) i0
        have e2 := cut_from (xs := xs) (i := i + 1) (by omega)
        refine add_t (by simp; omega) ?_
        rw [gV_d, add_i, asI, ds_t]
        refine add_t (by simp; omega) (big ?_ fun y hy => ?_)
        · rw [e1, e2, List.length_append, List.length_append, List.length_take, List.length_drop]
          simp
          omega
        · rcases List.mem_append.mp hy with h | h
          · rcases List.mem_append.mp h with h | h
            · exact hx2 y (cut_mem h)
            · rw [List.mem_singleton.mp h]
              exact hz
          · exact hx2 y (cut_mem h)
      · rw [decide_eq_false ho]
        exact low
    · rw [decide_eq_false hp, if_neg (by simp)]
      exact low
  | str u =>
    rw [show isTup (.str u) = false from rfl, if_neg (by simp)]
    have hu : PyData.strOk u = true ∧ u.length ≤ L := by
      cases m <;> simpa [okD] using hd
    simp only [J_law_bent_1, bF]
    refine dr (by omega) (by omega) fun w w0 w7 => str_i fun z hz => ?_
    rw [dI_tup, dT_b, show isTup (.str u) = false from rfl, if_neg (by simp)]
    simp only [J_law_bent_2, bF]
    rw [dI_str, dT_b, show isStr (.str u) = true from rfl, if_pos rfl, gV_d, dLt_i]
    by_cases c4 : w < 4
    · rw [decide_eq_true c4]
      simp only [J_law_bent_3, bT]
      rw [gV_d, asI]
      refine ds_s (by omega) ⟨le100s (by simp), pk (by simp) (by simp) fun y hy => ?_⟩
      obtain ⟨v, rfl, hv, hv1⟩ : ∃ v : Str, y = .str v ∧ PyData.strOk v = true ∧ v.length ≤ 1 := by
        simp only [List.mem_cons, List.not_mem_nil, or_false] at hy
        rcases hy with rfl | rfl | rfl | rfl | rfl | rfl <;> exact ⟨_, rfl, by decide +kernel, by decide +kernel⟩
      have e1 := cut_to (xs := u.cps.toList) w0
      have e2 := cut_from (xs := u.cps.toList) w0
      have lu : u.cps.toList.length = u.length := by simp [Str.length]
      have l1 : (cutG u.cps.toList none (some w)).length + (cutG u.cps.toList (some w) none).length ≤ u.length := by
        rw [e1, e2, List.length_take, List.length_drop]
        omega
      refine add_s (by rw [len_cut]; omega) ?_
      rw [gV_d, asI]
      refine ds_s (by omega) (add_s (by rw [len_add, len_cut, len_cut]; omega) (hq _ (oS (ok_add (ok_add (ok_cut hu.1) hv) (ok_cut hu.1)) ?_)))
      rw [len_add, len_add, len_cut, len_cut]
      omega
    · rw [decide_eq_false c4]
      simp only [J_law_bent_3, bF]
      rw [gV_d]
      exact hstr z hz
  | _ =>
    rw [show isTup _ = false from rfl, if_neg (by simp)]
    simp only [J_law_bent_1, bF]
    refine dr (by omega) (by omega) fun w w0 w7 => str_i fun z hz => ?_
    rw [dI_tup, dT_b, show isTup _ = false from rfl, if_neg (by simp)]
    simp only [J_law_bent_2, bF]
    rw [dI_str, dT_b, show isStr _ = false from rfl, if_neg (by simp)]
    simp only [J_law_bent_3, bF]
    rw [gV_d]
    exact hstr z hz
end
end Z
set_option Elab.async false
set_option linter.all false
set_option maxRecDepth 100000
set_option maxHeartbeats 4000000
namespace Z
open PySem PySem.Spec PyProof.Rows L2 Evl
section
variable {S : Type} [Fd] [Dpt]
theorem rgS {n : Int} {Q : List PyData → Prop} (h : n ≤ 2 ^ 61) (h0 : -(2 ^ 61) ≤ n) (q : Q (rangeD 0 n)) : rangeS1 (.d (.int n)) Q := ⟨h, h0, q⟩
theorem range_len {n : Int} : (rangeD 0 n).length = n.toNat := by simp [rangeD]
/-- a comprehension whose turns yield what they like -/
theorem wMap_any {f : PyData → S → (Option PyData → S → Prop) → Prop} {P : PyData → Prop} {s : S} : ∀ {xs : List PyData} {Q : List PyData → S → Prop}, (∀ x ∈ xs, ∀ k : Option PyData → S → Prop, (∀ y, P y → k (some y) s) → f x s k) → (∀ ys, ys.length = xs.length → (∀ y ∈ ys, P y) → Q ys s) → wMap f xs s Q
  | [], Q, _, q => q [] rfl (by simp)
  | x :: xs, Q, h, q => h x List.mem_cons_self _ fun y hy => wMap_any (xs := xs) (fun z hz => h z (List.mem_cons_of_mem _ hz)) fun ys hl hp => q (y :: ys) (by simp [hl]) fun z hz => by
      rcases List.mem_cons.mp hz with e | e
      · rw [e]
        exact hy
      · exact hp z e
theorem signs_of : ∀ {ys : List PyData}, (∀ y ∈ ys, ∃ c : Nat, y = .str ⟨#[c]⟩ ∧ PyData.strOk ⟨#[c]⟩ = true) → ∃ zs : List Str, ys = zs.map .str ∧ ∀ z ∈ zs, z.length = 1 ∧ PyData.strOk z = true
  | [], _ => ⟨[], rfl, by simp⟩
  | y :: ys, h => by
    obtain ⟨zs, e, k⟩ := signs_of (ys := ys) fun z hz => h z (List.mem_cons_of_mem _ hz)
    obtain ⟨c, ec, ok⟩ := h y List.mem_cons_self
    refine ⟨⟨#[c]⟩ :: zs, by rw [e, ec]; rfl, fun z hz => ?_⟩
    rcases List.mem_cons.mp hz with w | w
    · rw [w]
      exact ⟨rfl, ok⟩
    · exact k z w
/-- signs, joined -/
theorem join_signs {ys : List PyData} {Q : Sl → Prop} (h : ∀ y ∈ ys, ∃ c : Nat, y = .str ⟨#[c]⟩ ∧ PyData.strOk ⟨#[c]⟩ = true) (hl : ys.length ≤ 100) (q : ∀ z : Str, PyData.strOk z = true → z.length ≤ ys.length → Q (.d (.str z))) : djoin (.d (.str "")) (.d (.list ys)) Q := by
  obtain ⟨zs, rfl, hz⟩ := signs_of h
  rw [List.length_map] at hl q
  have hs := one_sign fun z hz' => (hz z hz').1
  have e0 : ("" : Str).length = 0 := rfl
  show (match strsD (zs.map .str) with
    | some ys => (ys.map (·.length)).sum + ys.length * ("" : Str).length ≤ 16777216 ∧ Q (.d (.str (Txt.join "" ys)))
    | none => False)
  rw [strsD_map]
  dsimp only
  rw [hs, e0]
  refine ⟨by omega, q _ ?_ ?_⟩
  · rw [show Txt.join ("" : Str) zs = Str.join "" zs from StrLaws.glued_eq_join _ _]
    exact ok_join zs fun z hz' => (hz z hz').2
  · rw [show Txt.join ("" : Str) zs = Str.join "" zs from StrLaws.glued_eq_join _ _]
    have := StrLaws.join_length_le "" zs
    rw [hs, e0] at this
    omega
theorem bif_both {c : Bool} {A B : Prop} (a : A) (b : B) : bif2 c A B := by
  cases c
  · exact b
  · exact a
theorem okT2 {L n : Nat} {a b : PyData} (hL : 2 ≤ L) (h1 : okD L n a = true) (h2 : okD L n b = true) : okD L (n + 1) (.tuple [a, b]) = true := oT (by simpa using hL) (by simp [h1, h2])
theorem okT3 {L n : Nat} {a b c : PyData} (hL : 3 ≤ L) (h1 : okD L n a = true) (h2 : okD L n b = true) (h3 : okD L n c = true) : okD L (n + 1) (.tuple [a, b, c]) = true := oT (by simpa using hL) (by simp [h1, h2, h3])
theorem okT4 {L n : Nat} {a b c e : PyData} (hL : 4 ≤ L) (h1 : okD L n a = true) (h2 : okD L n b = true) (h3 : okD L n c = true) (h4 : okD L n e = true) : okD L (n + 1) (.tuple [a, b, c, e]) = true := oT (by simpa using hL) (by simp [h1, h2, h3, h4])
theorem up {L M n m : Nat} {d : PyData} (h : okD L n d = true) (l : L ≤ M) (k : n ≤ m) : okD M m d = true := okD_mono l k h
theorem toOk {L n : Nat} {d : PyData} (h : okD L n d = true) (l : L ≤ 100) (k : n ≤ 60) : Ok d := okD_mono l k h
theorem ok_snoc {c : List PyData} {x : PyData} (h : ∀ y ∈ c, Ok y) (hx : Ok x) : ∀ y ∈ c ++ [x], Ok y := by
  intro y hy
  rcases List.mem_append.mp hy with e | e
  · exact h y e
  · rw [List.mem_singleton.mp e]
    exact hx
theorem ok_app {c e : List PyData} (h : ∀ y ∈ c, Ok y) (hx : ∀ y ∈ e, Ok y) : ∀ y ∈ c ++ e, Ok y := by
  intro y hy
  rcases List.mem_append.mp hy with z | z
  · exact h y z
  · exact hx y z
theorem allIn {p : PyData → Bool} {xs : List PyData} {x : PyData} (h : xs.all p = true) (hx : x ∈ xs) : p x = true := List.all_eq_true.mp h x hx
structure Lw (c2 : List PyData) (n : Nat) : Prop where
  len : c2.length + 10 * n ≤ 152
  ok : ∀ x ∈ c2, Ok x
def EnL (n : Nat) (ε : En) : Prop := ∃ o0 o4 o5 o6 o7 o8 o9 o10 o11 c2, ε = [o0, some (.v (.ref Fd.p)), some (.own c2), some (.d (.list gSTEP_WORDS)), o4, o5, o6, o7, o8, o9, o10, o11] ∧ Lw c2 n
theorem abmz_ok : ("abmz" : Str).cps.toList.all (fun c => PyData.strOk ⟨#[c]⟩) = true := by decide +kernel
theorem law_turn (h8 : Dpt.n = 8) {n : Nat} {o0 o4 o5 o6 o7 o8 o9 o10 o11 : Option Sl} {c2 : List PyData} (h : Lw c2 (n + 1)) {x : PyData} {s : S} {k : Out → S → Prop} {E : QX S} (hk : ∀ ε, EnL n ε → k (.nx ε) s) :
    loopF G_law 30 26 (defScope s_law) (false, [4]) (forBody ((defBody s_law).getD 3 (.Pass ⟨0, 0, 0, 0⟩))) E x [o0, some (.v (.ref Fd.p)), some (.own c2), some (.d (.list gSTEP_WORDS)), o4, o5, o6, o7, o8, o9, o10, o11] s k := by
  have hlen := h.len
  refine Eq.mpr (f_law_b3 (.ref Fd.p) (.list gSTEP_WORDS) c2 o0 o4 o5 o6 o7 o8 o9 o10 o11 x s k E) ⟨⟨_, rfl⟩, dr (by omega) (by omega) fun i i0 i8 => ?_⟩
  rw [add_i]
  refine rgS (by omega) (by omega) ⟨by rw [range_len]; omega, wMap_any (P := fun d => ∃ c : Nat, d = .str ⟨#[c]⟩ ∧ PyData.strOk ⟨#[c]⟩ = true) (fun x hx k hk => pks (by decide +kernel) (by decide +kernel) fun c hc => hk _ ⟨c, rfl, List.all_eq_true.mp abmz_ok c hc⟩) fun ys hl hp => ?_⟩
  rw [range_len] at hl
  refine join_signs hp (by omega) fun nm nm1 nm2 => pow59 (allD_i rfl ⟨le100s (by simp), pk (by simp) (by simp) fun a ha => pk (by simp [gSTEP_WORDS]) (by simp [gSTEP_WORDS]) fun b hb => ?_⟩)
  have okn : okD 10 0 (.str nm) = true := oS nm1 (by omega)
  have oka : okD 10 0 a = true := allIn (by decide +kernel) ha
  have okb : okD 10 0 b = true := allIn (by decide +kernel) hb
  have flb : flatD b = true := allIn (by decide +kernel) hb
  clear ha hb hp hl
  rw [gV_d, gV_d, gV_d]
  refine ⟨le100s (by simp), flb, by decide +kernel, bif_both (dr (by omega) (by omega) fun i2 _ _ => ?_) ?_⟩
  all_goals
    refine allD_i rfl ⟨le100s (by simp), le100s (by simp), le100s (by simp), pk (by simp) (by simp) fun y hy => ?_⟩
    have oky : okD 10 0 y = true := allIn (by decide +kernel) hy
    rw [gV_d, gV_d, gV_d]
    refine allD_i rfl ⟨le100s (by simp), pk (by simp) (by simp) fun l hl => ?_⟩
    have okl : okD 10 0 l = true := by
      simp only [List.mem_cons, List.not_mem_nil, or_false] at hl
      rcases hl with rfl | rfl | rfl
      · decide +kernel
      · decide +kernel
      · exact okn
    refine allD_i rfl ⟨le100s (by simp), ?_⟩
    rw [gV_d]
    refine allD_i rfl ⟨le100s (by simp), le100s (by simp), pk (by simp) (by simp) fun g hg => ?_⟩
    have okg : okD 10 0 g = true := allIn (by decide +kernel) hg
    have hE : ∀ j : Int, okD 10 2 (.tuple [.str "step", .tuple [a, b, .int j]]) = true := fun j => okT2 (L := 10) (by omega) (show okD 10 1 (.str "step") = true by decide +kernel) (okT3 (by omega) oka okb (oI (L := 10) (n := 0)))
    have hT := okT4 (L := 10) (by omega) oky okn oka okl
    have hM := okT2 (L := 10) (by omega) (show okD 10 0 (.str "mark") = true by decide +kernel) okn
    have hG := okT2 (L := 10) (by omega) (show okD 10 0 (.str "guard") = true by decide +kernel) okg
    refine allD_i rfl ⟨le100s (by simp), le100s (by simp), by omega, bent_i (L := 10) (m := 2) (by omega) (by omega) (by omega) (hE _) fun d1 k1 => ?_⟩
    rw [oD]
    refine ⟨by simp; omega, by simp; omega, bent_i (L := 10) (m := 1) (by omega) (by omega) (by omega) hT fun d2 k2 => ?_⟩
    rw [oD]
    refine ⟨by simp; omega, by simp; omega, bent_i (L := 10) (m := 1) (by omega) (by omega) (by omega) hM fun d3 k3 => ?_⟩
    rw [oD]
    refine ⟨by simp; omega, by simp; omega, bent_i (L := 10) (m := 1) (by omega) (by omega) (by omega) hG fun d4 k4 => ?_⟩
    rw [oD]
    refine ⟨by simp; omega, bent_i (L := 10) (m := 2) (by omega) (by omega) (by omega) (hE _) fun d5 k5 => bent_i (L := 11) (m := 4) (by omega) (by omega) (by omega) k5 fun d6 k6 => ?_⟩
    rw [oD]
    refine ⟨by simp; omega, ?_⟩
    rw [gV_d, gV_d]
    refine ⟨le100s (by simp), pk (by simp) (by simp) fun r hr => ?_⟩
    have okr : okD 10 0 r = true := allIn (by decide +kernel) hr
    have hR := okT2 (L := 10) (by omega) (show okD 10 1 (.str "step") = true by decide +kernel) (okT3 (by omega) oka okb okr)
    refine allD_i rfl ⟨le100s (by simp), le100s (by simp), by simp; omega, hk _ ⟨_, _, _, _, _, _, _, _, _, _, rfl, ⟨by simp; omega, ?_⟩⟩⟩
    exact ok_snoc (ok_snoc (ok_snoc (ok_snoc (ok_snoc (ok_snoc (ok_snoc (ok_snoc (ok_snoc (ok_snoc h.ok (toOk (hE _) (by omega) (by omega))) (toOk k1 (by omega) (by omega))) (toOk hT (by omega) (by omega))) (toOk k2 (by omega) (by omega))) (toOk hM (by omega) (by omega))) (toOk k3 (by omega) (by omega))) (toOk hG (by omega) (by omega))) (toOk k4 (by omega) (by omega))) (toOk k6 (by omega) (by omega))) (toOk hR (by omega) (by omega))
theorem mul9 : PySem.MulOk "a" 9 := by
  unfold PySem.MulOk
  decide +kernel
theorem law_last {n : Nat} {o0 o4 o5 o6 o7 o8 o9 o10 o11 : Option Sl} {c2 : List PyData} (h : Lw c2 n) {s : S} {Q : QS S} {E : QX S} (hq : Q (.d (.bool true)) s) :
    wB G_law 30 26 (defScope s_law) [o0, some (.v (.ref Fd.p)), some (.own c2), some (.d (.list gSTEP_WORDS)), o4, o5, o6, o7, o8, o9, o10, o11] s ((defBody s_law).drop 4) (fnO Q) E := by
  have hl := h.len
  have big : ∀ k : Nat, k ≤ 1000 → k ≤ sizeLine := fun k hk => Nat.le_trans hk (by decide)
  refine Eq.mpr (f_law_a3 (.ref Fd.p) (.list gSTEP_WORDS) c2 o0 o4 o5 o6 o7 o8 o9 o10 o11 s Q E) ⟨mul9, allD_i rfl ⟨le100s (by simp), le100s (by simp), le100s (by simp), le100s (by simp), big _ (by simp; omega), le100s (by simp), le100s (by simp), le100s (by simp), le100s (by simp), le100s (by simp), le100s (by simp), le100s (by simp), big _ (by simp; omega), le100s (by simp), by simp; omega, ?_⟩⟩
  rw [aL]
  have hall := ok_snoc (ok_app (ok_app h.ok (e := [.tuple [.str "mark", .str (Txt.mul "a" 9)], .tuple [.str "exclude", .str "a", .int 0, .str ""], .list [.str "mark", .str "a"]]) fun y hy => allIn (p := fun d => okD 100 60 d) (by decide +kernel) hy)
    (e := [.tuple [.str "step", .list [.int 0, .str "go", .int 1]], .tuple [.str "step", .tuple [.bool true, .str "go", .int 1]], .tuple [.str "exclude", .str "a", .bool true, .str "h"], .tuple [.str "guard", .none]]) fun y hy => allIn (p := fun d => okD 100 60 d) (by decide +kernel) hy)
    (x := .tuple [.str "step", .int 0, .str "go", .int 1]) (by decide +kernel)
  refine ⟨by simp; omega, wSel (p := fun _ => true) hall ⟨by decide, dEq_nil (sel_ok hall) ?_⟩⟩
  rw [sel_empty, List.all_eq_true.mpr fun _ _ => rfl]
  exact hq
theorem law_all (h8 : Dpt.n = 8) {s : S} {Q : QS S} {E : QX S} (hq : Q (.d (.bool true)) s) :
    wB G_law 30 29 (defScope s_law) [none, some (.v (.ref Fd.p)), none, none, none, none, none, none, none, none, none, none] s ((defBody s_law).drop 1) (fnO Q) E := by
  refine Eq.mpr (f_law (.ref Fd.p) s Q E) (rgS (by omega) (by omega) ⟨by rw [range_len]; decide, wMap_any (P := fun d => okD 10 2 d = true) (fun x hx k hk => str_i fun d hd => hk d hd) fun ys hl hp => ⟨le100s (by simp), rgS (by omega) (by omega) ?_⟩⟩)
  rw [range_len] at hl
  refine wFor_inv (fun n ε s' => EnL n ε ∧ s' = s) _ _ s ⟨⟨_, _, _, _, _, _, _, _, _, _, rfl, ⟨?_, fun x hx => toOk (hp x hx) (by omega) (by omega)⟩⟩, rfl⟩ ?_ ?_
  · rw [range_len, hl]
    decide
  · rintro x hx n ε s' k ⟨⟨o0, o4, o5, o6, o7, o8, o9, o10, o11, c2, rfl, h⟩, rfl⟩ y
    exact law_turn h8 h fun ε he => y ε s' ⟨he, rfl⟩
  · rintro ε s' ⟨⟨o0, o4, o5, o6, o7, o8, o9, o10, o11, c2, rfl, h⟩, rfl⟩
    exact law_last h hq
end
end Z
set_option Elab.async false
set_option linter.all false
set_option maxRecDepth 100000
set_option maxHeartbeats 4000000
namespace Z
open PySem PySem.Spec PyProof.Rows L2 Evl
/-! ### the feed: a dict -/
def fdK (c : Addr) (turn rest drawn : Int) : List (Key × V) := [(.inr "cells", .ref c), (.inr "next", .int turn), (.inr "rest", .int rest), (.inr "count", .int drawn)]
theorem n_cells_next : ¬ (("cells" : Str) = "next") := by decide +kernel
theorem n_cells_rest : ¬ (("cells" : Str) = "rest") := by decide +kernel
theorem n_cells_count : ¬ (("cells" : Str) = "count") := by decide +kernel
theorem n_next_cells : ¬ (("next" : Str) = "cells") := by decide +kernel
theorem n_next_rest : ¬ (("next" : Str) = "rest") := by decide +kernel
theorem n_next_count : ¬ (("next" : Str) = "count") := by decide +kernel
theorem n_rest_cells : ¬ (("rest" : Str) = "cells") := by decide +kernel
theorem n_rest_next : ¬ (("rest" : Str) = "next") := by decide +kernel
theorem n_rest_count : ¬ (("rest" : Str) = "count") := by decide +kernel
theorem n_count_cells : ¬ (("count" : Str) = "cells") := by decide +kernel
theorem n_count_next : ¬ (("count" : Str) = "next") := by decide +kernel
theorem n_count_rest : ¬ (("count" : Str) = "rest") := by decide +kernel
theorem val_cells {c : Addr} {t r k : Int} : valV (fdK c t r k) (.inr "cells") = some (.ref c) := by simp [valV, fdK, List.find?_cons, n_cells_next, n_cells_rest, n_cells_count, n_next_cells, n_next_rest, n_next_count, n_rest_cells, n_rest_next, n_rest_count, n_count_cells, n_count_next, n_count_rest]
theorem val_next {c : Addr} {t r k : Int} : valV (fdK c t r k) (.inr "next") = some (.int t) := by simp [valV, fdK, List.find?_cons, n_cells_next, n_cells_rest, n_cells_count, n_next_cells, n_next_rest, n_next_count, n_rest_cells, n_rest_next, n_rest_count, n_count_cells, n_count_next, n_count_rest]
theorem val_rest {c : Addr} {t r k : Int} : valV (fdK c t r k) (.inr "rest") = some (.int r) := by simp [valV, fdK, List.find?_cons, n_cells_next, n_cells_rest, n_cells_count, n_next_cells, n_next_rest, n_next_count, n_rest_cells, n_rest_next, n_rest_count, n_count_cells, n_count_next, n_count_rest]
theorem val_count {c : Addr} {t r k : Int} : valV (fdK c t r k) (.inr "count") = some (.int k) := by simp [valV, fdK, List.find?_cons, n_cells_next, n_cells_rest, n_cells_count, n_next_cells, n_next_rest, n_next_count, n_rest_cells, n_rest_next, n_rest_count, n_count_cells, n_count_next, n_count_rest]
theorem put_next {c : Addr} {t r k v : Int} : putK (fdK c t r k) (.inr "next") (.int v) = fdK c v r k := by simp [putK, fdK, n_cells_next, n_cells_rest, n_cells_count, n_next_cells, n_next_rest, n_next_count, n_rest_cells, n_rest_next, n_rest_count, n_count_cells, n_count_next, n_count_rest]
theorem put_rest {c : Addr} {t r k v : Int} : putK (fdK c t r k) (.inr "rest") (.int v) = fdK c t v k := by simp [putK, fdK, n_cells_next, n_cells_rest, n_cells_count, n_next_cells, n_next_rest, n_next_count, n_rest_cells, n_rest_next, n_rest_count, n_count_cells, n_count_next, n_count_rest]
theorem put_count {c : Addr} {t r k v : Int} : putK (fdK c t r k) (.inr "count") (.int v) = fdK c t r v := by simp [putK, fdK, n_cells_next, n_cells_rest, n_cells_count, n_next_cells, n_next_rest, n_next_count, n_rest_cells, n_rest_next, n_rest_count, n_count_cells, n_count_next, n_count_rest]
section
variable {K : PySem.W.Frag} {σ : L2.St} {H : Hp} {ta tb te : TE}
theorem ev_dg {p : Addr} {kvs : List (Key × V)} {k : Key} {v : V} (ha : Ev ta σ H (.ref p)) (hb : Ev tb σ H (kV k)) (h : H p = some (.dK kvs)) (hv : valV kvs k = some v) : Ev (tDGet ta tb) σ H v := fun H1 e Q q =>
  ha H1 e _ fun H2 e2 => hb H2 (e.trans e2) _ fun H3 e3 => ⟨p, v, rfl, by rw [← hv]; exact DGet.k (((e.trans e2).trans e3) p _ h), q H3 (e2.trans e3)⟩
theorem q_dput {p : Addr} {kvs : List (Key × V)} {k : Key} {v : V} {tz : TS} {D : Ends} (h : H p = some (.dK kvs)) (hv : Ev te σ H v) (ha : Ev ta σ H (.ref p)) (hb : Ev tb σ H (kV k)) (hl : kvs.length < 1000)
    (q : ∀ H1, Ex H H1 → tz D σ (upd H1 p (.dK (putK kvs k v)))) : tSeq (sDPut ta tb te) tz D σ H :=
  hv H (Ex.refl H) _ fun H1 e1 => ha H1 e1 _ fun H2 e2 => hb H2 (e1.trans e2) _ fun H3 e3 => ⟨p, _, rfl, DPut.k (((e1.trans e2).trans e3) p _ h) (Nat.lt_of_lt_of_le hl (by decide)), q H3 ((e1.trans e2).trans e3)⟩
theorem ev_int1 {i : Int} (h : Ev ta σ H (.int i)) : Ev (tCB (fun xs H Q => (∃ i, xs = [.int i] ∧ Q (.int i) H) ∨ ∃ k, xs = [.bl k] ∧ Q (.int (if k then 1 else 0)) H) (tCons ta tNil)) σ H (.int i) := fun H1 e Q q =>
  h H1 e _ fun H2 e2 => .inl ⟨i, rfl, q H2 e2⟩
theorem ev_lenS {p : Addr} {xs : List V} (ha : Ev ta σ H (.ref p)) (h : SqL K H p xs) : Ev (tCB (fun xs H Q => ∃ p ys, xs = [.ref p] ∧ (SqL K H p ys ∨ SqT K H p ys) ∧ Q (.int ys.length) H) (tCons ta tNil)) σ H (.int (xs.length : Int)) := fun H1 e Q q =>
  ha H1 e _ fun H2 e2 => ⟨p, xs, rfl, Or.inl (ex_l (e.trans e2) h), q H2 e2⟩
theorem et_R {r : R2} {x y : V} {b : Bool} (ha : Ev ta σ H x) (hb : Ev tb σ H y) (hr : RV r x y H (.bl b)) : EvT (tTest (tOp r ta tb)) σ H b := et_test (ev_op ha hb hr)
theorem q_par {i j : Nat} {v w : V} {tz : TS} {D : Ends} (ha : Ev ta σ H v) (hb : Ev tb σ H w) (q : ∀ H1, Ex H H1 → tz D ((σ.set i (some v)).set j (some w)) H1) : tSeq (tPar i j (tCons ta (tCons tb tNil))) tz D σ H :=
  ha H (Ex.refl H) _ fun H1 e1 => hb H1 e1 _ fun H2 e2 => ⟨v, w, rfl, q H2 (e1.trans e2)⟩
end
/-- the feed behind some changes of its own -/
structure Fs (H0 H : Hp) (p c : Addr) (turn rest drawn : Int) : Prop where
  hp : H p = some (.dK (fdK c turn rest drawn))
  ks : ∀ a o, a ≠ p → H0 a = some o → H a = some o
theorem Fs.ex {H0 H H1 : Hp} {p c : Addr} {t r k : Int} (f : Fs H0 H p c t r k) (e : Ex H H1) : Fs H0 H1 p c t r k := ⟨e _ _ f.hp, fun a o n h => e _ _ (f.ks a o n h)⟩
theorem Fs.put {H0 H H1 : Hp} {p c : Addr} {t r k : Int} (f : Fs H0 H p c t r k) (e : Ex H H1) (t' r' k' : Int) {kvs : List (Key × V)} (h : kvs = fdK c t' r' k') : Fs H0 (upd H1 p (.dK kvs)) p c t' r' k' :=
  ⟨by rw [upd_same, h], fun a o n i => by
    rw [upd_ne n]
    exact e _ _ (f.ks a o n i)⟩
theorem mod_lt' {a n : Int} (h : 0 < n) : 0 ≤ a % n ∧ a % n < n := ⟨Int.emod_nonneg _ (by omega), Int.emod_lt_of_pos _ h⟩
theorem eqv_intsE {ns : List Int} : PyData.eqv (.list (ns.map .int)) (.list []) = ns.isEmpty := by
  cases ns <;> rfl
theorem dpAll_ints {K : PySem.W.Frag} {H : Hp} : ∀ {ns : List Int}, DpAll K H (ns.map .int) (ns.map .int)
  | [] => .nil
  | _ :: _ => .cons (.int _) dpAll_ints
theorem rv_neD {K : PySem.W.Frag} {H : Hp} {x y : V} {d e : PyData} (hx : ∀ H1, Ex H H1 → Dp K H1 x d) (hy : ∀ H1, Ex H H1 → Dp K H1 y e) (sd : SeqAt.shaped d = true) (se : SeqAt.shaped e = true) : RV (rNeD K) x y H (.bl (!PyData.eqv d e)) :=
  fun H1 ex Q q => ⟨d, e, hx H1 ex, hy H1 ex, sd, se, q H1 (Ex.refl H1)⟩
theorem rv_mod {H : Hp} {i j : Int} (h : 0 < j) : RV (rI (fun _ j => 0 < j) fun i j => .int (i % j)) (.int i) (.int j) H (.int (i % j)) := rv_I h
theorem rv_mul {H : Hp} {i j : Int} (h : CMul i j) : RV (rI CMul fun i j => .int (i * j)) (.int i) (.int j) H (.int (i * j)) := rv_I h
theorem rv_div {H : Hp} {i j : Int} (h : CDiv i j) : RV (rI CDiv fun i j => .int (i / j)) (.int i) (.int j) H (.int (i / j)) := rv_I h
theorem rv_add {H : Hp} {i j : Int} : RV (rI0 fun i j => .int (i + j)) (.int i) (.int j) H (.int (i + j)) := rv_I0
theorem ints_shaped {ns : List Int} (h : ns.length ≤ 63) : SeqAt.shaped (.list (ns.map .int)) = true := by
  refine Ok.shaped (okD_mono (L := 63) (n := 1) (by omega) (by omega) ?_)
  simp only [okD, Bool.and_eq_true, decide_eq_true_eq, List.all_eq_true]
  refine ⟨by rw [List.length_map]; exact h, fun x hx => ?_⟩
  obtain ⟨i, _, rfl⟩ := List.mem_map.mp hx
  simp [okD]
/-- the cell at a place, the cell that is mixed -/
def cellK (ns : List Int) (k : Int) : Int := match atI (ns.map V.int) k with
  | some (.int x) => x
  | _ => 271828
theorem cellK_at {ns : List Int} {k : Int} (h0 : 0 ≤ k) (h1 : k < ((ns.map V.int).length : Int)) : atI (ns.map V.int) k = some (.int (cellK ns k)) := by
  obtain ⟨x, hx, e⟩ := atI_in h0 h1
  obtain ⟨i, _, rfl⟩ := List.mem_map.mp hx
  unfold cellK
  rw [e]
abbrev s_law_draw : Stmt := top 15
abbrev N_draw : List Str := ["_law_feed_here", "_law_many", "_law_digit", "_law_cells", "_law_k", "_law_cell", "_law_mixed"]
theorem sc_law_draw : FnScope N_draw ["_law_feed_here", "_law_many"] (defScope s_law_draw) := ⟨rfl, rfl, rfl, by decide +kernel, rfl, by decide +kernel, by decide +kernel⟩
section
variable {P : Program} {w : World} {K : PySem.W.Frag} {mg : Str → Option Value} {base : Heap}
theorem dw_go {p c : Addr} {ns : List Int} (hlen : ns.length ≤ 63) {cdv : Value} {A : Around} {outer : List Env} {sh : Shared} {H : Hp} {f : Addr} {Q : VK} {E : XK} {n : Int} {turn rest k : Int} {CX : CXT}
    (mInt : mg "int" = none) (mLen : mg "len" = none) (hr : Room 0 (A.deeper (envOfC "_law_draw" (defScope s_law_draw) sh.heap.objs.size f cdv)))
    (hn : 0 < n) (hn2 : n ≤ 1000) (ht : 0 ≤ turn) (hp : H p = some (.dK (fdK c turn rest k))) (hc : H c = some (.lst (ns.map .int)))
    (fin : ∀ (r turn' rest' k' : Int) (H2 : Hp), 0 ≤ r → r < n → 0 ≤ turn' → Fs H H2 p c turn' rest' k' → Q (.int r) H2) :
    ∃ t, PSs (cxOf CX P w K mg base N_draw "_law_draw" (defScope s_law_draw) f cdv A outer sh H E) (defBody s_law_draw) t ∧
      t { nx := fun _ H' => Q .non H', rt := Q } (start N_draw [.ref p, .int n]) H := by
  have hu : (cxOf CX P w K mg base N_draw "_law_draw" (defScope s_law_draw) f cdv A outer sh H E).A.units + 64 < cLine := by
    have := hr.un
    show (A.deeper (envOfC "_law_draw" (defScope s_law_draw) sh.heap.objs.size f cdv)).units + 64 < cLine
    omega
  have hu1 : (cxOf CX P w K mg base N_draw "_law_draw" (defScope s_law_draw) f cdv A outer sh H E).A.units + 1 < cLine := by omega
  have ncp : c ≠ p := by
    intro e
    rw [e, hp] at hc
    cases hc
  refine ⟨_, (pss_cons (ps_dput hu1 (pv 0) pe_str (pe_op op_add (pe_dget hu1 (pv 0) pe_str (fun _ _ => rfl)) pe_int) rfl) (pss_cons (ps_if (pt_cmpR op_gt (pe_dget hu1 (pv 0) pe_str (fun _ _ => rfl)) pe_int (nomark _)) (pss_cons (ps_set (i := 2) sc_law_draw.nd rfl (.inl rfl) (pe_op op_mod (pe_callTy call_int1 (by rfl) mInt (by decide +kernel) (pa_cons (pe_dget hu1 (pv 0) pe_str (fun _ _ => rfl)) pa_nil)) (pv 1))) (pss_cons (ps_dput hu1 (pv 0) pe_str (pe_op op_fdiv (pe_dget hu1 (pv 0) pe_str (fun _ _ => rfl)) (pv 1)) rfl) (pss_one (ps_ret (pv 2))))) pss_nil) (pss_cons (ps_par (i := 3) (j := 4) rfl sc_law_draw.nd rfl rfl (by decide) rfl rfl (pa_cons (pe_dget hu1 (pv 0) pe_str (fun _ _ => rfl)) (pa_cons (pe_dget hu1 (pv 0) pe_str (fun _ _ => rfl)) pa_nil)) (sws2 rfl rfl rfl (by decide +kernel) rfl rfl rfl (by decide +kernel) (by decide +kernel)) rfl) (pss_cons (ps_dput hu1 (pv 0) pe_str (pe_op op_add (pv 4) pe_int) rfl) (pss_cons (ps_if (PW.pt (pw_and (pt_cmpR op_lt (pv 4) (pe_callB call_len_seq (by rfl) mLen PySem.boot_len (pa_cons (pv 3) pa_nil)) (nomark _)) (pw_and1 (pt_cmpR op_ge (pe_ix ix_list (pv 3) (pv 4) (fun _ _ => rfl)) (pe_op op_pow pe_int pe_int) (nomark _))))) (pss_cons (ps_dput hu1 (pv 0) pe_str (pe_op op_fdiv (pe_ix ix_list (pv 3) (pv 4) (fun _ _ => rfl)) (pv 1)) rfl) (pss_one (ps_ret (pe_op op_mod (pe_callTy call_int1 (by rfl) mInt (by decide +kernel) (pa_cons (pe_ix ix_list (pv 3) (pv 4) (fun _ _ => rfl)) pa_nil)) (pv 1))))) pss_nil) (pss_cons (ps_set (i := 5) sc_law_draw.nd rfl (.inl rfl) (pe_ifExp (pt_cmpR op_gt (pe_callB call_len_seq (by rfl) mLen PySem.boot_len (pa_cons (pv 3) pa_nil)) pe_int (nomark _)) (pe_ix ix_list (pv 3) (pe_op op_mod (pe_callTy call_int1 (by rfl) mInt (by decide +kernel) (pa_cons (pv 4) pa_nil)) (pe_callB call_len_seq (by rfl) mLen PySem.boot_len (pa_cons (pv 3) pa_nil))) (fun _ _ => rfl)) pe_int)) (pss_cons (ps_set (i := 6) sc_law_draw.nd rfl (.inl rfl) (pe_op op_mod (pe_callTy call_int1 (by rfl) mInt (by decide +kernel) (pa_cons (pe_op op_add (pe_op op_add (pe_op op_mul (pe_op op_mod (pe_callTy call_int1 (by rfl) mInt (by decide +kernel) (pa_cons (pv 5) pa_nil)) pe_int) pe_int) (pe_op op_mul (pe_dget hu1 (pv 0) pe_str (fun _ _ => rfl)) pe_int)) pe_int) pa_nil)) pe_int)) (pss_cons (ps_set (i := 6) sc_law_draw.nd rfl (.inl rfl) (pe_op op_mod (pe_callTy call_int1 (by rfl) mInt (by decide +kernel) (pa_cons (pe_op op_add (pe_op op_add (pe_op op_mul (pv 6) (pv 6)) (pe_op op_mul (pe_dget hu1 (pv 0) pe_str (fun _ _ => rfl)) pe_int)) pe_int) pa_nil)) pe_int)) (pss_cons (ps_set (i := 6) sc_law_draw.nd rfl (.inl rfl) (pe_op op_mod (pe_callTy call_int1 (by rfl) mInt (by decide +kernel) (pa_cons (pe_op op_add (pe_op op_add (pe_op op_mul (pv 6) (pv 6)) (pe_op op_mul pe_int (pv 6))) pe_int) pa_nil)) pe_int)) (pss_one (ps_ret (pe_op op_mod (pe_callTy call_int1 (by rfl) mInt (by decide +kernel) (pa_cons (pe_op op_fdiv (pv 6) pe_int) pa_nil)) (pv 1))))))))))))), ?_⟩
  have f0 : Fs H H p c turn rest k := ⟨hp, fun _ _ _ h => h⟩
  have hcl : ∀ {t r k : Int} {H1 : Hp}, Fs H H1 p c t r k → SqL K H1 c (ns.map .int) := fun f => sq_of (f.ks c _ ncp hc)
  show (_ : TS) _ [some (.ref p), some (.int n), none, none, none, none, none] H
  refine q_dput (k := .inr "count") f0.hp (ev_op (ev_dg (k := .inr "count") (ev_var rfl) ev_c f0.hp val_count) ev_c rv_add) (ev_var rfl) ev_c (by show 4 < 1000; decide) fun H1 e1 => ?_
  have f1 := f0.put e1 turn rest (k + 1) (put_count (k := k))
  refine q_if (et_R (ev_dg (k := .inr "rest") (ev_var rfl) ev_c f1.hp val_rest) ev_c rv_I0) (fun hb H2 e2 => ?_) (fun hb H2 e2 => ?_)
  · have f2 := f1.ex e2
    refine q_asg (ev_op (ev_int1 (ev_dg (k := .inr "rest") (ev_var rfl) ev_c f2.hp val_rest)) (ev_var rfl) (rv_mod hn)) fun H3 e3 => ?_
    have f3 := f2.ex e3
    refine q_dput (k := .inr "rest") f3.hp (ev_op (ev_dg (k := .inr "rest") (ev_var rfl) ev_c f3.hp val_rest) (ev_var rfl) (rv_div ⟨hn, by omega⟩)) (ev_var rfl) ev_c (by show 4 < 1000; decide) fun H4 e4 => ?_
    have f4 := f3.put e4 turn (rest / n) (k + 1) (put_rest (r := rest))
    refine s_ret (ev_var rfl) fun H5 e5 => ?_
    have m := mod_lt' (a := rest) hn
    exact fin _ _ _ _ H5 m.1 m.2 ht (f4.ex e5)
  show (_ : TS) _ [some (.ref p), some (.int n), none, none, none, none, none] H2
  have f2 := f1.ex e2
  refine q_par (ev_dg (k := .inr "cells") (ev_var rfl) ev_c f2.hp val_cells) (ev_dg (k := .inr "next") (ev_var rfl) ev_c f2.hp val_next) fun H3 e3 => ?_
  have f3 := f2.ex e3
  refine q_dput (k := .inr "next") f3.hp (ev_op (ev_var rfl) ev_c rv_add) (ev_var rfl) ev_c (by show 4 < 1000; decide) fun H4 e4 => ?_
  have f4 := f3.put e4 (turn + 1) rest (k + 1) (put_next (t := turn))
  have cell : ∀ {t r k : Int} {H1 : Hp}, Fs H H1 p c t r k → turn < ((ns.map V.int).length : Int) → RV (rIxL K) (.ref c) (.int turn) H1 (.int (cellK ns turn)) := fun f h => rv_ixL (K := K) (hcl f) (cellK_at ht h)
  refine q_if (b := decide (turn < ((ns.map V.int).length : Int)) && decide (10 ^ (18 : Int).toNat ≤ cellK ns turn)) (et_and (et_R (ev_var rfl) (ev_lenS (ev_var rfl) (hcl f4)) rv_I0) fun hb => et_R (ev_op (ev_var rfl) (ev_var rfl) (cell f4 (of_decide_eq_true hb))) (ev_op ev_c ev_c (rv_I ⟨by decide, by decide, by decide⟩)) rv_I0) (fun hb H6 e6 => ?_) (fun hb H6 e6 => ?_)
  · have hlt : turn < ((ns.map V.int).length : Int) := of_decide_eq_true (Bool.and_eq_true_iff.mp hb).1
    have f6 := f4.ex e6
    refine q_dput (k := .inr "rest") f6.hp (ev_op (ev_op (ev_var rfl) (ev_var rfl) (cell f6 hlt)) (ev_var rfl) (rv_div ⟨hn, by omega⟩)) (ev_var rfl) ev_c (by show 4 < 1000; decide) fun H7 e7 => ?_
    have f7 := f6.put e7 (turn + 1) (cellK ns turn / n) (k + 1) (put_rest (r := rest))
    refine s_ret (ev_op (ev_int1 (ev_op (ev_var rfl) (ev_var rfl) (cell f7 hlt))) (ev_var rfl) (rv_mod hn)) fun H8 e8 => ?_
    have m := mod_lt' (a := cellK ns turn) hn
    exact fin _ _ _ _ H8 m.1 m.2 (by omega) (f7.ex e8)
  show (_ : TS) _ [some (.ref p), some (.int n), none, some (.ref c), some (.int turn), none, none] H6
  have f6 := f4.ex e6
  refine q_asg (v := .int (if decide ((0 : Int) < ((ns.map V.int).length : Int)) = true then cellK ns (turn % ((ns.map V.int).length : Int)) else 271828)) (ev_if (b := decide ((0 : Int) < ((ns.map V.int).length : Int))) (et_R (ev_lenS (ev_var rfl) (hcl f6)) ev_c rv_I0) (fun hb => ?_) fun hb => ?_) fun H7 e7 => ?_
  · rw [if_pos hb]
    have hpos : (0 : Int) < ((ns.map V.int).length : Int) := of_decide_eq_true hb
    exact ev_op (ev_var rfl) (ev_op (ev_int1 (ev_var rfl)) (ev_lenS (ev_var rfl) (hcl f6)) (rv_mod hpos)) (rv_ixL (hcl f6) (cellK_at (Int.emod_nonneg _ (by omega)) (Int.emod_lt_of_pos _ hpos)))
  · rw [if_neg (by rw [hb]; simp)]
    exact ev_c
  generalize (if decide ((0 : Int) < ((ns.map V.int).length : Int)) = true then cellK ns (turn % ((ns.map V.int).length : Int)) else 271828) = cl
  have f7 := f6.ex e7
  refine q_asg (ev_op (ev_int1 (ev_op (ev_op (ev_op (ev_op (ev_int1 (ev_var rfl)) ev_c (rv_mod (j := 1000003) (by decide))) ev_c (rv_mul (show CMul (cl % 1000003) 3571 from .inr ⟨by decide, by decide⟩))) (ev_op (ev_dg (k := .inr "count") (ev_var rfl) ev_c f7.hp val_count) ev_c (rv_mul (show CMul (k + 1) 104651 from .inr ⟨by decide, by decide⟩))) rv_add) ev_c rv_add)) ev_c (rv_mod (j := 2147483629) (by decide))) fun H8 e8 => ?_
  have f8 := f7.ex e8
  have m1 := mod_lt' (a := cl % 1000003 * 3571 + (k + 1) * 104651 + 19) (n := 2147483629) (by decide)
  generalize (cl % 1000003 * 3571 + (k + 1) * 104651 + 19) % 2147483629 = x1 at m1
  refine q_asg (ev_op (ev_int1 (ev_op (ev_op (ev_op (ev_var rfl) (ev_var rfl) (rv_mul (show CMul x1 x1 from .inl ⟨by omega, by omega⟩))) (ev_op (ev_dg (k := .inr "count") (ev_var rfl) ev_c f8.hp val_count) ev_c (rv_mul (show CMul (k + 1) 7919 from .inr ⟨by decide, by decide⟩))) rv_add) ev_c rv_add)) ev_c (rv_mod (j := 2147483587) (by decide))) fun H9 e9 => ?_
  have f9 := f8.ex e9
  have m2 := mod_lt' (a := x1 * x1 + (k + 1) * 7919 + 101) (n := 2147483587) (by decide)
  generalize (x1 * x1 + (k + 1) * 7919 + 101) % 2147483587 = x2 at m2
  refine q_asg (ev_op (ev_int1 (ev_op (ev_op (ev_op (ev_var rfl) (ev_var rfl) (rv_mul (show CMul x2 x2 from .inl ⟨by omega, by omega⟩))) (ev_op ev_c (ev_var rfl) (rv_mul (show CMul 613 x2 from .inl ⟨by decide, by decide⟩))) rv_add) ev_c rv_add)) ev_c (rv_mod (j := 2147483563) (by decide))) fun H10 e10 => ?_
  have f10 := f9.ex e10
  refine s_ret (ev_op (ev_int1 (ev_op (ev_var rfl) ev_c (rv_div ⟨by decide, by decide⟩))) (ev_var rfl) (rv_mod hn)) fun H11 e11 => ?_
  have m := mod_lt' (a := (x2 * x2 + 613 * x2 + 7) % 2147483563 / 128) hn
  exact fin _ _ _ _ H11 m.1 m.2 (by omega) (f10.ex e11)
end
end Z
set_option Elab.async false
set_option linter.all false
set_option maxRecDepth 100000
set_option maxHeartbeats 1000000
namespace Z
open PySem PySem.Spec PyProof.Rows L2 Evl
abbrev s_law_feed : Stmt := top 14
theorem sc_law_feed : FnScope ["_law_script", "_law_cell"] ["_law_script"] (defScope s_law_feed) := ⟨rfl, rfl, rfl, by decide +kernel, rfl, by decide +kernel, by decide +kernel⟩
theorem merge_fd {c : Addr} : mergeK [] (fdK c 0 0 0) = fdK c 0 0 0 := by
  simp [mergeK, putK, fdK, n_cells_next, n_cells_rest, n_cells_count, n_next_rest, n_next_count, n_rest_count, n_next_cells, n_rest_cells, n_count_cells, n_rest_next, n_count_next, n_count_rest]
theorem cut63 {ns : List Int} (h : ns.length ≤ 63) : cutV (ns.map V.int) none (some 63) = ns.map V.int := by
  have e := cut_to (xs := ns.map V.int) (i := 63) (by omega)
  show cutG (ns.map V.int) none (some 63) = _
  rw [e]
  exact List.take_of_length_le (by rw [List.length_map]; exact h)
/-- a new feed -/
def spFeed (K : PySem.W.Frag) : Sp := fun vs H Q _ => ∃ (a : Addr) (ns : List Int), vs = [.ref a] ∧ SqL K H a (ns.map V.int) ∧ ns.length ≤ 63 ∧
  ∀ (p c : Addr) (H2 : Hp), Ex H H2 → H2 p = some (.dK (fdK c 0 0 0)) → H2 c = some (.lst (ns.map V.int)) → H p = none → H c = none → Q (.ref p) H2
theorem none_of_ex {H H1 : Hp} {a : Addr} (e : Ex H H1) (h : H1 a = none) : H a = none := by
  cases q : H a with
  | none => rfl
  | some o =>
    rw [e _ _ q] at h
    cases h
section
variable {P : Program} {w : World} {K : PySem.W.Frag} {mg : Str → Option Value} {base : Heap}
theorem ok_feed {f : Addr} {fd : FuncData} (mI : mg "int" = none) (F : FunD K "_law_feed" "_law_feed" (defArgs s_law_feed) (defBody s_law_feed) (defScope s_law_feed) [] [] f fd) : FnG false P w K mg base (L2.CX P w) 1 f fd ["_law_script"] (spFeed K) := by
  refine FunD_okG F sc_law_feed ?_ ?_
  · rintro vs H Q E ⟨a, ns, rfl, _⟩
    rfl
  · rintro cdv A outer sh H vs Q E hg hr ⟨a, ns, rfl, hs, hl, k⟩
    refine ⟨_, pss_one (ps_ret (pe_disp (pps_cons pe_str (pe_lc (own := [("_law_cell", 1)]) (g := gName 1) (tt := tYes) rfl sc_law_feed.nd (pi_list (pe_slice sl_list (pv 0) po_none (po_some pe_int))) (blkOk_by (N := ["_law_script", "_law_cell"]) (sc := defScope s_law_feed) (by decide +kernel)) (fun _ _ _ _ _ => pg_name (i := 1) sc_law_feed.nd rfl (Or.inl rfl)) (fun _ _ _ _ _ => pts_nil) (fun _ _ _ _ _ => pe_callTy call_int1 (by rfl) mI (by decide +kernel) (pa_cons (pv 1) pa_nil))) (pps_cons pe_str pe_int (pps_cons pe_str pe_int (pps_cons pe_str pe_int pps_nil)))) rfl rfl (by decide) (by decide))), ?_⟩
    intro p hp
    have hs2 : SqL K (upd H p (.dK [])) a (ns.map V.int) := ex_l (Ex.new hp) hs
    refine el_sl (K := K) (ev_var rfl) eo_none (eo_some ev_c) hs2 (upd H p (.dK [])) (Ex.refl _) _ fun c1 H1 hc1 e1 h1 => ?_
    rw [cut63 hl] at h1
    refine ⟨c1, rfl, ⟨_, sq_of h1⟩, fun c hc => ?_⟩
    have pc : p ≠ c := ne_of_none (e1 _ _ upd_same) hc
    have hcH : H c = none := none_of_ex ((Ex.new hp).trans e1) hc
    refine lc_list (K := K) (a := c1) (xs := ns.map V.int) (fun i H' => Ex H1 H' ∧ H' c = some (.lst ((ns.take i).map V.int))) ⟨Ex.new hc, upd_same⟩ (fun i H' _ h => sq_of (h.1 _ _ h1)) (fun i x H' hx h => ?_) fun H' h => ?_
    · rw [List.getElem?_map] at hx
      obtain ⟨n, hn, e⟩ := Option.map_eq_some_iff.mp hx
      subst e
      have hi : i < ns.length := (List.getElem?_eq_some_iff.mp hn).1
      refine ⟨rfl, ?_⟩
      unfold tYes
      dsimp only
      rw [if_pos rfl]
      refine ev_int1 (i := n) (ev_var rfl) H' (Ex.refl H') _ fun H2 e2 => ⟨_, e2 _ _ h.2, ?_, fun b o q => ?_, ?_⟩
      · rw [List.length_map, List.length_take]
        have : (63 : Nat) < sizeLine := by decide
        omega
      · rw [upd_ne (ne_of_none q hc)]
        exact e2 _ _ (h.1 _ _ q)
      · rw [upd_same]
        have e : ns.take (i + 1) = ns.take i ++ [n] := by
          rw [List.take_succ, hn]
          rfl
        rw [e, List.map_append]
        rfl
    · have h2 : H' c = some (.lst (ns.map V.int)) := by
        rw [h.2, List.length_map, List.take_length]
      have hp2 : H' p = some (.dK []) := h.1 _ _ (e1 _ _ upd_same)
      refine ⟨hp2, fdK c 0 0 0, rfl, by show 4 ≤ 15; decide, ?_⟩
      rw [merge_fd]
      refine k p c _ (fun b o q => ?_) upd_same (by rw [upd_ne (Ne.symm pc)]; exact h2) hp hcH
      rw [upd_ne (ne_of_none q hp)]
      exact h.1 _ _ (e1 _ _ (Ex.new hp _ _ q))
end
end Z
set_option Elab.async false
set_option linter.all false
set_option maxRecDepth 100000
set_option maxHeartbeats 1000000
namespace Z
open PySem PySem.Spec PyProof.Rows L2 Evl
def DefAt (K : PySem.W.Frag) (mg : Str → Option Value) (x : Str) (st : Stmt) (ps : List Str) : Prop := ∃ f fd, FunD K x x (defArgs st) (defBody st) (defScope st) [] [] f fd ∧ mg x = some (.ref f) ∧ Binds K fd ps []
/-- what stands around the law's defs: the feed, its cells -/
structure KW where
  p : Addr
  c : Addr
  ns : List Int
def KW.rs (i : KW) : List Addr := [i.p, i.c]
structure KJ (i : KW) (F H : Hp) : Prop where
  fd : ∃ t r k : Int, 0 ≤ t ∧ H i.p = some (.dK (fdK i.c t r k))
  cl : H i.c = some (.lst (i.ns.map .int))
  nf : ∀ a ∈ i.rs, F a = none
theorem KJ.ne {i : KW} {F H : Hp} (j : KJ i F H) : ∀ a ∈ i.rs, H a ≠ none ∧ F a = none := by
  intro a ha
  refine ⟨?_, j.nf a ha⟩
  rcases List.mem_cons.mp ha with e | ha
  · obtain ⟨t, r, k, _, h⟩ := j.fd
    rw [e, h]
    simp
  rcases List.mem_cons.mp ha with e | ha
  · rw [e, j.cl]
    simp
  cases ha
def kQ (i : KW) : Wq Unit where
  rs := i.rs
  J := fun _ F H => KJ i F H
  ne := fun _ F H j => j.ne
  st := by
    rintro s F H F2 H2 j h f n
    obtain ⟨t, r, k, ht, hp⟩ := j.fd
    exact ⟨⟨t, r, k, ht, h _ _ hp (.inl List.mem_cons_self)⟩, h _ _ j.cl (.inl (List.mem_cons_of_mem _ List.mem_cons_self)), f⟩
  cls := fun _ => none
section
variable {P : Program} {w : World} {K : PySem.W.Frag} {mg : Str → Option Value} {base : Heap}
/-- a change of the feed alone -/
theorem KJ.draw {i : KW} {F H H2 : Hp} {t r k : Int} (ex : Ex F H) (j : KJ i F H) (ht : 0 ≤ t) (f : Fs H H2 i.p i.c t r k) : Fm i.rs F H F H2 ∧ KJ i F H2 := by
  obtain ⟨t0, r0, k0, _, hp⟩ := j.fd
  have np : i.c ≠ i.p := fun e => by
    have := j.cl
    rw [e, hp] at this
    cases this
  refine ⟨⟨Ex.refl F, fun a o e => ?_, fun a o c e => ?_, fun a o c e z => z, fun a o e => .inl e⟩, ⟨t, r, k, ht, f.hp⟩, f.ks _ _ np j.cl, j.nf⟩
  · refine f.ks a o (fun z => ?_) (ex a o e)
    rw [z, j.nf _ List.mem_cons_self] at e
    cases e
  · rcases c with c | ⟨c, _⟩
    · cases c
    · exact f.ks a o (fun z => c (by rw [z]; exact List.mem_cons_self)) e
theorem h_law_draw {i : KW} (hlen : i.ns.length ≤ 63) (D : DefAt K mg "_law_draw" s_law_draw ["_law_feed_here", "_law_many"]) (mInt : mg "int" = none) (mLen : mg "len" = none) : FnH Unit false P w K mg base (kQ i) 1 "_law_draw" (spDraw i.p) := by
  obtain ⟨f, fd, F, hm, hb⟩ := D
  refine FnG.fnh (f := f) (fd := fd) (ps := ["_law_feed_here", "_law_many"]) (FunD_okG (k := 0) F sc_law_draw ?_ ?_) hb hm F.kp
  · rintro vs H Q E ⟨ss, s, F1, Qd, Ed, ex, sr, j, ⟨n, rfl, h⟩, kq, kx⟩
    exact srAll_len sr
  · rintro cdv A outer sh H vs Q E hg hr ⟨ss, s, F1, Qd, Ed, ex, sr, j, ⟨n, rfl, h0, h1, hq⟩, kq, kx⟩
    obtain ⟨v, u, rfl, r1, r2⟩ := srAll2 sr
    have e1 : v = .ref i.p := r1
    subst e1
    have e2 : Rp K F1 u (.int n) := r2
    cases e2
    have j2 : KJ i F1 H := j
    obtain ⟨t, r, k, ht, hp⟩ := j2.fd
    refine dw_go hlen mInt mLen hr h0 h1 ht hp j2.cl fun x t2 r2 k2 H2 x0 x1 ht2 fs => ?_
    obtain ⟨fm, j3⟩ := j2.draw ex ht2 fs
    exact kq (.int x) (.d (.int x)) s F1 H2 fm j3 (hq x x0 x1) (.int x)
end
section
variable {S : Type} {P : Program} {w : World} {K : PySem.W.Frag} {mg : Str → Option Value} {base : Heap} {q : Wq S}
structure TopOk (K : PySem.W.Frag) (mg : Str → Option Value) : Prop where
  free : ∀ x, fr0.contains x = true → mg x = none
  glob : ∀ x sl, gl0.lookup x = some sl → ∃ v u, mg x = some u ∧ RelV v u ∧ ∀ F, Sr K F v sl
theorem fn_def {x : Str} {st : Stmt} {N ps : List Str} {k : Nat} {spec : Fsp S} {G : Gam S} (T : TopOk K mg) (D : DefAt K mg x st ps) (SC : FnScope N ps (defScope st)) (hN : G.N = N) (hg : G.glob = gl0) (hf : G.free = fr0) (hr : G.rep = false) (hk : G.kfn = []) (ok : okSc (defScope st) = true)
    (fns : ∀ f sp, G.fns.lookup f = some sp → FnH S false P w K mg base q k f sp) (many : ∀ ss s Qd Ed, spec ss s Qd Ed → ss.length = ps.length)
    (hw : ∀ ss s Q E, spec ss s Q E → wB G 30 30 (defScope st) (startE G.N ss) s (defBody st) (fnO Q) E) : FnH S false P w K mg base q (k + 1) x spec := by
  obtain ⟨f, fd, F, hm, hb⟩ := D
  have g := fn_body (P := P) (w := w) (mg := mg) (base := base) q G 30 30 F SC hN ok (by rw [hf]; exact T.free) (by rw [hg]; exact T.glob) (k := k) (by rw [hr]; exact fns) (by rw [hk]; exact kfs_nil) many (by rw [← hN]; exact hw)
  rw [hr] at g
  exact g.fnh hb hm F.kp
theorem many1 {f : PyData → Bool} : ∀ ss s Qd Ed, sp1 (S := S) f ss s Qd Ed → ss.length = 1 := by
  rintro ss s Qd Ed ⟨d, rfl, _⟩
  rfl
/-- where the defs stand -/
structure AllDefs (K : PySem.W.Frag) (mg : Str → Option Value) : Prop where
  is_integer : DefAt K mg "is_integer" s_is_integer ["thing"]
  is_number : DefAt K mg "is_number" s_is_number ["thing"]
  is_name : DefAt K mg "is_name" s_is_name ["thing"]
  is_word : DefAt K mg "is_word" s_is_word ["thing", "words"]
  is_one_of : DefAt K mg "is_one_of" s_is_one_of ["thing", "numbers"]
  is_step : DefAt K mg "is_step" s_is_step ["thing"]
  is_event : DefAt K mg "is_event" s_is_event ["thing"]
  is_guard : DefAt K mg "is_guard" s_is_guard ["thing"]
  law_draw : DefAt K mg "_law_draw" s_law_draw ["_law_feed_here", "_law_many"]
  law_pick : DefAt K mg "_law_pick" s_law_pick ["_law_feed_here", "_law_things"]
  law_is_number : DefAt K mg "_law_is_number" s_law_is_number ["_law_thing"]
  law_is_name : DefAt K mg "_law_is_name" s_law_is_name ["_law_thing"]
  law_is_step : DefAt K mg "_law_is_step" s_law_is_step ["_law_thing"]
  law_is_event : DefAt K mg "_law_is_event" s_law_is_event ["_law_thing"]
  law_strange : DefAt K mg "_law_strange" s_law_strange ["_law_feed_here"]
  law_bent : DefAt K mg "_law_bent" s_law_bent ["_law_feed_here", "_law_thing"]
  law_right : DefAt K mg "_law_right" s_law_right ["_law_thing"]
variable (T : TopOk K mg) (D : AllDefs K mg)
include T D
theorem h_is_integer : FnH S false P w K mg base q 1 "is_integer" sp_is_integer :=
  fn_def (G := G_is_integer) T D.is_integer sc_is_integer rfl rfl rfl rfl rfl (by decide +kernel) fns_nil many1 ok_is_integer
theorem h_is_number : FnH S false P w K mg base q 2 "is_number" sp_is_number :=
  fn_def (G := G_is_number) T D.is_number sc_is_number rfl rfl rfl rfl rfl (by decide +kernel) (fns_cons (h_is_integer T D) fns_nil) many1 ok_is_number
theorem h_is_name : FnH S false P w K mg base q 1 "is_name" sp_is_name :=
  fn_def (G := G_is_name) T D.is_name sc_is_name rfl rfl rfl rfl rfl (by decide +kernel) fns_nil many1 ok_is_name
theorem h_is_word : FnH S false P w K mg base q 1 "is_word" sp_is_word :=
  fn_def (G := G_is_word) T D.is_word sc_is_word rfl rfl rfl rfl rfl (by decide +kernel) fns_nil (by
    rintro ss s Qd Ed ⟨d, ys, rfl, _⟩
    rfl) ok_is_word
theorem h_is_one_of : FnH S false P w K mg base q 2 "is_one_of" sp_is_one_of :=
  fn_def (G := G_is_one_of) T D.is_one_of sc_is_one_of rfl rfl rfl rfl rfl (by decide +kernel) (fns_cons (h_is_integer T D) fns_nil) (by
    rintro ss s Qd Ed ⟨d, is, rfl, _⟩
    rfl) ok_is_one_of
theorem h_is_step : FnH S false P w K mg base q 3 "is_step" sp_is_step :=
  fn_def (G := G_is_step) T D.is_step sc_is_step rfl rfl rfl rfl rfl (by decide +kernel) (fns_cons (h_is_number T D) (fns_cons (h_is_one_of T D) (fns_cons ((h_is_word T D).mono (by omega)) fns_nil))) many1 ok_is_step
theorem h_is_guard : FnH S false P w K mg base q 2 "is_guard" sp_is_guard :=
  fn_def (G := G_is_guard) T D.is_guard sc_is_guard rfl rfl rfl rfl rfl (by decide +kernel) (fns_cons (h_is_word T D) fns_nil) many1 ok_is_guard
theorem h_is_event : FnH S false P w K mg base q 4 "is_event" sp_is_event :=
  fn_def (G := G_is_event) T D.is_event sc_is_event rfl rfl rfl rfl rfl (by decide +kernel) (fns_cons ((h_is_name T D).mono (by omega)) (fns_cons ((h_is_number T D).mono (by omega)) (fns_cons (h_is_step T D) (fns_cons ((h_is_guard T D).mono (by omega)) fns_nil)))) many1 ok_is_event
theorem h_law_is_number : FnH S false P w K mg base q 1 "_law_is_number" sp_law_is_number :=
  fn_def (G := G_law_is_number) T D.law_is_number sc_law_is_number rfl rfl rfl rfl rfl (by decide +kernel) fns_nil many1 ok_law_is_number
theorem h_law_is_name : FnH S false P w K mg base q 1 "_law_is_name" sp_law_is_name :=
  fn_def (G := G_law_is_name) T D.law_is_name sc_law_is_name rfl rfl rfl rfl rfl (by decide +kernel) fns_nil many1 ok_law_is_name
theorem h_law_is_step : FnH S false P w K mg base q 2 "_law_is_step" sp_law_is_step :=
  fn_def (G := G_law_is_step) T D.law_is_step sc_law_is_step rfl rfl rfl rfl rfl (by decide +kernel) (fns_cons (h_law_is_number T D) fns_nil) many1 ok_law_is_step
theorem h_law_is_event : FnH S false P w K mg base q 3 "_law_is_event" sp_law_is_event :=
  fn_def (G := G_law_is_event) T D.law_is_event sc_law_is_event rfl rfl rfl rfl rfl (by decide +kernel) (fns_cons ((h_law_is_name T D).mono (by omega)) (fns_cons ((h_law_is_number T D).mono (by omega)) (fns_cons (h_law_is_step T D) fns_nil))) many1 ok_law_is_event
theorem h_law_right : FnH S false P w K mg base q 5 "_law_right" sp_law_right :=
  fn_def (G := G_law_right) T D.law_right sc_law_right rfl rfl rfl rfl rfl (by decide +kernel) (fns_cons (h_is_event T D) (fns_cons ((h_law_is_event T D).mono (by omega)) fns_nil)) many1 ok_law_right
variable {p : Addr} (dw : FnH S false P w K mg base q 1 "_law_draw" (spDraw p))
include dw
theorem h_law_pick : FnH S false P w K mg base q 2 "_law_pick" (spPick p) :=
  letI : Fd := ⟨p⟩
  letI : Dpt := ⟨0⟩
  fn_def (G := G_law_pick) T D.law_pick sc_law_pick rfl rfl rfl rfl rfl (by decide +kernel) (fns_cons dw fns_nil) (by
    rintro ss s Qd Ed (⟨xs, rfl, _⟩ | ⟨z, rfl, _⟩) <;> rfl) ok_law_pick
theorem h_law_strange : FnH S false P w K mg base q 3 "_law_strange" (spStrange p) :=
  letI : Fd := ⟨p⟩
  letI : Dpt := ⟨0⟩
  fn_def (G := G_law_strange) T D.law_strange sc_law_strange rfl rfl rfl rfl rfl (by decide +kernel) (fns_cons (h_law_pick T D dw) fns_nil) (by
    rintro ss s Qd Ed ⟨rfl, _⟩
    rfl) ok_law_strange
/-- bent, by the depth of what is bent -/
theorem h_law_bent : ∀ m : Nat, m ≤ 40 → FnH S false P w K mg base q (4 + m) "_law_bent" (spBentU p m) := by
  have many : ∀ (m : Nat) ss s Qd Ed, spBentU (S := S) p m ss s Qd Ed → ss.length = 2 := by
    intro m ss s Qd Ed h
    cases m with
    | zero => exact h.elim
    | succ m =>
      obtain ⟨L, m2, _, _, _, d, rfl, _⟩ := h
      rfl
  intro m
  letI : Fd := ⟨p⟩
  induction m with
  | zero =>
    intro _
    letI : Dpt := ⟨0⟩
    exact (fn_def (k := 0) (G := ⟨["_law_feed_here", "_law_thing", "_law_k", "_law_way", "_law_strange_here"], gl0, [], fr0, [], false, false⟩) T D.law_bent sc_law_bent rfl rfl rfl rfl rfl (by decide +kernel) fns_nil (fun _ _ _ _ h => h.elim) fun _ _ _ _ h => h.elim).mono (by omega)
  | succ m ih =>
    intro hm
    letI : Dpt := ⟨m⟩
    exact fn_def (k := 4 + m) (G := G_law_bent) T D.law_bent sc_law_bent rfl rfl rfl rfl rfl (by decide +kernel) (fns_cons (dw.mono (by omega)) (fns_cons (ih (by omega)) (fns_cons ((h_law_strange T D dw).mono (by omega)) (fns_cons ((h_law_pick T D dw).mono (by omega)) fns_nil)))) (many (m + 1)) (ok_law_bent (by show m ≤ 50; omega))
end
end Z
set_option Elab.async false
set_option linter.all false
set_option maxRecDepth 100000
set_option maxHeartbeats 1000000
namespace Z
open PySem PySem.Spec PyProof.Rows L2 Evl
theorem pss_ex {X : Cx} {sts : List Stmt} {I : Type} {t : I → TS} (h : ∀ i, PSs X sts (t i)) : PSs X sts (fun D σ H => ∃ i, t i D σ H) := ⟨fun pins s σ H D J ⟨i, q⟩ => (h i).run pins s σ H D J q⟩
def spLaw (K : PySem.W.Frag) : Sp := fun vs H Q _ => ∃ (a : Addr) (ns : List Int), vs = [.ref a] ∧ SqL K H a (ns.map V.int) ∧ ns.length ≤ 63 ∧ ∀ H', Q (.bl true) H'
/-- a moment at which a feed lies there -/
structure Mo where
  i : KW
  len : i.ns.length ≤ 63
  F : Hp
  H : Hp
abbrev N_law : List Str := ["_law_script", "_law_feed_here", "_law_things", "_law_words", "_law_lap", "_law_name", "_law_number", "_law_word", "_law_event", "_law_late", "_law_thing", "_law_k"]
theorem sc_lawN : FnScope N_law ["_law_script"] (defScope (top 24)) :=
  letI : Fd := ⟨0⟩
  letI : Dpt := ⟨0⟩
  sc_law
section
variable {P : Program} {w : World} {K : PySem.W.Frag} {mg : Str → Option Value} {base : Heap}
theorem ok_law {f fF : Addr} {fd fdF : FuncData} (F : FunD K "law" "law" (defArgs (top 24)) (defBody (top 24)) (defScope (top 24)) [] [] f fd)
    (FF : FunD K "_law_feed" "_law_feed" (defArgs s_law_feed) (defBody s_law_feed) (defScope s_law_feed) [] [] fF fdF) (mF : mg "_law_feed" = some (.ref fF)) (bF : Binds K fdF ["_law_script"] [])
    (T : TopOk K mg) (D : AllDefs K mg) : FnG false P w K mg base (L2.CX P w) 41 f fd ["_law_script"] (spLaw K) := by
  have mInt : mg "int" = none := T.free "int" (by decide +kernel)
  have mLen : mg "len" = none := T.free "len" (by decide +kernel)
  have gF : FnC false P w K mg base (L2.CX P w) 1 fF fun vs H Q E => spFeed K (vs ++ []) H Q E := (ok_feed (P := P) (w := w) (base := base) mInt FF).call bF .nil
  refine FunD_okG (k := 40) F sc_lawN ?_ ?_
  · rintro vs H Q E ⟨a, ns, rfl, _⟩
    rfl
  · rintro cdv A outer sh H vs Q E hg hr ⟨a, ns, rfl, hs, hl, hQ⟩
    letI : Dpt := ⟨8⟩
    have C : ∀ i : Mo, CxOk (cxOf (L2.CX P w) P w K mg base N_law "law" (defScope (top 24)) f cdv A outer sh H E) ((kQ i.i).wd i.F i.H E) (@G_law Unit ⟨i.i.p⟩ _) (defScope (top 24)) := by
      intro i
      letI : Fd := ⟨i.i.p⟩
      have dw : FnH Unit false P w K mg base (kQ i.i) 1 "_law_draw" (spDraw i.i.p) := h_law_draw i.len D.law_draw mInt mLen
      refine ctx_def (P := P) (w := w) (K := K) (mg := mg) (base := base) (k := 40) (qual := "law") (f := f) (cdv := cdv) (A := A) (outer := outer) (sh := sh) (H := H) (E := E) (kQ i.i) G_law sc_lawN rfl (by decide +kernel) T.free T.glob ?_ kfs_nil i.F i.H hg hr
      exact fns_cons ((h_law_strange T D dw).mono (by omega)) (fns_cons (dw.mono (by omega)) (fns_cons ((h_law_pick T D dw).mono (by omega)) (fns_cons ((h_law_bent T D dw 8 (by omega)).mono (by omega)) (fns_cons ((h_law_right T D).mono (by omega)) fns_nil))))
    refine ⟨_, pss_cons (ps_set (i := 1) sc_lawN.nd rfl (.inr rfl) (pe_fg gF hg (hr.mono (by omega)) (by rfl) mF FF.kp passes_def (pa_cons (pv 0) pa_nil) (by decide +kernel) rfl rfl)) (pss_ex fun i => soundB (m := 30) (C i) 29 ((defBody (top 24)).drop 1)), ?_⟩
    refine ⟨_, rfl, a, ns, rfl, hs, hl, fun p c H2 e hp hc _ _ => ?_⟩
    letI : Fd := ⟨p⟩
    refine ⟨⟨⟨p, c, ns⟩, hl, fun _ => none, H2⟩, [none, some (.v (.ref p)), none, none, none, none, none, none, none, none, none, none], (), fnO fun sl _ => sl = .d (.bool true), fun _ _ => False, fun _ => none, ?_, ?_, ?_⟩
    · exact law_all (S := Unit) rfl rfl
    · have j : KJ ⟨p, c, ns⟩ (fun _ => none) H2 := ⟨⟨0, 0, 0, Int.le_refl 0, hp⟩, hc, fun _ _ => rfl⟩
      refine ⟨Fm.refl (fun _ _ z => by cases z), ⟨_, .no (.v (.no (.no (.no (.no (.no (.no (.no (.no (.no (.no .nil)))))))))))⟩, j, ?_⟩
      intro xr s2 F3 H3 dx C3 vs m j q
      exact q.elim
    · intro o s2 ho
      cases o with
      | rt v =>
        intro v2 F3 H3 fm j r
        have e2 : v = .d (.bool true) := ho
        subst e2
        have r2 : Rp K F3 v2 (.bool true) := r
        cases r2
        exact hQ H3
      | nx ε =>
        have e2 : Sl.d .none = .d (.bool true) := ho
        cases e2
      | bk ε => exact ho.elim
      | ct ε => exact ho.elim
end
end Z
set_option Elab.async false
set_option linter.all false
set_option maxRecDepth 100000
set_option maxHeartbeats 0
namespace Z
open PySem PySem.Spec PyProof.Rows L2 Evl
def dd (x : Str) (i : Nat) : He.DefD := ⟨(x, none), x, x, defArgs (top i), defBody (top i), defScope (top i), [], []⟩
def hfn0 : List He.DefD := [dd "is_integer" 4, dd "is_number" 5, dd "is_name" 6, dd "is_word" 7, dd "is_one_of" 8, dd "is_step" 9, dd "is_event" 11, dd "is_guard" 12, dd "_law_feed" 14, dd "_law_draw" 15, dd "_law_pick" 16, dd "_law_is_number" 17]
def hfn1 : List He.DefD := [dd "_law_is_name" 18, dd "_law_is_step" 19, dd "_law_is_event" 20, dd "_law_strange" 21, dd "_law_bent" 22, dd "_law_right" 23, dd "law" 24]
def hfn : List He.DefD := hfn0 ++ hfn1
def hfa0 : List He.Fa := [.glo "is_integer", .glo "is_number", .glo "is_name", .glo "is_word", .glo "is_one_of", .glo "is_step", .glo "is_event", .glo "is_guard", .glo "_law_feed", .glo "_law_draw", .glo "_law_pick", .glo "_law_is_number"]
def hfa1 : List He.Fa := [.glo "_law_is_name", .glo "_law_is_step", .glo "_law_is_event", .glo "_law_strange", .glo "_law_bent", .glo "_law_right", .glo "law", .str "LETTERS" "abcdefghijklmnopqrstuvwxyz", .glo "STEP_WORDS", .glo "NUMBERED_WORDS", .free "isinstance", .free "len"]
def hfa2 : List He.Fa := [.free "all", .free "int", .free "bool", .free "str", .free "tuple", .free "list", .free "range", .free "sorted", .free "set"]
def hfa : List He.Fa := hfa0 ++ hfa1 ++ hfa2
def hlo0 : List Str := ["LETTERS", "STEP_WORDS", "NUMBERED_WORDS", "is_integer", "is_number", "is_name", "is_word", "is_one_of", "is_step", "is_event", "is_guard", "_law_feed"]
def hlo1 : List Str := ["_law_draw", "_law_pick", "_law_is_number", "_law_is_name", "_law_is_step", "_law_is_event", "_law_strange", "_law_bent", "_law_right"]
def hlo : List Str := hlo0 ++ hlo1
def dvSTEP_WORDS : List He.Dv := [.str "go", .str "fork", .str "take", .str "none", .str "later", .str "kill", .str "release", .str "exit"]
def dvNUMBERED_WORDS : List He.Dv := [.str "go", .str "take"]
def hex (K : PySem.W.Frag) : Bool := He.tupB K "STEP_WORDS" dvSTEP_WORDS && He.tupB K "NUMBERED_WORDS" dvNUMBERED_WORDS
abbrev hR : PySem.W.OpenRow := PySem.W.OpenLaw.row PySem.Challenge.rw_forkyields_k66_events
abbrev hk : PySem.W.Hook := He.hookX 4 hfa hfn [] [] hex
def hob (s : PySem.W.SharedT) : He.AlX := He.obsX 4 hfa hfn [] [] hex (HandSHeadRun.getT s)
theorem hob_eq (s : PySem.W.SharedT) : hob s = hk.obs s.abs := He.obsX_eq (HandSHeadRun.getT_eq s)
theorem hrun (w : World) : HandSHeadRun.RunEq hR (PySem.W.view hR.prog [24]) hk hob 4000 hlo w := by
  intro os
  kernel_rfl
end Z
set_option Elab.async false
set_option linter.all false
set_option maxRecDepth 100000
set_option maxHeartbeats 4000000
namespace Z
open PySem PySem.Spec PyProof.Rows L2 Evl
section
variable {K : PySem.W.Frag} {mg : Str → Option Value} {h : Heap} (X : K.In h) (G : h.Ns mainGlobals mg) (c : He.SaysD hfa hfn K)
include X G c
theorem at1 {x y0 : Str} {n i j : Nat} (hd : hfn[i]? = some (dd x n)) (hf : hfa[j]? = some (.glo x))
    (hb : ∀ (kV doc pm : Value) (an : Option Addr) (cdv ct u0 : Value), bindArgs (PySem.W.fnOf x x (defArgs (top n)) (defBody (top n)) (defScope (top n)) .none kV doc pm an cdv ct) ⟨[u0], []⟩ = pure [(y0, u0)]) : DefAt K mg x (top n) [y0] := by
  obtain ⟨fd, F⟩ := c.def_ i hd
  refine ⟨_, fd, F, He.glo_ok X G (c.fact j hf), F.bindsN fun a1 a2 a3 a4 a5 a6 us hl => ?_⟩
  match us, hl with
  | [u0], _ => exact hb a1 a2 a3 a4 a5 a6 u0
theorem at2 {x y0 y1 : Str} {n i j : Nat} (hd : hfn[i]? = some (dd x n)) (hf : hfa[j]? = some (.glo x))
    (hb : ∀ (kV doc pm : Value) (an : Option Addr) (cdv ct u0 u1 : Value), bindArgs (PySem.W.fnOf x x (defArgs (top n)) (defBody (top n)) (defScope (top n)) .none kV doc pm an cdv ct) ⟨[u0, u1], []⟩ = pure [(y0, u0), (y1, u1)]) : DefAt K mg x (top n) [y0, y1] := by
  obtain ⟨fd, F⟩ := c.def_ i hd
  refine ⟨_, fd, F, He.glo_ok X G (c.fact j hf), F.bindsN fun a1 a2 a3 a4 a5 a6 us hl => ?_⟩
  match us, hl with
  | [u0, u1], _ => exact hb a1 a2 a3 a4 a5 a6 u0 u1
theorem a_is_integer : DefAt K mg "is_integer" (top 4) ["thing"] := at1 X G c (i := 0) (j := 0) rfl rfl fun _ _ _ _ _ _ _ => rfl
theorem a_is_number : DefAt K mg "is_number" (top 5) ["thing"] := at1 X G c (i := 1) (j := 1) rfl rfl fun _ _ _ _ _ _ _ => rfl
theorem a_is_name : DefAt K mg "is_name" (top 6) ["thing"] := at1 X G c (i := 2) (j := 2) rfl rfl fun _ _ _ _ _ _ _ => rfl
theorem a_is_word : DefAt K mg "is_word" (top 7) ["thing", "words"] := at2 X G c (i := 3) (j := 3) rfl rfl fun _ _ _ _ _ _ _ _ => rfl
theorem a_is_one_of : DefAt K mg "is_one_of" (top 8) ["thing", "numbers"] := at2 X G c (i := 4) (j := 4) rfl rfl fun _ _ _ _ _ _ _ _ => rfl
theorem a_is_step : DefAt K mg "is_step" (top 9) ["thing"] := at1 X G c (i := 5) (j := 5) rfl rfl fun _ _ _ _ _ _ _ => rfl
theorem a_is_event : DefAt K mg "is_event" (top 11) ["thing"] := at1 X G c (i := 6) (j := 6) rfl rfl fun _ _ _ _ _ _ _ => rfl
theorem a_is_guard : DefAt K mg "is_guard" (top 12) ["thing"] := at1 X G c (i := 7) (j := 7) rfl rfl fun _ _ _ _ _ _ _ => rfl
theorem a_law_feed : DefAt K mg "_law_feed" (top 14) ["_law_script"] := at1 X G c (i := 8) (j := 8) rfl rfl fun _ _ _ _ _ _ _ => rfl
theorem a_law_draw : DefAt K mg "_law_draw" (top 15) ["_law_feed_here", "_law_many"] := at2 X G c (i := 9) (j := 9) rfl rfl fun _ _ _ _ _ _ _ _ => rfl
theorem a_law_pick : DefAt K mg "_law_pick" (top 16) ["_law_feed_here", "_law_things"] := at2 X G c (i := 10) (j := 10) rfl rfl fun _ _ _ _ _ _ _ _ => rfl
theorem a_law_is_number : DefAt K mg "_law_is_number" (top 17) ["_law_thing"] := at1 X G c (i := 11) (j := 11) rfl rfl fun _ _ _ _ _ _ _ => rfl
theorem a_law_is_name : DefAt K mg "_law_is_name" (top 18) ["_law_thing"] := at1 X G c (i := 12) (j := 12) rfl rfl fun _ _ _ _ _ _ _ => rfl
theorem a_law_is_step : DefAt K mg "_law_is_step" (top 19) ["_law_thing"] := at1 X G c (i := 13) (j := 13) rfl rfl fun _ _ _ _ _ _ _ => rfl
theorem a_law_is_event : DefAt K mg "_law_is_event" (top 20) ["_law_thing"] := at1 X G c (i := 14) (j := 14) rfl rfl fun _ _ _ _ _ _ _ => rfl
theorem a_law_strange : DefAt K mg "_law_strange" (top 21) ["_law_feed_here"] := at1 X G c (i := 15) (j := 15) rfl rfl fun _ _ _ _ _ _ _ => rfl
theorem a_law_bent : DefAt K mg "_law_bent" (top 22) ["_law_feed_here", "_law_thing"] := at2 X G c (i := 16) (j := 16) rfl rfl fun _ _ _ _ _ _ _ _ => rfl
theorem a_law_right : DefAt K mg "_law_right" (top 23) ["_law_thing"] := at1 X G c (i := 17) (j := 17) rfl rfl fun _ _ _ _ _ _ _ => rfl
theorem a_law : DefAt K mg "law" (top 24) ["_law_script"] := at1 X G c (i := 18) (j := 18) rfl rfl fun _ _ _ _ _ _ _ => rfl
theorem all_defs : AllDefs K mg := {is_integer := a_is_integer X G c, is_number := a_is_number X G c, is_name := a_is_name X G c, is_word := a_is_word X G c, is_one_of := a_is_one_of X G c, is_step := a_is_step X G c, is_event := a_is_event X G c, is_guard := a_is_guard X G c, law_draw := a_law_draw X G c, law_pick := a_law_pick X G c, law_is_number := a_law_is_number X G c, law_is_name := a_law_is_name X G c, law_is_step := a_law_is_step X G c, law_is_event := a_law_is_event X G c, law_strange := a_law_strange X G c, law_bent := a_law_bent X G c, law_right := a_law_right X G c}
theorem top_free : ∀ x, fr0.contains x = true → mg x = none := by
  intro x hx
  have hm : x ∈ fr0 := List.contains_iff_mem.mp hx
  simp only [fr0, List.mem_cons, List.not_mem_nil, or_false] at hm
  rcases hm with rfl | rfl | rfl | rfl | rfl | rfl | rfl | rfl | rfl | rfl | rfl
  · exact He.free_ok X G (c.fact 22 (f := .free "isinstance") rfl)
  · exact He.free_ok X G (c.fact 23 (f := .free "len") rfl)
  · exact He.free_ok X G (c.fact 24 (f := .free "all") rfl)
  · exact He.free_ok X G (c.fact 25 (f := .free "int") rfl)
  · exact He.free_ok X G (c.fact 26 (f := .free "bool") rfl)
  · exact He.free_ok X G (c.fact 27 (f := .free "str") rfl)
  · exact He.free_ok X G (c.fact 28 (f := .free "tuple") rfl)
  · exact He.free_ok X G (c.fact 29 (f := .free "list") rfl)
  · exact He.free_ok X G (c.fact 30 (f := .free "range") rfl)
  · exact He.free_ok X G (c.fact 31 (f := .free "sorted") rfl)
  · exact He.free_ok X G (c.fact 32 (f := .free "set") rfl)
end
theorem rp_tupStrs {K : PySem.W.Frag} {F : Hp} {a : Addr} {zs : List Str} (h : SqT K F a (zs.map V.str)) : Rp K F (.ref a) (.tuple (zs.map PyData.str)) := by
  refine .tup h ?_
  clear h
  induction zs with
  | nil => exact .nil
  | cons z zs ih => exact .cons (.str z) ih
theorem top_ok {K : PySem.W.Frag} {mg : Str → Option Value} {h : Heap} (X : K.In h) (G : h.Ns mainGlobals mg) (c : He.SaysD hfa hfn K) (m : hex K = true) : TopOk K mg := by
  refine ⟨top_free X G c, ?_⟩
  obtain ⟨m0, m1⟩ := He.ba (show (He.tupB K "STEP_WORDS" dvSTEP_WORDS && He.tupB K "NUMBERED_WORDS" dvNUMBERED_WORDS) = true from m)
  intro x sl hl
  by_cases h1 : x = "LETTERS"
  · subst h1
    cases hl
    obtain ⟨t, e⟩ := He.str_ok X G (c.fact 19 (f := .str "LETTERS" "abcdefghijklmnopqrstuvwxyz") rfl)
    exact ⟨.str gLETTERS, _, e, ⟨t, rfl⟩, fun F => .str _⟩
  by_cases h2 : x = "STEP_WORDS"
  · subst h2
    cases hl
    exact ⟨.ref _, _, He.glo_ok X G (c.fact 20 (f := .glo "STEP_WORDS") rfl), rfl, fun F => rp_tupStrs (zs := ["go", "fork", "take", "none", "later", "kill", "release", "exit"]) (He.tupB_ok m0 F)⟩
  by_cases h3 : x = "NUMBERED_WORDS"
  · subst h3
    cases hl
    exact ⟨.ref _, _, He.glo_ok X G (c.fact 21 (f := .glo "NUMBERED_WORDS") rfl), rfl, fun F => rp_tupStrs (zs := ["go", "take"]) (He.tupB_ok m1 F)⟩
  exfalso
  have e : gl0.lookup x = none := by
    unfold gl0
    rw [List.lookup_cons, beq_eq_false_iff_ne.mpr h1, List.lookup_cons, beq_eq_false_iff_ne.mpr h2, List.lookup_cons, beq_eq_false_iff_ne.mpr h3]
    rfl
  rw [e] at hl
  cases hl
end Z
set_option Elab.async false
set_option linter.all false
set_option maxRecDepth 100000
set_option maxHeartbeats 4000000
namespace Z
open PySem PySem.Spec PyProof.Rows L2 Evl
/-! ### the end: a law's def called by the caller, its promise an FnG -/
section
variable {P : Program} {w : World} {K : PySem.W.Frag} {mg mb : Str → Option Value} {a fa : Addr} {sh : Shared} {us : List Value} {ns : List Int} {H : Hp}
/-- an object other than the script stands in the part that stays -/
theorem stays (only : ∀ b o, H b = some o → b = a) {b : Addr} {o : Obj} (e : sh.heap.get? b = some o) (n : b = a → H a = none) : (hidT sh.heap H).get? b = some o := by
  refine hidT_get e ?_
  cases q : H b with
  | none => rfl
  | some u =>
    have z := only b u q
    rw [z, n z] at q
    cases q
theorem stays_ns (only : ∀ b o, H b = some o → b = a) (ha : sh.heap.get? a = some { cls := .type "list", data := .seq us.toArray }) {b : Addr} {m : Str → Option Value} (h : sh.heap.Ns b m) : (hidT sh.heap H).Ns b m := by
  obtain ⟨o, es, ep, e, d, r⟩ := h
  refine ⟨o, es, ep, stays only e fun z => ?_, d, r⟩
  rw [z, ha] at e
  cases e
  cases (show Data.seq us.toArray _ = Data.dict es ep from d)
theorem call_at (only : ∀ b o, H b = some o → b = a ∧ ∃ ob xs, o = .frz ob (.lst xs)) (hok : HOk P w H sh.heap) (un : H a ≠ none → K.lookup a = none) {k : Nat} {fd : FuncData} {x : Str} {sp : Sp}
    (KX : K.In sh.heap) (hg : sh.heap.Ns mainGlobals mg) (hb : sh.heap.Ns builtinsNs mb) (hbb : ∀ x : Str, x ≠ "__name__" → mb x = bootBuiltins x) (hl : sh.heap.NoLimit) (hge : sh.gens = #[])
    (ha : sh.heap.get? a = some { cls := .type "list", data := .seq us.toArray }) (hr : Room k callerA) (G : ∀ base : Heap, FnG false P w K mg base (L2.CX P w) k fa fd [x] sp)
    (hbi : ∀ (s : Shared) (u : Value), BindsTo s fd ⟨[u], []⟩ [(x, u)]) (hs : sp [.ref a] H (fun v _ => v = .bl true) E0) :
    codeAny (model P w) callerA (.call (.ref fa) ⟨[.ref a], []⟩) (fun r s2 => r = .ok (.ret (.bool true)) ∧ OldK sh.heap s2.heap ∧ s2.os = sh.os ∧ AllBare s2.gens) sh := by
  have o1 : ∀ b o, H b = some o → b = a := fun b o e => (only b o e).1
  have kin : K.In (hidT sh.heap H) := fun b o e => stays o1 (KX b o e) fun z => by
    cases q : H a with
    | none => rfl
    | some u =>
      have n := un (by rw [q]; simp)
      rw [← z, e] at n
      cases n
  have md : Mod K mg (hidT sh.heap H) := ⟨kin, stays_ns o1 ha hg, ⟨mb, stays_ns o1 ha hb, hbb⟩, by
    obtain ⟨mc, z1, z2⟩ := hl
    exact ⟨mc, stays_ns o1 ha z1, z2⟩⟩
  have nof : ∀ b ∈ frs [], H b = none := fun b q => (List.not_mem_nil (show b ∈ ([] : List Addr) from q)).elim
  have env : Env0 P w K mg (hidT sh.heap H) callerA [] sh H := ⟨rfl, md, fun b o => of_hidT, Nat.le_of_eq (hidT_size _ _), trivial, nof, hok, .of_eq hge⟩
  have run := (G (hidT sh.heap H)).go callerA [] sh H ⟨[.ref a], []⟩ [.ref a] [.ref a] (fun v _ => v = .bl true) E0 (fun z => by cases z) hr env (hbi sh (.ref a)) (.cons rfl .nil) hs
  refine codeAny_mono run fun r s2 z => ?_
  match r, z with
  | .error _, ⟨_, _, _, _, _, _, _, _, _, _, _, _, z⟩ => exact z.elim
  | .ok .next, z => exact z.elim
  | .ok .brk, z => exact z.elim
  | .ok .cont, z => exact z.elim
  | .ok (.ret u), ⟨v, H2, eos, eb, eu, ok2, rv, ev⟩ =>
    subst ev
    have eu2 : u = Value.bool true := rv
    subst eu2
    refine ⟨rfl, OldK.of_keep fun b o e => ?_, eos, eb⟩
    cases q : H b with
    | none => exact eu.keep b o e q (fun z => List.not_mem_nil (show b ∈ ([] : List Addr) from z)) List.not_mem_nil
    | some t =>
      obtain ⟨_, ob, xs, rfl⟩ := only b t q
      have p1 := (hok b _ q).1
      have p2 := (ok2 b _ (eu.frzs b ob _ q)).1
      rw [e] at p1
      rw [p2, p1]
theorem call_g {k : Nat} {fd : FuncData} {x : Str} {sp : Sp}
    (KX : K.In sh.heap) (hg : sh.heap.Ns mainGlobals mg) (hb : sh.heap.Ns builtinsNs mb) (hbb : ∀ x : Str, x ≠ "__name__" → mb x = bootBuiltins x) (hl : sh.heap.NoLimit) (hge : sh.gens = #[])
    (ha : sh.heap.get? a = some { cls := .type "list", data := .seq us.toArray }) (hi : IntsAre us ns) (hn : ns.length ≤ sizeLine) (hr : Room k callerA) (G : ∀ base : Heap, FnG false P w K mg base (L2.CX P w) k fa fd [x] sp)
    (hbi : ∀ (s : Shared) (u : Value), BindsTo s fd ⟨[u], []⟩ [(x, u)]) (hs : ∀ H : Hp, SqL K H a (ns.map V.int) → sp [.ref a] H (fun v _ => v = .bl true) E0) :
    codeAny (model P w) callerA (.call (.ref fa) ⟨[.ref a], []⟩) (fun r s2 => r = .ok (.ret (.bool true)) ∧ OldK sh.heap s2.heap ∧ s2.os = sh.os ∧ AllBare s2.gens) sh := by
  have rv := vals_ints hi
  have lv : us.length = ns.length := hi.length.symm ▸ rfl
  cases q : K.lookup a with
  | none =>
    let H : Hp := fun b => if b = a then some (.frz { cls := .type "list", data := .seq us.toArray } (.lst (ns.map V.int))) else none
    have Ha : H a = some (.frz { cls := .type "list", data := .seq us.toArray } (.lst (ns.map V.int))) := if_pos rfl
    have only : ∀ b o, H b = some o → b = a ∧ o = .frz { cls := .type "list", data := .seq us.toArray } (.lst (ns.map V.int)) := fun b o e => by
      by_cases hba : b = a
      · rw [hba, Ha] at e
        exact ⟨hba, (Option.some.inj e).symm⟩
      · have n : H b = none := if_neg hba
        rw [n] at e
        cases e
    refine call_at (H := H) (fun b o e => ⟨(only b o e).1, _, _, (only b o e).2⟩) (fun b o e => ?_) (fun _ => q) KX hg hb hbb hl hge ha hr G hbi (hs H (.inl (.inr ⟨_, Ha⟩)))
    obtain ⟨e1, e2⟩ := only b o e
    subst e1 e2
    exact ⟨ha, by rw [List.length_map]; exact hn, us, _, rv, ha⟩
  | some o =>
    have e := (KX a o q).symm.trans ha
    cases e
    refine call_at (H := fun _ => none) (fun b o e => by cases e) (fun b o e => by cases e) (fun z => (z rfl).elim) KX hg hb hbb hl hge ha hr G hbi (hs _ (.inr ⟨_, us.toArray, _, q, rfl, rfl, rfl, ?_, by simpa using rv⟩))
    rw [List.size_toArray, lv]
    exact hn
end
end Z
set_option Elab.async false
set_option linter.all false
set_option maxRecDepth 100000
set_option maxHeartbeats 4000000
namespace Z
open PySem PySem.Spec PyProof.Rows L2 Evl
theorem row_end {w : World} {mg : Str → Option Value} {fa : Addr} {h : Heap} {K : PySem.W.Frag} (X : K.In h) (G : h.Ns mainGlobals mg) (hlaw : mg ("law" : Str) = some (.ref fa)) (c : He.SaysX hfa hfn [] [] hex w h K) :
    ∃ fd : FuncData, (∀ (s : Shared) (u : Value), BindsTo s fd ⟨[u], []⟩ [("_law_script", u)]) ∧ ∀ base : Heap, FnG false (PySem.Challenge.rw_forkyields_k66_events).prog w K mg base (L2.CX (PySem.Challenge.rw_forkyields_k66_events).prog w) 41 fa fd ["_law_script"] (spLaw K) := by
  have c1 : He.SaysD hfa hfn K := c.t.d
  obtain ⟨fd, F⟩ := c1.def_ 18 (d := dd "law" 24) rfl
  obtain ⟨fF, fdF, FF, mF, bF⟩ := a_law_feed X G c1
  have e := hlaw.symm.trans (He.glo_ok X G (c1.fact 18 (f := .glo "law") rfl))
  cases e
  have b := FunD.bindsA (ps := ["_law_script"]) F fun _ _ _ _ _ _ us hl => match us, hl with | [_], _ => rfl
  exact ⟨fd, fun s u => b s [u] rfl, fun base => ok_law F FF mF bF (top_ok X G c1 c.more) (all_defs X G c1)⟩
end Z
open PySem PySem.W PySem.Calls PyProof.Rows
theorem PySem.Challenge.cw_forkyields_k66_events_holds : PySem.Challenge.rw_forkyields_k66_events.Holds := by
  w_on; o_law
  refine HandSHeadRun.head_any (r := OpenLaw.row PySem.Challenge.rw_forkyields_k66_events) (q := view (OpenLaw.row PySem.Challenge.rw_forkyields_k66_events).prog [24]) (H := Z.hk) (ob := Z.hob) (M := 4000) (loose := Z.hlo) (d := HandSHeadRun.topDef (OpenLaw.row PySem.Challenge.rw_forkyields_k66_events).prog 24) (kwd := []) Z.hob_eq
    (by kernel_rfl) (fun s => by kernel_rfl) Z.hrun (by kernel_rfl) (by kernel_rfl) (by kernel_rfl) (by rfl) (by first | assumption | decide +kernel) (by decide +kernel) ⟨rfl, rfl, rfl, rfl, rfl, by decide +kernel⟩ ?hw ?hc
  case hw => w_witness2
  case hc =>
    refine Att.attach_call (n := 63) rfl (by kernel_rfl) fun w s0 sh mg mb fa o pm cd doc a us ns Gr Y _ _ _ hmg0 ha hi hlen hge => ?_
    obtain ⟨K, KX, c⟩ := Y
    have hmg : mg ("law" : PySem.Str) = some (.ref fa) := by
      have e : (HandSHeadRun.topDef (OpenLaw.row PySem.Challenge.rw_forkyields_k66_events).prog 24).name = ("law" : PySem.Str) := by kernel_rfl
      rw [← e]
      exact hmg0
    obtain ⟨fd, hb, hF⟩ := Z.row_end (w := w) KX Gr.T.g hmg c
    exact Z.call_g KX Gr.T.g Gr.T.b Gr.T.builtins Gr.T.nolimit hge ha hi (Nat.le_trans hlen (by decide)) ⟨rfl, by decide, by decide⟩ hF hb fun H hS => ⟨a, ns, rfl, hS, hlen, fun _ => rfl⟩
