import PyProof.Rows.All
import Wide.All
import OpenK.AllK
import Wide.FinOn
import HandS.ForMost
import HandS.Flow
import HandS.IsInst
import HandS.Zip
import HandS.Wide
import HandS.TupAny
import HandS.TupLe
import HandS.Sort
import HandS.SortInts
import HandS.Evl
import HandS.Defaults
import HandS.Exc
import HandS.WordsExc
import HandS.Head0
import HandS.Head1
import HandS.Head2
import HandS.HeadEnd
import HandS.HeadHook1
import HandS.HeadHook2
import HandS.HeadHook4
import HandS.Dict
import HandS.Star
import HandS.Set
import HandS.Strs
import HandS.SetFor
import PyProof.Rows.SortShellAny
import HandS.Style
import HandS.ExcInit
import HandS.ExcField
import HandS.Lambda
import HandS.ExcIs
import KE.KExcIs
import HandS.EndTab
import PySem.Challenge.RW_forkyields_k42_probes_told
set_option Elab.async false
set_option linter.all false
set_option maxRecDepth 100000
set_option maxHeartbeats 4000000
namespace Z
open PySem PySem.Spec PyProof.Rows L2 Evl

mutual
/-- data, its lists tracked -/
inductive Rp (K : PySem.W.Frag) (H : Hp) : V → PyData → Prop
  | non : Rp K H .non .none
  | bl (b : Bool) : Rp K H (.bl b) (.bool b)
  | int (i : Int) : Rp K H (.int i) (.int i)
  | str (x : Str) : Rp K H (.str x) (.str x)
  | lst {a : Addr} {xs : List V} {ds : List PyData} : H a = some (.lst xs) → RpAll K H xs ds → Rp K H (.ref a) (.list ds)
  | tup {a : Addr} {xs : List V} {ds : List PyData} : SqT K H a xs → RpAll K H xs ds → Rp K H (.ref a) (.tuple ds)
inductive RpAll (K : PySem.W.Frag) (H : Hp) : List V → List PyData → Prop
  | nil : RpAll K H [] []
  | cons {v : V} {vs : List V} {d : PyData} {ds : List PyData} : Rp K H v d → RpAll K H vs ds → RpAll K H (v :: vs) (d :: ds)
end
mutual
theorem Rp.dp {K : PySem.W.Frag} {F : Hp} : ∀ (d : PyData) (v : V), Rp K F v d → Dp K F v d
  | .none, _, h => by cases h; exact .non
  | .bool b, _, h => by cases h; exact .bl b
  | .int i, _, h => by cases h; exact .int i
  | .str x, _, h => by cases h; exact .str x
  | .list ds, _, h => by
    cases h with
    | lst hs ha => exact .lst (.inl (.inl hs)) (RpAll.dp ds _ ha)
  | .tuple ds, _, h => by
    cases h with
    | tup hs ha => exact .tup hs (RpAll.dp ds _ ha)
  | .dict _, _, h => by cases h
theorem RpAll.dp {K : PySem.W.Frag} {F : Hp} : ∀ (ds : List PyData) (vs : List V), RpAll K F vs ds → DpAll K F vs ds
  | [], _, h => by cases h; exact .nil
  | d :: ds, _, h => by
    cases h with
    | cons h1 h2 => exact .cons (Rp.dp d _ h1) (RpAll.dp ds _ h2)
end
mutual
theorem dp_ex {K : PySem.W.Frag} {F F' : Hp} (e : Ex F F') : ∀ (d : PyData) (v : V), Rp K F v d → Rp K F' v d
  | .none, _, h => by cases h; exact .non
  | .bool b, _, h => by cases h; exact .bl b
  | .int i, _, h => by cases h; exact .int i
  | .str x, _, h => by cases h; exact .str x
  | .list ds, _, h => by
    cases h with
    | lst hs ha => exact .lst (e _ _ hs) (dpAll_ex e ds _ ha)
  | .tuple ds, _, h => by
    cases h with
    | tup hs ha => exact .tup (ex_t e hs) (dpAll_ex e ds _ ha)
  | .dict _, _, h => by cases h
theorem dpAll_ex {K : PySem.W.Frag} {F F' : Hp} (e : Ex F F') : ∀ (ds : List PyData) (vs : List V), RpAll K F vs ds → RpAll K F' vs ds
  | [], _, h => by cases h; exact .nil
  | d :: ds, _, h => by
    cases h with
    | cons h1 h2 => exact .cons (dp_ex e d _ h1) (dpAll_ex e ds _ h2)
end

/-- what a slot holds: data, a raw value, a list of its own, a dict that stays as it is -/
inductive Sl where
  | d (x : PyData)
  | v (x : V)
  | own (xs : List PyData)
  | dt (kvs : List (Key × PyData))
abbrev En := List (Option Sl)
def Sr (K : PySem.W.Frag) (F : Hp) (v : V) : Sl → Prop
  | .d x => Rp K F v x
  | .v x => v = x
  | .own _ => False
  | .dt kvs => ∃ (a : Addr) (vs : List V), v = .ref a ∧ F a = some (.dK ((kvs.map (·.1)).zip vs)) ∧ RpAll K F vs (kvs.map (·.2))
theorem sr_ex {K : PySem.W.Frag} {F F' : Hp} {v : V} (e : Ex F F') : ∀ {s : Sl}, Sr K F v s → Sr K F' v s
  | .d x, h => dp_ex e x v h
  | .v _, h => h
  | .own _, h => h
  | .dt _, ⟨a, vs, h1, h2, h3⟩ => ⟨a, vs, h1, e _ _ h2, dpAll_ex e _ _ h3⟩

def Nt (o : HO) : Prop := ∀ ps, o ≠ .tbl ps
/-- an object that no def of ours changes -/
def Fx (o : HO) : Prop := (∀ xs, o ≠ .lst xs) ∧ ∀ xs, o ≠ .dK xs
/-- the world of a body: what stood at its entry, what others may change, what is true of it -/
structure Wd (S : Type) where
  F0 : Hp
  H0 : Hp
  rs : List Addr
  J : S → Hp → Hp → Prop
  ne : ∀ s F H, J s F H → ∀ a ∈ rs, H a ≠ none ∧ F a = none
  st : ∀ s F H F2 H2, J s F H → (∀ a o, H a = some o → (a ∈ rs ∨ Fx o) → H2 a = some o) → (∀ a ∈ rs, F2 a = none) → (∀ a o, F2 a = some o → F a = some o ∨ Nt o) → J s F2 H2
  cls : Str → Option Addr
  xe : XK

/-- from one moment to a later one: rs may have changed -/
structure Fm (rs : List Addr) (F H F2 H2 : Hp) : Prop where
  ff : Ex F F2
  fh : Ex F2 H2
  hh : ∀ a o, (rs = [] ∨ (a ∉ rs ∧ Nt o)) → H a = some o → H2 a = some o
  nn : ∀ a o, (rs = [] ∨ (a ∉ rs ∧ Nt o)) → H a = some o → F a = none → F2 a = none
  nf : ∀ a o, F2 a = some o → F a = some o ∨ Nt o
theorem Fm.refl {rs : List Addr} {F H : Hp} (h : Ex F H) : Fm rs F H F H := ⟨Ex.refl F, h, fun _ _ _ e => e, fun _ _ _ _ e => e, fun _ _ e => .inl e⟩
theorem Fm.trans {rs : List Addr} {F H F2 H2 F3 H3 : Hp} (a : Fm rs F H F2 H2) (b : Fm rs F2 H2 F3 H3) : Fm rs F H F3 H3 :=
  ⟨a.ff.trans b.ff, b.fh, fun x o n e => b.hh x o n (a.hh x o n e), fun x o n e f => b.nn x o n (a.hh x o n e) (a.nn x o n e f), fun x o e => (b.nf x o e).elim (fun e => a.nf x o e) .inr⟩
theorem Fm.more {rs : List Addr} {F H F2 H2 : Hp} (a : Fm [] F H F2 H2) : Fm rs F H F2 H2 :=
  ⟨a.ff, a.fh, fun x o _ e => a.hh x o (.inl rfl) e, fun x o _ e f => a.nn x o (.inl rfl) e f, a.nf⟩
theorem Fm.ex {F H F2 H2 : Hp} (a : Fm [] F H F2 H2) : Ex H H2 := fun x o e => a.hh x o (.inl rfl) e
/-- a new frozen object -/
theorem Fm.new {rs : List Addr} {F H : Hp} {p : Addr} {o : HO} (h : Ex F H) (hp : H p = none) (hn : Nt o := by intro _ z; cases z) : Fm rs F H (upd F p o) (upd H p o) := by
  have fp : F p = none := by
    cases e : F p with
    | none => rfl
    | some u => rw [h p u e] at hp; cases hp
  refine ⟨Ex.new fp, fun a u e => ?_, fun a u _ e => ?_, fun a u _ n e => ?_, fun a u e => ?_⟩
  · by_cases ha : a = p
    · subst ha
      rw [upd_same] at e ⊢
      exact e
    · rw [upd_ne ha] at e ⊢
      exact h a u e
  · rw [upd_ne (ne_of_none e hp)]
    exact e
  · rw [upd_ne (ne_of_none n hp)]
    exact e
  · by_cases ha : a = p
    · subst ha
      rw [upd_same] at e
      cases e
      exact .inr hn
    · rw [upd_ne ha] at e
      exact .inl e
/-- a new object that is not frozen -/
theorem Fm.own {rs : List Addr} {F H : Hp} {p : Addr} {o : HO} (h : Ex F H) (hp : H p = none) : Fm rs F H F (upd H p o) := by
  exact ⟨Ex.refl F, h.trans (Ex.new hp), fun a u _ e => Ex.new hp a u e, fun a _ _ _ e => e, fun _ _ e => .inl e⟩

inductive Er {S : Type} (K : PySem.W.Frag) (W : Wd S) (F H : Hp) : L2.St → En → List Addr → Prop
  | nil : Er K W F H [] [] W.rs
  | no {x : Option V} {σ : L2.St} {ε : En} {ps : List Addr} : Er K W F H σ ε ps → Er K W F H (x :: σ) (none :: ε) ps
  | d {v : V} {x : PyData} {σ : L2.St} {ε : En} {ps : List Addr} : Rp K F v x → Er K W F H σ ε ps → Er K W F H (some v :: σ) (some (.d x) :: ε) ps
  | v {v : V} {σ : L2.St} {ε : En} {ps : List Addr} : Er K W F H σ ε ps → Er K W F H (some v :: σ) (some (.v v) :: ε) ps
  | t {v : V} {x : List (Key × PyData)} {σ : L2.St} {ε : En} {ps : List Addr} : Sr K F v (.dt x) → Er K W F H σ ε ps → Er K W F H (some v :: σ) (some (.dt x) :: ε) ps
  | own {p : Addr} {vs : List V} {xs : List PyData} {σ : L2.St} {ε : En} {ps : List Addr} : (∀ o, W.H0 p = some o → ¬ Nt o) → F p = none → H p = some (.lst vs) → RpAll K F vs xs → p ∉ ps → Er K W F H σ ε ps →
      Er K W F H (some (.ref p) :: σ) (some (.own xs) :: ε) (p :: ps)
def Ers {S : Type} (K : PySem.W.Frag) (W : Wd S) (F H : Hp) (σ : L2.St) (ε : En) : Prop := ∃ ps, Er K W F H σ ε ps

section
variable {S : Type} {K : PySem.W.Frag} {W : Wd S} {F H F2 H2 : Hp} {σ : L2.St} {ε : En} {ps : List Addr}
theorem Er.rs (h : Er K W F H σ ε ps) : ∀ a ∈ W.rs, a ∈ ps := by
  induction h with
  | nil => exact fun _ h => h
  | no _ ih => exact ih
  | d _ _ ih => exact ih
  | t _ _ ih => exact ih
  | v _ ih => exact ih
  | own _ _ _ _ _ _ ih => exact fun a ha => List.mem_cons_of_mem _ (ih a ha)
theorem Er.len (h : Er K W F H σ ε ps) : σ.length = ε.length := by
  induction h with
  | nil => rfl
  | no _ ih => simp [ih]
  | d _ _ ih => simp [ih]
  | t _ _ ih => simp [ih]
  | v _ ih => simp [ih]
  | own _ _ _ _ _ _ ih => simp [ih]
/-- kept: frozen things grow, own lists stand -/
theorem Er.keep (h : Er K W F H σ ε ps) (ff : Ex F F2) (hh : ∀ p ∈ ps, p ∉ W.rs → ∀ vs, H p = some (.lst vs) → H2 p = some (.lst vs)) (nn : ∀ p ∈ ps, p ∉ W.rs → F p = none → ∀ vs, H p = some (.lst vs) → F2 p = none) : Er K W F2 H2 σ ε ps := by
  induction h with
  | nil => exact .nil
  | no _ ih => exact .no (ih hh nn)
  | d hd _ ih => exact .d (dp_ex ff _ _ hd) (ih hh nn)
  | t hd _ ih => exact .t (sr_ex ff hd) (ih hh nn)
  | v _ ih => exact .v (ih hh nn)
  | @own p vs xs σ ε ps h0 hf hp hd hn r ih =>
    have hr : p ∉ W.rs := fun z => hn (r.rs p z)
    refine .own h0 (nn p List.mem_cons_self hr hf _ hp) (hh p List.mem_cons_self hr _ hp) (dpAll_ex ff _ _ hd) hn (ih (fun q hq => hh q (List.mem_cons_of_mem _ hq)) fun q hq => nn q (List.mem_cons_of_mem _ hq))
theorem Er.fm (h : Er K W F H σ ε ps) (m : Fm W.rs F H F2 H2) : Er K W F2 H2 σ ε ps :=
  h.keep m.ff (fun p _ hr vs e => m.hh p _ (.inr ⟨hr, fun _ z => by cases z⟩) e) (fun p _ hr hf vs e => m.nn p _ (.inr ⟨hr, fun _ z => by cases z⟩) e hf)
theorem Ers.fm (h : Ers K W F H σ ε) (m : Fm W.rs F H F2 H2) : Ers K W F2 H2 σ ε := let ⟨ps, r⟩ := h; ⟨ps, r.fm m⟩
theorem Er.get (h : Er K W F H σ ε ps) : ∀ {i : Nat} {s : Sl}, ε[i]? = some (some s) → (∀ xs, s ≠ .own xs) → ∃ v, σ[i]? = some (some v) ∧ Sr K F v s := by
  induction h with
  | nil =>
    intro i s e _
    simp at e
  | no _ ih =>
    intro i s e n
    cases i with
    | zero => simp at e
    | succ i => simpa using ih (by simpa using e) n
  | @d v x _ _ _ hd _ ih =>
    intro i s e n
    cases i with
    | zero =>
      simp at e
      subst e
      exact ⟨v, rfl, hd⟩
    | succ i => simpa using ih (by simpa using e) n
  | @t v x _ _ _ hd _ ih =>
    intro i s e n
    cases i with
    | zero =>
      simp at e
      subst e
      exact ⟨v, rfl, hd⟩
    | succ i => simpa using ih (by simpa using e) n
  | @v v _ _ _ _ ih =>
    intro i s e n
    cases i with
    | zero =>
      simp at e
      subst e
      exact ⟨v, rfl, rfl⟩
    | succ i => simpa using ih (by simpa using e) n
  | @own p vs xs _ _ _ _ _ _ _ _ _ ih =>
    intro i s e n
    cases i with
    | zero =>
      simp at e
      subst e
      exact absurd rfl (n xs)
    | succ i => simpa using ih (by simpa using e) n
theorem Er.getOwn (h : Er K W F H σ ε ps) : ∀ {i : Nat} {xs : List PyData}, ε[i]? = some (some (.own xs)) → ∃ p vs, σ[i]? = some (some (.ref p)) ∧ (∀ o, W.H0 p = some o → ¬ Nt o) ∧ F p = none ∧ H p = some (.lst vs) ∧ RpAll K F vs xs ∧ p ∉ W.rs := by
  induction h with
  | nil =>
    intro i xs e
    simp at e
  | no _ ih =>
    intro i xs e
    cases i with
    | zero => simp at e
    | succ i => simpa using ih (by simpa using e)
  | d _ _ ih =>
    intro i xs e
    cases i with
    | zero => simp at e
    | succ i => simpa using ih (by simpa using e)
  | t _ _ ih =>
    intro i xs e
    cases i with
    | zero => simp at e
    | succ i => simpa using ih (by simpa using e)
  | v _ ih =>
    intro i xs e
    cases i with
    | zero => simp at e
    | succ i => simpa using ih (by simpa using e)
  | @own p vs ys _ _ _ h0 hf hp hd hn r ih =>
    intro i xs e
    cases i with
    | zero =>
      simp at e
      subst e
      exact ⟨p, vs, rfl, h0, hf, hp, hd, fun z => hn (r.rs p z)⟩
    | succ i => simpa using ih (by simpa using e)
/-- a slot forgotten -/
theorem Er.wipe1 (h : Er K W F H σ ε ps) : ∀ (i : Nat) (x : Option V), ∃ ps', Er K W F H (σ.set i x) (ε.set i none) ps' ∧ ∀ p ∈ ps', p ∈ ps := by
  induction h with
  | nil => exact fun i x => ⟨_, .nil, fun _ h => h⟩
  | no r ih =>
    intro i x
    cases i with
    | zero => exact ⟨_, .no r, fun _ h => h⟩
    | succ i =>
      obtain ⟨q, r2, k⟩ := ih i x
      exact ⟨q, .no r2, k⟩
  | d hd r ih =>
    intro i x
    cases i with
    | zero => exact ⟨_, .no r, fun _ h => h⟩
    | succ i =>
      obtain ⟨q, r2, k⟩ := ih i x
      exact ⟨q, .d hd r2, k⟩
  | t hd r ih =>
    intro i x
    cases i with
    | zero => exact ⟨_, .no r, fun _ h => h⟩
    | succ i =>
      obtain ⟨q, r2, k⟩ := ih i x
      exact ⟨q, .t hd r2, k⟩
  | v r ih =>
    intro i x
    cases i with
    | zero => exact ⟨_, .no r, fun _ h => h⟩
    | succ i =>
      obtain ⟨q, r2, k⟩ := ih i x
      exact ⟨q, .v r2, k⟩
  | @own p vs xs _ _ ps h0 hf hp hd hn r ih =>
    intro i x
    cases i with
    | zero => exact ⟨_, .no r, fun _ h => List.mem_cons_of_mem _ h⟩
    | succ i =>
      obtain ⟨q, r2, k⟩ := ih i x
      exact ⟨p :: q, .own h0 hf hp hd (fun z => hn (k p z)) r2, fun a ha => by
        rcases List.mem_cons.mp ha with z | z
        · rw [z]
          exact List.mem_cons_self
        · exact List.mem_cons_of_mem _ (k a z)⟩
/-- a slot filled with data or a raw value -/
theorem Er.put (h : Er K W F H σ ε ps) {v : V} {s : Sl} (hs : Sr K F v s) : ∀ (i : Nat), ∃ ps', Er K W F H (σ.set i (some v)) (ε.set i (some s)) ps' ∧ ∀ p ∈ ps', p ∈ ps := by
  have put0 : ∀ {σ : L2.St} {ε : En} {ps : List Addr}, Er K W F H σ ε ps → Er K W F H (some v :: σ) (some s :: ε) ps := fun {σ ε ps} r => by
    cases s with
    | d x => exact .d hs r
    | v x =>
      have e : v = x := hs
      subst e
      exact .v r
    | own xs => exact hs.elim
    | dt x => exact .t hs r
  induction h with
  | nil => exact fun i => ⟨_, .nil, fun _ h => h⟩
  | no r ih =>
    intro i
    cases i with
    | zero => exact ⟨_, put0 r, fun _ h => h⟩
    | succ i =>
      obtain ⟨q, r2, k⟩ := ih i
      exact ⟨q, .no r2, k⟩
  | d hd r ih =>
    intro i
    cases i with
    | zero => exact ⟨_, put0 r, fun _ h => h⟩
    | succ i =>
      obtain ⟨q, r2, k⟩ := ih i
      exact ⟨q, .d hd r2, k⟩
  | t hd r ih =>
    intro i
    cases i with
    | zero => exact ⟨_, put0 r, fun _ h => h⟩
    | succ i =>
      obtain ⟨q, r2, k⟩ := ih i
      exact ⟨q, .t hd r2, k⟩
  | v r ih =>
    intro i
    cases i with
    | zero => exact ⟨_, put0 r, fun _ h => h⟩
    | succ i =>
      obtain ⟨q, r2, k⟩ := ih i
      exact ⟨q, .v r2, k⟩
  | @own p vs xs _ _ ps h0 hf hp hd hn r ih =>
    intro i
    cases i with
    | zero => exact ⟨_, put0 r, fun _ h => List.mem_cons_of_mem _ h⟩
    | succ i =>
      obtain ⟨q, r2, k⟩ := ih i
      exact ⟨p :: q, .own h0 hf hp hd (fun z => hn (k p z)) r2, fun a ha => by
        rcases List.mem_cons.mp ha with z | z
        · rw [z]
          exact List.mem_cons_self
        · exact List.mem_cons_of_mem _ (k a z)⟩
theorem Ers.put (h : Ers K W F H σ ε) {v : V} {s : Sl} (hs : Sr K F v s) (i : Nat) : Ers K W F H (σ.set i (some v)) (ε.set i (some s)) := by
  obtain ⟨ps, r⟩ := h
  obtain ⟨q, r2, _⟩ := r.put hs i
  exact ⟨q, r2⟩
theorem Ers.wipe1 (h : Ers K W F H σ ε) (i : Nat) (x : Option V) : Ers K W F H (σ.set i x) (ε.set i none) := by
  obtain ⟨ps, r⟩ := h
  obtain ⟨q, r2, _⟩ := r.wipe1 i x
  exact ⟨q, r2⟩
def wipeE (ε : En) : List Nat → En
  | [] => ε
  | v :: vs => (wipeE ε vs).set v none
theorem Ers.wipe (h : Ers K W F H σ ε) : ∀ vs : List Nat, Ers K W F H (L2.wipe σ vs) (wipeE ε vs)
  | [] => h
  | v :: vs => (h.wipe vs).wipe1 v none
end

theorem Wd.pure {S : Type} {W : Wd S} {s : S} {F H F2 H2 : Hp} (j : W.J s F H) (m : Fm [] F H F2 H2) : W.J s F2 H2 := by
  refine W.st s F H F2 H2 j (fun a o e _ => m.ex a o e) (fun a ha => ?_) m.nf
  · obtain ⟨n, f⟩ := W.ne s F H j a ha
    cases e : H a with
    | none => exact absurd e n
    | some o => exact m.nn a o (.inl rfl) e f
def SrAll (K : PySem.W.Frag) (F : Hp) : List V → List Sl → Prop
  | [], [] => True
  | v :: vs, s :: ss => Sr K F v s ∧ SrAll K F vs ss
  | _, _ => False
theorem srAll_ex {K : PySem.W.Frag} {F F' : Hp} (e : Ex F F') : ∀ {vs : List V} {ss : List Sl}, SrAll K F vs ss → SrAll K F' vs ss
  | [], [], _ => True.intro
  | _ :: _, _ :: _, h => ⟨sr_ex e h.1, srAll_ex e h.2⟩
  | [], _ :: _, h => h.elim
  | _ :: _, [], h => h.elim
theorem pe_imp {X : Cx} {e : Expr} {t u : TE} (h : PE X e t) (k : ∀ σ H Q, u σ H Q → t σ H Q) : PE X e u := ⟨fun pins s σ H Q I q => h.run pins s σ H Q I (k σ H Q q)⟩
theorem pt_imp {X : Cx} {e : Expr} {t u : TT} (h : PT X e t) (k : ∀ σ H Q, u σ H Q → t σ H Q) : PT X e u := ⟨fun pins s σ H Q I q => h.run pins s σ H Q I (k σ H Q q)⟩
theorem pw_imp {X : Cx} {e : Expr} {t u : TT} (h : PW X e t) (k : ∀ σ H Q, u σ H Q → t σ H Q) : PW X e u := ⟨fun wh pins s σ H Q I q => h.run wh pins s σ H Q I (k σ H Q q)⟩
theorem pa_imp {X : Cx} {e : List Expr} {t u : TA} (h : PA X e t) (k : ∀ σ H Q, u σ H Q → t σ H Q) : PA X e u := ⟨fun pos pins s σ H Q I q => h.run pos pins s σ H Q I (k σ H Q q)⟩
theorem ps_imp {X : Cx} {st : Stmt} {t u : TS} (h : PS X st t) (k : ∀ D σ H, u D σ H → t D σ H) : PS X st u := ⟨fun pins s σ H D I q => h.run pins s σ H D I (k D σ H q)⟩
theorem pss_imp {X : Cx} {st : List Stmt} {t u : TS} (h : PSs X st t) (k : ∀ D σ H, u D σ H → t D σ H) : PSs X st u := ⟨fun pins s σ H D I q => h.run pins s σ H D I (k D σ H q)⟩
end Z
set_option Elab.async false
set_option linter.all false
set_option maxRecDepth 100000
set_option maxHeartbeats 4000000
namespace Z
open PySem PySem.Spec PyProof.Rows L2 Evl

abbrev XR := Str × List (Str × PyData)
abbrev QS (S : Type) := Sl → S → Prop
abbrev QX (S : Type) := XR → S → Prop
abbrev Fsp (S : Type) := List Sl → S → QS S → QX S → Prop
structure Gam (S : Type) where
  N : List Str
  glob : List (Str × Sl)
  fns : List (Str × Fsp S)
  free : List Str
  /-- defs called by n values and these keywords -/
  kfn : List ((Str × Nat × List Str) × Fsp S)
  /-- repr is used -/
  rep : Bool
  /-- lists of one's own may hold lists, and are read by Return alone -/
  raw : Bool

def ixOf : List Str → Str → Option Nat
  | [], _ => none
  | y :: ys, x => if y = x then some 0 else match ixOf ys x with
    | some i => some (i + 1)
    | none => none
theorem ixOf_get : ∀ {N : List Str} {x : Str} {i : Nat}, ixOf N x = some i → N[i]? = some x
  | [], _, _, h => by cases h
  | y :: ys, x, i, h => by
    unfold ixOf at h
    by_cases e : y = x
    · rw [if_pos e] at h
      cases h
      rw [e]
      rfl
    · rw [if_neg e] at h
      cases q : ixOf ys x with
      | none =>
        rw [q] at h
        cases h
      | some j =>
        rw [q] at h
        cases h
        have := ixOf_get q
        simpa using this

def okSc (sc : Scope) : Bool := (sc.names.lookup ("__debug__" : Str)).isNone && ((sc.names.lookup ("__classdict__" : Str)).isNone && (sc.names.lookup ("__name__" : Str)).isNone)
def plainE : Expr → Bool
  | .Starred _ _ => false
  | _ => true
def setE : Expr → Bool
  | .Set _ _ _ => true
  | _ => false
def tupE : Expr → Bool
  | .Tuple _ _ _ => true
  | _ => false
def slE : Expr → Bool
  | .Slice _ _ _ _ => true
  | _ => false
def callE : Expr → Bool
  | .Call _ _ _ _ => true
  | _ => false
def condE : Expr → Bool
  | .UnaryOp .Not _ _ => true
  | .BoolOp _ _ _ => true
  | .IfExp _ _ _ _ => true
  | .Compare _ _ _ _ => true
  | _ => false
/-- a check that is decided by the text alone -/
def chk (b : Bool) (p : Prop) : Prop := match b with
  | true => p
  | false => False
def chkN (b : Bool) (p : Prop) : Prop := match b with
  | true => False
  | false => p
theorem chk_iff {b : Bool} {p : Prop} : chk b p ↔ b = true ∧ p := by
  cases b <;> simp [chk]
theorem chkN_iff {b : Bool} {p : Prop} : chkN b p ↔ b = false ∧ p := by
  cases b <;> simp [chkN]
/-! ### what operations do with data -/
def cutG {α : Type} (xs : List α) (lo hi : Option Int) : List α := (xs.drop (HT.sIx xs.length 0 lo)).take (HT.sIx xs.length xs.length hi - HT.sIx xs.length 0 lo)
def dbin (op : Operator) (x y : Sl) (Q : Sl → Prop) : Prop := match op, x, y with
  | .Add, .d (.int a), .d (.int b) => Q (.d (.int (a + b)))
  | .Add, .d (.str a), .d (.str b) => a.length + b.length ≤ sizeLine ∧ Q (.d (.str (a ++ b)))
  | .Add, .d (.tuple a), .d (.tuple b) => a.length + b.length ≤ sizeLine ∧ Q (.d (.tuple (a ++ b)))
  | .Add, .d (.list a), .d (.list b) => a.length + b.length ≤ sizeLine ∧ Q (.d (.list (a ++ b)))
  | .Sub, .d (.int a), .d (.int b) => Q (.d (.int (a - b)))
  | .Mult, .d (.int a), .d (.int b) => CMulW a b ∧ Q (.d (.int (a * b)))
  | .Mult, .d (.list a), .d (.int k) => -(2 ^ 63) ≤ k ∧ k < 2 ^ 63 ∧ a.length * k.toNat ≤ sizeLine ∧ Q (.d (.list (List.replicate k.toNat a).flatten))
  | .Mult, .d (.str a), .d (.int k) => PySem.MulOk a k ∧ Q (.d (.str (Txt.mul a k)))
  | .FloorDiv, .d (.int a), .d (.int b) => CDivW a b ∧ Q (.d (.int (a / b)))
  | .Mod, .d (.int a), .d (.int b) => 0 < b ∧ Q (.d (.int (a % b)))
  | .Pow, .d (.int a), .d (.int b) => CPow a b ∧ Q (.d (.int (a ^ b.toNat)))
  | _, _, _ => False
def flatD : PyData → Bool
  | .none => true
  | .bool _ => true
  | .int _ => true
  | .str _ => true
  | _ => false
def eqF : PyData → PyData → Bool
  | .none, .none => true
  | .bool a, .bool b => a == b
  | .bool a, .int b => (if a then 1 else 0) == b
  | .int a, .bool b => a == (if b then 1 else 0)
  | .int a, .int b => a == b
  | .str a, .str b => a == b
  | _, _ => false
def isNoneS : Sl → Bool
  | .d .none => true
  | _ => false
def dcmp (op : CmpOp) (x y : Sl) (Q : Bool → Prop) : Prop := match op, x, y with
  | .Eq, .d x, .d y => SeqAt.shaped x = true ∧ SeqAt.shaped y = true ∧ Q (PyData.eqv x y)
  | .NotEq, .d x, .d y => SeqAt.shaped x = true ∧ SeqAt.shaped y = true ∧ Q (!PyData.eqv x y)
  | .Lt, .d (.int a), .d (.int b) => Q (decide (a < b))
  | .LtE, .d (.int a), .d (.int b) => Q (decide (a ≤ b))
  | .Gt, .d (.int a), .d (.int b) => Q (decide (b < a))
  | .GtE, .d (.int a), .d (.int b) => Q (decide (b ≤ a))
  | .Lt, .d (.str a), .d (.str b) => Q (decide (a.cps.toList < b.cps.toList))
  | .In, .d x, .d (.list ys) => flatD x = true ∧ ys.all flatD = true ∧ Q (ys.any fun y => eqF y x)
  | .In, .d x, .d (.tuple ys) => flatD x = true ∧ ys.all flatD = true ∧ Q (ys.any fun y => eqF y x)
  | .NotIn, .d x, .d (.list ys) => flatD x = true ∧ ys.all flatD = true ∧ Q (!ys.any fun y => eqF y x)
  | .NotIn, .d x, .d (.tuple ys) => flatD x = true ∧ ys.all flatD = true ∧ Q (!ys.any fun y => eqF y x)
  | .In, .d (.str c), .d (.str z) => ∃ k : Nat, c = ⟨#[k]⟩ ∧ Q (decide (k ∈ z.cps.toList))
  | .NotIn, .d (.str c), .d (.str z) => ∃ k : Nat, c = ⟨#[k]⟩ ∧ Q (!decide (k ∈ z.cps.toList))
  | .Is, .d x, .d .none => Q (isNoneS (.d x))
  | .IsNot, .d x, .d .none => Q (!isNoneS (.d x))
  | .Is, .d (.bool a), .d (.bool b) => Q (decide (a = b))
  | .IsNot, .d (.bool a), .d (.bool b) => Q (!decide (a = b))
  | _, _, _ => False
def dtru (x : Sl) (Q : Bool → Prop) : Prop := match x with
  | .d .none => Q false
  | .d (.bool b) => Q b
  | .d (.int i) => Q (i != 0)
  | .d (.str y) => y.length ≤ sizeLine ∧ Q ((y.length : Int) != 0)
  | .d (.list xs) => Q (!xs.isEmpty)
  | .d (.tuple xs) => Q (!xs.isEmpty)
  | _ => False
def lookK : List (Key × PyData) → Str → Option PyData
  | [], _ => none
  | (.inr x, d) :: r, k => if x = k then some d else lookK r k
  | _ :: r, k => lookK r k
def dix (x i : Sl) (Q : Sl → Prop) : Prop := match x, i with
  | .d (.list xs), .d (.int i) => (match atI xs i with
    | some z => Q (.d z)
    | none => False)
  | .d (.tuple xs), .d (.int i) => (match atI xs i with
    | some z => Q (.d z)
    | none => False)
  | .d (.str w), .d (.int i) => w.length ≤ sizeLine ∧ (match atI w.cps.toList i with
    | some c => Q (.d (.str ⟨#[c]⟩))
    | none => False)
  | .dt kvs, .d (.str k) => (match lookK kvs k with
    | some z => Q (.d z)
    | none => False)
  | _, _ => False
def dsl (x : Sl) (lo hi : Option Int) (Q : Sl → Prop) : Prop := match x with
  | .d (.list xs) => Q (.d (.list (cutG xs lo hi)))
  | .d (.tuple xs) => Q (.d (.tuple (cutG xs lo hi)))
  | .d (.str w) => w.length ≤ sizeLine ∧ Q (.d (.str ⟨(cutG w.cps.toList lo hi).toArray⟩))
  | _ => False
def tyName : PyData → String
  | .none => "NoneType"
  | .bool _ => "bool"
  | .int _ => "int"
  | .str _ => "str"
  | .list _ => "list"
  | .tuple _ => "tuple"
  | .dict _ => "dict"
def intsD : List PyData → Option (List Int)
  | [] => some []
  | .int i :: r => match intsD r with
    | some is => some (i :: is)
    | none => none
  | _ => none
def strsD : List PyData → Option (List Str)
  | [] => some []
  | .str i :: r => match strsD r with
    | some is => some (i :: is)
    | none => none
  | _ => none
def boolsD : List PyData → Option (List Bool)
  | [] => some []
  | .bool i :: r => match boolsD r with
    | some is => some (i :: is)
    | none => none
  | _ => none
/-- built-ins by name -/
inductive Bf where
  | len | isinstance | all_ | any_ | list_ | tuple_ | int_ | repr_ | sum_
def bfOf (r : Bool) (f : Str) : Option Bf := match r with
  | true => List.lookup f [("len", Bf.len), ("isinstance", .isinstance), ("all", .all_), ("any", .any_), ("list", .list_), ("tuple", .tuple_), ("int", .int_), ("sum", .sum_), ("repr", .repr_)]
  | false => List.lookup f [("len", Bf.len), ("isinstance", .isinstance), ("all", .all_), ("any", .any_), ("list", .list_), ("tuple", .tuple_), ("int", .int_), ("sum", .sum_)]
theorem bfOf_rep {r : Bool} {f : Str} {b : Bf} (h : bfOf r f = some b) : b = .repr_ → r = true := by
  cases r with
  | true => exact fun _ => rfl
  | false =>
    intro e
    subst e
    unfold bfOf at h
    simp only [List.lookup] at h
    repeat' split at h
    all_goals cases h
def dcall (f : Bf) (xs : List Sl) (Q : Sl → Prop) : Prop := match f, xs with
  | .len, [.d (.list xs)] => Q (.d (.int xs.length))
  | .len, [.d (.tuple xs)] => Q (.d (.int xs.length))
  | .len, [.d (.str z)] => z.length ≤ sizeLine ∧ Q (.d (.int z.length))
  | .isinstance, [.d x, .v (.ty n)] => (match kitB (tyName x) n with
    | some b => Q (.d (.bool b))
    | none => False)
  | .all_, [.d (.list ds)] => (match boolsD ds with
    | some bs => Q (.d (.bool (bs.all id)))
    | none => False)
  | .any_, [.d (.list ds)] => (match boolsD ds with
    | some bs => Q (.d (.bool (bs.any id)))
    | none => False)
  | .list_, [.d (.list xs)] => Q (.d (.list xs))
  | .list_, [.d (.tuple xs)] => Q (.d (.list xs))
  | .tuple_, [.d (.list xs)] => Q (.d (.tuple xs))
  | .tuple_, [.d (.tuple xs)] => Q (.d (.tuple xs))
  | .int_, [.d (.int i)] => Q (.d (.int i))
  | .int_, [.d (.bool b)] => Q (.d (.int (if b then 1 else 0)))
  | .sum_, [.d (.list ds)] => (match intsD ds with
    | some ns => Q (.d (.int ns.sum))
    | none => False)
  | .repr_, [.d x] => SeqAt.shaped x = true ∧ x.showable = true ∧ (PyData.shown x).length ≤ sizeLine ∧ Q (.d (.str (PyData.shown x)))
  | _, _ => False
def sortP (ds : List PyData) (Q : Sl → Prop) : Prop := match intsD ds with
  | some is => is.length ≤ 1000 ∧ ∀ ns : List Int, ns.Pairwise (· < ·) → (∀ k, k ∈ ns ↔ k ∈ is) → Q (.d (.list (ns.map .int)))
  | none => (match strsD ds with
    | some zs => zs.length ≤ 1000 ∧ ∀ ns : List Str, ns.Pairwise (fun a b => a.cps.toList < b.cps.toList) → (∀ k, k ∈ ns ↔ k ∈ zs) → Q (.d (.list (ns.map .str)))
    | none => False)
/-- sorted(set(x)) -/
def dsort (x : Sl) (Q : Sl → Prop) : Prop := match x with
  | .d (.list ds) => sortP ds Q
  | .d (.tuple ds) => sortP ds Q
  | _ => False
def djoin (o x : Sl) (Q : Sl → Prop) : Prop := match o, x with
  | .d (.str a), .d (.list ds) => (match strsD ds with
    | some ys => (ys.map (·.length)).sum + ys.length * a.length ≤ 16777216 ∧ Q (.d (.str (Txt.join a ys)))
    | none => False)
  | .d (.str a), .d (.tuple ds) => (match strsD ds with
    | some ys => (ys.map (·.length)).sum + ys.length * a.length ≤ 16777216 ∧ Q (.d (.str (Txt.join a ys)))
    | none => False)
  | _, _ => False
def anyB (t : String) : List String → Option Bool
  | [] => some false
  | n :: ns => (match kitB t n with
    | some true => some true
    | some false => anyB t ns
    | none => none)
/-- isinstance(x, (T, ..)) -/
def disT (x : Sl) (ns : List String) (Q : Sl → Prop) : Prop := match x with
  | .d x => (match anyB (tyName x) ns with
    | some b => Q (.d (.bool b))
    | none => False)
  | _ => False
def tyOf (x : Str) : Option String := List.lookup x [(("int" : Str), "int"), ("str", "str"), ("bool", "bool"), ("list", "list"), ("tuple", "tuple")]

def tyNames : List Expr → Option (List (Str × String))
  | [] => some []
  | .Name x _ :: r => (match tyOf x, tyNames r with
    | some T, some l => some ((x, T) :: l)
    | _, _ => none)
  | _ => none
def isiOf (b : Bf) (args : List Expr) : Option (Expr × List (Str × String)) := match b, args with
  | .isinstance, [a, .Tuple es _ _] => (match tyNames es with
    | some l => some (a, l)
    | none => none)
  | _, _ => none

/-! ### lists of expressions -/
section
variable {S : Type}
def wArgs (f : Expr → S → QS S → Prop) : List Expr → S → (List Sl → S → Prop) → Prop
  | [], s, Q => Q [] s
  | .Starred e _ :: es, s, Q => f e s fun x s1 => (match x with
    | .d (.list ds) => wArgs f es s1 fun xs s2 => Q (ds.map .d ++ xs) s2
    | .d (.tuple ds) => wArgs f es s1 fun xs s2 => Q (ds.map .d ++ xs) s2
    | _ => False)
  | e :: es, s, Q => f e s fun x s1 => wArgs f es s1 fun xs s2 => Q (x :: xs) s2
def wKws (f : Expr → S → QS S → Prop) : List Keyword → S → (List Sl → S → Prop) → Prop
  | [], s, Q => Q [] s
  | k :: ks, s, Q => f k.value s fun x s1 => wKws f ks s1 fun xs s2 => Q (x :: xs) s2
/-- a call's keywords -/
def kwNames : List Keyword → Option (List Str)
  | [] => some []
  | ⟨some x, _, _⟩ :: r => (match kwNames r with
    | some xs => some (x :: xs)
    | none => none)
  | _ => none
def kfOf {S : Type} (l : List ((Str × Nat × List Str) × Fsp S)) (f : Str) (n : Nat) (ks : List Str) : Option (Fsp S) := l.lookup (f, n, ks)
def wAnd (f : Expr → S → QS S → Prop) : List Expr → S → QS S → Prop
  | [], _, _ => False
  | [e], s, Q => f e s Q
  | e :: e2 :: es, s, Q => f e s fun x s1 => dtru x fun b => if b = true then wAnd f (e2 :: es) s1 Q else Q x s1
def wOr (f : Expr → S → QS S → Prop) : List Expr → S → QS S → Prop
  | [], _, _ => False
  | [e], s, Q => f e s Q
  | e :: e2 :: es, s, Q => f e s fun x s1 => dtru x fun b => if b = true then Q x s1 else wOr f (e2 :: es) s1 Q
def dataAll : List Sl → Option (List PyData)
  | [] => some []
  | .d x :: r => match dataAll r with
    | some xs => some (x :: xs)
    | none => none
  | _ => none
def wOpt (f : Expr → S → QS S → Prop) (e : Option Expr) (s : S) (Q : Option Int → S → Prop) : Prop := match e with
  | none => Q none s
  | some e => f e s fun x s1 => match x with
    | .d (.int i) => Q (some i) s1
    | _ => False
/-- a display's keys, texts all different -/
def keyTexts : List (Option Expr) → Option (List Str)
  | [] => some []
  | some (.Constant (.str x) _ _) :: r => (match keyTexts r with
    | some xs => some (x :: xs)
    | none => none)
  | _ => none
def keysOk (ks : List Str) (vs : List Expr) : Bool := decide (ks.length = vs.length) && (decide ks.Nodup && (!vs.isEmpty && (decide (vs.length ≤ 15) && vs.all plainE)))
/-- a comprehension's turns -/
def wMap (f : PyData → S → (Option PyData → S → Prop) → Prop) : List PyData → S → (List PyData → S → Prop) → Prop
  | [], s, Q => Q [] s
  | x :: xs, s, Q => f x s fun y s1 => wMap f xs s1 fun ys s2 => Q (match y with
    | some y => y :: ys
    | none => ys) s2
def zipD : List PyData → List PyData → List PyData
  | x :: xs, y :: ys => .tuple [x, y] :: zipD xs ys
  | _, _ => []
def enumD : Nat → List PyData → List PyData
  | _, [] => []
  | i, x :: xs => .tuple [.int i, x] :: enumD (i + 1) xs
def rangeD (lo hi : Int) : List PyData := (List.range (hi - lo).toNat).map fun i => .int (lo + (i : Nat))
/-- what stands behind `in` -/
def wSeq (f : Expr → S → QS S → Prop) (it : Expr) (s : S) (Q : List PyData → S → Prop) : Prop := f it s fun x s1 => (match x with
    | .d (.list xs) => Q xs s1
    | .d (.tuple xs) => Q xs s1
    | .d (.str z) => Q (z.cps.toList.map fun c => .str ⟨#[c]⟩) s1
    | _ => False)
def isG (sc : Scope) (x : Str) : Bool := match sc.names.lookup x with
  | some .globalImplicit => true
  | _ => false
theorem isG_iff {sc : Scope} {x : Str} : isG sc x = true ↔ sc.names.lookup x = some .globalImplicit := by
  unfold isG
  constructor
  · intro h
    split at h
    · assumption
    · cases h
  · intro h
    rw [h]
/-- sorted(set(a)) by its text -/
def srtOf (f : Str) (args : List Expr) : Option Expr := match decide (f = "sorted"), args with
  | true, [.Call (.Name g _) [a] [] _] => (match decide (g = "set") && plainE a with
    | true => some a
    | false => none)
  | _, _ => none
def wIter (free : List Str) (sc : Scope) (tg : Expr) (f : Expr → S → QS S → Prop) (it : Expr) (s : S) (Q : List PyData → S → Prop) : Prop := match it with
  | .Call (.Name g p) [a] [] p2 =>
    (match decide (g = "range") with
    | true => chk (plainE a && (free.contains g && isG sc g)) (f a s fun x s1 => (match x with
      | .d (.int n) => n ≤ 2 ^ 61 ∧ -(2 ^ 61) ≤ n ∧ Q (rangeD 0 n) s1
      | _ => False))
    | false => (match decide (g = "enumerate") with
      | true => chk (tupE tg && (plainE a && (free.contains g && isG sc g))) (f a s fun x s1 => (match x with
        | .d (.list xs) => Q (enumD 0 xs) s1
        | _ => False))
      | false => wSeq f (.Call (.Name g p) [a] [] p2) s Q))
  | .Call (.Name g p) [a, b] [] p2 =>
    (match decide (g = "range") with
    | true => chk (plainE a && (plainE b && (free.contains g && isG sc g))) (f a s fun x s1 => f b s1 fun y s2 => (match x, y with
      | .d (.int m), .d (.int n) => n ≤ 2 ^ 61 ∧ -(2 ^ 61) ≤ n ∧ m ≤ 2 ^ 61 ∧ -(2 ^ 61) ≤ m ∧ Q (rangeD m n) s2
      | _, _ => False))
    | false => (match decide (g = "zip") with
      | true => chk (tupE tg && (plainE a && (plainE b && (free.contains g && isG sc g)))) (f a s fun x s1 => f b s1 fun y s2 => (match x, y with
        | .d (.list a), .d (.list b) => Q (zipD a b) s2
        | .d (.tuple a), .d (.tuple b) => Q (zipD a b) s2
        | _, _ => False))
      | false => wSeq f (.Call (.Name g p) [a, b] [] p2) s Q))
  | e => wSeq f e s Q
/-- a target's slots -/
def slotsN (N : List Str) (sc : Scope) : List Expr → Option (List Nat)
  | [] => some []
  | .Name x _ :: r => (match sc.names.lookup x with
    | some .local => (match ixOf N x, slotsN N sc r with
      | some i, some is => some (i :: is)
      | _, _ => none)
    | some .cell => (match ixOf N x, slotsN N sc r with
      | some i, some is => some (i :: is)
      | _, _ => none)
    | _ => none)
  | _ :: _ => none
def slotsT (N : List Str) (sc : Scope) (tg : Expr) : Option (Bool × List Nat) := match tg with
  | .Tuple es _ _ => (match slotsN N sc es with
    | some is => some (true, is)
    | none => none)
  | .Name x p => (match slotsN N sc [.Name x p] with
    | some is => some (false, is)
    | none => none)
  | _ => none
def setAll (ε : En) : List Nat → List PyData → En
  | i :: is, d :: ds => setAll (ε.set i (some (.d d))) is ds
  | _, _ => ε
def bindS (p : Bool × List Nat) (d : PyData) (ε : En) : Option En := match p with
  | (true, is) => (match d with
    | .tuple ds => if ds.length = is.length then some (setAll ε is ds) else none
    | _ => none)
  | (false, is) => some (setAll ε is [d])
def ownOf (N : List Str) : List (Str × NameKind) → List (Str × Nat)
  | [] => []
  | (x, .local) :: r => (match ixOf N x with
    | some i => (x, i) :: ownOf N r
    | none => ownOf N r)
  | (x, .cell) :: r => (match ixOf N x with
    | some i => (x, i) :: ownOf N r
    | none => ownOf N r)
  | _ :: r => ownOf N r

def getE (ε : En) (i : Nat) (Q : Sl → Prop) : Prop := match ε[i]? with
  | some (some (.d d)) => Q (.d d)
  | some (some (.v v)) => Q (.v v)
  | some (some (.dt v)) => Q (.dt v)
  | _ => False
/-- the word of one turn of a comprehension -/
def lcTurn (bnd : PyData → Option En) (el : En → S → QS S → Prop) (ts : Option (En → S → QS S → Prop)) (x : PyData) (s2 : S) (k : Option PyData → S → Prop) : Prop := match bnd x with
  | none => False
  | some ε2 => (match ts with
    | none => el ε2 s2 (fun y s3 => match y with
      | .d y => k (some y) s3
      | _ => False)
    | some ts => ts ε2 s2 (fun b s3 => match b with
      | .d (.bool true) => el ε2 s3 (fun y s4 => match y with
        | .d y => k (some y) s4
        | _ => False)
      | .d (.bool false) => k none s3
      | _ => False))
/-- the weakest word ahead of an expression (t: of a test), over data; n bounds its depth -/
def wE (Γ : Gam S) : Nat → Bool → Scope → En → S → Expr → QS S → QX S → Prop
  | 0, _, _, _, _, _, _, _ => False
  | n + 1, false, sc, ε, s, e, Q, E => (match e with
    | .Name x _ => (match sc.names.lookup x with
      | some .globalImplicit => (match Γ.glob.lookup x with
        | some sl => Q sl s
        | none => (match tyOf x with
          | some T => chk (Γ.free.contains x) (Q (.v (.ty T)) s)
          | none => False))
      | some .local => (match ixOf Γ.N x with
        | some i => getE ε i fun v => Q v s
        | none => False)
      | some .cell => (match ixOf Γ.N x with
        | some i => getE ε i fun v => Q v s
        | none => False)
      | some .free => (match ixOf Γ.N x with
        | some i => getE ε i fun v => Q v s
        | none => False)
      | _ => False)
    | .Constant (.int i) _ _ => Q (.d (.int i)) s
    | .Constant (.str x) _ _ => Q (.d (.str x)) s
    | .Constant (.bool b) _ _ => Q (.d (.bool b)) s
    | .Constant .none _ _ => Q (.d .none) s
    | .BinOp a op b _ => wE Γ n false sc ε s a (fun x s1 => wE Γ n false sc ε s1 b (fun y s2 => dbin op x y fun z => Q z s2) E) E
    | .UnaryOp .Not a _ => wE Γ n false sc ε s a (fun x s1 => dtru x fun b => Q (.d (.bool (!b))) s1) E
    | .UnaryOp .USub a _ => wE Γ n false sc ε s a (fun x s1 => match x with
      | .d (.int i) => Q (.d (.int (-i))) s1
      | _ => False) E
    | .BoolOp .And es _ => wAnd (fun e s Q => wE Γ n false sc ε s e Q E) es s Q
    | .BoolOp .Or es _ => wOr (fun e s Q => wE Γ n false sc ε s e Q E) es s Q
    | .Compare a [op] [b] _ => chkN (setE b) (wE Γ n false sc ε s a (fun x s1 => wE Γ n false sc ε s1 b (fun y s2 => dcmp op x y fun z => Q (.d (.bool z)) s2) E) E)
    | .Compare a [op, op2] [b, c] _ => chkN (setE c) (wE Γ n false sc ε s a (fun x s1 => wE Γ n false sc ε s1 b (fun y s2 => dcmp op x y fun z =>
        if z = true then wE Γ n false sc ε s2 c (fun u s3 => dcmp op2 y u fun z => Q (.d (.bool z)) s3) E else Q (.d (.bool false)) s2) E) E)
    | .IfExp c a b _ => wE Γ n true sc ε s c (fun x s1 => match x with
      | .d (.bool true) => wE Γ n false sc ε s1 a Q E
      | .d (.bool false) => wE Γ n false sc ε s1 b Q E
      | _ => False) E
    | .Tuple es _ _ => (wArgs (fun e s Q => wE Γ n false sc ε s e Q E) es s fun xs s1 => (match dataAll xs with
      | some ds => ds.length ≤ sizeLine ∧ Q (.d (.tuple ds)) s1
      | none => False))
    | .List es _ => (wArgs (fun e s Q => wE Γ n false sc ε s e Q E) es s fun xs s1 => (match dataAll xs with
      | some ds => ds.length ≤ sizeLine ∧ Q (.d (.list ds)) s1
      | none => False))
    | .Dict keys vals _ => (match keyTexts keys with
      | none => False
      | some ks => chk (keysOk ks vals) (wArgs (fun e s Q => wE Γ n false sc ε s e Q E) vals s fun xs s1 => (match dataAll xs with
        | some ds => Q (.dt ((ks.map .inr).zip ds)) s1
        | none => False)))
    | .Subscript a (.Slice lo hi none _) _ => wE Γ n false sc ε s a (fun x s1 => wOpt (fun e s Q => wE Γ n false sc ε s e Q E) lo s1 fun l s2 =>
        wOpt (fun e s Q => wE Γ n false sc ε s e Q E) hi s2 fun h s3 => dsl x l h fun z => Q z s3) E
    | .Subscript a i _ => chkN (slE i) (wE Γ n false sc ε s a (fun x s1 => wE Γ n false sc ε s1 i (fun y s2 => dix x y fun z => Q z s2) E) E)
    | .Call (.Name f _) args [] _ => chk (args.all plainE && isG sc f) (match Γ.fns.lookup f with
      | some spec => wArgs (fun e s Q => wE Γ n false sc ε s e Q E) args s fun xs s1 => spec xs s1 Q E
      | none => (match bfOf Γ.rep f with
        | some b => chk (Γ.free.contains f && !args.isEmpty) (match isiOf b args with
          | some (a, l) => chk (decide (l.length ≤ 100) && l.all fun q => Γ.free.contains q.1 && isG sc q.1) (wE Γ n false sc ε s a (fun x s1 => disT x (l.map (·.2)) fun z => Q z s1) E)
          | none => wArgs (fun e s Q => wE Γ n false sc ε s e Q E) args s fun xs s1 => dcall b xs fun z => Q z s1)
        | none => chk (Γ.free.contains "sorted" && (Γ.free.contains "set" && isG sc "set")) (match srtOf f args with
          | some a => wE Γ n false sc ε s a (fun x s1 => dsort x fun z => Q z s1) E
          | none => False)))
    | .Call (.Name f _) args (k :: ks) _ => chk (args.all plainE && isG sc f) (match kwNames (k :: ks) with
      | none => False
      | some nm => (match kfOf Γ.kfn f args.length nm with
        | none => False
        | some spec => wArgs (fun e s Q => wE Γ n false sc ε s e Q E) args s fun xs s1 => wKws (fun e s Q => wE Γ n false sc ε s e Q E) (k :: ks) s1 fun ys s2 => xs.length = args.length ∧ ys.length = nm.length ∧ spec (xs ++ ys) s2 Q E))
    | .Call (.Attribute o m apos) [a] [] pos => chk (decide (m = "join") && (plainE a && (!callE o && (apos.endLine == pos.line)))) (wE Γ n false sc ε s o (fun x s1 => (∃ z : Str, x = .d (.str z)) ∧ wE Γ n false sc ε s1 a (fun y s2 => djoin x y fun z => Q z s2) E) E)
    | .ListComp elt [⟨tg, iter, ifs, 0⟩] sc2 _ => chk (okSc sc2 && (!setE iter && (decide (ifs.length ≤ 1) && blkC Γ.N sc sc2 (ownOf Γ.N sc2.names)))) (match slotsT Γ.N sc2 tg with
      | none => False
      | some sl => wIter Γ.free sc tg (fun e s Q => wE Γ n false sc ε s e Q E) iter s fun xs s1 =>
        xs.length ≤ 1000000 ∧ wMap (lcTurn (fun x => bindS sl x (wipeE ε ((ownOf Γ.N sc2.names).map (·.2)))) (fun ε2 s Q => wE Γ n false sc2 ε2 s elt Q (fun _ _ => False)) (match ifs with
          | c :: _ => some fun ε2 s Q => wE Γ n true sc2 ε2 s c Q (fun _ _ => False)
          | [] => none)) xs s1 fun ys s2 => Q (.d (.list ys)) s2)
    | _ => False)
  | n + 1, true, sc, ε, s, e, Q, E => (match e with
    | .UnaryOp .Not a _ => wE Γ n true sc ε s a (fun x s1 => match x with
      | .d (.bool b) => Q (.d (.bool (!b))) s1
      | _ => False) E
    | .BoolOp .And es _ => wAnd (fun e s Q => wE Γ n true sc ε s e Q E) es s Q
    | .BoolOp .Or es _ => wOr (fun e s Q => wE Γ n true sc ε s e Q E) es s Q
    | .Compare a [op] [b] _ => chkN (setE b) (wE Γ n false sc ε s a (fun x s1 => wE Γ n false sc ε s1 b (fun y s2 => dcmp op x y fun z => Q (.d (.bool z)) s2) E) E)
    | .Compare a [op, op2] [b, c] _ => chkN (setE c) (wE Γ n false sc ε s a (fun x s1 => wE Γ n false sc ε s1 b (fun y s2 => dcmp op x y fun z =>
        if z = true then wE Γ n false sc ε s2 c (fun u s3 => dcmp op2 y u fun z => Q (.d (.bool z)) s3) E else Q (.d (.bool false)) s2) E) E)
    | .IfExp _ _ _ _ => False
    | e => chkN (condE e) (wE Γ n false sc ε s e (fun x s1 => dtru x fun b => Q (.d (.bool b)) s1) E))
end
end Z
set_option Elab.async false
set_option linter.all false
set_option maxRecDepth 100000
set_option maxHeartbeats 4000000
namespace Z
open PySem PySem.Spec PyProof.Rows L2 Evl

def Kx {S : Type} (K : PySem.W.Frag) (rs : List Addr) (J : S → Hp → Hp → Prop) (cls : Str → Option Addr) (F H : Hp) (Ed : QX S) (E : XK) : Prop :=
  ∀ (xr : XR) (s2 : S) (F2 H2 : Hp) (dx C : Addr) (vs : List V), Fm rs F H F2 H2 → J s2 F2 H2 → Ed xr s2 → cls xr.1 = some C → H2 dx = some (.xd ((xr.2.map (·.1)).zip vs)) → RpAll K F2 vs (xr.2.map (·.2)) → E (.ref C) (some dx) H2
def Kq {S : Type} (K : PySem.W.Frag) (W : Wd S) (F H : Hp) (Qd : QS S) (R : VK) : Prop :=
  ∀ (v : V) (sl : Sl) (s2 : S) (F2 H2 : Hp), Fm W.rs F H F2 H2 → W.J s2 F2 H2 → Qd sl s2 → Sr K F2 v sl → R v H2
structure Cy {S : Type} (K : PySem.W.Frag) (W : Wd S) (F H : Hp) (σ : L2.St) (ε : En) (s : S) (Ed : QX S) : Prop where
  ex : Ex F H
  er : Ers K W F H σ ε
  j : W.J s F H
  kx : Kx K W.rs W.J W.cls F H Ed W.xe
section
variable {S : Type} {K : PySem.W.Frag} {W : Wd S} {F H F2 H2 : Hp} {σ : L2.St} {ε : En} {s s2 : S} {Ed : QX S} {Qd : QS S} {R : VK}
theorem Kx.next {rs : List Addr} {J : S → Hp → Hp → Prop} {cls : Str → Option Addr} {E : XK} (k : Kx K rs J cls F H Ed E) (m : Fm rs F H F2 H2) : Kx K rs J cls F2 H2 Ed E :=
  fun xr s3 F3 H3 dx C vs m3 j e c h r => k xr s3 F3 H3 dx C vs (m.trans m3) j e c h r
theorem Cy.next (c : Cy K W F H σ ε s Ed) (m : Fm W.rs F H F2 H2) (j : W.J s2 F2 H2) : Cy K W F2 H2 σ ε s2 Ed := ⟨m.fh, c.er.fm m, j, c.kx.next m⟩
theorem Kq.next (k : Kq K W F H Qd R) (m : Fm W.rs F H F2 H2) : Kq K W F2 H2 Qd R := fun v sl s3 F3 H3 m3 => k v sl s3 F3 H3 (m.trans m3)
end
section
variable {S : Type}
/-- the reading: some word holds ahead -/
def tWE (K : PySem.W.Frag) (W : Wd S) (Γ : Gam S) (n : Nat) (sc : Scope) (e : Expr) : TE := fun σ H R => ∃ ε s Qd Ed F, wE Γ n false sc ε s e Qd Ed ∧ Cy K W F H σ ε s Ed ∧ Kq K W F H Qd R
def Kb (W : Wd S) (F H : Hp) (Qd : QS S) (R : Bool → Hp → Prop) : Prop := ∀ (b : Bool) (s2 : S) (F2 H2 : Hp), Fm W.rs F H F2 H2 → W.J s2 F2 H2 → Qd (.d (.bool b)) s2 → R b H2
def tWT (K : PySem.W.Frag) (W : Wd S) (Γ : Gam S) (n : Nat) (sc : Scope) (e : Expr) : TT := fun σ H R => ∃ ε s Qd Ed F, wE Γ n true sc ε s e Qd Ed ∧ Cy K W F H σ ε s Ed ∧ Kb W F H Qd R
def spOf (K : PySem.W.Frag) (rs : List Addr) (J : S → Hp → Hp → Prop) (cls : Str → Option Addr) (spec : Fsp S) : Sp := fun vs H Q E => ∃ ss s F Qd Ed, Ex F H ∧ SrAll K F vs ss ∧ J s F H ∧ spec ss s Qd Ed ∧
  (∀ (v : V) (sl : Sl) (s2 : S) (F2 H2 : Hp), Fm rs F H F2 H2 → J s2 F2 H2 → Qd sl s2 → Sr K F2 v sl → Q v H2) ∧ Kx K rs J cls F H Ed E
/-! ### operations -/
def rS2 (K : PySem.W.Frag) (d : Sl → Sl → (Sl → Prop) → Prop) : R2 := fun vx vy H Q => ∃ F x y P, Ex F H ∧ Sr K F vx x ∧ Sr K F vy y ∧ d x y P ∧ ∀ z, P z → ∀ v F2 H2, Fm [] F H F2 H2 → Sr K F2 v z → Q v H2
def rS1 (K : PySem.W.Frag) (d : Sl → (Sl → Prop) → Prop) : V → Hp → VK → Prop := fun vx H Q => ∃ F x P, Ex F H ∧ Sr K F vx x ∧ d x P ∧ ∀ z, P z → ∀ v F2 H2, Fm [] F H F2 H2 → Sr K F2 v z → Q v H2
def rSn (K : PySem.W.Frag) (d : List Sl → (Sl → Prop) → Prop) : List V → Hp → VK → Prop := fun vs H Q => ∃ F ss P, Ex F H ∧ SrAll K F vs ss ∧ d ss P ∧ ∀ z, P z → ∀ v F2 H2, Fm [] F H F2 H2 → Sr K F2 v z → Q v H2
theorem opR_imp {X : Cx} {f : Value → Value → Sem Value} {r r' : R2} (h : OpR X f r) (k : ∀ x y H Q, r' x y H Q → r x y H Q) : OpR X f r' :=
  fun pins s σ H x y v u Q I rx ry q => h pins s σ H x y v u Q I rx ry (k x y H Q q)
end

theorem rpAll_append {K : PySem.W.Frag} {F : Hp} : ∀ {xs ys : List V} {ds es : List PyData}, RpAll K F xs ds → RpAll K F ys es → RpAll K F (xs ++ ys) (ds ++ es)
  | _, _, _, _, .nil, r => r
  | _, _, _, _, .cons h t, r => .cons h (rpAll_append t r)
theorem rpAll_len {K : PySem.W.Frag} {F : Hp} : ∀ {xs : List V} {ds : List PyData}, RpAll K F xs ds → xs.length = ds.length
  | _, _, .nil => rfl
  | _, _, .cons _ t => congrArg Nat.succ (rpAll_len t)
theorem rpAll_drop {K : PySem.W.Frag} {F : Hp} : ∀ {xs : List V} {ds : List PyData} (n : Nat), RpAll K F xs ds → RpAll K F (xs.drop n) (ds.drop n)
  | _, _, 0, r => r
  | _, _, _ + 1, .nil => .nil
  | _, _, n + 1, .cons _ t => rpAll_drop n t
theorem rpAll_take {K : PySem.W.Frag} {F : Hp} : ∀ {xs : List V} {ds : List PyData} (n : Nat), RpAll K F xs ds → RpAll K F (xs.take n) (ds.take n)
  | _, _, 0, _ => .nil
  | _, _, _ + 1, .nil => .nil
  | _, _, n + 1, .cons h t => .cons h (rpAll_take n t)
theorem rpAll_get {K : PySem.W.Frag} {F : Hp} : ∀ {xs : List V} {ds : List PyData} {i : Nat} {d : PyData}, RpAll K F xs ds → ds[i]? = some d → ∃ v, xs[i]? = some v ∧ Rp K F v d
  | _, _, _, _, .nil, h => by simp at h
  | _, _, 0, d, .cons r _, h => by
    simp at h
    subst h
    exact ⟨_, rfl, r⟩
  | _, _, i + 1, d, .cons _ t, h => by
    obtain ⟨v, e, r⟩ := rpAll_get (i := i) t (by simpa using h)
    exact ⟨v, by simpa using e, r⟩
theorem rpAll_rep {K : PySem.W.Frag} {F : Hp} {xs : List V} {ds : List PyData} (r : RpAll K F xs ds) : ∀ n : Nat, RpAll K F (List.replicate n xs).flatten (List.replicate n ds).flatten
  | 0 => .nil
  | n + 1 => by
    rw [List.replicate_succ, List.replicate_succ, List.flatten_cons, List.flatten_cons]
    exact rpAll_append r (rpAll_rep r n)

section
variable {X : Cx}
theorem opB : ∀ op : Operator, OpR X (binaryOp op) (rS2 X.K (dbin op)) := by
  intro op pins s σ H vx vy v u Q I rx ry h
  obtain ⟨F, x, y, P, ex, sx, sy, hd, k⟩ := h
  have kl : ∀ z : PyData, P (.d z) → ∀ v, Rp X.K F v z → Q v H := fun z p v r => k _ p v F H (Fm.refl ex) r
  have kn : ∀ (z : PyData) (o : HO), P (.d z) → Nt o → ∀ p, H p = none → Rp X.K (upd F p o) (.ref p) z → Q (.ref p) (upd H p o) := fun z o pz hn p hp r => k _ pz _ _ _ (Fm.new ex hp hn) r
  have fp : ∀ p, H p = none → F p = none := fun p hp => fresh_back ex hp
  unfold dbin at hd
  split at hd
  · cases sx; cases sy
    exact op_add pins s σ H _ _ v u Q I rx ry ⟨_, _, rfl, rfl, kl _ hd _ (.int _)⟩
  · cases sx; cases sy
    exact op_add_str pins s σ H _ _ v u Q I rx ry ⟨_, _, rfl, rfl, hd.1, kl _ hd.2 _ (.str _)⟩
  · cases sx with
    | @tup a xs _ ha ra => cases sy with
      | @tup b ys _ hb rb =>
        have la := rpAll_len ra
        have lb := rpAll_len rb
        refine op_catA pins s σ H _ _ v u Q I rx ry ⟨a, b, xs, ys, rfl, rfl, ex_t ex ha, ex_t ex hb, by rw [la, lb]; exact hd.1, fun e => ?_, fun e e2 => ?_, fun _ _ p hp => ?_⟩
        · subst e
          cases ra
          exact kl _ hd.2 _ (.tup hb rb)
        · subst e2
          cases rb
          have hd2 := hd.2
          rw [List.append_nil] at hd2
          exact kl _ hd2 _ (.tup ha ra)
        · exact kn _ _ hd.2 (fun _ z => by cases z) p hp (.tup (.inl (.inl upd_same)) (rpAll_append (dpAll_ex (Ex.new (fp p hp)) _ _ ra) (dpAll_ex (Ex.new (fp p hp)) _ _ rb)))
  · cases sx with
    | @lst a xs _ ha ra => cases sy with
      | @lst b ys _ hb rb =>
        have la := rpAll_len ra
        have lb := rpAll_len rb
        refine op_cat pins s σ H _ _ v u Q I rx ry ⟨a, b, xs, ys, rfl, rfl, ex a _ ha, ex b _ hb, by rw [la, lb]; exact hd.1, fun p hp => ?_⟩
        exact kn _ _ hd.2 (fun _ z => by cases z) p hp (.lst upd_same (rpAll_append (dpAll_ex (Ex.new (fp p hp)) _ _ ra) (dpAll_ex (Ex.new (fp p hp)) _ _ rb)))
  · cases sx; cases sy
    exact op_sub pins s σ H _ _ v u Q I rx ry ⟨_, _, rfl, rfl, kl _ hd _ (.int _)⟩
  · cases sx; cases sy
    exact op_mulW pins s σ H _ _ v u Q I rx ry ⟨_, _, rfl, rfl, hd.1, kl _ hd.2 _ (.int _)⟩
  · cases sx with
    | @lst a xs _ ha ra => cases sy with
      | int =>
        have la := rpAll_len ra
        refine op_rep pins s σ H _ _ v u Q I rx ry ⟨a, _, xs, rfl, rfl, ex a _ ha, hd.1, hd.2.1, by rw [la]; exact hd.2.2.1, fun p hp => ?_⟩
        exact kn _ _ hd.2.2.2 (fun _ z => by cases z) p hp (.lst upd_same (rpAll_rep (dpAll_ex (Ex.new (fp p hp)) _ _ ra) _))
  · cases sx; cases sy
    obtain ⟨t, rfl⟩ := rx
    obtain ⟨u, rfl⟩ := ry
    exact SB.mul hd.1 fun t2 k2 => ⟨.str _, H, I.tok _, ⟨t2, rfl⟩, kl _ hd.2 _ (.str _)⟩
  · cases sx; cases sy
    exact op_fdivW pins s σ H _ _ v u Q I rx ry ⟨_, _, rfl, rfl, hd.1, kl _ hd.2 _ (.int _)⟩
  · cases sx; cases sy
    exact op_mod pins s σ H _ _ v u Q I rx ry ⟨_, _, rfl, rfl, hd.1, kl _ hd.2 _ (.int _)⟩
  · cases sx; cases sy
    exact op_pow pins s σ H _ _ v u Q I rx ry ⟨_, _, rfl, rfl, hd.1, kl _ hd.2 _ (.int _)⟩
  · exact hd.elim

theorem none_v {K : PySem.W.Frag} {F : Hp} {v : V} {d : PyData} (r : Rp K F v d) : decide (v = V.non) = isNoneS (.d d) := by
  cases r <;> rfl
theorem rpAll_empty {K : PySem.W.Frag} {F : Hp} {xs : List V} {ds : List PyData} (r : RpAll K F xs ds) : xs.isEmpty = ds.isEmpty := by
  cases r <;> rfl
theorem flat_v {K : PySem.W.Frag} {F : Hp} {v : V} {d : PyData} (r : Rp K F v d) (h : flatD d = true) : flatV v = true := by
  cases r <;> first | rfl | cases h
theorem eq_v {K : PySem.W.Frag} {F : Hp} {v w : V} {d e : PyData} (r : Rp K F v d) (q : Rp K F w e) (h : flatD d = true) (g : flatD e = true) : eqV v w = eqF d e := by
  cases r <;> first | (cases h; done) | (cases q <;> first | rfl | (cases g; done))
theorem flat_all {K : PySem.W.Frag} {F : Hp} : ∀ {vs : List V} {ds : List PyData}, RpAll K F vs ds → ds.all flatD = true → vs.all flatV = true
  | _, _, .nil, _ => rfl
  | _, _, .cons r t, h => by
    rw [List.all_cons, Bool.and_eq_true] at h
    rw [List.all_cons, flat_v r h.1, flat_all t h.2, Bool.and_self]
theorem any_v {K : PySem.W.Frag} {F : Hp} {x : V} {d : PyData} (rx : Rp K F x d) (hx : flatD d = true) : ∀ {vs : List V} {ds : List PyData}, RpAll K F vs ds → ds.all flatD = true → inV x vs = ds.any fun y => eqF y d
  | _, _, .nil, _ => rfl
  | v :: vs, e :: ds, .cons r t, h => by
    rw [List.all_cons, Bool.and_eq_true] at h
    show (eqV v x || inV x vs) = (eqF e d || ds.any fun y => eqF y d)
    rw [eq_v r rx h.1 hx, any_v rx hx t h.2]
theorem opC (hu : X.A.units + 65 < cLine) : ∀ op : CmpOp, OpR X (compareOp op) (rS2 X.K fun x y P => dcmp op x y fun b => P (.d (.bool b))) := by
  intro op pins s σ H vx vy v u Q I rx ry h
  obtain ⟨F, x, y, P, ex, sx, sy, hd, k⟩ := h
  have kl : ∀ z : Bool, P (.d (.bool z)) → Q (.bl z) H := fun z p => k _ p _ F H (Fm.refl ex) (.bl z)
  have hu64 : X.A.units + 64 < cLine := by omega
  unfold dcmp at hd
  split at hd
  · exact op_eqD hu64 pins s σ H _ _ v u Q I rx ry ⟨_, _, Rp.dp _ _ (dp_ex ex _ _ sx), Rp.dp _ _ (dp_ex ex _ _ sy), hd.1, hd.2.1, kl _ hd.2.2⟩
  · exact op_neD hu64 pins s σ H _ _ v u Q I rx ry ⟨_, _, Rp.dp _ _ (dp_ex ex _ _ sx), Rp.dp _ _ (dp_ex ex _ _ sy), hd.1, hd.2.1, kl _ hd.2.2⟩
  · cases sx; cases sy
    exact op_lt pins s σ H _ _ v u Q I rx ry ⟨_, _, rfl, rfl, kl _ hd⟩
  · cases sx; cases sy
    exact op_le pins s σ H _ _ v u Q I rx ry ⟨_, _, rfl, rfl, kl _ hd⟩
  · cases sx; cases sy
    exact op_gt pins s σ H _ _ v u Q I rx ry ⟨_, _, rfl, rfl, kl _ hd⟩
  · cases sx; cases sy
    exact op_ge pins s σ H _ _ v u Q I rx ry ⟨_, _, rfl, rfl, kl _ hd⟩
  · cases sx; cases sy
    exact op_lt_str pins s σ H _ _ v u Q I rx ry ⟨_, _, rfl, rfl, kl _ hd⟩
  · obtain ⟨h1, h2, h3⟩ := hd
    cases sy with
    | @lst b ys _ hb rb => exact op_in_seq pins s σ H _ _ v u Q I rx ry ⟨b, ys, rfl, .inl (.inl (.inl (ex _ _ hb))), flat_v sx h1, flat_all rb h2, kl _ (by rw [if_neg Bool.false_ne_true, any_v sx h1 rb h2]; exact h3)⟩
  · obtain ⟨h1, h2, h3⟩ := hd
    cases sy with
    | @tup b ys _ hb rb => exact op_in_seq pins s σ H _ _ v u Q I rx ry ⟨b, ys, rfl, .inr (ex_t ex hb), flat_v sx h1, flat_all rb h2, kl _ (by rw [if_neg Bool.false_ne_true, any_v sx h1 rb h2]; exact h3)⟩
  · obtain ⟨h1, h2, h3⟩ := hd
    cases sy with
    | @lst b ys _ hb rb => exact op_notIn_seq pins s σ H _ _ v u Q I rx ry ⟨b, ys, rfl, .inl (.inl (.inl (ex _ _ hb))), flat_v sx h1, flat_all rb h2, kl _ (by rw [if_pos rfl, any_v sx h1 rb h2]; exact h3)⟩
  · obtain ⟨h1, h2, h3⟩ := hd
    cases sy with
    | @tup b ys _ hb rb => exact op_notIn_seq pins s σ H _ _ v u Q I rx ry ⟨b, ys, rfl, .inr (ex_t ex hb), flat_v sx h1, flat_all rb h2, kl _ (by rw [if_pos rfl, any_v sx h1 rb h2]; exact h3)⟩
  · obtain ⟨c, e, h3⟩ := hd
    subst e
    cases sx; cases sy
    exact op_in_sign pins s σ H _ _ v u Q I rx ry ⟨_, _, rfl, rfl, kl _ h3⟩
  · obtain ⟨c, e, h3⟩ := hd
    subst e
    cases sx; cases sy
    exact op_notIn_sign pins s σ H _ _ v u Q I rx ry ⟨_, _, rfl, rfl, kl _ h3⟩
  · cases sy
    refine op_isN pins s σ H _ _ v u Q I rx ry ⟨rfl, ?_⟩
    rw [none_v sx]
    exact kl _ hd
  · cases sy
    refine op_notN pins s σ H _ _ v u Q I rx ry ⟨rfl, ?_⟩
    rw [none_v sx]
    exact kl _ hd
  · cases sx; cases sy
    exact op_is_bl pins s σ H _ _ v u Q I rx ry ⟨_, _, rfl, rfl, kl _ hd⟩
  · cases sx; cases sy
    exact op_isnot_bl pins s σ H _ _ v u Q I rx ry ⟨_, _, rfl, rfl, kl _ hd⟩
  · exact hd.elim
/-- truth -/
theorem tru_v {K : PySem.W.Frag} {F H : Hp} {v : V} {x : Sl} {P : Bool → Prop} (ex : Ex F H) (sx : Sr K F v x) (h : dtru x P) : ∃ k, TruV K v H k ∧ P k := by
  unfold dtru at h
  split at h
  · cases sx
    exact ⟨_, rfl, h⟩
  · cases sx
    exact ⟨_, rfl, h⟩
  · cases sx
    exact ⟨_, rfl, h⟩
  · cases sx
    exact ⟨_, ⟨h.1, rfl⟩, h.2⟩
  · cases sx with
    | @lst a xs ds ha ra =>
      refine ⟨_, .inl ⟨xs, .inl (.inl (ex _ _ ha)), rfl⟩, ?_⟩
      rw [rpAll_empty ra]
      exact h
  · cases sx with
    | @tup a xs ds ha ra =>
      refine ⟨_, .inr (.inl ⟨xs, ex_t ex ha, rfl⟩), ?_⟩
      rw [rpAll_empty ra]
      exact h
  · exact h.elim
theorem atI_rp {K : PySem.W.Frag} {F : Hp} {xs : List V} {ds : List PyData} {i : Int} {d : PyData} (r : RpAll K F xs ds) (h : atI ds i = some d) : ∃ v, atI xs i = some v ∧ Rp K F v d := by
  unfold atI at h ⊢
  rw [rpAll_len r]
  cases e : ixN ds.length i with
  | none =>
    rw [e] at h
    cases h
  | some j =>
    rw [e] at h
    exact rpAll_get r h
/-- d[k], d a dict -/
theorem ix_dict (hu : X.A.units + 1 < cLine) : IxR X (fun x y H Q => ∃ a v, x = .ref a ∧ DGet H a y (some v) ∧ Q v H) := by
  intro value slice pins s σ H x y v u Q I rx ry h hs
  obtain ⟨a, w, rfl, g, q⟩ := h
  obtain rfl : v = Value.ref a := rx
  have hT := dict_typeIs I g
  unfold subscriptTail
  refine wpAny_bind ?_
  rw [getitemInPython_of_ne hT.not_modules]
  refine wpAny_bind (wpAny_specialOf hT PySem.F.slot_dict_getitem.lookup ?_)
  have fin : wpAny (model X.prog X.w) X.A (subscripted slice false (.ref a) u) (fun r s₃ => wpAny (model X.prog X.w) X.A (letTemporaryGo value (.ref a) r >>= fun _ => pure r) (EP X pins σ Q) X.xe s₃) X.xe s := by
    rw [hs]
    exact wpAny_operating (wpAny_mono (d_getItem hu I g ry fun w' s3 I3 rw' => (⟨w, H, I3, rw', q⟩ : EP X pins σ Q w' s3)) (fun r s₃ h₃ => wpAny_bind (wpAny_letTemporaryGo (wpAny_pure h₃))) fun _ _ x => x)
  first
    | exact wpAny_pure (wpAny_bind fin)
    | exact wpAny_bind (wpAny_pure (wpAny_bind fin))
    | exact wpAny_bind fin
theorem zip_val {K : PySem.W.Frag} {F : Hp} {k : Str} {z : PyData} : ∀ {kvs : List (Key × PyData)} {vs : List V}, RpAll K F vs (kvs.map (·.2)) → lookK kvs k = some z → ∃ w, valV ((kvs.map (·.1)).zip vs) (.inr k) = some w ∧ Rp K F w z
  | [], _, _, h => by cases h
  | (.inr x, d) :: kvs, _, r, h => by
    cases r with
    | @cons v vs _ _ r1 r2 =>
      unfold lookK at h
      by_cases e : x = k
      · rw [if_pos e] at h
        cases h
        exact ⟨v, valV_pos (by rw [e]), r1⟩
      · rw [if_neg e] at h
        obtain ⟨w, h1, h2⟩ := zip_val r2 h
        refine ⟨w, (valV_neg ?_).trans h1, h2⟩
        intro q
        exact e (Sum.inr.inj q)
  | (.inl x, d) :: kvs, _, r, h => by
    cases r with
    | @cons v vs _ _ r1 r2 =>
      unfold lookK at h
      obtain ⟨w, h1, h2⟩ := zip_val r2 h
      refine ⟨w, (valV_neg ?_).trans h1, h2⟩
      intro q
      cases q
theorem ixS (hu : X.A.units + 1 < cLine) : IxR X (rS2 X.K dix) := by
  intro a b pins s σ H vx vy v u Q I rx ry h
  obtain ⟨F, x, y, P, ex, sx, sy, hd, k⟩ := h
  refine ix_seq.or (ix_dict hu) a b pins s σ H vx vy v u Q I rx ry ?_
  unfold dix at hd
  split at hd
  · cases sy
    cases sx with
    | @lst a xs ds ha ra =>
      split at hd
      · rename_i z e
        obtain ⟨w, e2, r⟩ := atI_rp ra e
        exact .inl (.inl ⟨a, xs, _, w, rfl, rfl, .inl (.inl (ex _ _ ha)), e2, k _ hd w F H (Fm.refl ex) r⟩)
      · exact hd.elim
  · cases sy
    cases sx with
    | @tup a xs ds ha ra =>
      split at hd
      · rename_i z e
        obtain ⟨w, e2, r⟩ := atI_rp ra e
        exact .inl (.inr (.inl ⟨a, xs, _, w, rfl, rfl, ex_t ex ha, e2, k _ hd w F H (Fm.refl ex) r⟩))
      · exact hd.elim
  · cases sy
    cases sx
    obtain ⟨hl, hd⟩ := hd
    split at hd
    · rename_i c e
      exact .inl (.inr (.inr ⟨_, _, c, rfl, rfl, hl, e, k _ hd _ F H (Fm.refl ex) (.str _)⟩))
    · exact hd.elim
  · rename_i kvs k2
    cases sy
    obtain ⟨a, vs, rfl, ha, ra⟩ := sx
    split at hd
    · rename_i z e
      obtain ⟨w, e2, r⟩ := zip_val ra e
      exact .inr ⟨a, w, rfl, .inl ⟨_, .inr k2, .inl (ex _ _ ha), rfl, e2.symm⟩, k _ hd w F H (Fm.refl ex) r⟩
    · exact hd.elim
  · exact hd.elim
end
end Z
set_option Elab.async false
set_option linter.all false
set_option maxRecDepth 100000
set_option maxHeartbeats 4000000
namespace Z
open PySem PySem.Spec PyProof.Rows L2 Evl

/-! ### a def's promise; r: it may want that no guard stands around -/
/-- called by values alone -/
structure FnC (r : Bool) (P : Program) (w : World) (K : PySem.W.Frag) (mg : Str → Option Value) (base : Heap) (CX : CXT) (k : Nat) (f : Addr) (sp : Sp) : Prop where
  go : ∀ (A : Around) (outer : List Env) (s : Shared) (H : Hp) (us : List Value) (vs : List V) (Q : VK) (E : XK),
    (r = true → A.guards = some []) → Room k A → Env0 P w K mg base A outer s H → Vals vs us →
    sp vs H Q E → codeAny (model P w) A (.call (.ref f) ⟨us, []⟩) (CR CX outer P w H s Q E) s
/-- called by n values and keywords -/
structure FnKC (r : Bool) (P : Program) (w : World) (K : PySem.W.Frag) (mg : Str → Option Value) (base : Heap) (CX : CXT) (k : Nat) (f : Addr) (n : Nat) (ks : List Str) (sp : Sp) : Prop where
  go : ∀ (A : Around) (outer : List Env) (s : Shared) (H : Hp) (us ws : List Value) (vs zs : List V) (Q : VK) (E : XK),
    (r = true → A.guards = some []) → Room k A → Env0 P w K mg base A outer s H → Vals vs us → Vals zs ws → vs.length = n → zs.length = ks.length →
    sp (vs ++ zs) H Q E → codeAny (model P w) A (.call (.ref f) ⟨us, ks.zip ws⟩) (CR CX outer P w H s Q E) s
theorem FnC.mono {r : Bool} {P : Program} {w : World} {K : PySem.W.Frag} {mg : Str → Option Value} {base : Heap} {CX : CXT} {j k : Nat} {f : Addr} {sp : Sp} (G : FnC r P w K mg base CX j f sp) (h : j ≤ k) : FnC r P w K mg base CX k f sp :=
  ⟨fun A outer s H us vs Q E hg hr => G.go A outer s H us vs Q E hg (hr.mono h)⟩
theorem FnKC.mono {r : Bool} {P : Program} {w : World} {K : PySem.W.Frag} {mg : Str → Option Value} {base : Heap} {CX : CXT} {j k n : Nat} {f : Addr} {ks : List Str} {sp : Sp} (G : FnKC r P w K mg base CX j f n ks sp) (h : j ≤ k) : FnKC r P w K mg base CX k f n ks sp :=
  ⟨fun A outer s H us ws vs zs Q E hg hr => G.go A outer s H us ws vs zs Q E hg (hr.mono h)⟩
theorem FnC.weak {P : Program} {w : World} {K : PySem.W.Frag} {mg : Str → Option Value} {base : Heap} {CX : CXT} {k : Nat} {f : Addr} {sp : Sp} (G : FnC false P w K mg base CX k f sp) (r : Bool) : FnC r P w K mg base CX k f sp :=
  ⟨fun A outer s H us vs Q E _ => G.go A outer s H us vs Q E (fun z => by cases z)⟩
section
variable {r : Bool} {X : Cx} {CX : CXT} {k n : Nat} {f : Addr} {sp : Sp} {x : Str} {p pos : Pos} {e : Expr} {es : List Expr} {t tk : TA} {ks : List Str} {kws : List Keyword}
theorem run_fg {pins : List (Addr × Obj)} {σ : L2.St} {H : Hp} {s : Shared} {Q : VK} {us : List Value} {vs : List V} {E : XK}
    (G : FnC r X.prog X.w X.K X.mg X.base CX k f sp) (hg : r = true → X.A.guards = some []) (hr : Room k X.A) (hx : Passes CX X E)
    (I : L2.Inv X pins σ H s) (rv : Vals vs us) (h : sp vs H Q E) : wpAny (model X.prog X.w) X.A (call (.ref f) us) (EP X pins σ Q) X.xe s := by
  refine wpAny_call (codeAny_mono (G.go X.A X.stack s H us vs Q E hg hr I.env0 rv h) ?_)
  intro z s' hz
  match z, hz with
  | .error z, hz => exact hx pins σ H s z s' I hz
  | .ok (.ret z), hz => exact I.after hz
  | .ok .next, hz => exact hz.elim
  | .ok .brk, hz => exact hz.elim
  | .ok .cont, hz => exact hz.elim
theorem run_kg {pins : List (Addr × Obj)} {σ : L2.St} {H : Hp} {s : Shared} {Q : VK} {us ws : List Value} {vs zs : List V} {E : XK}
    (G : FnKC r X.prog X.w X.K X.mg X.base CX k f n ks sp) (hg : r = true → X.A.guards = some []) (hr : Room k X.A) (hx : Passes CX X E)
    (I : L2.Inv X pins σ H s) (rv : Vals vs us) (rz : Vals zs ws) (l1 : vs.length = n) (l2 : zs.length = ks.length) (h : sp (vs ++ zs) H Q E) : wpAny (model X.prog X.w) X.A (call (.ref f) us (ks.zip ws)) (EP X pins σ Q) X.xe s := by
  refine wpAny_call (codeAny_mono (G.go X.A X.stack s H us ws vs zs Q E hg hr I.env0 rv rz l1 l2 h) ?_)
  intro z s' hz
  match z, hz with
  | .error z, hz => exact hx pins σ H s z s' I hz
  | .ok (.ret z), hz => exact I.after hz
  | .ok .next, hz => exact hz.elim
  | .ok .brk, hz => exact hz.elim
  | .ok .cont, hz => exact hz.elim
theorem pe_fg {E : XK} (G : FnC r X.prog X.w X.K X.mg X.base CX k f sp) (gs : r = true → X.A.guards = some []) (hr : Room k X.A) (hg : Gl X x) (hm : X.mg x = some (.ref f)) (hk : PySem.W.keepIn X.K (.ref f) = true)
    (hx : Passes CX X E) (ha : PA X (e :: es) t) (hdb : (x == ("__debug__" : Str)) = false)
    (he : starEach (e :: es) X.env = (false, eval e X.env) :: starEach es X.env) (hp : (backTo pos (starEach es X.env)).any (·.1) = false) : PE X (.Call (.Name x p) (e :: es) [] pos) (fun σ H Q => t σ H fun vs H1 => sp vs H1 Q E) := by
  constructor
  intro pins s σ H Q I h
  apply wpAny_Call_Name_kw
  refine ld_glob I hg hm ?_ hdb
  exact PySem.W.callWith_K (h₀ := X.base) I.ok.mod.kin hk (thn (ha.run pos pins s σ H _ I h) fun us s1 ⟨vs, H1, I1, r, q⟩ => ⟨I1.kIn, run_fg G gs hr hx I1 r q⟩) he hp
theorem pe_fg0 {E : XK} (G : FnC r X.prog X.w X.K X.mg X.base CX k f sp) (gs : r = true → X.A.guards = some []) (hr : Room k X.A) (hg : Gl X x) (hm : X.mg x = some (.ref f)) (hk : PySem.W.keepIn X.K (.ref f) = true)
    (hx : Passes CX X E) (hdb : (x == ("__debug__" : Str)) = false) : PE X (.Call (.Name x p) [] [] pos) (fun σ H Q => sp [] H Q E) := by
  constructor
  intro pins s σ H Q I h
  apply wpAny_Call_Name_kw
  refine ld_glob I hg hm ?_ hdb
  exact PySem.W.callWith_K0 I.kIn hk (run_fg (us := []) (vs := []) G gs hr hx I .nil h)
/-- f(e, .., k = v, ..) -/
theorem pe_kg {E : XK} (G : FnKC r X.prog X.w X.K X.mg X.base CX k f n ks sp) (gs : r = true → X.A.guards = some []) (hr : Room k X.A) (hg : Gl X x) (hm : X.mg x = some (.ref f)) (hk : PySem.W.keepIn X.K (.ref f) = true)
    (hx : Passes CX X E) (ha : PA X (e :: es) t) (hkw : PK X kws tk) (hall : (backToKw pos (keywordEach kws X.env)).all (·.1.isSome) = true) (hks : (backToKw pos (keywordEach kws X.env)).filterMap (·.1) = ks) (hdb : (x == ("__debug__" : Str)) = false)
    (he : starEach (e :: es) X.env = (false, eval e X.env) :: starEach es X.env) (hp : ((backTo pos (starEach (e :: es) X.env)).any (·.1) || (backToKw pos (keywordEach kws X.env)).any (·.1.isNone)) = false) :
    PE X (.Call (.Name x p) (e :: es) kws pos) (fun σ H Q => t σ H fun vs H1 => tk σ H1 fun zs H2 => vs.length = n ∧ zs.length = ks.length ∧ sp (vs ++ zs) H2 Q E) := by
  constructor
  intro pins s σ H Q I h
  apply wpAny_Call_Name_kw
  refine ld_glob I hg hm ?_ hdb
  refine PySem.W.callWith_KW (h₀ := X.base) I.ok.mod.kin hk hall (thn (ha.run pos pins s σ H _ I h) fun us s1 ⟨vs, H1, I1, r1, q1⟩ => ?_) hp he
  refine thn (hkw.run pos pins s1 σ H1 _ I1 q1) fun ws s2 ⟨zs, H2, I2, r2, l1, l2, q2⟩ => ⟨I2.kIn, ?_⟩
  rw [hks]
  exact run_kg G gs hr hx I2 r1 r2 l1 l2 q2
/-- f(k = v, ..) -/
theorem pe_kg0 {E : XK} (G : FnKC r X.prog X.w X.K X.mg X.base CX k f 0 ks sp) (gs : r = true → X.A.guards = some []) (hr : Room k X.A) (hg : Gl X x) (hm : X.mg x = some (.ref f)) (hk : PySem.W.keepIn X.K (.ref f) = true)
    (hx : Passes CX X E) (hkw : PK X kws tk) (hall : (backToKw pos (keywordEach kws X.env)).all (·.1.isSome) = true) (hks : (backToKw pos (keywordEach kws X.env)).filterMap (·.1) = ks) (hdb : (x == ("__debug__" : Str)) = false)
    (hp : ((backTo pos (starEach [] X.env)).any (·.1) || (backToKw pos (keywordEach kws X.env)).any (·.1.isNone)) = false) :
    PE X (.Call (.Name x p) [] kws pos) (fun σ H Q => tk σ H fun zs H1 => zs.length = ks.length ∧ sp zs H1 Q E) := by
  constructor
  intro pins s σ H Q I h
  apply wpAny_Call_Name_kw
  refine ld_glob I hg hm ?_ hdb
  refine PySem.W.callWith_KW0 (h₀ := X.base) I.ok.mod.kin hk hall ?_ hp
  refine thn (hkw.run pos pins s σ H _ I h) fun ws s2 ⟨zs, H2, I2, r2, l2, q2⟩ => ⟨I2.kIn, ?_⟩
  rw [hks]
  exact run_kg (us := []) (vs := []) G gs hr hx I2 .nil r2 rfl l2 q2
end
/-- a def's body, run with its parameters bound -/
structure FnG (r : Bool) (P : Program) (w : World) (K : PySem.W.Frag) (mg : Str → Option Value) (base : Heap) (CX : CXT) (k : Nat) (f : Addr) (fd : FuncData) (ps : List Str) (sp : Sp) : Prop where
  many : ∀ vs H Q E, sp vs H Q E → vs.length = ps.length
  go : ∀ (A : Around) (outer : List Env) (s : Shared) (H : Hp) (args : Args) (us : List Value) (vs : List V) (Q : VK) (E : XK),
    (r = true → A.guards = some []) → Room k A → Env0 P w K mg base A outer s H → BindsTo s fd args (ps.zip us) → Vals vs us →
    sp vs H Q E → codeAny (model P w) A (.call (.ref f) args) (CR CX outer P w H s Q E) s
theorem FnG.ok {P : Program} {w : World} {K : PySem.W.Frag} {mg : Str → Option Value} {base : Heap} {CX : CXT} {k : Nat} {f : Addr} {fd : FuncData} {ps : List Str} {sp : Sp} (G : FnG false P w K mg base CX k f fd ps sp) : FnOk P w K mg base CX k f fd ps sp :=
  ⟨G.many, fun A outer s H args us vs Q E hr he hb hv q => G.go A outer s H args us vs Q E (fun z => by cases z) hr he hb hv q⟩
/-- called by values; the last ones by default -/
theorem FnG.call {r : Bool} {P : Program} {w : World} {K : PySem.W.Frag} {mg : Str → Option Value} {base : Heap} {CX : CXT} {k : Nat} {f : Addr} {fd : FuncData} {ps : List Str} {sp : Sp} {dv : List V} {du : List Value}
    (G : FnG r P w K mg base CX k f fd ps sp) (hb : Binds K fd ps du) (hd : Vals dv du) : FnC r P w K mg base CX k f fun vs H Q E => sp (vs ++ dv) H Q E := by
  refine ⟨fun A outer s H us vs Q E hg hr he rv q => ?_⟩
  have kin : K.In s.heap := he.mod.kin.keeps fun b o e => (he.bs b o e).1
  have r2 : Vals (vs ++ dv) (us ++ du) := rv.append hd
  have hl : (us ++ du).length = ps.length := by
    rw [← r2.length]
    exact G.many _ H Q E q
  exact G.go A outer s H ⟨us, []⟩ (us ++ du) (vs ++ dv) Q E hg hr he (hb s us kin hl) r2 q
theorem FnG.callK {r : Bool} {P : Program} {w : World} {K : PySem.W.Frag} {mg : Str → Option Value} {base : Heap} {CX : CXT} {k n : Nat} {f : Addr} {fd : FuncData} {ps ks : List Str} {sp : Sp} {g : List Value → List Value → List Value} {gV : List V → List V → List V}
    (G : FnG r P w K mg base CX k f fd ps sp) (hb : KBn K fd ps n ks g gV) : FnKC r P w K mg base CX k f n ks fun vz H Q E => sp (gV (vz.take n) (vz.drop n)) H Q E := by
  refine ⟨fun A outer s H us ws vs zs Q E hg hr he rv rz l1 l2 q => ?_⟩
  have kin : K.In s.heap := he.mod.kin.keeps fun b o e => (he.bs b o e).1
  have e1 : (vs ++ zs).take n = vs := by
    rw [← l1]
    simp
  have e2 : (vs ++ zs).drop n = zs := by
    rw [← l1]
    simp
  rw [e1, e2] at q
  exact G.go A outer s H ⟨us, ks.zip ws⟩ (g us ws) (gV vs zs) Q E hg hr he (hb.to s us ws kin (rv.length.symm.trans l1) (rz.length.symm.trans l2)) (hb.rel rv rz) q
/-- a def of the text keeps its promise by its body -/
theorem FunD_okG {r : Bool} {P : Program} {w : World} {K : PySem.W.Frag} {mg : Str → Option Value} {base : Heap} {x qual : Str} {params : Arguments} {body : List Stmt} {scope : Scope} {dvs : List V} {kws : List (Str × V)} {f : Addr} {fd : FuncData}
    {CX : CXT} {N ps : List Str} {k : Nat} {sp : Sp} (F : FunD K x qual params body scope dvs kws f fd) (SC : FnScope N ps scope) (many : ∀ vs H Q E, sp vs H Q E → vs.length = ps.length)
    (hb : ∀ (cdv : Value) (A : Around) (outer : List Env) (s : Shared) (H : Hp) (vs : List V) (Q : VK) (E : XK), (r = true → (A.deeper (envOfC qual scope s.heap.objs.size f cdv)).guards = some []) → Room k (A.deeper (envOfC qual scope s.heap.objs.size f cdv)) → sp vs H Q E →
      ∃ t, PSs (cxOf CX P w K mg base N qual scope f cdv A outer s H E) body t ∧ t { nx := fun _ H' => Q .non H', rt := Q } (start N vs) H) : FnG r P w K mg base CX (k + 1) f fd ps sp := by
  obtain ⟨oc, od, dV, kV, doc, pm, an, cdv, ct, osl, rfl, lk, hcd, _, _⟩ := F.ex
  refine ⟨many, ?_⟩
  intro A outer s H args us vs Q E hg hr e0 hbi r hsp
  have hl := many vs H Q E hsp
  have kin : K.In s.heap := e0.mod.kin.keeps fun b o e => (e0.bs b o e).1
  have nl : s.heap.NoLimit := e0.mod.nolimit.keeps fun b o e => (e0.bs b o e).1
  have kinds : ∀ y ∈ ps.zip us, scope.names.lookup y.1 = some .local ∨ (scope.names.lookup y.1 = some .cell ∧ ((cellsFrom (s.heap.objs.size + 1) scope.names []).lookup y.1).isSome = true) := by
    rintro ⟨n, v⟩ hy
    have hn : n ∈ ps := (List.of_mem_zip hy).1
    cases SC.par n hn with
    | inl q => exact .inl q
    | inr q => exact .inr ⟨q, PySem.W.cellsFrom_some _ _ _ (.inl q)⟩
  apply codeAny_call_function hr.depth (kin _ _ lk) rfl SC.co SC.gen rfl (PySem.W.codeRec_of kin hcd)
  apply hbi
  apply wpAny_newFunctionEnv_cells SC.kind kinds
  intro env he s1 ic
  subst he
  refine ⟨nl.keeps ic.toInCall.keep, codeAny_func ?_⟩
  obtain ⟨t, ht, hq⟩ := hb cdv A outer s H vs Q E hg (hr.deeper _) hsp
  have J0 : L2.Inv (cxOf CX P w K mg base N qual scope f cdv A outer s H E) [] (start N vs) H s1 := inv_start SC hr.hd e0 hl r ic
  have endOf : ∀ {σ2 : L2.St} {H2 : Hp} {v : V} {u : Value} {s2 : Shared}, L2.Inv (cxOf CX P w K mg base N qual scope f cdv A outer s H E) [] σ2 H2 s2 → RelV v u → Q v H2 → CE outer P w H s Q u s2 := by
    intro σ2 H2 v u s2 J rv q
    exact ⟨v, H2, J.os, J.bare, J.base, J.hok, rv, q⟩
  refine wpAny_mono (ht.run [] s1 (start N vs) H _ J0 hq) ?_ fun z s2 hz => hz
  intro fl s2 hs
  match fl, hs with
  | .ret u, ⟨v, σ2, H2, J, rv, q⟩ => exact endOf J rv q
  | .next, ⟨σ2, H2, J, q⟩ => exact endOf (v := V.non) (u := Value.none) J rfl q
  | .brk, ⟨_, _, _, q⟩ => exact q.elim
  | .cont, ⟨_, _, _, q⟩ => exact q.elim

/-! ### built-ins -/
theorem boolsD_rp {K : PySem.W.Frag} {F : Hp} : ∀ {xs : List V} {ds : List PyData} {bs : List Bool}, RpAll K F xs ds → boolsD ds = some bs → xs = bs.map V.bl
  | _, _, bs, .nil, h => by
    have e : bs = [] := (Option.some.inj h).symm
    rw [e]
    rfl
  | _, d :: ds, bs, .cons r t, h => by
    unfold boolsD at h
    cases d with
    | bool b =>
      cases q : boolsD ds with
      | none =>
        simp only [q] at h
        cases h
      | some cs =>
        simp only [q, Option.some.injEq] at h
        subst h
        cases r
        rw [boolsD_rp t q, List.map_cons]
    | _ => cases h
theorem intsD_rp {K : PySem.W.Frag} {F : Hp} : ∀ {xs : List V} {ds : List PyData} {bs : List Int}, RpAll K F xs ds → intsD ds = some bs → xs = bs.map V.int
  | _, _, bs, .nil, h => by
    have e : bs = [] := (Option.some.inj h).symm
    rw [e]
    rfl
  | _, d :: ds, bs, .cons r t, h => by
    unfold intsD at h
    cases d with
    | int b =>
      cases q : intsD ds with
      | none =>
        simp only [q] at h
        cases h
      | some cs =>
        simp only [q, Option.some.injEq] at h
        subst h
        cases r
        rw [intsD_rp t q, List.map_cons]
    | _ => cases h
theorem strsD_rp {K : PySem.W.Frag} {F : Hp} : ∀ {xs : List V} {ds : List PyData} {bs : List Str}, RpAll K F xs ds → strsD ds = some bs → xs = bs.map V.str
  | _, _, bs, .nil, h => by
    have e : bs = [] := (Option.some.inj h).symm
    rw [e]
    rfl
  | _, d :: ds, bs, .cons r t, h => by
    unfold strsD at h
    cases d with
    | str b =>
      cases q : strsD ds with
      | none =>
        simp only [q] at h
        cases h
      | some cs =>
        simp only [q, Option.some.injEq] at h
        subst h
        cases r
        rw [strsD_rp t q, List.map_cons]
    | _ => cases h
theorem srAll1 {K : PySem.W.Frag} {F : Hp} {vs : List V} {s : Sl} (h : SrAll K F vs [s]) : ∃ v, vs = [v] ∧ Sr K F v s := by
  match vs, h with
  | [v], h => exact ⟨v, rfl, h.1⟩
theorem srAll2 {K : PySem.W.Frag} {F : Hp} {vs : List V} {s t : Sl} (h : SrAll K F vs [s, t]) : ∃ v u, vs = [v, u] ∧ Sr K F v s ∧ Sr K F u t := by
  match vs, h with
  | [v, u], h => exact ⟨v, u, rfl, h.1, h.2.1⟩
theorem tyx_rp {K : PySem.W.Frag} {F H : Hp} {v : V} {d : PyData} (ex : Ex F H) (r : Rp K F v d) : TyX K H v (.type (tyName d)) := by
  cases r with
  | non => exact .base .non
  | bl b => exact .base (.bl b)
  | int i => exact .base (.int i)
  | str x => exact .base (.str x)
  | lst h _ => exact .base (.lst (ex _ _ h))
  | tup h _ =>
    rcases h with (h | ⟨o, h⟩) | ⟨o, its, n, hk, hc, _⟩
    · exact .base (.tup (ex _ _ h))
    · exact .fTuple (ex _ _ h)
    · exact .kTuple hk hc
def bfVal : Bf → Value
  | .len => .builtin "len"
  | .isinstance => .builtin "isinstance"
  | .all_ => .builtin "all"
  | .any_ => .builtin "any"
  | .list_ => .type "list"
  | .tuple_ => .type "tuple"
  | .int_ => .type "int"
  | .repr_ => .builtin "repr"
  | .sum_ => .builtin "sum"
section
variable {X : Cx}
theorem callR_imp {f : Value} {r r' : List V → Hp → VK → Prop} (h : CallR X f r) (k : ∀ vs H Q, r' vs H Q → r vs H Q) : CallR X f r' :=
  fun pins s σ H vs us Q I rv q => h pins s σ H vs us Q I rv (k vs H Q q)
theorem callBf {r : Bool} (hc : X.calm = true) (hg : r = true → X.A.guards = some []) (hu : X.A.units + 66 < cLine) : ∀ b : Bf, (b = .repr_ → r = true) → CallR X (bfVal b) (rSn X.K (dcall b)) := by
  intro b hbr pins s σ H vs us Q I rv h
  obtain ⟨F, ss, P, ex, sv, hd, k⟩ := h
  have kl : ∀ (z : PyData) (v : V), P (.d z) → Rp X.K F v z → Q v H := fun z v p r => k _ p v F H (Fm.refl ex) r
  have kn : ∀ (z : PyData) (o : HO), P (.d z) → Nt o → ∀ p, H p = none → Rp X.K (upd F p o) (.ref p) z → Q (.ref p) (upd H p o) := fun z o pz hn p hp r => k _ pz _ _ _ (Fm.new ex hp hn) r
  have fp : ∀ p, H p = none → F p = none := fun p hp => fresh_back ex hp
  unfold dcall at hd
  split at hd
  · obtain ⟨v, rfl, r⟩ := srAll1 sv
    cases r with
    | @lst a xs _ ha ra =>
      refine call_len_seq pins s σ H _ us Q I rv ⟨a, xs, rfl, .inl (.inl (.inl (ex _ _ ha))), ?_⟩
      rw [rpAll_len ra]
      exact kl _ _ hd (.int _)
  · obtain ⟨v, rfl, r⟩ := srAll1 sv
    cases r with
    | @tup a xs _ ha ra =>
      refine call_len_seq pins s σ H _ us Q I rv ⟨a, xs, rfl, .inr (ex_t ex ha), ?_⟩
      rw [rpAll_len ra]
      exact kl _ _ hd (.int _)
  · obtain ⟨v, rfl, r⟩ := srAll1 sv
    cases r
    exact call_len_str pins s σ H _ us Q I rv ⟨_, rfl, hd.1, kl _ _ hd.2 (.int _)⟩
  · obtain ⟨v, u, rfl, r, r2⟩ := srAll2 sv
    have e : u = _ := r2
    subst e
    split at hd
    · rename_i b e
      exact call_isi pins s σ H _ us Q I rv ⟨_, _, _, _, b, rfl, .ty _, tyx_rp ex r, kit_ty e, kl _ _ hd (.bl _)⟩
    · exact hd.elim
  · obtain ⟨v, rfl, r⟩ := srAll1 sv
    cases r with
    | @lst a xs _ ha ra =>
      split at hd
      · rename_i bs e
        have e2 := boolsD_rp ra e
        subst e2
        exact cr_all hc pins s σ H _ us Q I rv ⟨a, bs, rfl, .inl (.inl (ex _ _ ha)), kl _ _ hd (.bl _)⟩
      · exact hd.elim
  · obtain ⟨v, rfl, r⟩ := srAll1 sv
    cases r with
    | @lst a xs _ ha ra =>
      split at hd
      · rename_i bs e
        have e2 := boolsD_rp ra e
        subst e2
        exact cr_any hc pins s σ H _ us Q I rv ⟨a, bs, rfl, .inl (.inl (ex _ _ ha)), kl _ _ hd (.bl _)⟩
      · exact hd.elim
  · obtain ⟨v, rfl, r⟩ := srAll1 sv
    cases r with
    | @lst a xs _ ha ra =>
      exact call_list_of pins s σ H _ us Q I rv ⟨a, xs, rfl, .inl (.inl (.inl (ex _ _ ha))), fun p hp => kn _ _ hd (fun _ z => by cases z) p hp (.lst upd_same (dpAll_ex (Ex.new (fp p hp)) _ _ ra))⟩
  · obtain ⟨v, rfl, r⟩ := srAll1 sv
    cases r with
    | @tup a xs _ ha ra =>
      exact call_list_of pins s σ H _ us Q I rv ⟨a, xs, rfl, .inr (ex_t ex ha), fun p hp => kn _ _ hd (fun _ z => by cases z) p hp (.lst upd_same (dpAll_ex (Ex.new (fp p hp)) _ _ ra))⟩
  · obtain ⟨v, rfl, r⟩ := srAll1 sv
    cases r with
    | @lst a xs _ ha ra =>
      exact call_tuple_of pins s σ H _ us Q I rv ⟨a, xs, rfl, .inl ⟨.inl (.inl (ex _ _ ha)), fun p hp => kn _ _ hd (fun _ z => by cases z) p hp (.tup (.inl (.inl upd_same)) (dpAll_ex (Ex.new (fp p hp)) _ _ ra))⟩⟩
  · obtain ⟨v, rfl, r⟩ := srAll1 sv
    cases r with
    | @tup a xs _ ha ra =>
      exact call_tuple_of pins s σ H _ us Q I rv ⟨a, xs, rfl, .inr ⟨ex_t ex ha, kl _ _ hd (.tup ha ra)⟩⟩
  · obtain ⟨v, rfl, r⟩ := srAll1 sv
    cases r
    exact call_int1 pins s σ H _ us Q I rv (.inl ⟨_, rfl, kl _ _ hd (.int _)⟩)
  · obtain ⟨v, rfl, r⟩ := srAll1 sv
    cases r
    exact call_int1 pins s σ H _ us Q I rv (.inr ⟨_, rfl, kl _ _ hd (.int _)⟩)
  · obtain ⟨v, rfl, r⟩ := srAll1 sv
    cases r with
    | @lst a xs _ ha ra =>
      split at hd
      · rename_i ns e
        have e2 := intsD_rp ra e
        subst e2
        exact cr_sum hc pins s σ H _ us Q I rv ⟨a, ns, rfl, .inl (.inl (ex _ _ ha)), kl _ _ hd (.int _)⟩
      · exact hd.elim
  · obtain ⟨v, rfl, r⟩ := srAll1 sv
    obtain ⟨u, rfl, ru⟩ := vals1 rv
    obtain ⟨h1, h2, h3, h4⟩ := hd
    obtain ⟨as, rd⟩ := Dp.reads I _ v u (Rp.dp _ _ (dp_ex ex _ _ r)) ru
    have hdp := SeqAt.depth_of_shaped h1
    have nd := PyData.hasDict_of_canLay _ (SeqAt.canLay_of_shaped h1)
    have kq : ∀ (h' : Heap) (t : Tok) (tk : Nat), (∀ b o, s.heap.get? b = some o → h'.get? b = some o) → EP X pins σ Q (.str (PyData.shown _) t) { s with heap := h', toks := tk } :=
      fun h' t tk kp => ⟨.str _, H, I.kept kp, ⟨t, rfl⟩, kl _ _ h4 (.str _)⟩
    cases r with
    | non =>
      cases ru
      exact PySem.P.repr_of_none ⟨.str _, H, I.tok _, ⟨_, rfl⟩, kl _ _ h4 (.str _)⟩
    | bl b =>
      cases ru
      exact PySem.P.repr_of_bool ⟨.str _, H, I.tok _, ⟨_, rfl⟩, kl _ _ h4 (.str _)⟩
    | int i =>
      obtain ⟨t, rfl⟩ := ru
      exact PySem.P.repr_of_int (of_decide_eq_true h2) ⟨.str _, H, I.tok _, ⟨_, rfl⟩, kl _ _ h4 (.str _)⟩
    | str z =>
      obtain ⟨t, rfl⟩ := ru
      exact PySem.P.repr_of_str ⟨.str _, H, I.tok _, ⟨_, rfl⟩, kl _ _ h4 (.str _)⟩ h3
    | lst _ _ =>
      cases ru
      exact repr_of_reads' rd h2 (PyData.noDict_hsm nd) (hg (hbr rfl)) (by omega) (fun _ _ e => e) (fun h' t tk kp => kq h' t tk kp) h3
    | tup _ _ =>
      cases ru
      exact repr_of_reads' rd h2 (PyData.noDict_hsm nd) (hg (hbr rfl)) (by omega) (fun _ _ e => e) (fun h' t tk kp => kq h' t tk kp) h3
  · exact hd.elim
end
end Z
set_option Elab.async false
set_option linter.all false
set_option maxRecDepth 100000
set_option maxHeartbeats 4000000
namespace Z
open PySem PySem.Spec PyProof.Rows L2 Evl

section
variable {S : Type}
def FnIs (r : Bool) (X : Cx) (W : Wd S) (spec : Fsp S) (f : Str) : Prop := ∃ CX k a, FnC r X.prog X.w X.K X.mg X.base CX k a (spOf X.K W.rs W.J W.cls spec) ∧ Room k X.A ∧ X.mg f = some (.ref a) ∧ PySem.W.keepIn X.K (.ref a) = true ∧
  Passes CX X W.xe ∧ ∀ X' : Cx, X'.prog = X.prog → X'.w = X.w → X'.K = X.K → Passes CX X' E0
def KfIs (r : Bool) (X : Cx) (W : Wd S) (spec : Fsp S) (f : Str) (n : Nat) (ks : List Str) : Prop := ∃ CX k a, FnKC r X.prog X.w X.K X.mg X.base CX k a n ks (spOf X.K W.rs W.J W.cls spec) ∧ Room k X.A ∧ X.mg f = some (.ref a) ∧ PySem.W.keepIn X.K (.ref a) = true ∧
  Passes CX X W.xe ∧ ∀ X' : Cx, X'.prog = X.prog → X'.w = X.w → X'.K = X.K → Passes CX X' E0
structure CxOk (X : Cx) (W : Wd S) (Γ : Gam S) (sc : Scope) : Prop where
  calm : X.calm = true
  n : X.N = Γ.N
  nd : Γ.N.Nodup
  gl : ∀ x, sc.names.lookup x = some .globalImplicit → X.env.scope.names.lookup x = some .globalImplicit
  lo : ∀ x, sc.names.lookup x = some .local → X.env.scope.names.lookup x = some .local
  ce : ∀ x, sc.names.lookup x = some .cell → X.env.scope.names.lookup x = some .cell
  fr : ∀ x, sc.names.lookup x = some .free → X.env.scope.names.lookup x = some .cell ∨ X.env.scope.names.lookup x = some .free
  fnx : ∀ x, sc.names.lookup x = some .cell → X.fn x = true
  dbg : okSc sc = true
  free : ∀ x, Γ.free.contains x = true → X.mg x = none
  glob : ∀ x sl, Γ.glob.lookup x = some sl → ∃ v u, X.mg x = some u ∧ RelV v u ∧ ∀ F, Sr X.K F v sl
  fns : ∀ f spec, Γ.fns.lookup f = some spec → FnIs Γ.rep X W spec f
  kfs : ∀ f n ks spec, kfOf Γ.kfn f n ks = some spec → KfIs Γ.rep X W spec f n ks
  kind : X.env.scope.kind = .function
  po : PassesOwn (model X.prog X.w) X.A X.env X.xe
  room : X.A.units + 66 < cLine
  gs : Γ.rep = true → X.A.guards = some []
theorem okSc_no {sc : Scope} (h : okSc sc = true) {x : Str} {k : NameKind} (e : sc.names.lookup x = some k) : (x == ("__debug__" : Str)) = false ∧ (x == ("__classdict__" : Str)) = false ∧ x ≠ "__name__" := by
  unfold okSc at h
  simp only [Bool.and_eq_true, Option.isNone_iff_eq_none] at h
  obtain ⟨h1, h2, h3⟩ := h
  refine ⟨?_, ?_, ?_⟩
  · cases q : (x == ("__debug__" : Str)) with
    | false => rfl
    | true =>
      rw [eq_of_beq q, h1] at e
      cases e
  · cases q : (x == ("__classdict__" : Str)) with
    | false => rfl
    | true =>
      rw [eq_of_beq q, h2] at e
      cases e
  · intro q
    rw [q, h3] at e
    cases e
end
theorem pe_false {X : Cx} {e : Expr} {t : TE} (h : ∀ σ H Q, ¬ t σ H Q) : PE X e t := ⟨fun _ _ σ H Q _ q => (h σ H Q q).elim⟩
theorem pt_false {X : Cx} {e : Expr} {t : TT} (h : ∀ σ H Q, ¬ t σ H Q) : PT X e t := ⟨fun _ _ σ H Q _ q => (h σ H Q q).elim⟩
theorem star1 {e : Expr} (es : List Expr) (env : Env) (h : plainE e = true) : starEach (e :: es) env = (false, eval e env) :: starEach es env := by
  cases e <;> first | rfl | cases h
theorem any0 {pos : Pos} (env : Env) : ∀ {es : List Expr}, es.all plainE = true → (backTo pos (starEach es env)).any (·.1) = false
  | [], _ => rfl
  | e :: es, h => by
    rw [List.all_cons, Bool.and_eq_true] at h
    rw [star1 es env h.1]
    show (false || (backTo pos (starEach es env)).any (·.1)) = false
    rw [any0 env h.2]
    rfl
theorem fold0 {e : Expr} (env : Env) (h : setE e = false) (x : Value) : foldedSetIterable e env x = pure x := by
  cases e <;> first | rfl | cases h
theorem mark0 {op : CmpOp} {e : Expr} (h : setE e = false) : behindInMarks op e = false := by
  cases e <;> first | rfl | cases h
theorem last0 {o1 o2 : CmpOp} {a b : Expr} (h : setE b = false) : lastMarks [o1, o2] [a, b] = false := by
  show behindInMarks o2 b = false
  exact mark0 h
theorem plain0 {i : Expr} (h : slE i = false) : PlainIx i := by
  cases i <;> first | (exact fun _ _ => rfl) | cases h
theorem base0 {o : Expr} {m : Str} (env : Env) (h : callE o = false) : attributeBase o m env (eval o env) = eval o env := by
  cases o <;> first | rfl | cases h
theorem true0 {e : Expr} (env : Env) (h : condE e = false) (whole : Sem Value) : isTrue e env whole = (do let v ← whole; standAt e.pos; holding [v] (truthy v)) := by
  cases e <;> first | rfl | cases h | (rename_i op _ _; cases op <;> first | rfl | cases h)
section
variable {X : Cx}
theorem pt_tru {e : Expr} {t : TE} (h : PE X e t) (he : condE e = false) : PT X e (fun σ H R => t σ H fun x H1 => ∃ k, TruV X.K x H1 k ∧ R k H1) := by
  refine ⟨fun pins s σ H R I q => ?_⟩
  refine isTrue_plain (thn (h.run pins s σ H _ I q) ?_) (true0 X.env he _)
  rintro v s1 ⟨x, H1, I1, r1, k, tk, qk⟩
  exact tru_ok pins s1 σ H1 x v R I1 r1 ⟨k, tk, qk⟩
end

section
variable {S : Type} {X : Cx} {W : Wd S} {Γ : Gam S} {sc : Scope} {n : Nat}
theorem pe_w {e : Expr} {t : TE} (h : PE X e t) (k : ∀ σ H R ε s Qd Ed F, wE Γ n false sc ε s e Qd Ed → Cy X.K W F H σ ε s Ed → Kq X.K W F H Qd R → t σ H R) : PE X e (tWE X.K W Γ n sc e) :=
  pe_imp h fun σ H R ⟨ε, s, Qd, Ed, F, hw, cy, kq⟩ => k σ H R ε s Qd Ed F hw cy kq
theorem pt_w {e : Expr} {t : TT} (h : PT X e t) (k : ∀ σ H R ε s Qd Ed F, wE Γ n true sc ε s e Qd Ed → Cy X.K W F H σ ε s Ed → Kb W F H Qd R → t σ H R) : PT X e (tWT X.K W Γ n sc e) :=
  pt_imp h fun σ H R ⟨ε, s, Qd, Ed, F, hw, cy, kq⟩ => k σ H R ε s Qd Ed F hw cy kq
/-- an argument list -/
def tWA (K : PySem.W.Frag) (W : Wd S) (Γ : Gam S) (n : Nat) (sc : Scope) (es : List Expr) : TA := fun σ H R => ∃ ε s Qd Ed F, wArgs (fun e s Q => wE Γ n false sc ε s e Q Ed) es s Qd ∧ Cy K W F H σ ε s Ed ∧
  (∀ (vs : List V) (ss : List Sl) (s2 : S) (F2 H2 : Hp), Fm W.rs F H F2 H2 → W.J s2 F2 H2 → Qd ss s2 → SrAll K F2 vs ss → R vs H2)
theorem wArgs_cons {f : Expr → S → QS S → Prop} {e : Expr} {es : List Expr} {s : S} {Q : List Sl → S → Prop} (h : plainE e = true) : wArgs f (e :: es) s Q = f e s fun x s1 => wArgs f es s1 fun xs s2 => Q (x :: xs) s2 := by
  cases e <;> first | rfl | cases h
theorem srAll_data {K : PySem.W.Frag} {F : Hp} : ∀ {xs vs : List V} {ds : List PyData} {ss : List Sl}, RpAll K F xs ds → SrAll K F vs ss → SrAll K F (xs ++ vs) (ds.map .d ++ ss)
  | _, _, _, _, .nil, r => r
  | _, _, _, _, .cons h t, r => ⟨h, srAll_data t r⟩
theorem pa_wa (ih : ∀ e, PE X e (tWE X.K W Γ n sc e)) : ∀ es : List Expr, PA X es (tWA X.K W Γ n sc es)
  | [] => pa_imp pa_nil fun σ H R ⟨ε, s, Qd, Ed, F, hw, cy, kq⟩ => kq [] [] s F H (Fm.refl cy.ex) cy.j hw True.intro
  | e :: es => by
    cases hp : plainE e with
    | true =>
      refine pa_imp (pa_cons (ih e) (pa_wa ih es) (star1 es X.env hp)) fun σ H R ⟨ε, s, Qd, Ed, F, hw, cy, kq⟩ => ?_
      rw [wArgs_cons hp] at hw
      refine ⟨ε, s, _, Ed, F, hw, cy, fun v sl s2 F2 H2 m j q r => ?_⟩
      exact ⟨ε, s2, _, Ed, F2, q, cy.next m j, fun vs ss s3 F3 H3 m3 j3 q3 r3 => kq (v :: vs) (sl :: ss) s3 F3 H3 (m.trans m3) j3 q3 ⟨sr_ex m3.ff r, r3⟩⟩
    | false =>
      cases e with
      | Starred e p =>
        refine pa_imp (StX.pa_star (ih e) (pa_wa ih es)) fun σ H R ⟨ε, s, Qd, Ed, F, hw, cy, kq⟩ => ?_
        refine ⟨ε, s, _, Ed, F, hw, cy, fun v sl s2 F2 H2 m j q r => ?_⟩
        have fin : ∀ (a : Addr) (xs : List V) (ds : List PyData), (SqT X.K H2 a xs ∨ SqL X.K H2 a xs) → RpAll X.K F2 xs ds → wArgs (fun e s Q => wE Γ n false sc ε s e Q Ed) es s2 (fun ys s3 => Qd (ds.map .d ++ ys) s3) →
            ∃ p xs, V.ref a = .ref p ∧ (SqT X.K H2 p xs ∨ SqL X.K H2 p xs) ∧ tWA X.K W Γ n sc es σ H2 fun ys H3 => R (xs ++ ys) H3 := by
          intro a xs ds hs ra hq
          exact ⟨a, xs, rfl, hs, ε, s2, _, Ed, F2, hq, cy.next m j, fun vs ss s3 F3 H3 m3 j3 q3 r3 => kq (xs ++ vs) (ds.map .d ++ ss) s3 F3 H3 (m.trans m3) j3 q3 (srAll_data (dpAll_ex m3.ff _ _ ra) r3)⟩
        dsimp only at q
        split at q
        · cases r with
          | @lst a xs ds ha ra => exact fin a xs _ (.inr (.inl (.inl (m.fh _ _ ha)))) ra q
        · cases r with
          | @tup a xs ds ha ra => exact fin a xs _ (.inl (ex_t m.fh ha)) ra q
        · exact q.elim
      | _ => cases hp
theorem pa_w (ih : ∀ e, PE X e (tWE X.K W Γ n sc e)) (es : List Expr) (_ : es.all plainE = true) : PA X es (tWA X.K W Γ n sc es) := pa_wa ih es
/-- keywords -/
def tWK (K : PySem.W.Frag) (W : Wd S) (Γ : Gam S) (n : Nat) (sc : Scope) (ks : List Keyword) : TA := fun σ H R => ∃ ε s Qd Ed F, wKws (fun e s Q => wE Γ n false sc ε s e Q Ed) ks s Qd ∧ Cy K W F H σ ε s Ed ∧
  (∀ (vs : List V) (ss : List Sl) (s2 : S) (F2 H2 : Hp), Fm W.rs F H F2 H2 → W.J s2 F2 H2 → Qd ss s2 → SrAll K F2 vs ss → R vs H2)
theorem pk_w (ih : ∀ e, PE X e (tWE X.K W Γ n sc e)) : ∀ ks : List Keyword, PK X ks (tWK X.K W Γ n sc ks)
  | [] => ⟨fun pos pins s σ H R I ⟨ε, s1, Qd, Ed, F, hw, cy, kq⟩ => pk_nil.run pos pins s σ H R I (kq [] [] s1 F H (Fm.refl cy.ex) cy.j hw True.intro)⟩
  | ⟨nm, e, kp⟩ :: ks => ⟨fun pos pins s σ H R I ⟨ε, s1, Qd, Ed, F, hw, cy, kq⟩ => (pk_cons (nm := nm) (kpos := kp) (ih e) (pk_w ih ks)).run pos pins s σ H R I
      ⟨ε, s1, _, Ed, F, hw, cy, fun v sl s2 F2 H2 m j q r => ⟨ε, s2, _, Ed, F2, q, cy.next m j, fun vs ss s3 F3 H3 m3 j3 q3 r3 => kq (v :: vs) (sl :: ss) s3 F3 H3 (m.trans m3) j3 q3 ⟨sr_ex m3.ff r, r3⟩⟩⟩⟩
theorem data_all {K : PySem.W.Frag} {F : Hp} : ∀ {ss : List Sl} {ds : List PyData} {vs : List V}, dataAll ss = some ds → SrAll K F vs ss → RpAll K F vs ds
  | [], ds, vs, h, r => by
    cases h
    match vs, r with
    | [], _ => exact .nil
  | .d x :: ss, ds, vs, h, r => by
    unfold dataAll at h
    cases e : dataAll ss with
    | none =>
      simp only [e] at h
      cases h
    | some xs =>
      simp only [e, Option.some.injEq] at h
      subst h
      match vs, r with
      | v :: vs, r => exact .cons r.1 (data_all e r.2)
  | .v _ :: _, _, _, h, _ => by cases h
  | .own _ :: _, _, _, h, _ => by cases h
  | .dt _ :: _, _, _, h, _ => by cases h
/-- a value that is told at once -/
theorem kq_now {F H : Hp} {σ : L2.St} {ε : En} {s : S} {Ed : QX S} {Qd : QS S} {R : VK} (cy : Cy X.K W F H σ ε s Ed) (kq : Kq X.K W F H Qd R) {v : V} {sl : Sl} (q : Qd sl s) (r : Sr X.K F v sl) : R v H :=
  kq v sl s F H (Fm.refl cy.ex) cy.j q r
theorem kq_pure {F H : Hp} {σ : L2.St} {ε : En} {s : S} {Ed : QX S} {Qd : QS S} {R : VK} (cy : Cy X.K W F H σ ε s Ed) (kq : Kq X.K W F H Qd R) {v : V} {sl : Sl} {F2 H2 : Hp} (m : Fm [] F H F2 H2) (q : Qd sl s) (r : Sr X.K F2 v sl) : R v H2 :=
  kq v sl s F2 H2 m.more (Wd.pure cy.j m) q r
end
end Z
set_option Elab.async false
set_option linter.all false
set_option maxRecDepth 100000
set_option maxHeartbeats 4000000
namespace Z
open PySem PySem.Spec PyProof.Rows L2 Evl
theorem look_mem {α β : Type} [BEq α] [LawfulBEq α] {x : α} {b : β} : ∀ {l : List (α × β)}, l.lookup x = some b → (x, b) ∈ l
  | [], h => by cases h
  | (y, c) :: l, h => by
    rw [List.lookup_cons] at h
    cases e : x == y with
    | true =>
      rw [e] at h
      cases h
      rw [eq_of_beq e]
      exact List.mem_cons_self
    | false =>
      rw [e] at h
      exact List.mem_cons_of_mem _ (look_mem h)
theorem tyOf_boot {x : Str} {T : String} (h : tyOf x = some T) : bootBuiltins x = some (.type T) := by
  have m := look_mem h
  simp only [List.mem_cons, List.not_mem_nil, or_false, Prod.mk.injEq] at m
  rcases m with ⟨rfl, rfl⟩ | ⟨rfl, rfl⟩ | ⟨rfl, rfl⟩ | ⟨rfl, rfl⟩ | ⟨rfl, rfl⟩ <;> decide +kernel
theorem bfOf_boot {r : Bool} {x : Str} {b : Bf} (h : bfOf r x = some b) : bootBuiltins x = some (bfVal b) := by
  cases r with
  | true =>
    have m := look_mem h
    simp only [List.mem_cons, List.not_mem_nil, or_false, Prod.mk.injEq] at m
    rcases m with ⟨rfl, rfl⟩ | ⟨rfl, rfl⟩ | ⟨rfl, rfl⟩ | ⟨rfl, rfl⟩ | ⟨rfl, rfl⟩ | ⟨rfl, rfl⟩ | ⟨rfl, rfl⟩ | ⟨rfl, rfl⟩ | ⟨rfl, rfl⟩ <;> decide +kernel
  | false =>
    have m := look_mem h
    simp only [List.mem_cons, List.not_mem_nil, or_false, Prod.mk.injEq] at m
    rcases m with ⟨rfl, rfl⟩ | ⟨rfl, rfl⟩ | ⟨rfl, rfl⟩ | ⟨rfl, rfl⟩ | ⟨rfl, rfl⟩ | ⟨rfl, rfl⟩ | ⟨rfl, rfl⟩ | ⟨rfl, rfl⟩ <;> decide +kernel

section
variable {S : Type} {X : Cx} {W : Wd S} {Γ : Gam S} {sc : Scope} {n : Nat} (C : CxOk X W Γ sc)
include C
theorem CxOk.vis {x : Str} (h : sc.names.lookup x = some .local ∨ sc.names.lookup x = some .cell ∨ sc.names.lookup x = some .free) : Vis X.env.scope x := by
  rcases h with h | h | h
  · exact .inl (C.lo x h)
  · exact .inr (.inl (C.ce x h))
  · rcases C.fr x h with z | z
    · exact .inr (.inl z)
    · exact .inr (.inr z)
theorem pe_slot {x : Str} {pos : Pos} (h : sc.names.lookup x = some .local ∨ sc.names.lookup x = some .cell ∨ sc.names.lookup x = some .free)
    (hw : ∀ ε s (Qd : QS S) Ed, wE Γ (n + 1) false sc ε s (.Name x pos) Qd Ed → (match ixOf Γ.N x with
        | some i => getE ε i fun v => Qd v s
        | none => False)) : PE X (.Name x pos) (tWE X.K W Γ (n + 1) sc (.Name x pos)) := by
  have nd : (x == ("__debug__" : Str)) = false ∧ (x == ("__classdict__" : Str)) = false ∧ x ≠ "__name__" := by
    rcases h with h | h | h <;> exact okSc_no C.dbg h
  cases e : ixOf Γ.N x with
  | none =>
    refine pe_false fun σ H R ⟨ε, s, Qd, Ed, F, w, cy, kq⟩ => ?_
    have := hw ε s Qd Ed w
    rw [e] at this
    exact this
  | some i =>
    have hN : X.N[i]? = some x := by
      rw [C.n]
      exact ixOf_get e
    refine pe_w (pe_var hN (CxOk.vis C h) nd.1 nd.2.1) fun σ H R ε s Qd Ed F w cy kq => ?_
    have g := hw ε s Qd Ed w
    simp only [e] at g
    unfold getE at g
    obtain ⟨ps, er⟩ := cy.er
    split at g
    · rename_i d he
      obtain ⟨v, h1, h2⟩ := er.get he (fun _ z => nomatch z)
      exact ⟨v, h1, kq_now cy kq g h2⟩
    · rename_i d he
      obtain ⟨v, h1, h2⟩ := er.get he (fun _ z => nomatch z)
      exact ⟨v, h1, kq_now cy kq g h2⟩
    · rename_i d he
      obtain ⟨v, h1, h2⟩ := er.get he (fun _ z => nomatch z)
      exact ⟨v, h1, kq_now cy kq g h2⟩
    · exact g.elim
theorem pe_nm {x : Str} {pos : Pos} : PE X (.Name x pos) (tWE X.K W Γ (n + 1) sc (.Name x pos)) := by
  cases e : sc.names.lookup x with
  | none =>
    refine pe_false fun σ H R ⟨ε, s, Qd, Ed, F, w, cy, kq⟩ => ?_
    simp only [wE, chk_iff, chkN_iff, Bool.and_eq_true, decide_eq_true_eq, isG_iff, Bool.not_eq_true', and_assoc, e] at w
  | some k =>
    cases k with
    | globalImplicit =>
      have nd := okSc_no C.dbg e
      cases q : Γ.glob.lookup x with
      | some sl =>
        obtain ⟨v, u, hm, r, sr⟩ := C.glob x sl q
        refine pe_w (pe_glob (C.gl x e) hm r nd.1) fun σ H R ε s Qd Ed F w cy kq => ?_
        simp only [wE, chk_iff, chkN_iff, Bool.and_eq_true, decide_eq_true_eq, isG_iff, Bool.not_eq_true', and_assoc, e, q] at w
        exact kq_now cy kq w (sr F)
      | none =>
        cases t : tyOf x with
        | none =>
          refine pe_false fun σ H R ⟨ε, s, Qd, Ed, F, w, cy, kq⟩ => ?_
          simp only [wE, chk_iff, chkN_iff, Bool.and_eq_true, decide_eq_true_eq, isG_iff, Bool.not_eq_true', and_assoc, e, q, t] at w
        | some T =>
          cases f : Γ.free.contains x with
          | false =>
            refine pe_false fun σ H R ⟨ε, s, Qd, Ed, F, w, cy, kq⟩ => ?_
            simp only [wE, chk_iff, chkN_iff, Bool.and_eq_true, decide_eq_true_eq, isG_iff, Bool.not_eq_true', and_assoc, e, q, t, f] at w
            exact Bool.false_ne_true w.1
          | true =>
            refine pe_w (pe_bltn (v := .ty T) (C.gl x e) (C.free x f) (tyOf_boot t) rfl nd.2.2 nd.1) fun σ H R ε s Qd Ed F w cy kq => ?_
            simp only [wE, chk_iff, chkN_iff, Bool.and_eq_true, decide_eq_true_eq, isG_iff, Bool.not_eq_true', and_assoc, e, q, t] at w
            exact kq_now cy kq w.2 rfl
    | «local» =>
      refine pe_slot C (.inl e) fun ε s Qd Ed w => ?_
      simp only [wE, chk_iff, chkN_iff, Bool.and_eq_true, decide_eq_true_eq, isG_iff, Bool.not_eq_true', and_assoc, e] at w
      exact w
    | cell =>
      refine pe_slot C (.inr (.inl e)) fun ε s Qd Ed w => ?_
      simp only [wE, chk_iff, chkN_iff, Bool.and_eq_true, decide_eq_true_eq, isG_iff, Bool.not_eq_true', and_assoc, e] at w
      exact w
    | free =>
      refine pe_slot C (.inr (.inr e)) fun ε s Qd Ed w => ?_
      simp only [wE, chk_iff, chkN_iff, Bool.and_eq_true, decide_eq_true_eq, isG_iff, Bool.not_eq_true', and_assoc, e] at w
      exact w
    | _ =>
      refine pe_false fun σ H R ⟨ε, s, Qd, Ed, F, w, cy, kq⟩ => ?_
      simp only [wE, chk_iff, chkN_iff, Bool.and_eq_true, decide_eq_true_eq, isG_iff, Bool.not_eq_true', and_assoc, e] at w
theorem pe_cst {c : Const} {k : Nat} {pos : Pos} : PE X (.Constant c k pos) (tWE X.K W Γ (n + 1) sc (.Constant c k pos)) := by
  cases c with
  | int i => exact pe_w pe_int fun σ H R ε s Qd Ed F w cy kq => kq_now cy kq (show Qd (.d (.int i)) s by simpa only [wE, chk_iff, chkN_iff, Bool.and_eq_true, decide_eq_true_eq, isG_iff, Bool.not_eq_true', and_assoc] using w) (.int i)
  | str x => exact pe_w pe_str fun σ H R ε s Qd Ed F w cy kq => kq_now cy kq (show Qd (.d (.str x)) s by simpa only [wE, chk_iff, chkN_iff, Bool.and_eq_true, decide_eq_true_eq, isG_iff, Bool.not_eq_true', and_assoc] using w) (.str x)
  | bool b => exact pe_w pe_bl fun σ H R ε s Qd Ed F w cy kq => kq_now cy kq (show Qd (.d (.bool b)) s by simpa only [wE, chk_iff, chkN_iff, Bool.and_eq_true, decide_eq_true_eq, isG_iff, Bool.not_eq_true', and_assoc] using w) (.bl b)
  | none => exact pe_w pe_non fun σ H R ε s Qd Ed F w cy kq => kq_now cy kq (show Qd (.d .none) s by simpa only [wE, chk_iff, chkN_iff, Bool.and_eq_true, decide_eq_true_eq, isG_iff, Bool.not_eq_true', and_assoc] using w) .non
  | _ =>
    refine pe_false fun σ H R ⟨ε, s, Qd, Ed, F, w, cy, kq⟩ => ?_
    simp only [wE, chk_iff, chkN_iff, Bool.and_eq_true, decide_eq_true_eq, isG_iff, Bool.not_eq_true', and_assoc] at w
variable (ih : ∀ e, PE X e (tWE X.K W Γ n sc e)) (it : ∀ e, PT X e (tWT X.K W Γ n sc e))
include ih
theorem pe_bo {a b : Expr} {op : Operator} {pos : Pos} : PE X (.BinOp a op b pos) (tWE X.K W Γ (n + 1) sc (.BinOp a op b pos)) := by
  refine pe_w (pe_op (opB op) (ih a) (ih b)) fun σ H R ε s Qd Ed F w cy kq => ?_
  simp only [wE, chk_iff, chkN_iff, Bool.and_eq_true, decide_eq_true_eq, isG_iff, Bool.not_eq_true', and_assoc] at w
  refine ⟨ε, s, _, Ed, F, w, cy, fun v x s2 F2 H2 m j q r => ?_⟩
  refine ⟨ε, s2, _, Ed, F2, q, cy.next m j, fun u y s3 F3 H3 m3 j3 q3 r3 => ?_⟩
  exact ⟨F3, x, y, _, m3.fh, sr_ex m3.ff r, r3, q3, fun z hz v2 F4 H4 m4 r4 => kq_pure (cy.next (m.trans m3) j3) (kq.next (m.trans m3)) m4 hz r4⟩
theorem pe_not {a : Expr} {pos : Pos} : PE X (.UnaryOp .Not a pos) (tWE X.K W Γ (n + 1) sc (.UnaryOp .Not a pos)) := by
  refine pe_w (pe_notT (ih a)) fun σ H R ε s Qd Ed F w cy kq => ?_
  simp only [wE, chk_iff, chkN_iff, Bool.and_eq_true, decide_eq_true_eq, isG_iff, Bool.not_eq_true', and_assoc] at w
  refine ⟨ε, s, _, Ed, F, w, cy, fun v x s2 F2 H2 m j q r => ?_⟩
  obtain ⟨k, t, q2⟩ := tru_v m.fh r q
  exact ⟨k, t, kq_now (cy.next m j) (kq.next m) q2 (.bl _)⟩
theorem pe_neg {a : Expr} {pos : Pos} : PE X (.UnaryOp .USub a pos) (tWE X.K W Γ (n + 1) sc (.UnaryOp .USub a pos)) := by
  refine pe_w (pe_un un_neg (ih a)) fun σ H R ε s Qd Ed F w cy kq => ?_
  simp only [wE, chk_iff, chkN_iff, Bool.and_eq_true, decide_eq_true_eq, isG_iff, Bool.not_eq_true', and_assoc] at w
  refine ⟨ε, s, _, Ed, F, w, cy, fun v x s2 F2 H2 m j q r => ?_⟩
  dsimp only at q
  split at q
  · cases r
    exact ⟨_, rfl, kq_now (cy.next m j) (kq.next m) q (.int _)⟩
  · exact q.elim
theorem pe_ands {pos : Pos} : ∀ es : List Expr, PE X (.BoolOp .And es pos) (fun σ H R => ∃ ε s Qd Ed F, wAnd (fun e s Q => wE Γ n false sc ε s e Q Ed) es s Qd ∧ Cy X.K W F H σ ε s Ed ∧ Kq X.K W F H Qd R)
  | [] => pe_false fun σ H R ⟨ε, s, Qd, Ed, F, w, cy, kq⟩ => w
  | [e] => pe_imp (pe_one (ih e)) fun σ H R ⟨ε, s, Qd, Ed, F, w, cy, kq⟩ => ⟨ε, s, Qd, Ed, F, w, cy, kq⟩
  | e :: e2 :: es => pe_imp (pe_andT (ih e) (pe_ands (e2 :: es))) fun σ H R ⟨ε, s, Qd, Ed, F, w, cy, kq⟩ => by
    refine ⟨ε, s, _, Ed, F, w, cy, fun v x s2 F2 H2 m j q r => ?_⟩
    obtain ⟨k, t, q2⟩ := tru_v m.fh r q
    refine ⟨k, t, ?_⟩
    cases k with
    | true => exact ⟨ε, s2, Qd, Ed, F2, q2, cy.next m j, kq.next m⟩
    | false => exact kq v x s2 F2 H2 m j q2 r
theorem pe_ors {pos : Pos} : ∀ es : List Expr, PE X (.BoolOp .Or es pos) (fun σ H R => ∃ ε s Qd Ed F, wOr (fun e s Q => wE Γ n false sc ε s e Q Ed) es s Qd ∧ Cy X.K W F H σ ε s Ed ∧ Kq X.K W F H Qd R)
  | [] => pe_false fun σ H R ⟨ε, s, Qd, Ed, F, w, cy, kq⟩ => w
  | [e] => pe_imp (pe_one (ih e)) fun σ H R ⟨ε, s, Qd, Ed, F, w, cy, kq⟩ => ⟨ε, s, Qd, Ed, F, w, cy, kq⟩
  | e :: e2 :: es => pe_imp (pe_orT (ih e) (pe_ors (e2 :: es))) fun σ H R ⟨ε, s, Qd, Ed, F, w, cy, kq⟩ => by
    refine ⟨ε, s, _, Ed, F, w, cy, fun v x s2 F2 H2 m j q r => ?_⟩
    obtain ⟨k, t, q2⟩ := tru_v m.fh r q
    refine ⟨k, t, ?_⟩
    cases k with
    | false => exact ⟨ε, s2, Qd, Ed, F2, q2, cy.next m j, kq.next m⟩
    | true => exact kq v x s2 F2 H2 m j q2 r
/-- a comparison's outcome -/
theorem cmp_end {op : CmpOp} {F H : Hp} {σ : L2.St} {ε : En} {s : S} {Ed : QX S} {R : VK} {x y : Sl} {v u : V} {P : Bool → Prop} (cy : Cy X.K W F H σ ε s Ed) (r : Sr X.K F v x) (r2 : Sr X.K F u y) (q : dcmp op x y P)
    (k : ∀ b, P b → ∀ F2 H2, Fm [] F H F2 H2 → R (.bl b) H2) : rS2 X.K (fun x y P => dcmp op x y fun b => P (.d (.bool b))) v u H R :=
  ⟨F, x, y, fun z => ∃ b, z = .d (.bool b) ∧ P b, cy.ex, r, r2, by
    have e : (fun b => ∃ c, Sl.d (.bool b) = .d (.bool c) ∧ P c) = P := by
      funext b
      apply propext
      constructor
      · rintro ⟨c, e, h⟩
        cases e
        exact h
      · exact fun h => ⟨b, rfl, h⟩
    show dcmp op x y fun b => ∃ c, Sl.d (.bool b) = .d (.bool c) ∧ P c
    rw [e]
    exact q, fun z ⟨b, e, pb⟩ v2 F2 H2 m r3 => by
      subst e
      cases r3
      exact k b pb F2 H2 m⟩
theorem pe_c1 {a b : Expr} {op : CmpOp} {pos : Pos} : PE X (.Compare a [op] [b] pos) (tWE X.K W Γ (n + 1) sc (.Compare a [op] [b] pos)) := by
  cases hs : setE b with
  | true =>
    refine pe_false fun σ H R ⟨ε, s, Qd, Ed, F, w, cy, kq⟩ => ?_
    simp only [wE, chk_iff, chkN_iff, Bool.and_eq_true, decide_eq_true_eq, isG_iff, Bool.not_eq_true', and_assoc, hs] at w
    exact Bool.false_ne_true w.1.symm
  | false =>
    refine pe_w (pe_cmpR (opC (by have := C.room; omega) op) (ih a) (ih b) (mark0 hs)) fun σ H R ε s Qd Ed F w cy kq => ?_
    simp only [wE, chk_iff, chkN_iff, Bool.and_eq_true, decide_eq_true_eq, isG_iff, Bool.not_eq_true', and_assoc] at w
    refine ⟨ε, s, _, Ed, F, w.2, cy, fun v x s2 F2 H2 m j q r => ?_⟩
    refine ⟨ε, s2, _, Ed, F2, q, cy.next m j, fun u y s3 F3 H3 m3 j3 q3 r3 => ?_⟩
    exact cmp_end C ih (cy.next (m.trans m3) j3) (sr_ex m3.ff r) r3 q3 fun b pb F4 H4 m4 => kq_pure (cy.next (m.trans m3) j3) (kq.next (m.trans m3)) m4 pb (.bl b)
theorem pt_c1 {a b : Expr} {op : CmpOp} {pos : Pos} : PT X (.Compare a [op] [b] pos) (tWT X.K W Γ (n + 1) sc (.Compare a [op] [b] pos)) := by
  cases hs : setE b with
  | true =>
    refine pt_false fun σ H R ⟨ε, s, Qd, Ed, F, w, cy, kq⟩ => ?_
    simp only [wE, chk_iff, chkN_iff, Bool.and_eq_true, decide_eq_true_eq, isG_iff, Bool.not_eq_true', and_assoc, hs] at w
    exact Bool.false_ne_true w.1.symm
  | false =>
    refine pt_w (pt_cmpR (opC (by have := C.room; omega) op) (ih a) (ih b) (mark0 hs)) fun σ H R ε s Qd Ed F w cy kq => ?_
    simp only [wE, chk_iff, chkN_iff, Bool.and_eq_true, decide_eq_true_eq, isG_iff, Bool.not_eq_true', and_assoc] at w
    refine ⟨ε, s, _, Ed, F, w.2, cy, fun v x s2 F2 H2 m j q r => ?_⟩
    refine ⟨ε, s2, _, Ed, F2, q, cy.next m j, fun u y s3 F3 H3 m3 j3 q3 r3 => ?_⟩
    exact cmp_end C ih (cy.next (m.trans m3) j3) (sr_ex m3.ff r) r3 q3 fun b pb F4 H4 m4 => ⟨b, rfl, kq b s3 F4 H4 ((m.trans m3).trans m4.more) (Wd.pure j3 m4) pb⟩
theorem chain_end {a b c : Expr} {op op2 : CmpOp} {F H : Hp} {σ : L2.St} {ε : En} {s : S} {Ed : QX S} {Qd : QS S} {R : VK} {pos : Pos} (cy : Cy X.K W F H σ ε s Ed) (kq : ∀ b s2 F2 H2, Fm W.rs F H F2 H2 → W.J s2 F2 H2 → Qd (.d (.bool b)) s2 → R (.bl b) H2)
    (w : wE Γ n false sc ε s a (fun x s1 => wE Γ n false sc ε s1 b (fun y s2 => dcmp op x y fun z => if z = true then wE Γ n false sc ε s2 c (fun u s3 => dcmp op2 y u fun z => Qd (.d (.bool z)) s3) Ed else Qd (.d (.bool false)) s2) Ed) Ed) :
    tChain (rS2 X.K fun x y P => dcmp op x y fun b => P (.d (.bool b))) (rS2 X.K fun x y P => dcmp op2 x y fun b => P (.d (.bool b))) (tWE X.K W Γ n sc a) (tWE X.K W Γ n sc b) (tWE X.K W Γ n sc c) σ H R := by
  refine ⟨ε, s, _, Ed, F, w, cy, fun v x s2 F2 H2 m j q r => ?_⟩
  refine ⟨ε, s2, _, Ed, F2, q, cy.next m j, fun u y s3 F3 H3 m3 j3 q3 r3 => ?_⟩
  refine cmp_end C ih (cy.next (m.trans m3) j3) (sr_ex m3.ff r) r3 q3 fun b pb F4 H4 m4 => ⟨b, rfl, ?_⟩
  have m14 := (m.trans m3).trans m4.more
  have j4 := Wd.pure j3 m4
  cases b with
  | false => exact kq false s3 F4 H4 m14 j4 (by simpa using pb)
  | true =>
    refine ⟨ε, s3, _, Ed, F4, (by simpa using pb), cy.next m14 j4, fun t z s5 F5 H5 m5 j5 q5 r5 => ?_⟩
    exact cmp_end C ih (cy.next (m14.trans m5) j5) (sr_ex (m4.ff.trans m5.ff) r3) r5 q5 fun b pb F6 H6 m6 => kq b s5 F6 H6 ((m14.trans m5).trans m6.more) (Wd.pure j5 m6) pb
theorem pe_c2 {a b c : Expr} {op op2 : CmpOp} {pos : Pos} : PE X (.Compare a [op, op2] [b, c] pos) (tWE X.K W Γ (n + 1) sc (.Compare a [op, op2] [b, c] pos)) := by
  cases hs : setE c with
  | true =>
    refine pe_false fun σ H R ⟨ε, s, Qd, Ed, F, w, cy, kq⟩ => ?_
    simp only [wE, chk_iff, chkN_iff, Bool.and_eq_true, decide_eq_true_eq, isG_iff, Bool.not_eq_true', and_assoc, hs] at w
    exact Bool.false_ne_true w.1.symm
  | false =>
    have hu : X.A.units + 65 < cLine := by have := C.room; omega
    refine pe_w (pe_chain (opC hu op) (opC hu op2) (ih a) (ih b) (ih c) (last0 hs)) fun σ H R ε s Qd Ed F w cy kq => ?_
    simp only [wE, chk_iff, chkN_iff, Bool.and_eq_true, decide_eq_true_eq, isG_iff, Bool.not_eq_true', and_assoc] at w
    exact chain_end C ih (pos := pos) cy (fun b s2 F2 H2 m j q => kq _ _ s2 F2 H2 m j q (.bl b)) w.2
theorem pt_c2 {a b c : Expr} {op op2 : CmpOp} {pos : Pos} : PT X (.Compare a [op, op2] [b, c] pos) (tWT X.K W Γ (n + 1) sc (.Compare a [op, op2] [b, c] pos)) := by
  cases hs : setE c with
  | true =>
    refine pt_false fun σ H R ⟨ε, s, Qd, Ed, F, w, cy, kq⟩ => ?_
    simp only [wE, chk_iff, chkN_iff, Bool.and_eq_true, decide_eq_true_eq, isG_iff, Bool.not_eq_true', and_assoc, hs] at w
    exact Bool.false_ne_true w.1.symm
  | false =>
    have hu : X.A.units + 65 < cLine := by have := C.room; omega
    refine pt_w (pt_chain (opC hu op) (opC hu op2) (ih a) (ih b) (ih c) (last0 hs)) fun σ H R ε s Qd Ed F w cy kq => ?_
    simp only [wE, chk_iff, chkN_iff, Bool.and_eq_true, decide_eq_true_eq, isG_iff, Bool.not_eq_true', and_assoc] at w
    exact chain_end C ih (pos := pos) cy (fun b s2 F2 H2 m j q => ⟨b, rfl, kq b s2 F2 H2 m j q⟩) w.2
theorem pe_tpl {es : List Expr} {k : Nat} {pos : Pos} : PE X (.Tuple es k pos) (tWE X.K W Γ (n + 1) sc (.Tuple es k pos)) := by
  · refine pe_w (pe_tup (pa_wa ih es)) fun σ H R ε s Qd Ed F w cy kq => ?_
    simp only [wE, chk_iff, chkN_iff, Bool.and_eq_true, decide_eq_true_eq, isG_iff, Bool.not_eq_true', and_assoc] at w
    refine ⟨ε, s, _, Ed, F, w, cy, fun vs ss s2 F2 H2 m j q r => ?_⟩
    split at q
    · rename_i ds e
      have ra := data_all e r
      refine ⟨by rw [rpAll_len ra]; exact q.1, fun p hp => ?_⟩
      have nf := fresh_back m.fh hp
      exact kq_pure (cy.next m j) (kq.next m) (Fm.new m.fh hp) q.2 (.tup (.inl (.inl upd_same)) (dpAll_ex (Ex.new nf) _ _ ra))
    · exact q.elim
theorem pe_lis {es : List Expr} {pos : Pos} : PE X (.List es pos) (tWE X.K W Γ (n + 1) sc (.List es pos)) := by
  · refine pe_w (pe_lst (pa_wa ih es)) fun σ H R ε s Qd Ed F w cy kq => ?_
    simp only [wE, chk_iff, chkN_iff, Bool.and_eq_true, decide_eq_true_eq, isG_iff, Bool.not_eq_true', and_assoc] at w
    refine ⟨ε, s, _, Ed, F, w, cy, fun vs ss s2 F2 H2 m j q r => ?_⟩
    split at q
    · rename_i ds e
      have ra := data_all e r
      refine ⟨by rw [rpAll_len ra]; exact q.1, fun p hp => ?_⟩
      have nf := fresh_back m.fh hp
      exact kq_pure (cy.next m j) (kq.next m) (Fm.new m.fh hp) q.2 (.lst upd_same (dpAll_ex (Ex.new nf) _ _ ra))
    · exact q.elim
theorem pe_sub {a i : Expr} {pos : Pos} (hi : slE i = false) : PE X (.Subscript a i pos) (tWE X.K W Γ (n + 1) sc (.Subscript a i pos)) := by
  refine pe_w (pe_ix (ixS (by have := C.room; omega)) (ih a) (ih i) (plain0 hi)) fun σ H R ε s Qd Ed F w cy kq => ?_
  have w2 : wE Γ n false sc ε s a (fun x s1 => wE Γ n false sc ε s1 i (fun y s2 => dix x y fun z => Qd z s2) Ed) Ed := by
    cases i <;> first | (cases hi; done) | (simp only [wE, chk_iff, chkN_iff, Bool.and_eq_true, decide_eq_true_eq, isG_iff, Bool.not_eq_true', and_assoc] at w; exact w.2)
  refine ⟨ε, s, _, Ed, F, w2, cy, fun v x s2 F2 H2 m j q r => ?_⟩
  refine ⟨ε, s2, _, Ed, F2, q, cy.next m j, fun u y s3 F3 H3 m3 j3 q3 r3 => ?_⟩
  exact ⟨F3, x, y, _, m3.fh, sr_ex m3.ff r, r3, q3, fun z hz v2 F4 H4 m4 r4 => kq_pure (cy.next (m.trans m3) j3) (kq.next (m.trans m3)) m4 hz r4⟩
end
end Z
set_option Elab.async false
set_option linter.all false
set_option maxRecDepth 100000
set_option maxHeartbeats 4000000
namespace Z
open PySem PySem.Spec PyProof.Rows L2 Evl
section
variable {P : Program} {w : World} {K : Type} [DecidableEq K]
/-- keys that a set may hold, each read off its value -/
structure Kst (P : Program) (w : World) (K : Type) [DecidableEq K] where
  kd : PySem.KeyKind P w K
  key : Value → K
  rd : ∀ {k : K} {v : Value}, kd.is k v = true → key v = k
  sc : ∀ {k : K} {v : Value}, kd.is k v = true → v.scannable = true
  vv : K → V
  rel : ∀ {k : K} {u : Value}, RelV (vv k) u → kd.is k u = true
variable (q : Kst P w K)
def El (e : Int × Value) : Prop := ∃ k, q.kd.is k e.2 = true ∧ e.1 = q.kd.hash k
def kk (e : Int × Value) : K := q.key e.2
def Led (w : World) (t : SetTable) : Prop := w.params.followText "set-order" = true ∨ t.led = true
/-- the set at a, with these keys, each once -/
def SetX (h : Heap) (a : Addr) (ks : List K) : Prop :=
  ∃ o es ep t, (h.get? a = some o ∧ o.ExactSet ∧ o.data = .set es ep t) ∧ ((∀ e ∈ es.toList, El q e) ∧ (es.toList.map (kk q)).Perm ks ∧ ks.Nodup) ∧ (es.size < scanBound ∧ t.fits es.size = true) ∧ Ris t.place.toList ∧ Led w t
variable {q}
theorem El.is_iff {e : Int × Value} (g : El q e) (k : K) : q.kd.is k e.2 = true ↔ kk q e = k := by
  obtain ⟨k0, h1, _⟩ := g
  constructor
  · exact fun h => q.rd h
  · intro h
    have : k0 = k := (q.rd h1).symm.trans h
    rw [← this]
    exact h1
theorem els {l : List (Int × Value)} (g : ∀ e ∈ l, El q e) : ElemsOf q.kd l := by
  intro e he
  obtain ⟨k, h1, h2⟩ := g e he
  exact ⟨⟨k, h1, h2⟩, q.sc h1⟩
theorem SetX.keep {h h' : Heap} {a : Addr} {ks : List K} (R : SetX q h a ks) (k : ∀ o, h.get? a = some o → h'.get? a = some o) : SetX q h' a ks := by
  obtain ⟨o, es, ep, t, ⟨ho, hx⟩, r⟩ := R
  exact ⟨o, es, ep, t, ⟨k o ho, hx⟩, r⟩
theorem SetX.len {h : Heap} {a : Addr} {ks : List K} (R : SetX q h a ks) : ks.length < scanBound := by
  obtain ⟨o, es, ep, t, _, ⟨_, pm, _⟩, ⟨hb, _⟩, _⟩ := R
  rw [← pm.length_eq, List.length_map, Array.length_toList]
  exact hb
/-- one key more -/
def addK (ks : List K) (k : K) : List K := if k ∈ ks then ks else k :: ks
section
variable {A : Around} {E : Value → Shared → Prop} {s : Shared} {a : Addr} {ks : List K}
theorem setX_store {g : Bool → Sem Unit} (hg : ∀ (b : Bool) (s1 : Shared) (Q1 : Unit → Shared → Prop), Q1 () s1 → wpAny (model P w) A (g b) Q1 E s1)
    {o : Obj} {es es1 : Array (Int × Value)} {ep : Nat} {t t2 : SetTable} (ho : s.heap.get? a = some o) (hex : o.ExactSet) (hd : o.data = .set es ep t)
    (g1 : ∀ e ∈ es1.toList, El q e) (pm1 : (es1.toList.map (kk q)).Perm ks) (nd : ks.Nodup) (hb1 : es1.size < scanBound) (hf2 : t2.fits es1.size = true) (hr : Ris t2.place.toList) (hl : Led w t2) {was : Bool} {R : Option Bool → Shared → Prop}
    (hR : ∀ h', Heap.SameBut a s.heap h' → SetX q h' a ks → R (some true) { s with heap := h' }) :
    wpAny (model P w) A (storeSet a es1 t2 >>= fun _ => if (!was && t2.tooFull) = true then (g (relayAll t2 es1 (SetTable.grown es1.size)).2.2 >>= fun _ => storeSet a (relayAll t2 es1 (SetTable.grown es1.size)).1 (relayAll t2 es1 (SetTable.grown es1.size)).2.1 >>= fun _ => pure (some true)) else pure (some true)) R E s := by
  have ho1 := store_at (es' := es1) (t' := t2) ho hd
  refine wpAny_bind (wpAny_storeSet_of ho hd ?_ (fits_of_scanBound hb1))
  by_cases c : (!was && t2.tooFull) = true
  · rw [if_pos c]
    have pm := relayAll_perm t2 es1 (SetTable.grown es1.size)
    have f3 := relayAll_fits t2 es1 (SetTable.grown es1.size)
    have r3 := relayAll_ris t2 es1 (SetTable.grown es1.size)
    have l3 := relayAll_led t2 es1 (SetTable.grown es1.size)
    revert pm f3 r3 l3
    rcases relayAll t2 es1 (SetTable.grown es1.size) with ⟨es2, t3, gv⟩
    intro pm f3 r3 l3
    have z : es2.size = es1.size := by rw [← Array.length_toList, ← Array.length_toList]; exact pm.length_eq
    have hb2 : es2.size < scanBound := z ▸ hb1
    have ho2 := store_at (es' := es2) (t' := t3) ho1 rfl
    refine wpAny_bind (hg _ _ _ (wpAny_bind (wpAny_storeSet_of ho1 rfl (wpAny_pure (hR _ ((Heap.SameBut.update s.heap a _).trans (Heap.SameBut.update _ a _)) ?_)) (fits_of_scanBound hb2))))
    exact ⟨_, es2, _, t3, ⟨ho2, hex, rfl⟩, ⟨fun e he => g1 e (pm.mem_iff.mp he), (pm.map (kk q)).trans pm1, nd⟩, ⟨hb2, f3⟩, r3, hl.imp id fun y => l3.trans y⟩
  · rw [if_neg c]
    exact wpAny_pure (hR _ (Heap.SameBut.update s.heap a _) ⟨_, es1, _, t2, ⟨ho1, hex, rfl⟩, ⟨g1, pm1, nd⟩, ⟨hb1, hf2⟩, hr, hl⟩)
theorem wp_two {M : Model} {f : Bool → Sem Unit} {b : Bool} {Q1 : Unit → Shared → Prop} (hf : ∀ (b : Bool) (s1 : Shared) (Q1 : Unit → Shared → Prop), Q1 () s1 → wpAny M A (f b) Q1 E s1) (h : Q1 () s) : wpAny M A (f b) Q1 E s := hf b s Q1 h
theorem setX_add {k : K} {x : Value} {Q : Bool → Shared → Prop} (hk : q.kd.is k x = true) (R : SetX q s.heap a ks) (room : ks.length + 1 < scanBound)
    (hQ : ∀ b h', Heap.SameBut a s.heap h' → SetX q h' a (addK ks k) → Q b { s with heap := h' }) : wpAny (model P w) A (setAddHashed a x (q.kd.hash k)) Q E s := by
  obtain ⟨o, es, ep, t, ⟨ho, hex, hd⟩, ⟨g, pk0, nd⟩, ⟨hb, hf⟩, hr, hl⟩ := R
  have esz : es.size = ks.length := by rw [← pk0.length_eq, List.length_map, Array.length_toList]
  unfold setAddHashed
  unfold setAddHashedIn
  refine wpAny_holding (wpAny_bind (wpAny_setState_of ho hd hf ?_))
  dsimp only
  rw [byScan_of (q.sc hk) hb (els g), if_pos rfl]
  unfold setAddByScan
  refine wpAny_bind (wpAny_bind (wpAny_rule (wpAny_bind (wpAny_setScan_of hk ho hd hf (els g) ?_))))
  cases hfi : List.findIdx? (fun e => q.kd.is k e.2) es.toList with
  | some j =>
    obtain ⟨hj, pj, _⟩ := List.findIdx?_eq_some_iff_getElem.mp hfi
    have hin : k ∈ ks := pk0.mem_iff.mp (List.mem_map.mpr ⟨_, List.getElem_mem hj, ((g _ (List.getElem_mem hj)).is_iff k).mp pj⟩)
    refine wpAny_pure (wpAny_pure (hQ _ s.heap (Heap.SameBut.refl a s.heap) ?_))
    unfold addK
    rw [if_pos hin]
    exact ⟨o, es, ep, t, ⟨ho, hex, hd⟩, ⟨g, pk0, nd⟩, ⟨hb, hf⟩, hr, hl⟩
  | none =>
    have hno : k ∉ ks := fun z => by
      obtain ⟨e, he, y⟩ := List.mem_map.mp (pk0.mem_iff.mpr z)
      have c := List.findIdx?_eq_none_iff.mp hfi e he
      rw [((g e he).is_iff k).mpr y] at c
      cases c
    have adk : addK ks k = k :: ks := if_neg hno
    dsimp only
    have pm := layNew_perm t es (q.kd.hash k) x
    have f1 := layNew_fits t es (q.kd.hash k) x
    have r1 := layNew_ris t es (q.kd.hash k) x hr
    have l1 := layNew_led t es (q.kd.hash k) x
    revert pm f1 r1 l1
    rcases layNew t es (q.kd.hash k) x with ⟨es1, t1, was, gv⟩
    intro pm f1 r1 l1
    dsimp only at pm f1 r1 l1 ⊢
    rw [Array.toList_push] at pm
    have pc : es1.toList.Perm ((q.kd.hash k, x) :: es.toList) := pm.trans (List.perm_append_singleton _ _)
    have pk : (es1.toList.map (kk q)).Perm (k :: ks) := (pc.map (kk q)).trans (by
      rw [List.map_cons]
      have : kk q (q.kd.hash k, x) = k := q.rd hk
      rw [this]
      exact pk0.cons k)
    have g1 : ∀ e ∈ es1.toList, El q e := fun e he => by
      rcases List.mem_cons.mp (pc.mem_iff.mp he) with z | z
      · rw [z]
        exact ⟨k, hk, rfl⟩
      · exact g e z
    have z1 : es1.size = ks.length + 1 := by rw [← Array.length_toList, pc.length_eq, List.length_cons, Array.length_toList, esz]
    have hb1 : es1.size < scanBound := z1 ▸ room
    have hld : Led w t1 := hl.imp id fun z => l1.trans z
    have fin : ∀ b h', Heap.SameBut a s.heap h' → SetX q h' a (k :: ks) → Q b { s with heap := h' } := fun b h' sb r => hQ b h' sb (adk ▸ r)
    refine wpAny_bind (wp_two (b := gv) (fun b s1 Q1 y => by cases b <;> first | exact wpAny_pure y | exact wpAny_rule y) ?_)
    by_cases pl : t1.plain = true
    · rw [if_pos pl]
      refine wpAny_bind ?_
      rw [hashByValue_scannable 8 (q.sc hk)]
      refine wpAny_pure ?_
      refine setX_store (q := q) (fun b s1 Q1 y => by cases b <;> first | exact wpAny_pure y | exact wpAny_rule y) ho hex hd g1 pk (List.nodup_cons.mpr ⟨hno, nd⟩) hb1 (by split <;> first | exact f1 | exact SetTable.fits_plain_off f1) (by split <;> exact r1) (by split <;> exact hld) ?_
      exact fun h' sb r => wpAny_pure (fin _ h' sb r)
    · rw [if_neg pl]
      refine wpAny_bind (wpAny_pure ?_)
      simp only [if_true]
      refine setX_store (q := q) (fun b s1 Q1 y => by cases b <;> first | exact wpAny_pure y | exact wpAny_rule y) ho hex hd g1 pk (List.nodup_cons.mpr ⟨hno, nd⟩) hb1 f1 r1 hld ?_
      exact fun h' sb r => wpAny_pure (fin _ h' sb r)
end
end
end Z
set_option Elab.async false
set_option linter.all false
set_option maxRecDepth 100000
set_option maxHeartbeats 4000000
namespace Z
open PySem PySem.Spec PyProof.Rows L2 Evl
section
variable {P : Program} {w : World} {K : Type} [DecidableEq K] {q : Kst P w K}
def nob (w : World) : Obj := { cls := .type "set", dict := none, data := .set #[] 0 (.fresh 0 0 (!w.params.followText "set-order")) }
theorem setX_nob {h : Heap} {a : Addr} (ho : h.get? a = some (nob w)) : SetX q h a [] := by
  refine ⟨_, #[], 0, _, ⟨ho, ⟨rfl, rfl, rfl⟩, rfl⟩, ⟨fun e he => by simp at he, List.Perm.nil, List.nodup_nil⟩, ⟨by decide, rfl⟩, List.Pairwise.nil, ?_⟩
  show _ ∨ (!w.params.followText "set-order") = true
  cases w.params.followText "set-order"
  · exact .inr rfl
  · exact .inl rfl
theorem addK_len {ks : List K} {k : K} : (addK ks k).length ≤ ks.length + 1 := by
  unfold addK
  split <;> simp
theorem fold_len : ∀ (zs ks : List K), (zs.foldl addK ks).length ≤ ks.length + zs.length
  | [], ks => by simp
  | z :: zs, ks => by
    have := fold_len zs (addK ks z)
    have := addK_len (ks := ks) (k := z)
    simp only [List.foldl_cons, List.length_cons]
    omega
theorem fold_mem {x : K} : ∀ (zs ks : List K), x ∈ zs.foldl addK ks ↔ x ∈ ks ∨ x ∈ zs
  | [], ks => by simp
  | z :: zs, ks => by
    rw [List.foldl_cons, fold_mem zs]
    unfold addK
    split
    · next h =>
      constructor
      · rintro (h1 | h1)
        · exact .inl h1
        · exact .inr (List.mem_cons_of_mem _ h1)
      · rintro (h1 | h1)
        · exact .inl h1
        · rcases List.mem_cons.mp h1 with h2 | h2
          · exact .inl (h2 ▸ h)
          · exact .inr h2
    · rw [List.mem_cons, List.mem_cons]
      constructor
      · rintro ((h1 | h1) | h1)
        · exact .inr (.inl h1)
        · exact .inl h1
        · exact .inr (.inr h1)
      · rintro (h1 | h1 | h1)
        · exact .inl (.inr h1)
        · exact .inl (.inl h1)
        · exact .inr h1
variable {A : Around} {E : Value → Shared → Prop} {s : Shared}
theorem setX_loop {I : Addr} {fp wr : List Addr} {G : Array GenState → Array GenState → Prop} {n : Nat} {Pv : Nat → Value → Prop} {St : Nat → Shared → Prop} {R : Result → Shared → Prop}
    (W : WalksS P w A.in1 I fp wr G n Pv St) (S : Addr) (hSf : S ∉ fp) (zs : List K) (hn : n = zs.length) (room : zs.length + 1 < scanBound) (hval : ∀ i v, Pv i v → ∃ k, zs[i]? = some k ∧ q.kd.is k v = true) :
    ∀ (m i : Nat) (s : Shared), n - i = m → i ≤ n → St i s → SetX q s.heap S ((zs.take i).foldl addK []) → (∀ s', Moved (S :: wr) G s s' → SetX q s'.heap S (zs.foldl addK []) → R (.ok (.ret .none)) s') →
      codeAny (model P w) A (.builtin "set.update.loop" ⟨[.ref S, .ref I], []⟩) R s := by
  have out : S ∉ wr := fun h => hSf (W.sub _ h)
  have sub : ∀ b ∈ wr, b ∈ S :: wr := fun b => List.mem_cons_of_mem _
  intro m
  induction m with
  | zero =>
    intro i s hm hi st hS hR
    have e : i = n := by omega
    subst e
    refine codeAny_builtin F.entry_set_update_loop ?_
    rw [Around.under_plainId F.plain_set_update_loop _]
    refine (show wpAny _ A.in1 (pyNext (.ref I) >>= _) _ _ s from wpAny_bind (W.done s _ _ st fun s' mv => (show wpAny _ A.in1 (ret Value.none) _ _ s' from wpAny_pure (hR s' (mv.mono sub) ?_))))
    rw [List.take_of_length_le (by omega)] at hS
    exact hS.keep fun o e => mv.heap S o out e
  | succ m ih =>
    intro i s hm hi st hS hR
    have lt : i < n := by omega
    refine codeAny_builtin F.entry_set_update_loop ?_
    rw [Around.under_plainId F.plain_set_update_loop _]
    refine (show wpAny _ A.in1 (pyNext (.ref I) >>= _) _ _ s from wpAny_bind (W.item i s _ _ lt st fun v s' hP st' mv => ?_))
    obtain ⟨k, hz, hk⟩ := hval i v hP
    have hS' := hS.keep fun o e => mv.heap S o out e
    have ln : ((zs.take i).foldl addK []).length ≤ i := by
      have := fold_len (zs.take i) []
      simp only [List.length_nil, List.length_take] at this
      omega
    show wpAny _ A.in1 (holding [v] (setAdd S v) >>= _) _ _ s'
    refine wpAny_bind (wpAny_holding ?_)
    unfold setAdd
    refine wpAny_holding (wpAny_bind (q.kd.pyHash (k := k) hk (setX_add (q := q) (s := { s' with toks := s'.toks + 1 }) hk hS' (by omega) fun b h' sb hS2 => ?_)))
    have hS3 : SetX q h' S ((zs.take (i + 1)).foldl addK []) := by
      rw [List.take_add_one, hz, List.foldl_append]
      exact hS2
    refine wpAny_pure ⟨plainId_quiet F.plain_set_update_loop _, ih (i + 1) _ (by omega) lt (W.frame _ s' _ _ st' (Nat.le_succ _) fun b hb o e => ?_) hS3 fun s2 mv2 hS4 => ?_⟩
    · rw [sb.2 b (fun h => hSf (h ▸ hb))]
      exact e
    · refine hR s2 (Moved.trans W.gtrans ((mv.mono sub).then_heap (Nat.le_succ _) fun b o hb e => ?_) mv2) hS4
      rw [sb.2 b (fun h => hb (h ▸ List.mem_cons_self))]
      exact e

theorem set_list {l : Addr} {items : Array Value} (zs : List K) {Q : Value → Shared → Prop} (hh : A.handled = none) (hl : s.heap.IsList l items) (hsz : items.size = zs.length) (hit : ∀ (i : Nat) (v : Value), items[i]? = some v → ∃ k, zs[i]? = some k ∧ q.kd.is k v = true) (room : zs.length + 1 < scanBound)
    (fin : ∀ (h' : Heap) (tk : Nat), SetX q h' s.heap.objs.size (zs.foldl addK []) → (∀ b o, s.heap.get? b = some o → h'.get? b = some o) → Q (.ref s.heap.objs.size) { s with heap := h', toks := tk }) :
    wpAny (model P w) A (call (.type "set") [.ref l]) Q E s := by
  obtain ⟨_, _, hmro⟩ := F.called_set.mro
  have hmd := F.called_set.made
  have hsb := F.called_set.sub
  refine wpAny_call (codeAny_of_tree (show wpAny _ _ (callAny (.type "set") _) _ _ _ from wpAny_pure ⟨Code.quiet_builtin _ (by decide +kernel), codeAny_builtin F.entry_type_call ?_⟩))
  rw [Around.under_plain (weight_type_call_type "set" [.ref l] []) rfl]
  have hnt := F.called_set.notType; have hcc := F.called_set.canCreate; have htc := F.typeCall_set_1 (.ref l)
  repeat (any_goals (first | assumption | wp_step))
  refine codeAny_mono (code_set_led1 (.ref l) (E := E) (Q₁ := fun ob s1 => ob = .ref s.heap.objs.size ∧ s1 = { s with heap := s.heap.push (nob w) }) ⟨rfl, rfl⟩) fun r s1 hr => ?_
  rcases r with e | fl
  · exact hr
  rcases fl with ob | _ | _ | _
  all_goals try exact hr.elim
  obtain ⟨rfl, rfl⟩ := hr
  have hS : (s.heap.push (nob w)).get? s.heap.objs.size = some (nob w) := Heap.get?_push_size _ rfl
  have hT : Shared.TypeIs { s with heap := s.heap.push (nob w) } (.ref s.heap.objs.size) "set" := ⟨_, hS, rfl⟩
  have hli := F.called_set.init.lookup; have hbi := F.called_set.init.bind (.ref s.heap.objs.size)
  repeat (any_goals (first | assumption | wp_step))
  refine codeAny_mono (codeAny_call_builtin (R := wants (fun r s2 => r = .none ∧ ∃ h' tk, s2 = { s with heap := h', toks := tk } ∧ SetX q h' s.heap.objs.size (zs.foldl addK []) ∧ (∀ b o, s.heap.get? b = some o → h'.get? b = some o)) E) F.called_set.init.plain F.entry_set_init (check_set_init_1 hT ?_)) fun r2 s2 hr2 => ?_
  · obtain ⟨⟨oc, od, odt, osl⟩, hol, hcl, nl, hdl⟩ := hl
    dsimp only at hcl hdl
    subst hcl hdl
    have hol' : (s.heap.push (nob w)).get? l = some { cls := .type "list", dict := od, data := .seq items nl, slots := osl } := Heap.get?_push_of_some _ hol
    have hs1 := F.sub_list_set; have hs2 := F.sub_list_frozenset
    have hne : (Value.type "list" == Value.type "dict") = false := rfl
    have hl1 : (s.heap.push (nob w)).IsList l items := ⟨_, hol', rfl, nl, rfl⟩
    unfold Builtin.«set.__init__» noKeywords
    unfold Builtin.Frozenset.updateFrom
    generalize hPI : pyIter = PI
    wp_walk
    subst hPI
    refine wpAny_pyIter_list hl1 (wpAny_bind (wpAny_runValue ?_))
    have hlS : l < s.heap.objs.size := Heap.lt_size hol
    have hh3 : A.in1.in1.in1.handled = none := by
      simp [hh]
    have z1 : (s.heap.push (nob w)).objs.size = s.heap.objs.size + 1 := Heap.size_push ..
    have hneI : l ≠ (s.heap.push (nob w)).objs.size := by rw [z1]; exact Nat.ne_of_lt (Nat.lt_succ_of_lt hlS)
    have hSf : s.heap.objs.size ∉ [(s.heap.push (nob w)).objs.size, l] := by
      rw [z1]
      intro h
      rcases List.mem_cons.mp h with h | h
      · exact Nat.ne_of_lt (Nat.lt_succ_self _) h
      · exact Nat.ne_of_gt hlS (List.mem_singleton.mp h)
    refine setX_loop (q := q) ((Walks.list hh3 _ l hneI items).toS) s.heap.objs.size hSf zs hsz room hit (items.size - 0) 0 _ (by omega) (Nat.zero_le _) ⟨⟨_, Heap.get?_push_size _ rfl, rfl, rfl⟩, (hl1.push _)⟩ ?hS0 ?hR
    case hS0 => exact setX_nob (Heap.get?_push_of_some _ hS)
    case hR =>
      rintro ⟨h', g2, d', tk', os'⟩ hm hS'
      have eg : g2 = s.gens := hm.gens
      have ed : d' = s.drawn := hm.drawn
      have eo : os' = s.os := hm.os
      subst eg ed eo
      refine (show wpAny _ _ _ _ _ _ from wpAny_pure (show wpAny _ _ (ret Value.none) _ _ _ from wpAny_pure ⟨rfl, h', tk', rfl, hS', fun b o e => ?_⟩))
      have hb0 : b < s.heap.objs.size := Heap.lt_size e
      refine hm.heap b o (fun h => ?_) (Heap.get?_push_of_some _ (Heap.get?_push_of_some _ e))
      rcases List.mem_cons.mp h with h | h
      · exact Nat.ne_of_lt hb0 h
      · have := List.mem_singleton.mp h
        rw [z1] at this
        exact Nat.ne_of_lt (Nat.lt_succ_of_lt hb0) this
  · rcases r2 with e | fl2
    · exact hr2
    rcases fl2 with r | _ | _ | _
    all_goals try exact hr2.elim
    obtain ⟨rfl, h', tk, rfl, hS', hk'⟩ := hr2
    repeat (any_goals (first | assumption | wp_step))
    exact fin _ _ hS' hk'

theorem set_tuple {l : Addr} {items : Array Value} (zs : List K) {Q : Value → Shared → Prop} (hh : A.handled = none) (hl : s.heap.IsTuple l items) (hsz : items.size = zs.length) (hit : ∀ (i : Nat) (v : Value), items[i]? = some v → ∃ k, zs[i]? = some k ∧ q.kd.is k v = true) (room : zs.length + 1 < scanBound)
    (fin : ∀ (h' : Heap) (tk : Nat), SetX q h' s.heap.objs.size (zs.foldl addK []) → (∀ b o, s.heap.get? b = some o → h'.get? b = some o) → Q (.ref s.heap.objs.size) { s with heap := h', toks := tk }) :
    wpAny (model P w) A (call (.type "set") [.ref l]) Q E s := by
  obtain ⟨_, _, hmro⟩ := F.called_set.mro
  have hmd := F.called_set.made
  have hsb := F.called_set.sub
  refine wpAny_call (codeAny_of_tree (show wpAny _ _ (callAny (.type "set") _) _ _ _ from wpAny_pure ⟨Code.quiet_builtin _ (by decide +kernel), codeAny_builtin F.entry_type_call ?_⟩))
  rw [Around.under_plain (weight_type_call_type "set" [.ref l] []) rfl]
  have hnt := F.called_set.notType; have hcc := F.called_set.canCreate; have htc := F.typeCall_set_1 (.ref l)
  repeat (any_goals (first | assumption | wp_step))
  refine codeAny_mono (code_set_led1 (.ref l) (E := E) (Q₁ := fun ob s1 => ob = .ref s.heap.objs.size ∧ s1 = { s with heap := s.heap.push (nob w) }) ⟨rfl, rfl⟩) fun r s1 hr => ?_
  rcases r with e | fl
  · exact hr
  rcases fl with ob | _ | _ | _
  all_goals try exact hr.elim
  obtain ⟨rfl, rfl⟩ := hr
  have hS : (s.heap.push (nob w)).get? s.heap.objs.size = some (nob w) := Heap.get?_push_size _ rfl
  have hT : Shared.TypeIs { s with heap := s.heap.push (nob w) } (.ref s.heap.objs.size) "set" := ⟨_, hS, rfl⟩
  have hli := F.called_set.init.lookup; have hbi := F.called_set.init.bind (.ref s.heap.objs.size)
  repeat (any_goals (first | assumption | wp_step))
  refine codeAny_mono (codeAny_call_builtin (R := wants (fun r s2 => r = .none ∧ ∃ h' tk, s2 = { s with heap := h', toks := tk } ∧ SetX q h' s.heap.objs.size (zs.foldl addK []) ∧ (∀ b o, s.heap.get? b = some o → h'.get? b = some o)) E) F.called_set.init.plain F.entry_set_init (check_set_init_1 hT ?_)) fun r2 s2 hr2 => ?_
  · obtain ⟨⟨oc, od, odt, osl⟩, hol, hcl, nl, hdl⟩ := hl
    dsimp only at hcl hdl
    subst hcl hdl
    have hol' : (s.heap.push (nob w)).get? l = some { cls := .type "tuple", dict := od, data := .seq items nl, slots := osl } := Heap.get?_push_of_some _ hol
    have hs1 := F.sub_tuple_set; have hs2 := F.sub_tuple_frozenset
    have hne : (Value.type "tuple" == Value.type "dict") = false := rfl
    have hl1 : (s.heap.push (nob w)).IsTuple l items := ⟨_, hol', rfl, nl, rfl⟩
    unfold Builtin.«set.__init__» noKeywords
    unfold Builtin.Frozenset.updateFrom
    generalize hPI : pyIter = PI
    wp_walk
    subst hPI
    refine wpAny_pyIter_tuple hl1 (wpAny_bind (wpAny_runValue ?_))
    have hlS : l < s.heap.objs.size := Heap.lt_size hol
    have hh3 : A.in1.in1.in1.handled = none := by
      simp [hh]
    have z1 : (s.heap.push (nob w)).objs.size = s.heap.objs.size + 1 := Heap.size_push ..
    have hneI : l ≠ (s.heap.push (nob w)).objs.size := by rw [z1]; exact Nat.ne_of_lt (Nat.lt_succ_of_lt hlS)
    have hSf : s.heap.objs.size ∉ [(s.heap.push (nob w)).objs.size, l] := by
      rw [z1]
      intro h
      rcases List.mem_cons.mp h with h | h
      · exact Nat.ne_of_lt (Nat.lt_succ_self _) h
      · exact Nat.ne_of_gt hlS (List.mem_singleton.mp h)
    refine setX_loop (q := q) ((Walks.tuple hh3 _ l hneI items).toS) s.heap.objs.size hSf zs hsz room hit (items.size - 0) 0 _ (by omega) (Nat.zero_le _) ⟨⟨_, Heap.get?_push_size _ rfl, rfl, rfl⟩, (hl1.push _)⟩ ?hS0 ?hR
    case hS0 => exact setX_nob (Heap.get?_push_of_some _ hS)
    case hR =>
      rintro ⟨h', g2, d', tk', os'⟩ hm hS'
      have eg : g2 = s.gens := hm.gens
      have ed : d' = s.drawn := hm.drawn
      have eo : os' = s.os := hm.os
      subst eg ed eo
      refine (show wpAny _ _ _ _ _ _ from wpAny_pure (show wpAny _ _ (ret Value.none) _ _ _ from wpAny_pure ⟨rfl, h', tk', rfl, hS', fun b o e => ?_⟩))
      have hb0 : b < s.heap.objs.size := Heap.lt_size e
      refine hm.heap b o (fun h => ?_) (Heap.get?_push_of_some _ (Heap.get?_push_of_some _ e))
      rcases List.mem_cons.mp h with h | h
      · exact Nat.ne_of_lt hb0 h
      · have := List.mem_singleton.mp h
        rw [z1] at this
        exact Nat.ne_of_lt (Nat.lt_succ_of_lt hb0) this
  · rcases r2 with e | fl2
    · exact hr2
    rcases fl2 with r | _ | _ | _
    all_goals try exact hr2.elim
    obtain ⟨rfl, h', tk, rfl, hS', hk'⟩ := hr2
    repeat (any_goals (first | assumption | wp_step))
    exact fin _ _ hS' hk'
end
end Z
set_option Elab.async false
set_option linter.all false
set_option maxRecDepth 100000
set_option maxHeartbeats 4000000
namespace Z
open PySem PySem.Spec PyProof.Rows L2 Evl
def keyI : Value → Int
  | .int k _ => k
  | _ => 0
def keyS : Value → Str
  | .str x _ => x
  | _ => ⟨#[]⟩
def qI (P : Program) (w : World) : Kst P w Int where
  kd := PySem.intKind P w
  key := keyI
  rd := fun h => by
    obtain ⟨t, rfl⟩ := Value.isInt_shape h
    rfl
  sc := fun h => by
    obtain ⟨t, rfl⟩ := Value.isInt_shape h
    rfl
  vv := V.int
  rel := fun ⟨t, h⟩ => by
    rw [h]
    exact intKind_is P w _ t
def qS (P : Program) (w : World) : Kst P w Str where
  kd := PySem.strKind P w
  key := keyS
  rd := fun h => by
    obtain ⟨t, rfl⟩ := Value.isStrOf_shape h
    rfl
  sc := fun h => by
    obtain ⟨t, rfl⟩ := Value.isStrOf_shape h
    rfl
  vv := V.str
  rel := fun ⟨t, h⟩ => by
    rw [h]
    exact strKind_is P w _ t
section
variable {P : Program} {w : World} {A : Around} {E : Value → Shared → Prop} {s : Shared}

theorem sort_I {ks : List Int} {a : Addr} {Q : Value → Shared → Prop} (R : SetX (qI P w) s.heap a ks) (hh : A.handled = none)
    (fin : ∀ s' p (out : Array Value) (c : Nat) (ns : List Int), (∀ b o, s.heap.get? b = some o → s'.heap.get? b = some o) → s'.gens = s.gens → s'.os = s.os → s.heap.objs.size ≤ p →
      s'.heap.get? p = some (seqObj "list" out c) → IntsAre out.toList ns → ns.Perm ks → ns.Pairwise (· ≤ ·) → Q (.ref p) s') :
    wpAny (model P w) A (call (.builtin "sorted") [.ref a]) Q E s := by
  obtain ⟨o, es, ep, t, ⟨ho, hex, hd⟩, ⟨g, pk0, nd⟩, ⟨hb, hf⟩, hr, hl⟩ := R
  have esz : es.size = ks.length := by rw [← pk0.length_eq, List.length_map, Array.length_toList]
  refine Calls.call_function_entry kind_sorted plain_sorted entry_sorted (args_sorted1 _) ?_
  unfold Builtin.«sorted»
  refine wpAny_bind (m := checkCount "sorted" 1 1 _) (wpAny_pure (wpAny_bind (collect_set (A := A.in1) hh ⟨o, ho, hex.1, hd⟩ hf hb hr hl fun s1 vs k1 hz g1 o1 pm => ?_)))
  have vl : vs.length = ks.length := by rw [pm.length_eq, List.length_map, Array.length_toList, esz]
  have hA : IntsAre vs (vs.map Builtin.Re.reRawOf) := ints_of vs fun v hv => by
    obtain ⟨e, he, z⟩ := List.mem_map.mp (pm.mem_iff.mp hv)
    obtain ⟨k, h1, _⟩ := g e he
    rw [z] at h1
    exact let ⟨t, h⟩ := Value.isInt_shape h1; ⟨k, t, h⟩
  have pk : (vs.map Builtin.Re.reRawOf).Perm ks := by
    have z := pm.map (qI P w).key
    rw [List.map_map] at z
    refine List.Perm.trans (List.Perm.of_eq (List.map_congr_left fun v hv => ?_)) (z.trans pk0)
    obtain ⟨e, he, y⟩ := List.mem_map.mp (pm.mem_iff.mp hv)
    obtain ⟨k, h1, _⟩ := g e he
    rw [y] at h1
    obtain ⟨k, t, rfl⟩ := (let ⟨t, h⟩ := Value.isInt_shape h1; ⟨k, t, h⟩ : ∃ k t, v = Value.int k t)
    rfl
  have hz2 : vs.length ≤ sizeLine := by rw [vl, ← esz]; exact fits_of_scanBound hb
  refine wpAny_bind (wpAny_newList ?_ (by rw [sizeLine_eq] at hz2; exact hz2))
  have hoL : (s1.heap.push (seqObj "list" vs.toArray 0)).get? s1.heap.objs.size = some (seqObj "list" vs.toArray 0) := Heap.get?_push_size _ rfl
  refine wpAny_bind (wpAny_holding (wpAny_call_entry slot_list_sort ⟨_, hoL, rfl⟩ entry_list_sort (list_sort_treeAny hoL hA hz2 fun out ns a1 a2 a3 => ⟨_, rfl, ?_⟩) (args_list_sort _)))
  obtain ⟨c, hc⟩ := sortedHeap_at (vs := vs) (out := out) hoL
  refine wpAny_pure ⟨_, rfl, fin _ s1.heap.objs.size out c ns (fun b u e => ?_) g1 o1 hz hc a1 (a2.trans pk) a3⟩
  have y := k1 b u e
  have lt := Heap.lt_size y
  show (sortedHeap (s1.heap.push (seqObj "list" vs.toArray 0)) s1.heap.objs.size vs out).get? b = some u
  rw [sortedHeap_old (Nat.ne_of_lt lt) (by rw [size_push']; exact Nat.lt_succ_of_lt lt)]
  exact Heap.get?_push_of_some _ y

theorem sort_S {ks : List Str} {a : Addr} {Q : Value → Shared → Prop} (R : SetX (qS P w) s.heap a ks) (hh : A.handled = none)
    (fin : ∀ s' p (out : Array Value) (c : Nat) (ns : List Str), (∀ b o, s.heap.get? b = some o → s'.heap.get? b = some o) → s'.gens = s.gens → s'.os = s.os → s.heap.objs.size ≤ p →
      s'.heap.get? p = some (seqObj "list" out c) → StrsAre out.toList ns → ns.Perm ks → sortedS ns = true → Q (.ref p) s') :
    wpAny (model P w) A (call (.builtin "sorted") [.ref a]) Q E s := by
  obtain ⟨o, es, ep, t, ⟨ho, hex, hd⟩, ⟨g, pk0, nd⟩, ⟨hb, hf⟩, hr, hl⟩ := R
  have esz : es.size = ks.length := by rw [← pk0.length_eq, List.length_map, Array.length_toList]
  refine Calls.call_function_entry kind_sorted plain_sorted entry_sorted (args_sorted1 _) ?_
  unfold Builtin.«sorted»
  refine wpAny_bind (m := checkCount "sorted" 1 1 _) (wpAny_pure (wpAny_bind (collect_set (A := A.in1) hh ⟨o, ho, hex.1, hd⟩ hf hb hr hl fun s1 vs k1 hz g1 o1 pm => ?_)))
  have vl : vs.length = ks.length := by rw [pm.length_eq, List.length_map, Array.length_toList, esz]
  have hA : StrsAre vs (vs.map strOf) := strsAre_map vs fun v hv => by
    obtain ⟨e, he, z⟩ := List.mem_map.mp (pm.mem_iff.mp hv)
    obtain ⟨k, h1, _⟩ := g e he
    rw [z] at h1
    exact let ⟨t, h⟩ := Value.isStrOf_shape h1; ⟨k, t, h⟩
  have pk : (vs.map strOf).Perm ks := by
    have z := pm.map (qS P w).key
    rw [List.map_map] at z
    refine List.Perm.trans (List.Perm.of_eq (List.map_congr_left fun v hv => ?_)) (z.trans pk0)
    obtain ⟨e, he, y⟩ := List.mem_map.mp (pm.mem_iff.mp hv)
    obtain ⟨k, h1, _⟩ := g e he
    rw [y] at h1
    obtain ⟨k, t, rfl⟩ := (let ⟨t, h⟩ := Value.isStrOf_shape h1; ⟨k, t, h⟩ : ∃ k t, v = Value.str k t)
    rfl
  have hz2 : vs.length ≤ sizeLine := by rw [vl, ← esz]; exact fits_of_scanBound hb
  refine wpAny_bind (wpAny_newList ?_ (by rw [sizeLine_eq] at hz2; exact hz2))
  have hoL : (s1.heap.push (seqObj "list" vs.toArray 0)).get? s1.heap.objs.size = some (seqObj "list" vs.toArray 0) := Heap.get?_push_size _ rfl
  refine wpAny_bind (wpAny_holding (wpAny_call_entry slot_list_sort ⟨_, hoL, rfl⟩ entry_list_sort (list_sort_treeKAny strKind_oneLt hoL hA.keysOf (fun v1 v2 rest e => keyKind_strs (by rw [← e]; exact hA)) hz2 fun st hp hs => ⟨_, rfl, ?_⟩) (args_list_sort _)))
  obtain ⟨ns, a1, a2, a3⟩ := sorted_out_str hA hp hs
  generalize ((arrOf st).map (·.2)) = out at a1 ⊢
  obtain ⟨c, hc⟩ := sortedHeap_at (vs := vs) (out := out) hoL
  refine wpAny_pure ⟨_, rfl, fin _ s1.heap.objs.size out c ns (fun b u e => ?_) g1 o1 hz hc a1 (a2.trans pk) a3⟩
  have y := k1 b u e
  have lt := Heap.lt_size y
  show (sortedHeap (s1.heap.push (seqObj "list" vs.toArray 0)) s1.heap.objs.size vs out).get? b = some u
  rw [sortedHeap_old (Nat.ne_of_lt lt) (by rw [size_push']; exact Nat.lt_succ_of_lt lt)]
  exact Heap.get?_push_of_some _ y
end
end Z
set_option Elab.async false
set_option linter.all false
set_option maxRecDepth 100000
set_option maxHeartbeats 4000000
namespace Z
open PySem PySem.Spec PyProof.Rows L2 Evl
def SetXo {P : Program} {w : World} {K : Type} [DecidableEq K] (q : Kst P w K) (a : Addr) (ks : List K) : HO := .ext fun h => SetX q h a ks
theorem setXo_new {P : Program} {w : World} {K : Type} [DecidableEq K] {q : Kst P w K} {H : Hp} {h : Heap} {a : Addr} {ks : List K} (R : SetX q h a ks) : ObjOk P w H h a (SetXo q a ks) := by
  have ⟨o, _, _, _, ⟨ho, _⟩, _⟩ := R
  exact ⟨R, ⟨o, ho⟩, fun h1 h2 p k => SetX.keep p k⟩
theorem vals_at {K : Type} {f : K → V} : ∀ {zs : List K} {us : List Value}, Vals (zs.map f) us → ∀ (i : Nat) (v : Value), us[i]? = some v → ∃ k, zs[i]? = some k ∧ RelV (f k) v
  | [], _, r, i, v, h => by
    cases r
    simp at h
  | z :: zs, _, r, i, v, h => by
    rw [List.map_cons] at r
    cases r with
    | cons r1 r2 =>
      cases i with
      | zero =>
        simp at h
        exact ⟨z, rfl, h ▸ r1⟩
      | succ i => simpa using vals_at r2 i v (by simpa using h)
section
variable {X : Cx}
/-- set(xs) -/
def rSetX {K : Type} [DecidableEq K] (q : Kst X.prog X.w K) : List V → Hp → VK → Prop := fun vs H Q => ∃ (l : Addr) (zs : List K), vs = [V.ref l] ∧ (SqL X.K H l (zs.map q.vv) ∨ SqT X.K H l (zs.map q.vv)) ∧ zs.length + 1 < scanBound ∧
  ∀ p, H p = none → Q (.ref p) (upd H p (SetXo q p (zs.foldl addK [])))
theorem cr_setX {K : Type} [DecidableEq K] {q : Kst X.prog X.w K} (hc : X.calm = true) : CallR X (.type "set") (rSetX q) := by
  intro pins s σ H vs us Q I r h
  obtain ⟨l, zs, rfl, hl, room, k⟩ := h
  rw [Vals.ref1 r]
  have hn : H s.heap.objs.size = none := I.hok.fresh (Nat.le_refl _)
  have end_ : ∀ (h' : Heap) (tk : Nat), SetX q h' s.heap.objs.size (zs.foldl addK []) → (∀ b o, s.heap.get? b = some o → h'.get? b = some o) → ∃ v H1, Inv X pins σ H1 { s with heap := h', toks := tk } ∧ RelV v (.ref s.heap.objs.size) ∧ Q v H1 := fun h' tk R kp =>
    ⟨.ref s.heap.objs.size, _, I.laid (t' := tk) kp (Nat.le_refl _) (setXo_new R), rfl, k _ hn⟩
  rcases hl with hl | hl
  · obtain ⟨its, rv, pl, hz⟩ := I.list hl
    have ln := rv.length
    rw [List.length_map] at ln
    exact set_list (q := q) zs (I.ok.hd hc) pl.isList (by simpa using ln.symm) (fun i v hv => by
      obtain ⟨k, h1, h2⟩ := vals_at rv i v (by simpa using hv)
      exact ⟨k, h1, q.rel h2⟩) room fun h' tk R kp => end_ h' tk R kp
  · obtain ⟨its, rv, pl, hz⟩ := I.tuple hl
    have ln := rv.length
    rw [List.length_map] at ln
    exact set_tuple (q := q) zs (I.ok.hd hc) pl (by simpa using ln.symm) (fun i v hv => by
      obtain ⟨k, h1, h2⟩ := vals_at rv i v (by simpa using hv)
      exact ⟨k, h1, q.rel h2⟩) room fun h' tk R kp => end_ h' tk R kp
/-- sorted(a set) -/
def rSortX {K : Type} [DecidableEq K] (q : Kst X.prog X.w K) (asc : List K → Prop) : List V → Hp → VK → Prop := fun vs H Q => ∃ (a : Addr) (ks : List K), vs = [V.ref a] ∧ H a = some (SetXo q a ks) ∧ ks.length ≤ sizeLine ∧
  ∀ (ns : List K) (p : Addr), ns.Perm ks → ks.Nodup → asc ns → H p = none → Q (.ref p) (upd H p (.lst (ns.map q.vv)))
theorem cr_sortXI (hc : X.calm = true) : CallR X (.builtin "sorted") (rSortX (qI X.prog X.w) fun ns => ns.Pairwise (· ≤ ·)) := by
  intro pins s σ H vs us Q I r h
  obtain ⟨a, ks, rfl, ha, hz, k⟩ := h
  rw [Vals.ref1 r]
  have R : SetX (qI X.prog X.w) s.heap a ks := (I.hok a _ ha).1
  have nd : ks.Nodup := by
    obtain ⟨_, _, _, _, _, ⟨_, _, nd⟩, _⟩ := R
    exact nd
  refine sort_I R (I.ok.hd hc) fun s' p out c ns kp g o hp hg hi pm hs => ?_
  have hn : H p = none := I.hok.fresh hp
  have J : Inv X pins σ (upd H p (.lst (ns.map V.int))) { s with heap := s'.heap, gens := s'.gens, drawn := s'.drawn, toks := s'.toks } :=
    I.call (ch := []) (Un.laid kp hp hn) (I.hok.laid kp hp ⟨by rw [List.length_map, pm.length_eq]; exact hz, out.toList, c, vals_of_ints hi, hg⟩) (by rw [g]; exact I.bare) (fun _ z => nomatch z)
  have e : s' = { s with heap := s'.heap, gens := s'.gens, drawn := s'.drawn, toks := s'.toks } := by
    rcases s' with ⟨_, _, _, _, _⟩
    rcases s with ⟨_, _, _, _, _⟩
    cases o
    rfl
  rw [e]
  exact ⟨.ref p, _, J, rfl, k ns p pm nd hs hn⟩
theorem cr_sortXS (hc : X.calm = true) : CallR X (.builtin "sorted") (rSortX (qS X.prog X.w) fun ns => sortedS ns = true) := by
  intro pins s σ H vs us Q I r h
  obtain ⟨a, ks, rfl, ha, hz, k⟩ := h
  rw [Vals.ref1 r]
  have R : SetX (qS X.prog X.w) s.heap a ks := (I.hok a _ ha).1
  have nd : ks.Nodup := by
    obtain ⟨_, _, _, _, _, ⟨_, _, nd⟩, _⟩ := R
    exact nd
  refine sort_S R (I.ok.hd hc) fun s' p out c ns kp g o hp hg hi pm hs => ?_
  have hn : H p = none := I.hok.fresh hp
  have J : Inv X pins σ (upd H p (.lst (ns.map V.str))) { s with heap := s'.heap, gens := s'.gens, drawn := s'.drawn, toks := s'.toks } :=
    I.call (ch := []) (Un.laid kp hp hn) (I.hok.laid kp hp ⟨by rw [List.length_map, pm.length_eq]; exact hz, out.toList, c, vals_of_strs hi, hg⟩) (by rw [g]; exact I.bare) (fun _ z => nomatch z)
  have e : s' = { s with heap := s'.heap, gens := s'.gens, drawn := s'.drawn, toks := s'.toks } := by
    rcases s' with ⟨_, _, _, _, _⟩
    rcases s with ⟨_, _, _, _, _⟩
    cases o
    rfl
  rw [e]
  exact ⟨.ref p, _, J, rfl, k ns p pm nd hs hn⟩
end
end Z
set_option Elab.async false
set_option linter.all false
set_option maxRecDepth 100000
set_option maxHeartbeats 4000000
namespace Z
open PySem PySem.Spec PyProof.Rows L2 Evl
section
variable {X : Cx}
def rSetA : List V → Hp → VK → Prop := fun vs H Q => rSetX (qI X.prog X.w) vs H Q ∨ rSetX (qS X.prog X.w) vs H Q
def rSortA : List V → Hp → VK → Prop := fun vs H Q => rSortX (qI X.prog X.w) (fun ns => ns.Pairwise (· ≤ ·)) vs H Q ∨ rSortX (qS X.prog X.w) (fun ns => sortedS ns = true) vs H Q
theorem cr_setA (hc : X.calm = true) : CallR X (.type "set") (rSetA (X := X)) := fun pins s σ H vs us Q I r h => h.elim (cr_setX hc pins s σ H vs us Q I r) (cr_setX hc pins s σ H vs us Q I r)
theorem cr_sortA (hc : X.calm = true) : CallR X (.builtin "sorted") (rSortA (X := X)) := fun pins s σ H vs us Q I r h => h.elim (cr_sortXI hc pins s σ H vs us Q I r) (cr_sortXS hc pins s σ H vs us Q I r)
end
theorem rise_pw : ∀ (l : List Str) (p : Str), risingS p l = true → (p :: l).Pairwise fun a b => ¬ b.cps.toList < a.cps.toList
  | [], p, _ => List.pairwise_singleton _ _
  | x :: l, p, h => by
    have h2 : (!ltCps x.cps.toList p.cps.toList && risingS x l) = true := h
    rw [Bool.and_eq_true, Bool.not_eq_true', ltCps_eq, decide_eq_false_iff_not] at h2
    have ih := rise_pw l x h2.2
    refine List.pairwise_cons.mpr ⟨fun y hy => ?_, ih⟩
    rcases List.mem_cons.mp hy with z | z
    · rw [z]
      exact h2.1
    · have h3 := (List.pairwise_cons.mp ih).1 y z
      exact fun h4 => absurd (List.le_trans (show p.cps.toList ≤ x.cps.toList from h2.1) (show x.cps.toList ≤ y.cps.toList from h3)) (fun h5 => h5 h4)
theorem sorted_pw {l : List Str} (h : sortedS l = true) : l.Pairwise fun a b => ¬ b.cps.toList < a.cps.toList := by
  cases l with
  | nil => exact List.Pairwise.nil
  | cons x l => exact rise_pw l x h
theorem str_inj {a b : Str} (h : a.cps.toList = b.cps.toList) : a = b := by
  rcases a with ⟨a⟩
  rcases b with ⟨b⟩
  congr
  exact Array.toList_inj.mp h
theorem pw_lt : ∀ {l : List Str}, l.Pairwise (fun a b => ¬ b.cps.toList < a.cps.toList) → l.Nodup → l.Pairwise fun a b => a.cps.toList < b.cps.toList
  | [], _, _ => List.Pairwise.nil
  | x :: l, h, d => by
    obtain ⟨h1, h2⟩ := List.pairwise_cons.mp h
    obtain ⟨d1, d2⟩ := List.nodup_cons.mp d
    refine List.pairwise_cons.mpr ⟨fun y hy => ?_, pw_lt h2 d2⟩
    by_cases c : x.cps.toList < y.cps.toList
    · exact c
    · have e : x.cps.toList = y.cps.toList := List.le_antisymm (h1 y hy) c
      exact absurd (str_inj e ▸ hy) d1
theorem rp_ints {K : PySem.W.Frag} {F : Hp} : ∀ ns : List Int, RpAll K F (ns.map V.int) (ns.map PyData.int)
  | [] => .nil
  | n :: ns => .cons (.int n) (rp_ints ns)
theorem rp_strs {K : PySem.W.Frag} {F : Hp} : ∀ ns : List Str, RpAll K F (ns.map V.str) (ns.map PyData.str)
  | [] => .nil
  | n :: ns => .cons (.str n) (rp_strs ns)
theorem srtOf_eq {f : Str} {args : List Expr} {a : Expr} (h : srtOf f args = some a) : f = "sorted" ∧ ∃ p2 pos2, args = [.Call (.Name "set" p2) [a] [] pos2] ∧ plainE a = true := by
  unfold srtOf at h
  split at h
  · rename_i e
    have e := of_decide_eq_true e
    split at h
    · rename_i e2
      obtain ⟨e3, e4⟩ := Bool.and_eq_true_iff.mp e2
      have e5 := of_decide_eq_true e3
      cases h
      exact ⟨e, _, _, by rw [e5], e4⟩
    · cases h
  · cases h
section
variable {S : Type} {X : Cx} {W : Wd S}
theorem sort_go {F H : Hp} {σ : L2.St} {ε : En} {s : S} {Ed : QX S} {Qd : QS S} {R : VK} (cy : Cy X.K W F H σ ε s Ed) (kq : Kq X.K W F H Qd R) {p : Addr} {vs : List V} {ds : List PyData} (hp : SqL X.K H p vs ∨ SqT X.K H p vs) (ra : RpAll X.K F vs ds) (q : sortP ds fun z => Qd z s) :
    rSetA (X := X) [.ref p] H fun v H1 => rSortA (X := X) [v] H1 R := by
  unfold sortP at q
  have big : (1000 : Nat) + 1 < scanBound := by decide
  have big2 : (1000 : Nat) ≤ sizeLine := by decide
  split at q
  · rename_i is e
    have e2 := intsD_rp ra e
    subst e2
    refine .inl ⟨p, is, rfl, hp, by have := q.1; omega, fun p2 n2 => .inl ⟨p2, _, rfl, upd_same, Nat.le_trans (fold_len is []) (by have := q.1; simp only [List.length_nil]; omega), fun ns p3 pm nd as n3 => ?_⟩⟩
    have m1 : Fm [] F H F (upd H p2 (SetXo (qI X.prog X.w) p2 (is.foldl addK []))) := Fm.own cy.ex n2
    refine kq_pure cy kq (m1.trans (Fm.new m1.fh n3)) (q.2 ns (lt_of_le_nodup ns as (pm.nodup_iff.mpr nd)) fun k => by rw [pm.mem_iff, fold_mem]; simp) (.lst (upd_same) (rp_ints ns))
  · split at q
    · rename_i zs e
      have e2 := strsD_rp ra e
      subst e2
      refine .inr ⟨p, zs, rfl, hp, by have := q.1; omega, fun p2 n2 => .inr ⟨p2, _, rfl, upd_same, Nat.le_trans (fold_len zs []) (by have := q.1; simp only [List.length_nil]; omega), fun ns p3 pm nd as n3 => ?_⟩⟩
      have m1 : Fm [] F H F (upd H p2 (SetXo (qS X.prog X.w) p2 (zs.foldl addK []))) := Fm.own cy.ex n2
      refine kq_pure cy kq (m1.trans (Fm.new m1.fh n3)) (q.2 ns (pw_lt (sorted_pw as) (pm.nodup_iff.mpr nd)) fun k => by rw [pm.mem_iff, fold_mem]; simp) (.lst (upd_same) (rp_strs ns))
    · exact q.elim
theorem sort_fin {F H : Hp} {σ : L2.St} {ε : En} {s : S} {Ed : QX S} {Qd : QS S} {R : VK} (cy : Cy X.K W F H σ ε s Ed) (kq : Kq X.K W F H Qd R) {v : V} {sl : Sl} (r : Sr X.K F v sl) (q : dsort sl fun z => Qd z s) :
    rSetA (X := X) [v] H fun v H1 => rSortA (X := X) [v] H1 R := by
  unfold dsort at q
  split at q
  · cases r with
    | lst hs ha => exact sort_go cy kq (.inl (.inl (.inl (cy.ex _ _ hs)))) ha q
  · cases r with
    | tup hs ha => exact sort_go cy kq (.inr (ex_t cy.ex hs)) ha q
  · exact q.elim
end
end Z
set_option Elab.async false
set_option linter.all false
set_option maxRecDepth 100000
set_option maxHeartbeats 4000000
namespace Z
open PySem PySem.Spec PyProof.Rows L2 Evl
theorem cut_whole {α : Type} {xs : List α} {lo hi : Option Int} (h1 : HT.sIx xs.length 0 lo = 0) (h2 : HT.sIx xs.length xs.length hi = xs.length) : cutG xs lo hi = xs := by
  unfold cutG
  rw [h1, h2]
  simp
def rSlS (K : PySem.W.Frag) : V → Option Int → Option Int → Hp → VK → Prop := fun vx lo hi H Q => ∃ F x P, Ex F H ∧ Sr K F vx x ∧ dsl x lo hi P ∧ ∀ z, P z → ∀ v F2 H2, Fm [] F H F2 H2 → Sr K F2 v z → Q v H2
theorem slS {X : Cx} : SlR X (rSlS X.K) := by
  intro pins s σ H vx v vl vu lo hi sl Q I rx hs pl pu h
  obtain ⟨F, x, P, ex, sx, hd, k⟩ := h
  refine (SlR.or (SlR.or sl_list sl_tupA) sl_str) pins s σ H vx v vl vu lo hi sl Q I rx hs pl pu ?_
  unfold dsl at hd
  split at hd
  · cases sx with
    | @lst a xs ds ha ra =>
      refine .inl (.inl ⟨a, xs, rfl, .inl (.inl (ex _ _ ha)), fun p hp => ?_⟩)
      refine k _ hd _ (upd F p (.lst (cutV xs lo hi))) _ (Fm.new ex hp) (.lst upd_same ?_)
      unfold cutV cutG
      rw [rpAll_len ra]
      exact rpAll_take _ (rpAll_drop _ (dpAll_ex (Ex.new (fresh_back ex hp)) _ _ ra))
  · cases sx with
    | @tup a xs ds ha ra =>
      refine .inl (.inr ⟨a, xs, rfl, ex_t ex ha, fun hw => ?_, fun _ p hp => ?_⟩)
      · rw [rpAll_len ra] at hw
        rw [cut_whole hw.1 hw.2] at hd
        exact k _ hd _ F H (Fm.refl ex) (.tup ha ra)
      · refine k _ hd _ (upd F p (.tup (cutV xs lo hi))) _ (Fm.new ex hp) (.tup (.inl (.inl upd_same)) ?_)
        unfold cutV cutG
        rw [rpAll_len ra]
        exact rpAll_take _ (rpAll_drop _ (dpAll_ex (Ex.new (fresh_back ex hp)) _ _ ra))
  · cases sx
    exact .inr ⟨_, rfl, hd.1, k _ hd.2 _ F H (Fm.refl ex) (.str _)⟩
  · exact hd.elim
section
variable {S : Type} {X : Cx} {W : Wd S} {Γ : Gam S} {sc : Scope} {n : Nat} (C : CxOk X W Γ sc)
variable (ih : ∀ e, PE X e (tWE X.K W Γ n sc e)) (it : ∀ e, PT X e (tWT X.K W Γ n sc e))
def tWO (K : PySem.W.Frag) (W : Wd S) (Γ : Gam S) (n : Nat) (sc : Scope) (e : Option Expr) : TO := fun σ H R => ∃ ε s Qd Ed F, wOpt (fun e s Q => wE Γ n false sc ε s e Q Ed) e s Qd ∧ Cy K W F H σ ε s Ed ∧
  (∀ (o : Option Int) (s2 : S) (F2 H2 : Hp), Fm W.rs F H F2 H2 → W.J s2 F2 H2 → Qd o s2 → R o H2)
theorem po_imp {e : Option Expr} {t u : TO} (h : PO X e t) (k : ∀ σ H Q, u σ H Q → t σ H Q) : PO X e u := ⟨fun pins s σ H Q I q => h.run pins s σ H Q I (k σ H Q q)⟩
include ih
theorem po_w : ∀ e : Option Expr, PO X e (tWO X.K W Γ n sc e)
  | none => po_imp po_none fun σ H R ⟨ε, s, Qd, Ed, F, hw, cy, kq⟩ => kq none s F H (Fm.refl cy.ex) cy.j hw
  | some e => po_imp (po_some (ih e)) fun σ H R ⟨ε, s, Qd, Ed, F, hw, cy, kq⟩ => by
    refine ⟨ε, s, _, Ed, F, hw, cy, fun v sl s2 F2 H2 m j q r => ?_⟩
    dsimp only at q
    split at q
    · cases r
      exact ⟨_, rfl, kq _ s2 F2 H2 m j q⟩
    · exact q.elim
theorem pe_sl {a : Expr} {lo hi : Option Expr} {p2 pos : Pos} : PE X (.Subscript a (.Slice lo hi none p2) pos) (tWE X.K W Γ (n + 1) sc (.Subscript a (.Slice lo hi none p2) pos)) := by
  refine pe_w (pe_slice slS (ih a) (po_w ih lo) (po_w ih hi)) fun σ H R ε s Qd Ed F w cy kq => ?_
  simp only [wE, chk_iff, chkN_iff, Bool.and_eq_true, decide_eq_true_eq, isG_iff, Bool.not_eq_true', and_assoc] at w
  refine ⟨ε, s, _, Ed, F, w, cy, fun v x s2 F2 H2 m j q r => ?_⟩
  refine ⟨ε, s2, _, Ed, F2, q, cy.next m j, fun l s3 F3 H3 m3 j3 q3 => ?_⟩
  refine ⟨ε, s3, _, Ed, F3, q3, cy.next (m.trans m3) j3, fun h s4 F4 H4 m4 j4 q4 => ?_⟩
  exact ⟨F4, x, _, m4.fh, sr_ex (m3.ff.trans m4.ff) r, q4, fun z hz v2 F5 H5 m5 r5 => kq_pure (cy.next ((m.trans m3).trans m4) j4) (kq.next ((m.trans m3).trans m4)) m5 hz r5⟩
include it
theorem pe_if {c a b : Expr} {pos : Pos} : PE X (.IfExp c a b pos) (tWE X.K W Γ (n + 1) sc (.IfExp c a b pos)) := by
  refine pe_w (pe_ifExp (it c) (ih a) (ih b)) fun σ H R ε s Qd Ed F w cy kq => ?_
  simp only [wE, chk_iff, chkN_iff, Bool.and_eq_true, decide_eq_true_eq, isG_iff, Bool.not_eq_true', and_assoc] at w
  refine ⟨ε, s, _, Ed, F, w, cy, fun k s2 F2 H2 m j q => ?_⟩
  cases k with
  | true => exact ⟨ε, s2, Qd, Ed, F2, q, cy.next m j, kq.next m⟩
  | false => exact ⟨ε, s2, Qd, Ed, F2, q, cy.next m j, kq.next m⟩
omit it
include C
theorem pe_jn {o a : Expr} {m : Str} {apos pos : Pos} : PE X (.Call (.Attribute o m apos) [a] [] pos) (tWE X.K W Γ (n + 1) sc (.Call (.Attribute o m apos) [a] [] pos)) := by
  by_cases hm : m = "join" ∧ plainE a = true ∧ callE o = false ∧ (apos.endLine == pos.line) = true
  · obtain ⟨rfl, h1, h2, h3⟩ := hm
    refine pe_w (pe_join (ih o) (ih a) (star1 [] X.env h1) (base0 X.env h2) h3) fun σ H R ε s Qd Ed F w cy kq => ?_
    simp only [wE, chk_iff, chkN_iff, Bool.and_eq_true, decide_eq_true_eq, isG_iff, Bool.not_eq_true', and_assoc] at w
    obtain ⟨_, _, _, _, w⟩ := w
    refine ⟨ε, s, _, Ed, F, w, cy, fun v x s2 F2 H2 m j q r => ?_⟩
    obtain ⟨⟨z, e⟩, q⟩ := q
    subst e
    cases r
    refine ⟨⟨z, rfl⟩, ε, s2, _, Ed, F2, q, cy.next m j, fun u y s3 F3 H3 m3 j3 q3 r3 => ?_⟩
    dsimp only [djoin] at q3
    split at q3
    · rename_i ds e
      cases e
      cases r3 with
      | @lst p xs _ hp rp =>
        split at q3
        · rename_i ys e
          have e2 := strsD_rp rp e
          subst e2
          refine ⟨z, p, ys, rfl, rfl, .inl (.inl (.inl (m3.fh _ _ hp))), ?_, ?_⟩
          · exact q3.1
          · exact kq_now (cy.next (m.trans m3) j3) (kq.next (m.trans m3)) q3.2 (.str _)
        · exact q3.elim
    · rename_i ds e
      cases e
      cases r3 with
      | @tup p xs _ hp rp =>
        split at q3
        · rename_i ys e
          have e2 := strsD_rp rp e
          subst e2
          refine ⟨z, p, ys, rfl, rfl, .inr (ex_t m3.fh hp), ?_, ?_⟩
          · exact q3.1
          · exact kq_now (cy.next (m.trans m3) j3) (kq.next (m.trans m3)) q3.2 (.str _)
        · exact q3.elim
    · exact q3.elim
  · refine pe_false fun σ H R ⟨ε, s, Qd, Ed, F, w, cy, kq⟩ => ?_
    simp only [wE, chk_iff, chkN_iff, Bool.and_eq_true, decide_eq_true_eq, isG_iff, Bool.not_eq_true', and_assoc] at w
    exact hm ⟨w.1, w.2.1, w.2.2.1, w.2.2.2.1⟩
theorem pe_sr {a : Expr} {p p2 pos pos2 : Pos} (hq : Γ.free.contains "sorted" = true ∧ Γ.free.contains "set" = true ∧ sc.names.lookup ("set" : Str) = some .globalImplicit) (hl : sc.names.lookup ("sorted" : Str) = some .globalImplicit) (h1 : plainE a = true)
    (hw : ∀ ε s (Qd : QS S) Ed, wE Γ (n + 1) false sc ε s (.Call (.Name "sorted" p) [.Call (.Name "set" p2) [a] [] pos2] [] pos) Qd Ed → wE Γ n false sc ε s a (fun x s1 => dsort x fun z => Qd z s1) Ed) :
    PE X (.Call (.Name "sorted" p) [.Call (.Name "set" p2) [a] [] pos2] [] pos) (tWE X.K W Γ (n + 1) sc (.Call (.Name "sorted" p) [.Call (.Name "set" p2) [a] [] pos2] [] pos)) := by
  have inner : PE X (.Call (.Name "set" p2) [a] [] pos2) (tCB (rSetA (X := X)) (tCons (tWE X.K W Γ n sc a) tNil)) :=
    pe_callTy (cr_setA C.calm) (C.gl _ hq.2.2) (C.free _ hq.2.1) (by decide +kernel) (pa_cons (ih a) pa_nil (star1 [] X.env h1)) (by decide) (by decide) (star1 [] X.env h1)
  refine pe_w (pe_callB (cr_sortA C.calm) (C.gl _ hl) (C.free _ hq.1) (by decide +kernel) (pa_cons inner pa_nil) (by decide) (by decide)) fun σ H R ε s Qd Ed F w cy kq => ?_
  refine ⟨ε, s, _, Ed, F, hw ε s Qd Ed w, cy, fun v sl s2 F2 H2 m j q r => ?_⟩
  exact sort_fin (cy.next m j) (kq.next m) r q
omit C ih in
theorem isiOf_eq {b : Bf} {args : List Expr} {a : Expr} {l : List (Str × String)} (h : isiOf b args = some (a, l)) : b = .isinstance ∧ ∃ es k tp, args = [a, .Tuple es k tp] ∧ tyNames es = some l := by
  unfold isiOf at h
  split at h
  · rename_i a0 es k tp
    cases q : tyNames es with
    | none =>
      rw [q] at h
      cases h
    | some l0 =>
      rw [q] at h
      cases h
      exact ⟨rfl, es, k, tp, rfl, q⟩
  · cases h
omit ih in
theorem pa_tys : ∀ {es : List Expr} {l : List (Str × String)}, tyNames es = some l → (∀ q ∈ l, Γ.free.contains q.1 = true ∧ sc.names.lookup q.1 = some .globalImplicit) → PA X es (fun σ H R => R (l.map fun q => V.ty q.2) H)
  | [], l, h, _ => by
    cases h
    exact pa_imp pa_nil fun σ H R q => q
  | .Name x p :: r, l, h, hl => by
    unfold tyNames at h
    cases t : tyOf x with
    | none =>
      rw [t] at h
      cases h
    | some T =>
      cases q : tyNames r with
      | none =>
        rw [t, q] at h
        cases h
      | some l0 =>
        rw [t, q] at h
        cases h
        obtain ⟨h1, h2⟩ := hl _ List.mem_cons_self
        have nd := okSc_no C.dbg h2
        exact pa_imp (pa_cons (pe_bltn (v := .ty T) (C.gl x h2) (C.free x h1) (tyOf_boot t) rfl nd.2.2 nd.1) (pa_tys q fun z hz => hl z (List.mem_cons_of_mem _ hz)) (star1 r X.env rfl)) fun σ H R z => z
omit C ih in
theorem kit_any {K : PySem.W.Frag} {t : String} : ∀ {ns : List String} {b : Bool}, anyB t ns = some b → PySem.W.kitAny K (.type t) (ns.map .type) = some b
  | [], b, h => by
    cases h
    exact kitAny_nil
  | n :: ns, b, h => by
    unfold anyB at h
    cases q : kitB t n with
    | none =>
      rw [q] at h
      cases h
    | some c =>
      rw [q] at h
      refine kitAny_cons (kit_ty q) (fun e => ?_) fun e => ?_
      · subst e
        exact kit_any h
      · subst e
        cases h
        rfl
omit C ih in
theorem paired_tys : ∀ ns : List String, Paired ClsV (ns.map V.ty) (ns.map Value.type)
  | [] => .nil
  | n :: ns => .cons (.ty n) (paired_tys ns)
theorem pe_cl {f : Str} {args : List Expr} {p pos : Pos} : PE X (.Call (.Name f p) args [] pos) (tWE X.K W Γ (n + 1) sc (.Call (.Name f p) args [] pos)) := by
  by_cases hp : args.all plainE = true ∧ sc.names.lookup f = some .globalImplicit
  · obtain ⟨hp, hl⟩ := hp
    have hg : Gl X f := C.gl f hl
    have nd := okSc_no C.dbg hl
    cases hf : Γ.fns.lookup f with
    | some spec =>
      obtain ⟨CX, k, a, G, hr, hm, hk, hx, _⟩ := C.fns f spec hf
      cases args with
      | nil =>
        refine pe_w (pe_fg0 G C.gs hr hg hm hk hx nd.1) fun σ H R ε s Qd Ed F w cy kq => ?_
        simp only [wE, chk_iff, chkN_iff, Bool.and_eq_true, decide_eq_true_eq, isG_iff, Bool.not_eq_true', and_assoc, hf] at w
        exact ⟨[], s, F, Qd, Ed, cy.ex, True.intro, cy.j, w.2.2, kq, cy.kx⟩
      | cons e es =>
        have hp2 := hp
        rw [List.all_cons, Bool.and_eq_true] at hp2
        refine pe_w (pe_fg G C.gs hr hg hm hk hx (pa_w ih _ hp) nd.1 (star1 es X.env hp2.1) (any0 X.env hp2.2)) fun σ H R ε s Qd Ed F w cy kq => ?_
        simp only [wE, chk_iff, chkN_iff, Bool.and_eq_true, decide_eq_true_eq, isG_iff, Bool.not_eq_true', and_assoc, hf] at w
        refine ⟨ε, s, _, Ed, F, w.2.2, cy, fun vs ss s2 F2 H2 m j q r => ?_⟩
        exact ⟨ss, s2, F2, Qd, Ed, m.fh, r, j, q, kq.next m, cy.kx.next m⟩
    | none =>
      cases hbf : bfOf Γ.rep f with
      | none =>
        by_cases hq : Γ.free.contains "sorted" = true ∧ Γ.free.contains "set" = true ∧ sc.names.lookup ("set" : Str) = some .globalImplicit
        · cases hsr : srtOf f args with
          | none =>
            refine pe_false fun σ H R ⟨ε, s, Qd, Ed, F, w, cy, kq⟩ => ?_
            simp only [wE, chk_iff, chkN_iff, Bool.and_eq_true, decide_eq_true_eq, isG_iff, Bool.not_eq_true', and_assoc, hf, hbf, hsr] at w
            exact w.2.2.2.2.2
          | some a =>
            obtain ⟨rfl, p2, pos2, rfl, h1⟩ := srtOf_eq hsr
            refine pe_sr C ih hq hl h1 fun ε s Qd Ed w => ?_
            simp only [wE, chk_iff, chkN_iff, Bool.and_eq_true, decide_eq_true_eq, isG_iff, Bool.not_eq_true', and_assoc, hf, hbf, hsr] at w
            exact w.2.2.2.2.2
        · refine pe_false fun σ H R ⟨ε, s, Qd, Ed, F, w, cy, kq⟩ => ?_
          simp only [wE, chk_iff, chkN_iff, Bool.and_eq_true, decide_eq_true_eq, isG_iff, Bool.not_eq_true', and_assoc, hf, hbf] at w
          exact hq ⟨w.2.2.1, w.2.2.2.1, w.2.2.2.2.1⟩
      | some b =>
        by_cases hq : Γ.free.contains f = true ∧ args.isEmpty = false
        · obtain ⟨hfr, hne⟩ := hq
          cases args with
          | nil => cases hne
          | cons e es =>
            have hp2 := hp
            rw [List.all_cons, Bool.and_eq_true] at hp2
            have boot := bfOf_boot hbf
            have nrep := bfOf_rep hbf
            cases hisi : isiOf b (e :: es) with
            | some al =>
              obtain ⟨a, l⟩ := al
              obtain ⟨hb, es2, k2, tp, hargs, ht⟩ := isiOf_eq hisi
              subst hb
              obtain ⟨e1, e2⟩ := List.cons.inj hargs
              subst e1 e2
              by_cases hl2 : l.length ≤ 100 ∧ ∀ q ∈ l, Γ.free.contains q.1 = true ∧ sc.names.lookup q.1 = some .globalImplicit
              · obtain ⟨hlen, hall⟩ := hl2
                have hpa : PA X [e, .Tuple es2 k2 tp] (tCons (tWE X.K W Γ n sc e) (tCons (tTup fun σ H R => R (l.map fun q => V.ty q.2) H) tNil)) :=
                  pa_cons (ih e) (pa_cons (pe_tup (pa_tys C ht hall)) pa_nil (star1 [] X.env rfl)) (star1 _ X.env hp2.1)
                refine pe_w (pe_callB call_isiT hg (C.free f hfr) boot hpa nd.2.2 nd.1 (star1 _ X.env hp2.1) (any0 (pos := pos) X.env hp2.2)) fun σ H R ε s Qd Ed F w cy kq => ?_
                simp only [wE, chk_iff, chkN_iff, Bool.and_eq_true, decide_eq_true_eq, isG_iff, Bool.not_eq_true', and_assoc, hf, hbf, hisi] at w
                refine ⟨ε, s, _, Ed, F, w.2.2.2.2.2.2, cy, fun v x s2 F2 H2 m j q r => ?_⟩
                refine ⟨by rw [List.length_map]; exact sz_of (by omega), fun pa hpa2 => ?_⟩
                cases x with
                | d x =>
                  simp only [disT] at q
                  cases hk : anyB (tyName x) (l.map (·.2)) with
                  | none =>
                    rw [hk] at q
                    exact q.elim
                  | some b =>
                    rw [hk] at q
                    have e4 : (l.map fun q => V.ty q.2) = (l.map (·.2)).map V.ty := by rw [List.map_map]; rfl
                    refine ⟨v, pa, _, .type (tyName x), (l.map (·.2)).map .type, b, rfl, upd_same, by rw [e4]; exact paired_tys _, tyx_rp (m.fh.trans (Ex.new hpa2)) r, kit_any hk, ?_⟩
                    exact kq_pure (cy.next m j) (kq.next m) (Fm.own m.fh hpa2) q (.bl b)
                | _ => exact q.elim
              · refine pe_false fun σ H R ⟨ε, s, Qd, Ed, F, w, cy, kq⟩ => ?_
                simp only [wE, chk_iff, chkN_iff, Bool.and_eq_true, decide_eq_true_eq, isG_iff, Bool.not_eq_true', and_assoc, hf, hbf, hisi, List.all_eq_true] at w
                exact hl2 ⟨w.2.2.2.2.1, w.2.2.2.2.2.1⟩
            | none =>
            have rule := callBf (X := X) C.calm C.gs C.room b nrep
            have fin : ∀ (σ : L2.St) (H : Hp) (R : VK) (ε : En) (s : S) (Qd : QS S) (Ed : QX S) (F : Hp), wE Γ (n + 1) false sc ε s (.Call (.Name f p) (e :: es) [] pos) Qd Ed → Cy X.K W F H σ ε s Ed → Kq X.K W F H Qd R →
                tCB (rSn X.K (dcall b)) (tWA X.K W Γ n sc (e :: es)) σ H R := by
              intro σ H R ε s Qd Ed F w cy kq
              simp only [wE, chk_iff, chkN_iff, Bool.and_eq_true, decide_eq_true_eq, isG_iff, Bool.not_eq_true', and_assoc, hf, hbf, hisi] at w
              refine ⟨ε, s, _, Ed, F, w.2.2.2.2, cy, fun vs ss s2 F2 H2 m j q r => ?_⟩
              exact ⟨F2, ss, _, m.fh, r, q, fun z hz v2 F4 H4 m4 r4 => kq_pure (cy.next m j) (kq.next m) m4 hz r4⟩
            have hs := star1 es X.env hp2.1
            have ha := any0 (pos := pos) X.env hp2.2
            cases b <;> first
              | exact pe_w (pe_callB rule hg (C.free f hfr) boot (pa_w ih _ hp) nd.2.2 nd.1 hs ha) fin
              | exact pe_w (pe_callTy rule hg (C.free f hfr) boot (pa_w ih _ hp) nd.2.2 nd.1 hs ha) fin
        · refine pe_false fun σ H R ⟨ε, s, Qd, Ed, F, w, cy, kq⟩ => ?_
          simp only [wE, chk_iff, chkN_iff, Bool.and_eq_true, decide_eq_true_eq, isG_iff, Bool.not_eq_true', and_assoc, hf, hbf] at w
          exact hq ⟨w.2.2.1, w.2.2.2.1⟩
  · refine pe_false fun σ H R ⟨ε, s, Qd, Ed, F, w, cy, kq⟩ => ?_
    simp only [wE, chk_iff, chkN_iff, Bool.and_eq_true, decide_eq_true_eq, isG_iff, Bool.not_eq_true', and_assoc] at w
    exact hp ⟨w.1, w.2.1⟩
omit C
include it
theorem pt_nt {a : Expr} {pos : Pos} : PT X (.UnaryOp .Not a pos) (tWT X.K W Γ (n + 1) sc (.UnaryOp .Not a pos)) := by
  refine pt_w (pt_not (it a)) fun σ H R ε s Qd Ed F w cy kq => ?_
  simp only [wE, chk_iff, chkN_iff, Bool.and_eq_true, decide_eq_true_eq, isG_iff, Bool.not_eq_true', and_assoc] at w
  exact ⟨ε, s, _, Ed, F, w, cy, fun k s2 F2 H2 m j q => kq (!k) s2 F2 H2 m j q⟩
theorem pt_ands {pos : Pos} : ∀ es : List Expr, PW X (.BoolOp .And es pos) (fun σ H R => ∃ ε s Qd Ed F, wAnd (fun e s Q => wE Γ n true sc ε s e Q Ed) es s Qd ∧ Cy X.K W F H σ ε s Ed ∧ Kb W F H Qd R)
  | [] => ⟨fun _ _ _ _ _ _ _ ⟨ε, s, Qd, Ed, F, w, cy, kq⟩ => w.elim⟩
  | [e] => pw_imp (pw_and1 (it e)) fun σ H R ⟨ε, s, Qd, Ed, F, w, cy, kq⟩ => ⟨ε, s, Qd, Ed, F, w, cy, kq⟩
  | e :: e2 :: es => pw_imp (pw_and (it e) (pt_ands (e2 :: es))) fun σ H R ⟨ε, s, Qd, Ed, F, w, cy, kq⟩ => by
    refine ⟨ε, s, _, Ed, F, w, cy, fun k s2 F2 H2 m j q => ?_⟩
    cases k with
    | true => exact ⟨ε, s2, Qd, Ed, F2, q, cy.next m j, fun b s3 F3 H3 m3 => kq b s3 F3 H3 (m.trans m3)⟩
    | false => exact kq false s2 F2 H2 m j q
theorem pt_ors {pos : Pos} : ∀ es : List Expr, PW X (.BoolOp .Or es pos) (fun σ H R => ∃ ε s Qd Ed F, wOr (fun e s Q => wE Γ n true sc ε s e Q Ed) es s Qd ∧ Cy X.K W F H σ ε s Ed ∧ Kb W F H Qd R)
  | [] => ⟨fun _ _ _ _ _ _ _ ⟨ε, s, Qd, Ed, F, w, cy, kq⟩ => w.elim⟩
  | [e] => pw_imp (pw_or1 (it e)) fun σ H R ⟨ε, s, Qd, Ed, F, w, cy, kq⟩ => ⟨ε, s, Qd, Ed, F, w, cy, kq⟩
  | e :: e2 :: es => pw_imp (pw_or (it e) (pt_ors (e2 :: es))) fun σ H R ⟨ε, s, Qd, Ed, F, w, cy, kq⟩ => by
    refine ⟨ε, s, _, Ed, F, w, cy, fun k s2 F2 H2 m j q => ?_⟩
    cases k with
    | false => exact ⟨ε, s2, Qd, Ed, F2, q, cy.next m j, fun b s3 F3 H3 m3 => kq b s3 F3 H3 (m.trans m3)⟩
    | true => exact kq true s2 F2 H2 m j q
omit it
theorem pt_gen {e : Expr} (he : condE e = false) (hw : ∀ ε s (Qd : QS S) Ed, wE Γ (n + 1) true sc ε s e Qd Ed → wE Γ n false sc ε s e (fun x s1 => dtru x fun b => Qd (.d (.bool b)) s1) Ed) : PT X e (tWT X.K W Γ (n + 1) sc e) := by
  refine pt_w (pt_tru (ih e) he) fun σ H R ε s Qd Ed F w cy kq => ?_
  refine ⟨ε, s, _, Ed, F, hw ε s Qd Ed w, cy, fun v x s2 F2 H2 m j q r => ?_⟩
  obtain ⟨k, t, q2⟩ := tru_v m.fh r q
  exact ⟨k, t, kq k s2 F2 H2 m j q2⟩
end
end Z
set_option Elab.async false
set_option linter.all false
set_option maxRecDepth 100000
set_option maxHeartbeats 4000000
namespace Z
open PySem PySem.Spec PyProof.Rows L2 Evl
/-- J walks the data xs -/
def Wk (K : PySem.W.Frag) (F : Hp) (J : It) (xs : List PyData) : Prop := ∀ (i : Nat) (F' H' : Hp), Ex F F' → Ex F' H' →
  (∀ x, xs[i]? = some x → J.go i H' ∧ ∀ v H'', J.yld i H' v H'' → ∃ F'', Fm [] F' H' F'' H'' ∧ Rp K F'' v x) ∧ (xs.length ≤ i → J.stop i H')
section
variable {K : PySem.W.Frag} {F : Hp}
theorem wk_list {a : Addr} {vs : List V} {ds : List PyData} (h : F a = some (.lst vs)) (r : RpAll K F vs ds) : Wk K F (Itl K a) ds := by
  intro i F' H' e1 e2
  have hs : SqL K H' a vs := .inl (.inl (e2 _ _ (e1 _ _ h)))
  refine ⟨fun x hx => ?_, fun hi => ⟨vs, hs, by rw [rpAll_len r]; exact hi⟩⟩
  obtain ⟨v, g, rv⟩ := rpAll_get r hx
  refine ⟨⟨vs, v, hs, g⟩, fun u H'' ⟨e, k⟩ => ?_⟩
  subst e
  have e3 := k vs hs
  rw [g] at e3
  cases e3
  exact ⟨F', Fm.refl e2, dp_ex e1 _ _ rv⟩
theorem wk_tup {a : Addr} {vs : List V} {ds : List PyData} (h : SqT K F a vs) (r : RpAll K F vs ds) : Wk K F (Itt K a) ds := by
  intro i F' H' e1 e2
  have hs : SqT K H' a vs := ex_t e2 (ex_t e1 h)
  refine ⟨fun x hx => ?_, fun hi => ⟨vs, hs, by rw [rpAll_len r]; exact hi⟩⟩
  obtain ⟨v, g, rv⟩ := rpAll_get r hx
  refine ⟨⟨vs, v, hs, g⟩, fun u H'' ⟨e, k⟩ => ?_⟩
  subst e
  have e3 := k vs hs
  rw [g] at e3
  cases e3
  exact ⟨F', Fm.refl e2, dp_ex e1 _ _ rv⟩
theorem wk_rng {lo : Int} {n : Nat} : Wk K F (Itr lo n) ((List.range n).map fun i => .int (lo + (i : Nat))) := by
  intro i F' H' e1 e2
  refine ⟨fun x hx => ?_, fun hi => show n ≤ i by simpa using hi⟩
  rw [List.getElem?_map] at hx
  obtain ⟨j, hj, e⟩ := Option.map_eq_some_iff.mp hx
  obtain ⟨hl, e3⟩ := List.getElem?_eq_some_iff.mp hj
  rw [List.length_range] at hl
  rw [List.getElem_range] at e3
  subst e3 e
  refine ⟨hl, fun u H'' ⟨e, k⟩ => ?_⟩
  subst e k
  exact ⟨F', Fm.refl e2, .int _⟩
theorem wk_str {z : Str} : Wk K F (Its z) (z.cps.toList.map fun c => .str ⟨#[c]⟩) := by
  intro i F' H' e1 e2
  refine ⟨fun x hx => ?_, fun hi => show z.cps.size ≤ i by simpa using hi⟩
  rw [List.getElem?_map] at hx
  obtain ⟨c, hj, e⟩ := Option.map_eq_some_iff.mp hx
  rw [Array.getElem?_toList] at hj
  obtain ⟨hl, _⟩ := Array.getElem?_eq_some_iff.mp hj
  subst e
  refine ⟨hl, fun u H'' ⟨e, c2, k, e3⟩ => ?_⟩
  subst e e3
  rw [hj] at k
  cases k
  exact ⟨F', Fm.refl e2, .str _⟩
theorem zipD_get : ∀ {as bs : List PyData} {i : Nat} {x : PyData}, (zipD as bs)[i]? = some x → ∃ a b, as[i]? = some a ∧ bs[i]? = some b ∧ x = .tuple [a, b]
  | [], _, _, _, h => by simp [zipD] at h
  | _ :: _, [], _, _, h => by simp [zipD] at h
  | a :: as, b :: bs, 0, x, h => by
    simp [zipD] at h
    exact ⟨a, b, rfl, rfl, h.symm⟩
  | a :: as, b :: bs, i + 1, x, h => by
    simp only [zipD, List.getElem?_cons_succ] at h
    obtain ⟨c, d, h1, h2, h3⟩ := zipD_get h
    exact ⟨c, d, by simpa using h1, by simpa using h2, h3⟩
theorem zipD_len : ∀ {as bs : List PyData} {i : Nat}, (zipD as bs).length ≤ i → as.length ≤ i ∨ bs.length ≤ i
  | [], _, _, _ => .inl (Nat.zero_le _)
  | _ :: _, [], _, _ => .inr (Nat.zero_le _)
  | a :: as, b :: bs, 0, h => by simp [zipD] at h
  | a :: as, b :: bs, i + 1, h => by
    simp only [zipD, List.length_cons] at h
    have := zipD_len (as := as) (bs := bs) (i := i) (by omega)
    simp only [List.length_cons]
    omega
theorem wk_zip {a b : Addr} {xs ys : List V} {as bs : List PyData} (ha : F a = some (.lst xs)) (hb : F b = some (.lst ys)) (ra : RpAll K F xs as) (rb : RpAll K F ys bs) : Wk K F (Itz K a b) (zipD as bs) := by
  intro i F' H' e1 e2
  have h1 : SqL K H' a xs := .inl (.inl (e2 _ _ (e1 _ _ ha)))
  have h2 : SqL K H' b ys := .inl (.inl (e2 _ _ (e1 _ _ hb)))
  refine ⟨fun x hx => ?_, fun hi => ⟨xs, ys, h1, h2, ?_⟩⟩
  · obtain ⟨c, d, g1, g2, e⟩ := zipD_get hx
    subst e
    obtain ⟨v, k1, r1⟩ := rpAll_get ra g1
    obtain ⟨u, k2, r2⟩ := rpAll_get rb g2
    refine ⟨⟨xs, ys, v, u, h1, h2, k1, k2⟩, fun w H'' ⟨T, v2, u2, ew, hT, eH, p1, p2⟩ => ?_⟩
    subst ew eH
    have q1 := p1 xs h1
    have q2 := p2 ys h2
    rw [k1] at q1
    rw [k2] at q2
    cases q1
    cases q2
    have nf := fresh_back e2 hT
    exact ⟨_, Fm.new e2 hT, .tup (.inl (.inl upd_same)) (.cons (dp_ex (e1.trans (Ex.new nf)) _ _ r1) (.cons (dp_ex (e1.trans (Ex.new nf)) _ _ r2) .nil))⟩
  · rw [rpAll_len ra, rpAll_len rb]
    exact zipD_len hi
theorem wk_zipT {a b : Addr} {xs ys : List V} {as bs : List PyData} (ha : SqT K F a xs) (hb : SqT K F b ys) (ra : RpAll K F xs as) (rb : RpAll K F ys bs) : Wk K F (RZ.ItzT K a b) (zipD as bs) := by
  intro i F' H' e1 e2
  have h1 : SqT K H' a xs := ex_t e2 (ex_t e1 ha)
  have h2 : SqT K H' b ys := ex_t e2 (ex_t e1 hb)
  refine ⟨fun x hx => ?_, fun hi => ⟨xs, ys, h1, h2, ?_⟩⟩
  · obtain ⟨c, d, g1, g2, e⟩ := zipD_get hx
    subst e
    obtain ⟨v, k1, r1⟩ := rpAll_get ra g1
    obtain ⟨u, k2, r2⟩ := rpAll_get rb g2
    refine ⟨⟨xs, ys, v, u, h1, h2, k1, k2⟩, fun w H'' ⟨T, v2, u2, ew, hT, eH, p1, p2⟩ => ?_⟩
    subst ew eH
    have q1 := p1 xs h1
    have q2 := p2 ys h2
    rw [k1] at q1
    rw [k2] at q2
    cases q1
    cases q2
    have nf := fresh_back e2 hT
    exact ⟨_, Fm.new e2 hT, .tup (.inl (.inl upd_same)) (.cons (dp_ex (e1.trans (Ex.new nf)) _ _ r1) (.cons (dp_ex (e1.trans (Ex.new nf)) _ _ r2) .nil))⟩
  · rw [rpAll_len ra, rpAll_len rb]
    exact zipD_len hi
theorem enumD_get : ∀ {as : List PyData} {k i : Nat} {x : PyData}, (enumD k as)[i]? = some x → ∃ a, as[i]? = some a ∧ x = .tuple [.int ((k + i : Nat) : Int), a]
  | [], _, _, _, h => by simp [enumD] at h
  | a :: as, k, 0, x, h => by
    simp [enumD] at h
    exact ⟨a, rfl, by simpa using h.symm⟩
  | a :: as, k, i + 1, x, h => by
    simp only [enumD, List.getElem?_cons_succ] at h
    obtain ⟨c, h1, h2⟩ := enumD_get h
    refine ⟨c, by simpa using h1, ?_⟩
    rw [h2]
    have e : k + 1 + i = k + (i + 1) := by omega
    rw [e]
theorem enumD_len : ∀ (k : Nat) (as : List PyData), (enumD k as).length = as.length
  | _, [] => rfl
  | k, _ :: as => congrArg Nat.succ (enumD_len (k + 1) as)
theorem wk_enum {a : Addr} {xs : List V} {as : List PyData} (ha : F a = some (.lst xs)) (ra : RpAll K F xs as) : Wk K F (Ite K a) (enumD 0 as) := by
  intro i F' H' e1 e2
  have h1 : SqL K H' a xs := .inl (.inl (e2 _ _ (e1 _ _ ha)))
  refine ⟨fun x hx => ?_, fun hi => ⟨xs, h1, ?_⟩⟩
  · obtain ⟨c, g1, e⟩ := enumD_get hx
    subst e
    obtain ⟨v, k1, r1⟩ := rpAll_get ra g1
    refine ⟨⟨xs, v, h1, k1⟩, fun w H'' ⟨T, v2, ew, hT, eH, p1⟩ => ?_⟩
    subst ew eH
    have q1 := p1 xs h1
    rw [k1] at q1
    cases q1
    have nf := fresh_back e2 hT
    have e0 : ((0 + i : Nat) : Int) = (i : Int) := by simp
    rw [e0]
    exact ⟨_, Fm.new e2 hT, .tup (.inl (.inl upd_same)) (.cons (.int _) (.cons (dp_ex (e1.trans (Ex.new nf)) _ _ r1) .nil))⟩
  · rw [enumD_len] at hi
    rw [rpAll_len ra]
    exact hi
end
section
variable {X : Cx} {tg : Expr}
/-- what is walked, whatever the value is -/
theorem pi_seq {e : Expr} {te : TE} (he : PE X e te) : PI X tg e (fun σ H R => te σ H fun x H1 =>
    (∃ a xs, x = .ref a ∧ SqL X.K H1 a xs ∧ R (Itl X.K a) H1) ∨ (∃ a xs, x = .ref a ∧ SqT X.K H1 a xs ∧ R (Itt X.K a) H1) ∨ ∃ z, x = .str z ∧ R (Its z) H1) := by
  constructor
  intro pins s σ H R I h
  refine thn (he.run pins s σ H _ I h) ?_
  rintro v s1 ⟨y, H1, I1, r1, q⟩
  rcases q with ⟨a, xs, rfl, hq, q⟩ | ⟨a, xs, rfl, hq, q⟩ | ⟨z, rfl, q⟩
  · cases r1
    obtain ⟨its, _, p, _⟩ := I1.list hq
    apply wpAny_pyIter_list p.isList
    exact pi_one (tk := s1.toks) I1 _ (turn_list a _) ⟨_, Heap.get?_push_size _ rfl, rfl, rfl⟩ q
  · cases r1
    obtain ⟨its, _, p, _⟩ := I1.tuple hq
    apply wpAny_pyIter_tuple (show s1.heap.IsTuple a its.toArray from p)
    exact pi_one (tk := s1.toks) I1 _ (turn_tuple a _) ⟨_, Heap.get?_push_size _ rfl, rfl, rfl⟩ q
  · obtain ⟨t, rfl⟩ := r1
    cases ha : z.cps.all (· < 128) with
    | false =>
      apply wpAny_pyIter_wide ha
      exact pi_one (tk := s1.toks) I1 _ (turn_str _ z t _ (.inr rfl)) ⟨_, Heap.get?_push_size _ rfl, rfl, rfl⟩ q
    | true =>
      apply wpAny_pyIter_ascii ha
      exact pi_one (tk := s1.toks) I1 _ (turn_str _ z t _ (.inl rfl)) ⟨_, Heap.get?_push_size _ rfl, rfl, rfl⟩ q
theorem pi_imp {e : Expr} {t u : TI} (h : PI X tg e t) (k : ∀ σ H R, u σ H R → t σ H R) : PI X tg e u := ⟨fun pins s σ H R I q => h.run pins s σ H R I (k σ H R q)⟩
theorem pi_false {e : Expr} {t : TI} (h : ∀ σ H R, ¬ t σ H R) : PI X tg e t := ⟨fun _ _ σ H R _ q => (h σ H R q).elim⟩
end
section
variable {S : Type} {X : Cx} {W : Wd S} {Γ : Gam S} {sc : Scope} {n : Nat} {tg : Expr} (C : CxOk X W Γ sc) (ih : ∀ e, PE X e (tWE X.K W Γ n sc e))
def Ki (K : PySem.W.Frag) (W : Wd S) (F H : Hp) (Qd : List PyData → S → Prop) (R : It → Hp → Prop) : Prop := ∀ (J : It) (xs : List PyData) (s2 : S) (F2 H2 : Hp), Fm W.rs F H F2 H2 → W.J s2 F2 H2 → Qd xs s2 → Wk K F2 J xs → R J H2
def tWI (K : PySem.W.Frag) (W : Wd S) (Γ : Gam S) (n : Nat) (sc : Scope) (tg : Expr) (e : Expr) : TI := fun σ H R => ∃ ε s Qd Ed F, wIter Γ.free sc tg (fun e s Q => wE Γ n false sc ε s e Q Ed) e s Qd ∧ Cy K W F H σ ε s Ed ∧ Ki K W F H Qd R
include ih
theorem pi_any {e : Expr} (h : ∀ ε s (Qd : List PyData → S → Prop) Ed, wIter Γ.free sc tg (fun e s Q => wE Γ n false sc ε s e Q Ed) e s Qd → wSeq (fun e s Q => wE Γ n false sc ε s e Q Ed) e s Qd) : PI X tg e (tWI X.K W Γ n sc tg e) := by
  refine pi_imp (pi_seq (ih e)) fun σ H R ⟨ε, s, Qd, Ed, F, w, cy, kq⟩ => ?_
  refine ⟨ε, s, _, Ed, F, h ε s Qd Ed w, cy, fun v x s2 F2 H2 m j q r => ?_⟩
  dsimp only at q
  split at q
  · cases r with
    | @lst a xs _ ha ra => exact .inl ⟨a, xs, rfl, .inl (.inl (m.fh _ _ ha)), kq _ _ s2 F2 H2 m j q (wk_list ha ra)⟩
  · cases r with
    | @tup a xs _ ha ra => exact .inr (.inl ⟨a, xs, rfl, ex_t m.fh ha, kq _ _ s2 F2 H2 m j q (wk_tup ha ra)⟩)
  · cases r
    exact .inr (.inr ⟨_, rfl, kq _ _ s2 F2 H2 m j q wk_str⟩)
  · exact q.elim
include C
theorem pi_w1 {g : Str} {p pos : Pos} {a : Expr} : PI X tg (.Call (.Name g p) [a] [] pos) (tWI X.K W Γ n sc tg (.Call (.Name g p) [a] [] pos)) := by
  by_cases h1 : g = "range"
  · subst h1
    by_cases hh : plainE a = true ∧ Γ.free.contains ("range" : Str) = true ∧ sc.names.lookup ("range" : Str) = some .globalImplicit
    · obtain ⟨hp, hf, hl⟩ := hh
      refine pi_imp (pi_range1 (C.gl _ hl) (C.free _ hf) (pa_cons (ih a) pa_nil (star1 [] X.env hp)) (star1 [] X.env hp)) fun σ H R ⟨ε, s, Qd, Ed, F, w, cy, kq⟩ => ?_
      simp only [wIter, decide_true, chk_iff, chkN_iff, Bool.and_eq_true, decide_eq_true_eq, isG_iff, Bool.not_eq_true', and_assoc] at w
      refine ⟨ε, s, _, Ed, F, w.2.2.2, cy, fun v x s2 F2 H2 m j q r => ?_⟩
      dsimp only at q
      split at q
      · cases r
        obtain ⟨q1, q2, q3⟩ := q
        refine ⟨_, rfl, by omega, by omega, kq _ _ s2 F2 H2 m j q3 ?_⟩
        unfold rangeD
        rw [Int.sub_zero]
        exact wk_rng
      · exact q.elim
    · refine pi_false fun σ H R ⟨ε, s, Qd, Ed, F, w, cy, kq⟩ => ?_
      simp only [wIter, decide_true, chk_iff, chkN_iff, Bool.and_eq_true, decide_eq_true_eq, isG_iff, Bool.not_eq_true', and_assoc] at w
      exact hh ⟨w.1, w.2.1, w.2.2.1⟩
  · by_cases h2 : g = "enumerate"
    · subst h2
      by_cases hh : tupE tg = true ∧ plainE a = true ∧ Γ.free.contains ("enumerate" : Str) = true ∧ sc.names.lookup ("enumerate" : Str) = some .globalImplicit
      · obtain ⟨ht, hp, hf, hl⟩ := hh
        match tg, ht with
        | .Tuple es k tp, _ =>
          refine pi_imp (pi_enum (C.gl _ hl) (C.free _ hf) (pa_cons (ih a) pa_nil (star1 [] X.env hp)) (star1 [] X.env hp)) fun σ H R ⟨ε, s, Qd, Ed, F, w, cy, kq⟩ => ?_
          simp only [wIter, h1, decide_false, decide_true, chk_iff, chkN_iff, Bool.and_eq_true, decide_eq_true_eq, isG_iff, Bool.not_eq_true', and_assoc] at w
          refine ⟨ε, s, _, Ed, F, w.2.2.2.2, cy, fun v x s2 F2 H2 m j q r => ?_⟩
          dsimp only at q
          split at q
          · cases r with
            | @lst b xs _ ha ra => exact ⟨b, xs, rfl, .inl (.inl (m.fh _ _ ha)), kq _ _ s2 F2 H2 m j q (wk_enum ha ra)⟩
          · exact q.elim
      · refine pi_false fun σ H R ⟨ε, s, Qd, Ed, F, w, cy, kq⟩ => ?_
        simp only [wIter, h1, decide_false, decide_true, chk_iff, chkN_iff, Bool.and_eq_true, decide_eq_true_eq, isG_iff, Bool.not_eq_true', and_assoc] at w
        exact hh ⟨w.1, w.2.1, w.2.2.1, w.2.2.2.1⟩
    · refine pi_any ih fun ε s Qd Ed w => ?_
      simp only [wIter, h1, h2, decide_false] at w
      exact w
theorem pi_w2 {g : Str} {p pos : Pos} {a b : Expr} : PI X tg (.Call (.Name g p) [a, b] [] pos) (tWI X.K W Γ n sc tg (.Call (.Name g p) [a, b] [] pos)) := by
  by_cases h1 : g = "range"
  · subst h1
    by_cases hh : plainE a = true ∧ plainE b = true ∧ Γ.free.contains ("range" : Str) = true ∧ sc.names.lookup ("range" : Str) = some .globalImplicit
    · obtain ⟨hp, hp2, hf, hl⟩ := hh
      have sb := star1 [] X.env hp2
      have sa : starEach [a, b] X.env = [(false, eval a X.env), (false, eval b X.env)] := by
        rw [star1 [b] X.env hp, sb]
        rfl
      refine pi_imp (pi_range2 (C.gl _ hl) (C.free _ hf) (pa_cons (ih a) (pa_cons (ih b) pa_nil sb) (star1 [b] X.env hp)) sa sb) fun σ H R ⟨ε, s, Qd, Ed, F, w, cy, kq⟩ => ?_
      simp only [wIter, decide_true, chk_iff, chkN_iff, Bool.and_eq_true, decide_eq_true_eq, isG_iff, Bool.not_eq_true', and_assoc] at w
      refine ⟨ε, s, _, Ed, F, w.2.2.2.2, cy, fun v x s2 F2 H2 m j q r => ?_⟩
      refine ⟨ε, s2, _, Ed, F2, q, cy.next m j, fun u y s3 F3 H3 m3 j3 q3 r3 => ?_⟩
      dsimp only at q3
      split at q3
      · cases r
        cases r3
        obtain ⟨q1, q2, q3, q4, q5⟩ := q3
        exact ⟨_, _, rfl, ⟨by omega, by omega, by omega, by omega⟩, kq _ _ s3 F3 H3 (m.trans m3) j3 q5 wk_rng⟩
      · exact q3.elim
    · refine pi_false fun σ H R ⟨ε, s, Qd, Ed, F, w, cy, kq⟩ => ?_
      simp only [wIter, decide_true, chk_iff, chkN_iff, Bool.and_eq_true, decide_eq_true_eq, isG_iff, Bool.not_eq_true', and_assoc] at w
      exact hh ⟨w.1, w.2.1, w.2.2.1, w.2.2.2.1⟩
  · by_cases h2 : g = "zip"
    · subst h2
      by_cases hh : tupE tg = true ∧ plainE a = true ∧ plainE b = true ∧ Γ.free.contains ("zip" : Str) = true ∧ sc.names.lookup ("zip" : Str) = some .globalImplicit
      · obtain ⟨ht, hp, hp2, hf, hl⟩ := hh
        match tg, ht with
        | .Tuple es k tp, _ =>
          refine pi_imp (RZ.pi_zipA (C.gl _ hl) (C.free _ hf) (pa_cons (ih a) (pa_cons (ih b) pa_nil (star1 [] X.env hp2)) (star1 [b] X.env hp)) (star1 [b] X.env hp) (any0 X.env (by rw [List.all_cons, hp2]; rfl))) fun σ H R ⟨ε, s, Qd, Ed, F, w, cy, kq⟩ => ?_
          simp only [wIter, h1, decide_false, decide_true, chk_iff, chkN_iff, Bool.and_eq_true, decide_eq_true_eq, isG_iff, Bool.not_eq_true', and_assoc] at w
          refine ⟨ε, s, _, Ed, F, w.2.2.2.2.2, cy, fun v x s2 F2 H2 m j q r => ?_⟩
          refine ⟨ε, s2, _, Ed, F2, q, cy.next m j, fun u y s3 F3 H3 m3 j3 q3 r3 => ?_⟩
          dsimp only at q3
          split at q3
          · cases r with
            | @lst b1 xs _ ha ra => cases r3 with
              | @lst b2 ys _ hb rb => exact ⟨b1, b2, xs, ys, rfl, .inl ⟨.inl (.inl (m3.fh _ _ (m3.ff _ _ ha))), .inl (.inl (m3.fh _ _ hb)), kq _ _ s3 F3 H3 (m.trans m3) j3 q3 (wk_zip (m3.ff _ _ ha) hb (dpAll_ex m3.ff _ _ ra) rb)⟩⟩
          · cases r with
            | @tup b1 xs _ ha ra => cases r3 with
              | @tup b2 ys _ hb rb => exact ⟨b1, b2, xs, ys, rfl, .inr ⟨ex_t m3.fh (ex_t m3.ff ha), ex_t m3.fh hb, kq _ _ s3 F3 H3 (m.trans m3) j3 q3 (wk_zipT (ex_t m3.ff ha) hb (dpAll_ex m3.ff _ _ ra) rb)⟩⟩
          · exact q3.elim
      · refine pi_false fun σ H R ⟨ε, s, Qd, Ed, F, w, cy, kq⟩ => ?_
        simp only [wIter, h1, decide_false, decide_true, chk_iff, chkN_iff, Bool.and_eq_true, decide_eq_true_eq, isG_iff, Bool.not_eq_true', and_assoc] at w
        exact hh ⟨w.1, w.2.1, w.2.2.1, w.2.2.2.1, w.2.2.2.2.1⟩
    · refine pi_any ih fun ε s Qd Ed w => ?_
      simp only [wIter, h1, h2, decide_false] at w
      exact w
theorem pi_w (e : Expr) : PI X tg e (tWI X.K W Γ n sc tg e) := by
  have gen : ∀ e : Expr, (∀ (Γ2 : List Str) (f : Expr → S → QS S → Prop) s Q, wIter Γ2 sc tg f e s Q = wSeq f e s Q) → PI X tg e (tWI X.K W Γ n sc tg e) := fun e h => pi_any ih fun ε s Qd Ed w => by
    rw [h] at w
    exact w
  cases e with
  | Call f args kws pos =>
    cases f with
    | Name g p =>
      match kws, args with
      | [], [a] => exact pi_w1 C ih
      | [], [a, b] => exact pi_w2 C ih
      | [], [] => exact gen _ fun _ _ _ _ => rfl
      | [], _ :: _ :: _ :: _ => exact gen _ fun _ _ _ _ => rfl
      | _ :: _, [] => exact gen _ fun _ _ _ _ => rfl
      | _ :: _, [_] => exact gen _ fun _ _ _ _ => rfl
      | _ :: _, [_, _] => exact gen _ fun _ _ _ _ => rfl
      | _ :: _, _ :: _ :: _ :: _ => exact gen _ fun _ _ _ _ => rfl
    | _ => exact gen _ fun _ _ _ _ => rfl
  | _ => exact gen _ fun _ _ _ _ => rfl
end
end Z
set_option Elab.async false
set_option linter.all false
set_option maxRecDepth 100000
set_option maxHeartbeats 4000000
namespace Z
open PySem PySem.Spec PyProof.Rows L2 Evl
/-! ### targets -/
def gSlots : List Nat → TGs
  | [] => gNil
  | i :: is => gCons (gName i) (gSlots is)
def gS (K : PySem.W.Frag) : Bool × List Nat → TG
  | (true, is) => gTup K is.length (gSlots is)
  | (false, [i]) => gName i
  | (false, _) => fun _ _ _ _ => False
theorem slotsN_cons {N : List Str} {sc : Scope} {e : Expr} {es : List Expr} {is : List Nat} (h : slotsN N sc (e :: es) = some is) : ∃ x p i js, e = .Name x p ∧ is = i :: js ∧ (sc.names.lookup x = some .local ∨ sc.names.lookup x = some .cell) ∧ ixOf N x = some i ∧ slotsN N sc es = some js := by
  cases e with
  | Name x p =>
    simp only [slotsN] at h
    cases q : sc.names.lookup x with
    | none =>
      simp only [q] at h
      cases h
    | some k =>
      cases k with
      | «local» =>
        simp only [q] at h
        cases q2 : ixOf N x with
        | none =>
          simp only [q2] at h
          cases h
        | some i =>
          cases q3 : slotsN N sc es with
          | none =>
            simp only [q2, q3] at h
            cases h
          | some js =>
            simp only [q2, q3, Option.some.injEq] at h
            exact ⟨x, p, i, js, rfl, h.symm, .inl q, q2, rfl⟩
      | cell =>
        simp only [q] at h
        cases q2 : ixOf N x with
        | none =>
          simp only [q2] at h
          cases h
        | some i =>
          cases q3 : slotsN N sc es with
          | none =>
            simp only [q2, q3] at h
            cases h
          | some js =>
            simp only [q2, q3, Option.some.injEq] at h
            exact ⟨x, p, i, js, rfl, h.symm, .inr q, q2, rfl⟩
      | _ =>
        simp only [q] at h
        cases h
  | _ => cases h
section
variable {S : Type} {X : Cx} {W : Wd S} {Γ : Gam S} {sc : Scope} (C : CxOk X W Γ sc)
include C
theorem pg_nm {x : Str} {p : Pos} {i : Nat} (h : sc.names.lookup x = some .local ∨ sc.names.lookup x = some .cell) (e : ixOf Γ.N x = some i) : PG X (.Name x p) (gName i) := by
  have hN : X.N[i]? = some x := by
    rw [C.n]
    exact ixOf_get e
  have nd : X.N.Nodup := by
    rw [C.n]
    exact C.nd
  rcases h with h | h
  · exact pg_name nd hN (.inl (C.lo x h)) (.inr (C.lo x h))
  · exact pg_name nd hN (.inr (C.ce x h)) (.inl (C.fnx x h))
theorem pgs_w : ∀ {es : List Expr} {is : List Nat}, slotsN Γ.N sc es = some is → PGs X es (gSlots is) ∧ (assignEach es X.env).length = is.length ∧ (assignEach es X.env).findIdx? (·.1) = none
  | [], is, h => by
    cases h
    exact ⟨pgs_nil, rfl, rfl⟩
  | e :: es, is, h => by
    obtain ⟨x, p, i, js, rfl, rfl, hk, hi, hr⟩ := slotsN_cons h
    obtain ⟨h1, h2, h3⟩ := pgs_w hr
    refine ⟨pgs_cons (pg_nm C hk hi) h1, congrArg Nat.succ h2, ?_⟩
    show List.findIdx? (·.1) ((false, assign (.Name x p) X.env) :: assignEach es X.env) = none
    rw [List.findIdx?_cons, h3]
    rfl
theorem pg_w {tg : Expr} {sl : Bool × List Nat} (h : slotsT Γ.N sc tg = some sl) : PG X tg (gS X.K sl) := by
  cases tg with
  | Name x p =>
    simp only [slotsT] at h
    cases q : slotsN Γ.N sc [.Name x p] with
    | none =>
      rw [q] at h
      cases h
    | some is =>
      rw [q] at h
      cases h
      obtain ⟨x', p', i, js, e, rfl, hk, hi, hr⟩ := slotsN_cons q
      cases e
      cases hr
      exact pg_nm C hk hi
  | Tuple es k p =>
    simp only [slotsT] at h
    cases q : slotsN Γ.N sc es with
    | none =>
      rw [q] at h
      cases h
    | some is =>
      rw [q] at h
      cases h
      obtain ⟨h1, h2, h3⟩ := pgs_w C q
      exact pg_tup C.calm h1 h2 h3
  | _ => cases h
end
section
variable {S : Type} {K : PySem.W.Frag} {W : Wd S} {F H : Hp}
theorem gSlots_put : ∀ {is : List Nat} {vs : List V} {ds : List PyData} {σ : L2.St} {ε : En} {Q : L2.St → Hp → Prop}, ds.length = is.length → RpAll K F vs ds → Ers K W F H σ ε →
    (∀ σ2, Ers K W F H σ2 (setAll ε is ds) → σ2.length = σ.length → (∀ k, k ∉ is → σ2[k]? = σ[k]?) → Q σ2 H) → gSlots is vs σ H Q
  | [], vs, ds, σ, ε, Q, hl, r, er, k => by
    cases ds with
    | nil =>
      cases r
      exact ⟨rfl, k σ er rfl fun _ _ => rfl⟩
    | cons _ _ => cases hl
  | i :: is, vs, ds, σ, ε, Q, hl, r, er, k => by
    cases ds with
    | nil => cases hl
    | cons d ds =>
      cases r with
      | @cons v vs2 _ _ r1 r2 =>
        refine ⟨v, vs2, rfl, ?_⟩
        have er2 : Ers K W F H (σ.set i (some v)) (ε.set i (some (.d d))) := er.put (s := .d d) r1 i
        refine gSlots_put (Nat.succ.inj hl) r2 er2 fun σ2 e2 l2 h2 => k σ2 e2 (by rw [l2, List.length_set]) fun j hj => ?_
        rw [h2 j (fun z => hj (List.mem_cons_of_mem _ z)), List.getElem?_set_ne (fun z => hj (by rw [z]; exact List.mem_cons_self))]
theorem gS_put {sl : Bool × List Nat} {v : V} {d : PyData} {σ : L2.St} {ε ε2 : En} {Q : L2.St → Hp → Prop} (ex : Ex F H) (hb : bindS sl d ε = some ε2) (r : Rp K F v d) (er : Ers K W F H σ ε) (hs : sl.1 = false → ∃ i, sl.2 = [i])
    (k : ∀ σ2, Ers K W F H σ2 ε2 → σ2.length = σ.length → (∀ k, k ∉ sl.2 → σ2[k]? = σ[k]?) → Q σ2 H) : gS K sl v σ H Q := by
  obtain ⟨b, is⟩ := sl
  cases b with
  | true =>
    simp only [bindS] at hb
    cases d with
    | tuple ds =>
      simp only at hb
      by_cases hl : ds.length = is.length
      · rw [if_pos hl] at hb
        cases hb
        cases r with
        | @tup a xs _ ha ra => exact ⟨a, xs, rfl, ex_t ex ha, (rpAll_len ra).trans hl, gSlots_put hl ra er k⟩
      · rw [if_neg hl] at hb
        cases hb
    | _ => cases hb
  | false =>
    obtain ⟨i, e⟩ := hs rfl
    have e' : is = [i] := e
    subst e'
    simp only [bindS, setAll] at hb
    cases hb
    exact k _ (er.put (s := .d d) r i) (by rw [List.length_set]) fun j hj => List.getElem?_set_ne (fun z => hj (by rw [z]; exact List.mem_cons_self))
end
theorem slotsT_one {N : List Str} {sc : Scope} {tg : Expr} {sl : Bool × List Nat} (h : slotsT N sc tg = some sl) (e : sl.1 = false) : ∃ i, sl.2 = [i] := by
  cases tg with
  | Name x p =>
    simp only [slotsT, slotsN] at h
    cases q : sc.names.lookup x with
    | none =>
      simp only [q] at h
      cases h
    | some k =>
      cases k <;> simp only [q] at h <;> first | (cases h; done) | (cases q2 : ixOf N x <;> simp only [q2] at h <;> first | (cases h; done) | (cases h; exact ⟨_, rfl⟩))
  | Tuple es k p =>
    simp only [slotsT] at h
    cases q : slotsN N sc es <;> rw [q] at h <;> cases h
    cases e
  | _ => cases h
/-! ### a block's own names -/
theorem own_in {N : List Str} {x : Str} {i : Nat} (hi : ixOf N x = some i) : ∀ {names : List (Str × NameKind)}, ((x, .local) ∈ names ∨ (x, .cell) ∈ names) → i ∈ (ownOf N names).map (·.2)
  | [], h => by rcases h with h | h <;> cases h
  | (y, k) :: r, h => by
    have tl : ((x, .local) ∈ r ∨ (x, .cell) ∈ r) → i ∈ (ownOf N r).map (·.2) := own_in hi
    have up : i ∈ (ownOf N r).map (·.2) → i ∈ (ownOf N ((y, k) :: r)).map (·.2) := fun m => by
      cases k <;> simp only [ownOf] <;> first | exact m | (cases ixOf N y <;> simp only <;> first | exact m | exact List.mem_cons_of_mem _ m)
    rcases h with h | h
    · rcases List.mem_cons.mp h with e | h
      · cases e
        simp only [ownOf, hi, List.map_cons]
        exact List.mem_cons_self
      · exact up (tl (.inl h))
    · rcases List.mem_cons.mp h with e | h
      · cases e
        simp only [ownOf, hi, List.map_cons]
        exact List.mem_cons_self
      · exact up (tl (.inr h))
theorem slotsN_own {N : List Str} {sc : Scope} : ∀ {es : List Expr} {is : List Nat}, slotsN N sc es = some is → ∀ i ∈ is, i ∈ (ownOf N sc.names).map (·.2)
  | [], is, h => by
    cases h
    exact fun i z => by cases z
  | e :: es, is, h => by
    obtain ⟨x, p, i, js, rfl, rfl, hk, hi, hr⟩ := slotsN_cons h
    intro j hj
    rcases List.mem_cons.mp hj with e | hj
    · subst e
      rcases hk with hk | hk
      · exact own_in hi (.inl (look_mem hk))
      · exact own_in hi (.inr (look_mem hk))
    · exact slotsN_own hr j hj
theorem slotsT_own {N : List Str} {sc : Scope} {tg : Expr} {sl : Bool × List Nat} (h : slotsT N sc tg = some sl) : ∀ i ∈ sl.2, i ∈ (ownOf N sc.names).map (·.2) := by
  cases tg with
  | Name x p =>
    simp only [slotsT] at h
    cases q : slotsN N sc [.Name x p] <;> rw [q] at h <;> cases h
    exact slotsN_own q
  | Tuple es k p =>
    simp only [slotsT] at h
    cases q : slotsN N sc es <;> rw [q] at h <;> cases h
    exact slotsN_own q
  | _ => cases h
theorem wipe_at {σ : L2.St} : ∀ {vs : List Nat} {i : Nat}, (L2.wipe σ vs)[i]? = if i ∈ vs then (σ[i]?).map (fun _ => none) else σ[i]?
  | [], i => by simp [L2.wipe]
  | v :: vs, i => by
    unfold L2.wipe
    by_cases e : v = i
    · subst e
      rw [List.getElem?_set_self', if_pos List.mem_cons_self, wipe_at]
      split <;> cases σ[v]? <;> rfl
    · rw [List.getElem?_set_ne e, wipe_at]
      by_cases h : i ∈ vs
      · rw [if_pos h, if_pos (List.mem_cons_of_mem _ h)]
      · rw [if_neg h, if_neg (by rw [List.mem_cons]; exact fun z => z.elim (fun q => e q.symm) h)]
theorem wipe_eq {σ σ2 : L2.St} {vs : List Nat} (hl : σ2.length = σ.length) (h : ∀ k, k ∉ vs → σ2[k]? = σ[k]?) : L2.wipe σ2 vs = L2.wipe σ vs := by
  apply List.ext_getElem?
  intro i
  rw [wipe_at, wipe_at]
  by_cases hi : i ∈ vs
  · rw [if_pos hi, if_pos hi]
    by_cases hz : i < σ.length
    · rw [List.getElem?_eq_getElem hz, List.getElem?_eq_getElem (by omega)]
      rfl
    · rw [List.getElem?_eq_none (by omega), List.getElem?_eq_none (by omega)]
  · rw [if_neg hi, if_neg hi, h i hi]
theorem wipe_wipe {σ : L2.St} {vs : List Nat} : L2.wipe (L2.wipe σ vs) vs = L2.wipe σ vs := by
  apply List.ext_getElem?
  intro i
  rw [wipe_at, wipe_at]
  split
  · cases σ[i]? <;> rfl
  · rfl
/-! ### the block's context -/
def rl (env : Env) (p : Str × NameKind) : Str × NameKind := if (p.2 == NameKind.free && env.scope.kind == .function && env.kindOf p.1 == some .cell) then (p.1, NameKind.cell) else (p.1, p.2)
theorem rl_fst (env : Env) (p : Str × NameKind) : (rl env p).1 = p.1 := by
  unfold rl
  split <;> rfl
theorem rl_cons {env : Env} {x y : Str} {k : NameKind} {r : List (Str × NameKind)} : (((y, k) :: r).map (rl env)).lookup x = if x == y then some (rl env (y, k)).2 else (r.map (rl env)).lookup x := by
  rw [List.map_cons]
  show (match x == (rl env (y, k)).1 with
    | true => some (rl env (y, k)).2
    | false => (r.map (rl env)).lookup x) = _
  rw [rl_fst]
  cases x == y <;> rfl
theorem rel_other0 {env : Env} {x : Str} {k : NameKind} (hk : k ≠ .free) : ∀ {names : List (Str × NameKind)}, names.lookup x = some k → (names.map (rl env)).lookup x = some k
  | [], h => by cases h
  | (y, j) :: r, h => by
    rw [List.lookup_cons] at h
    rw [rl_cons]
    cases e : x == y with
    | true =>
      rw [e] at h
      cases h
      rw [if_pos rfl]
      have n1 : (k == NameKind.free) = false := by
        cases k <;> first | rfl | exact absurd rfl hk
      unfold rl
      simp only [n1, Bool.false_and, Bool.false_eq_true, if_false]
    | false =>
      rw [e] at h
      rw [if_neg Bool.false_ne_true]
      exact rel_other0 hk h
theorem rel_free0 {env : Env} {x : Str} : ∀ {names : List (Str × NameKind)}, names.lookup x = some .free → (names.map (rl env)).lookup x = some .cell ∨ (names.map (rl env)).lookup x = some .free
  | [], h => by cases h
  | (y, j) :: r, h => by
    rw [List.lookup_cons] at h
    rw [rl_cons]
    cases e : x == y with
    | true =>
      rw [e] at h
      cases h
      rw [if_pos rfl]
      unfold rl
      split
      · exact .inl rfl
      · exact .inr rfl
    | false =>
      rw [e] at h
      rw [if_neg Bool.false_ne_true]
      exact rel_free0 h
theorem rel_other {env : Env} {x : Str} {k : NameKind} (hk : k ≠ .free) {names : List (Str × NameKind)} (h : names.lookup x = some k) :
    (names.map fun (n, k) => if (k == NameKind.free && env.scope.kind == .function && env.kindOf n == some .cell) then (n, NameKind.cell) else (n, k)).lookup x = some k := rel_other0 (env := env) hk h
theorem rel_free {env : Env} {x : Str} {names : List (Str × NameKind)} (h : names.lookup x = some .free) :
    (names.map fun (n, k) => if (k == NameKind.free && env.scope.kind == .function && env.kindOf n == some .cell) then (n, NameKind.cell) else (n, k)).lookup x = some .cell ∨
    (names.map fun (n, k) => if (k == NameKind.free && env.scope.kind == .function && env.kindOf n == some .cell) then (n, NameKind.cell) else (n, k)).lookup x = some .free := rel_free0 (env := env) h
def Wd.quiet {S : Type} (W : Wd S) : Wd S := { W with xe := E0 }
theorem er_quiet {S : Type} {K : PySem.W.Frag} {W : Wd S} {F H : Hp} {σ : L2.St} {ε : En} {ps : List Addr} (h : Er K W F H σ ε ps) : Er K W.quiet F H σ ε ps := by
  induction h with
  | nil => exact Er.nil (W := W.quiet)
  | no _ ih => exact .no ih
  | d hd _ ih => exact .d hd ih
  | t hd _ ih => exact .t hd ih
  | v _ ih => exact .v ih
  | own h0 hf hp hd hn _ ih => exact .own h0 hf hp hd hn ih
theorem ers_quiet {S : Type} {K : PySem.W.Frag} {W : Wd S} {F H : Hp} {σ : L2.St} {ε : En} (h : Ers K W F H σ ε) : Ers K W.quiet F H σ ε := let ⟨ps, r⟩ := h; ⟨ps, er_quiet r⟩
section
variable {S : Type} {X : Cx} {W : Wd S} {Γ : Gam S} {sc sc2 : Scope}
theorem CxOk.blk (C : CxOk X W Γ sc) (ok2 : okSc sc2 = true) (k2 : sc2.kind = .function) (s : Shared) (H : Hp) (c : Addr) (cl : List (Str × Addr)) (fp : List Addr) : CxOk (X.blk s H sc2 (compEnvC sc2 cl c X.env) fp) W.quiet Γ sc2 where
  calm := C.calm
  n := C.n
  nd := C.nd
  gl := fun x h => rel_other (fun z => by cases z) h
  lo := fun x h => rel_other (fun z => by cases z) h
  ce := fun x h => rel_other (fun z => by cases z) h
  fr := fun x h => rel_free h
  fnx := fun x h => by
    show (sc2.names.lookup x == some .cell) = true
    rw [h]
    rfl
  dbg := ok2
  free := C.free
  glob := C.glob
  fns := fun f spec h => by
    obtain ⟨CX, k, a, G, hr, hm, hk, hx, p0⟩ := C.fns f spec h
    exact ⟨CX, k, a, G, hr, hm, hk, p0 _ rfl rfl rfl, fun X' h1 h2 h3 => p0 X' h1 h2 h3⟩
  kind := k2
  po := PassesOwn.never
  room := C.room
  gs := C.gs
  kfs := fun f n ks spec h => by
    obtain ⟨CX, k, a, G, hr, hm, hk, hx, p0⟩ := C.kfs f n ks spec h
    exact ⟨CX, k, a, G, hr, hm, hk, p0 _ rfl rfl rfl, fun X' h1 h2 h3 => p0 X' h1 h2 h3⟩
end
end Z
set_option Elab.async false
set_option linter.all false
set_option maxRecDepth 100000
set_option maxHeartbeats 4000000
namespace Z
open PySem PySem.Spec PyProof.Rows L2 Evl
theorem Fm.mut {rs : List Addr} {F H F2 H2 : Hp} {p : Addr} {o : HO} (m : Fm rs F H F2 H2) (h : H p = none) (f : F2 p = none) : Fm rs F H F2 (upd H2 p o) := by
  refine ⟨m.ff, fun a u e => ?_, fun a u n e => ?_, m.nn, m.nf⟩
  · rw [upd_ne (ne_of_none e f)]
    exact m.fh a u e
  · rw [upd_ne (ne_of_none e h)]
    exact m.hh a u n e
section
variable {S : Type}
theorem Wd.rs_ne {W : Wd S} {s : S} {F H : Hp} (j : W.J s F H) {p : Addr} (h : H p = none) : p ∉ W.rs := fun z => (W.ne s F H j p z).1 h
theorem Wd.put {W : Wd S} {s : S} {F H : Hp} (j : W.J s F H) {p : Addr} (h : p ∉ W.rs) (hl : ∀ u, H p = some u → ∃ xs, u = .lst xs) (o : HO) : W.J s F (upd H p o) :=
  W.st s F H F _ j (fun a u e z => by
    have n : a ≠ p := fun y => by
      subst y
      rcases z with z | z
      · exact h z
      · obtain ⟨xs, rfl⟩ := hl u e
        exact z.1 xs rfl
    rw [upd_ne n]
    exact e) (fun a ha => (W.ne s F H j a ha).2) fun _ _ e => .inl e
variable {X : Cx} {W : Wd S} {Γ : Gam S} {sc sc2 : Scope} {n : Nat}
/-- the word of one turn -/
abbrev lcT (Γ : Gam S) (n : Nat) (sc2 : Scope) (sl : Bool × List Nat) (own : List Nat) (ε : En) (ifs : List Expr) (elt : Expr) : PyData → S → (Option PyData → S → Prop) → Prop :=
  lcTurn (fun x => bindS sl x (wipeE ε own)) (fun ε2 s Q => wE Γ n false sc2 ε2 s elt Q (fun _ _ => False)) (match ifs with
    | c :: _ => some fun ε2 s Q => wE Γ n true sc2 ε2 s c Q (fun _ _ => False)
    | [] => none)
section
variable {bnd : PyData → Option En} {el : En → S → QS S → Prop} {ts : En → S → QS S → Prop} {to : Option (En → S → QS S → Prop)} {x : PyData} {s2 : S} {k : Option PyData → S → Prop} {ε2 : En}
theorem lcTurn_no (h : bnd x = none) : ¬ lcTurn bnd el to x s2 k := fun w => by
  unfold lcTurn at w
  rw [h] at w
  exact w
theorem lcTurn_nil (h : bnd x = some ε2) (w : lcTurn bnd el none x s2 k) : el ε2 s2 (fun y s3 => match y with
      | .d y => k (some y) s3
      | _ => False) := by
  unfold lcTurn at w
  rw [h] at w
  exact w
theorem lcTurn_one (h : bnd x = some ε2) (w : lcTurn bnd el (some ts) x s2 k) : ts ε2 s2 (fun b s3 => match b with
      | .d (.bool true) => el ε2 s3 (fun y s4 => match y with
        | .d y => k (some y) s4
        | _ => False)
      | .d (.bool false) => k none s3
      | _ => False) := by
  unfold lcTurn at w
  rw [h] at w
  exact w
end
/-- a comprehension's end: its list is nobody else's -/
def tLcW (K : PySem.W.Frag) (W : Wd S) (Γ : Gam S) (n : Nat) (sc : Scope) (e : Expr) : TE := fun σ H R => ∃ ε s Qd Ed F, wE Γ n false sc ε s e Qd Ed ∧ Cy K W F H σ ε s Ed ∧
  ∀ (D : Addr) (acc : List V) (ys : List PyData) (s3 : S) (F2 H2 F3 H3 : Hp), Fm W.rs F H F2 H2 → H2 D = none → Fm W.rs F2 H2 F3 H3 → W.J s3 F3 H3 → D ∉ W.rs → F3 D = none → H3 D = some (.lst acc) → RpAll K F3 acc ys → Qd (.d (.list ys)) s3 → R (.ref D) H3
theorem lcw_of {K : PySem.W.Frag} {e : Expr} {σ : L2.St} {H : Hp} {R : VK} (h : tWE K W Γ n sc e σ H R) : tLcW K W Γ n sc e σ H R := by
  obtain ⟨ε, s, Qd, Ed, F, w, cy, kq⟩ := h
  refine ⟨ε, s, Qd, Ed, F, w, cy, fun D acc ys s3 F2 H2 F3 H3 m hD m3 j3 hr fd hd ra w4 => ?_⟩
  have hnf : ∀ a o, upd F3 D (.lst acc) a = some o → F2 a = some o ∨ Nt o := fun a o z => by
    by_cases ha : a = D
    · subst ha
      rw [upd_same] at z
      cases z
      exact .inr fun _ y => by cases y
    · rw [upd_ne ha] at z
      exact m3.nf a o z
  have fz : Fm W.rs F2 H2 (upd F3 D (.lst acc)) H3 := by
    refine ⟨m3.ff.trans (Ex.new fd), fun a o z => ?_, m3.hh, fun a o c na fa => ?_, hnf⟩
    · by_cases ha : a = D
      · subst ha
        rw [upd_same] at z
        cases z
        exact hd
      · rw [upd_ne ha] at z
        exact m3.fh a o z
    · rw [upd_ne (ne_of_none na hD)]
      exact m3.nn a o c na fa
  have jz : W.J s3 (upd F3 D (.lst acc)) H3 := W.st s3 F3 H3 _ H3 j3 (fun _ _ e _ => e) (fun a ha => by
    rw [upd_ne (show a ≠ D from fun z => hr (by rw [← z]; exact ha))]
    exact (W.ne s3 F3 H3 j3 a ha).2) fun a o z => by
    by_cases ha : a = D
    · subst ha
      rw [upd_same] at z
      cases z
      exact .inr fun _ y => by cases y
    · rw [upd_ne ha] at z
      exact .inl z
  exact kq _ _ s3 _ H3 (m.trans fz) jz w4 (.lst upd_same (dpAll_ex (Ex.new fd) _ _ ra))
/-- a comprehension's state ahead of turn i -/
structure LcAt (K : PySem.W.Frag) (W : Wd S) (F2 H2 : Hp) (D : Addr) (f : PyData → S → (Option PyData → S → Prop) → Prop) (xs : List PyData) (Q : List PyData → S → Prop) (i : Nat) (H : Hp) : Prop where
  le : i ≤ xs.length
  big : xs.length ≤ 1000000
  ex : ∃ (acc : List V) (ys : List PyData) (s3 : S) (F3 : Hp), Fm W.rs F2 H2 F3 H ∧ W.J s3 F3 H ∧ F3 D = none ∧ H D = some (.lst acc) ∧ RpAll K F3 acc ys ∧ ys.length ≤ i ∧ wMap f (xs.drop i) s3 fun zs s4 => Q (ys ++ zs) s4
theorem lc_next {K : PySem.W.Frag} {F2 H2 F3 H3 : Hp} {D : Addr} {f : PyData → S → (Option PyData → S → Prop) → Prop} {xs : List PyData} {Q : List PyData → S → Prop} {i : Nat} {acc : List V} {ys : List PyData} {s3 : S} {v : V} {y : PyData}
    (hD : H2 D = none) (hr : D ∉ W.rs) (m : Fm W.rs F2 H2 F3 H3) (j : W.J s3 F3 H3) (fd : F3 D = none) (hd : H3 D = some (.lst acc)) (r : RpAll K F3 acc ys) (rv : Rp K F3 v y) (hi : i < xs.length) (hb : xs.length ≤ 1000000) (hy : ys.length ≤ i)
    (w : wMap f (xs.drop (i + 1)) s3 fun zs s4 => Q (ys ++ y :: zs) s4) : LcAt K W F2 H2 D f xs Q (i + 1) (upd H3 D (.lst (acc ++ [v]))) :=
  ⟨hi, hb, acc ++ [v], ys ++ [y], s3, F3, m.mut hD fd, Wd.put j hr (fun u e => ⟨acc, by rw [hd] at e; exact (Option.some.inj e).symm⟩) _, fd, upd_same, rpAll_append r (.cons rv .nil), by rw [List.length_append]; simp; omega, by
    have e : (fun zs s4 => Q (ys ++ [y] ++ zs) s4) = fun zs s4 => Q (ys ++ y :: zs) s4 := by
      funext zs s4
      rw [List.append_assoc]
      rfl
    rw [e]
    exact w⟩
variable (C : CxOk X W Γ sc) (ihX : ∀ (X' : Cx) (W' : Wd S) (sc' : Scope), CxOk X' W' Γ sc' → ∀ e, PE X' e (tWE X'.K W' Γ n sc' e) ∧ PT X' e (tWT X'.K W' Γ n sc' e))
include C ihX
theorem lc_all {elt tg iter : Expr} {ifs : List Expr} {pos : Pos} : (∀ σ H R, ¬ tLcW X.K W Γ (n + 1) sc (.ListComp elt [⟨tg, iter, ifs, 0⟩] sc2 pos) σ H R) ∨ ∃ (wi : TI) (g : TG) (tt : TT) (te : TE) (own : List (Str × Nat)),
    PI X tg iter wi ∧ BlkOk X.N X.env.scope sc2 own ∧ (∀ (s : Shared) (H : Hp) (c : Addr) (cl : List (Str × Addr)) (fp : List Addr), PG (X.blk s H sc2 (compEnvC sc2 cl c X.env) fp) tg g) ∧
    (∀ (s : Shared) (H : Hp) (c : Addr) (cl : List (Str × Addr)) (fp : List Addr), PTs (X.blk s H sc2 (compEnvC sc2 cl c X.env) fp) ifs tt) ∧ (∀ (s : Shared) (H : Hp) (c : Addr) (cl : List (Str × Addr)) (fp : List Addr), PE (X.blk s H sc2 (compEnvC sc2 cl c X.env) fp) elt te) ∧
    (∀ x, foldedSetIterable iter X.env x = pure x) ∧ ∀ σ H R, tLcW X.K W Γ (n + 1) sc (.ListComp elt [⟨tg, iter, ifs, 0⟩] sc2 pos) σ H R → tLc wi g tt te (own.map (·.2)) σ H R := by
  by_cases hh : okSc sc2 = true ∧ setE iter = false ∧ ifs.length ≤ 1 ∧ blkC Γ.N sc sc2 (ownOf Γ.N sc2.names) = true
  case neg =>
    refine .inl fun σ H R ⟨ε, s, Qd, Ed, F, w, cy, kq⟩ => ?_
    simp only [wE, chk_iff, chkN_iff, Bool.and_eq_true, decide_eq_true_eq, isG_iff, Bool.not_eq_true', and_assoc] at w
    exact hh ⟨w.1, w.2.1, w.2.2.1, w.2.2.2.1⟩
  obtain ⟨ok2, hset, hifs, hblk⟩ := hh
  cases hsl : slotsT Γ.N sc2 tg with
  | none =>
    refine .inl fun σ H R ⟨ε, s, Qd, Ed, F, w, cy, kq⟩ => ?_
    simp only [wE, chk_iff, chkN_iff, Bool.and_eq_true, decide_eq_true_eq, isG_iff, Bool.not_eq_true', and_assoc, hsl] at w
    exact w.2.2.2.2
  | some sl =>
    have nd : X.N.Nodup := by
      rw [C.n]
      exact C.nd
    have bok : BlkOk X.N X.env.scope sc2 (ownOf Γ.N sc2.names) := by
      have b := blkOk_by hblk
      rw [C.n]
      refine ⟨b.kind, b.uniq, b.ix, fun y hy e => ?_, b.own⟩
      rcases b.free y hy e with z | z
      · exact .inl (C.ce _ z)
      · exact C.fr _ z
    have CB := fun (s : Shared) (H : Hp) (c : Addr) (cl : List (Str × Addr)) (fp : List Addr) => C.blk ok2 bok.kind s H c cl fp
    have hown := slotsT_own hsl
    -- one turn
    have turn : ∀ (σ : L2.St) (ε : En) (s3 : S) (F2 H2 F3 H3 F4 H4 : Hp) (D : Addr) (acc : List V) (ys xs : List PyData) (Q : List PyData → S → Prop) (i : Nat) (x : PyData) (v : V) (tt : TT),
        (ifs = [] ∧ tt = tYes ∨ ∃ c, ifs = [c] ∧ tt = tWT X.K W.quiet Γ n sc2 c) → H2 D = none → D ∉ W.rs → xs.length ≤ 1000000 → xs[i]? = some x → ys.length ≤ i → Fm W.rs F2 H2 F3 H3 → W.J s3 F3 H3 → F3 D = none → H3 D = some (.lst acc) → RpAll X.K F3 acc ys → Fm [] F3 H3 F4 H4 → Rp X.K F4 v x → Ers X.K W F4 H4 σ ε →
        lcT Γ n sc2 sl ((ownOf Γ.N sc2.names).map (·.2)) ε ifs elt x s3 (fun y s1 => wMap (lcT Γ n sc2 sl ((ownOf Γ.N sc2.names).map (·.2)) ε ifs elt) (xs.drop (i + 1)) s1 fun zs s4 => Q (ys ++ (match y with
          | some y => y :: zs
          | none => zs)) s4) →
        gS X.K sl v (L2.wipe σ ((ownOf Γ.N sc2.names).map (·.2))) H4 fun σ2 H5 => L2.wipe σ2 ((ownOf Γ.N sc2.names).map (·.2)) = L2.wipe σ ((ownOf Γ.N sc2.names).map (·.2)) ∧ tt σ2 H5 fun b H6 =>
          if b = true then tWE X.K W.quiet Γ n sc2 elt σ2 H6 fun y H7 => ∃ acc, H7 D = some (.lst acc) ∧ acc.length < sizeLine ∧ LcAt X.K W F2 H2 D (lcT Γ n sc2 sl ((ownOf Γ.N sc2.names).map (·.2)) ε ifs elt) xs Q (i + 1) (upd H7 D (.lst (acc ++ [y])))
          else LcAt X.K W F2 H2 D (lcT Γ n sc2 sl ((ownOf Γ.N sc2.names).map (·.2)) ε ifs elt) xs Q (i + 1) H6 := by
      intro σ ε s3 F2 H2 F3 H3 F4 H4 D acc ys xs Q i x v tt htt hD hr hb hx hy m3 j3 fd hd ra m4 rv er w
      cases hbd : bindS sl x (wipeE ε ((ownOf Γ.N sc2.names).map (·.2))) with
      | none => exact (lcTurn_no (bnd := fun x => bindS sl x (wipeE ε ((ownOf Γ.N sc2.names).map (·.2)))) hbd w).elim
      | some ε2 =>
        have hi : i < xs.length := (List.getElem?_eq_some_iff.mp hx).1
        have m34 : Fm W.rs F2 H2 F4 H4 := m3.trans m4.more
        have j4 : W.J s3 F4 H4 := Wd.pure j3 m4
        have fd4 : F4 D = none := m4.nn D _ (.inl rfl) hd fd
        have hd4 : H4 D = some (.lst acc) := m4.ex D _ hd
        have ra4 : RpAll X.K F4 acc ys := dpAll_ex m4.ff _ _ ra
        refine gS_put m4.fh hbd rv (er.wipe _) (slotsT_one hsl) fun σ2 e2 l2 h2 => ?_
        have hw : L2.wipe σ2 ((ownOf Γ.N sc2.names).map (·.2)) = L2.wipe σ ((ownOf Γ.N sc2.names).map (·.2)) :=
          (wipe_eq l2 fun k hk => h2 k fun z => hk (hown k z)).trans wipe_wipe
        refine ⟨hw, ?_⟩
        have elem : ∀ (s5 : S) (F5 H5 : Hp), Fm W.rs F4 H4 F5 H5 → W.J s5 F5 H5 →
            wE Γ n false sc2 ε2 s5 elt (fun y s3 => match y with
              | .d y => wMap (lcT Γ n sc2 sl ((ownOf Γ.N sc2.names).map (·.2)) ε ifs elt) (xs.drop (i + 1)) s3 fun zs s4 => Q (ys ++ y :: zs) s4
              | _ => False) (fun _ _ => False) →
            tWE X.K W.quiet Γ n sc2 elt σ2 H5 fun y H7 => ∃ acc, H7 D = some (.lst acc) ∧ acc.length < sizeLine ∧ LcAt X.K W F2 H2 D (lcT Γ n sc2 sl ((ownOf Γ.N sc2.names).map (·.2)) ε ifs elt) xs Q (i + 1) (upd H7 D (.lst (acc ++ [y]))) := by
          intro s5 F5 H5 m5 j5 w5
          refine ⟨ε2, s5, _, _, F5, w5, ⟨m5.fh, ers_quiet (e2.fm m5), j5, fun _ _ _ _ _ _ _ _ _ z => z.elim⟩, fun y sl7 s7 F7 H7 m7 j7 q7 r7 => ?_⟩
          cases sl7 with
          | d yd =>
            have m57 : Fm W.rs F4 H4 F7 H7 := m5.trans m7
            have hd7 : H7 D = some (.lst acc) := m57.hh D _ (.inr ⟨hr, fun _ z => by cases z⟩) hd4
            have fd7 : F7 D = none := m57.nn D _ (.inr ⟨hr, fun _ z => by cases z⟩) hd4 fd4
            have ra7 : RpAll X.K F7 acc ys := dpAll_ex m57.ff _ _ ra4
            refine ⟨acc, hd7, ?_, lc_next hD hr (m34.trans m57) j7 fd7 hd7 ra7 r7 hi hb hy q7⟩
            rw [rpAll_len ra7]
            have : (1000000 : Nat) < sizeLine := by decide
            omega
          | _ => exact False.elim q7
        rcases htt with ⟨rfl, rfl⟩ | ⟨c, rfl, rfl⟩
        · have z := elem s3 F4 H4 (Fm.refl m4.fh) j4 (lcTurn_nil (bnd := fun x => bindS sl x (wipeE ε ((ownOf Γ.N sc2.names).map (·.2)))) hbd w)
          exact z
        · refine ⟨ε2, s3, _, _, F4, lcTurn_one (bnd := fun x => bindS sl x (wipeE ε ((ownOf Γ.N sc2.names).map (·.2)))) hbd w, ⟨m4.fh, ers_quiet e2, j4, fun _ _ _ _ _ _ _ _ _ z => z.elim⟩, fun b s5 F5 H5 m5 j5 q5 => ?_⟩
          cases b with
          | true =>
            rw [if_pos rfl]
            exact elem s5 F5 H5 m5 j5 q5
          | false =>
            rw [if_neg Bool.false_ne_true]
            refine ⟨hi, hb, acc, ys, s5, F5, m34.trans m5, j5, m5.nn D _ (.inr ⟨hr, fun _ z => by cases z⟩) hd4 fd4, m5.hh D _ (.inr ⟨hr, fun _ z => by cases z⟩) hd4, dpAll_ex m5.ff _ _ ra4, by omega, q5⟩
    -- the whole
    have whole : ∀ (tt : TT), (ifs = [] ∧ tt = tYes ∨ ∃ c, ifs = [c] ∧ tt = tWT X.K W.quiet Γ n sc2 c) → (∀ (s : Shared) (H : Hp) (c : Addr) (cl : List (Str × Addr)) (fp : List Addr), PTs (X.blk s H sc2 (compEnvC sc2 cl c X.env) fp) ifs tt) →
        ∃ (wi : TI) (g : TG) (tt : TT) (te : TE) (own : List (Str × Nat)),
        PI X tg iter wi ∧ BlkOk X.N X.env.scope sc2 own ∧ (∀ (s : Shared) (H : Hp) (c : Addr) (cl : List (Str × Addr)) (fp : List Addr), PG (X.blk s H sc2 (compEnvC sc2 cl c X.env) fp) tg g) ∧
        (∀ (s : Shared) (H : Hp) (c : Addr) (cl : List (Str × Addr)) (fp : List Addr), PTs (X.blk s H sc2 (compEnvC sc2 cl c X.env) fp) ifs tt) ∧ (∀ (s : Shared) (H : Hp) (c : Addr) (cl : List (Str × Addr)) (fp : List Addr), PE (X.blk s H sc2 (compEnvC sc2 cl c X.env) fp) elt te) ∧
        (∀ x, foldedSetIterable iter X.env x = pure x) ∧ ∀ σ H R, tLcW X.K W Γ (n + 1) sc (.ListComp elt [⟨tg, iter, ifs, 0⟩] sc2 pos) σ H R → tLc wi g tt te (own.map (·.2)) σ H R := by
      intro tt htt hts
      refine ⟨_, gS X.K sl, tt, tWE X.K W.quiet Γ n sc2 elt, ownOf Γ.N sc2.names, pi_w C (fun e => (ihX X W sc C e).1) iter, bok, fun s H c cl fp => pg_w (CB s H c cl fp) hsl, hts, fun s H c cl fp => (ihX _ _ _ (CB s H c cl fp) elt).1, fold0 X.env hset, ?_⟩
      rintro σ H R ⟨ε, s, Qd, Ed, F, w, cy, kq⟩
      simp only [wE, chk_iff, chkN_iff, Bool.and_eq_true, decide_eq_true_eq, isG_iff, Bool.not_eq_true', and_assoc, hsl] at w
      refine ⟨ε, s, _, Ed, F, w.2.2.2.2, cy, fun J xs s2 F2 H2 m j q wk => ?_⟩
      obtain ⟨hb, wm⟩ := q
      intro D hD
      have hr : D ∉ W.rs := Wd.rs_ne j hD
      have f2 : F2 D = none := fresh_back m.fh hD
      refine ⟨fun i m H => m = xs.length - i ∧ LcAt X.K W F2 H2 D (lcT Γ n sc2 sl ((ownOf Γ.N sc2.names).map (·.2)) ε ifs elt) xs (fun zs s4 => Qd (.d (.list zs)) s4) i H, ⟨xs.length, rfl, Nat.zero_le _, hb, [], [], s2, F2, (Fm.refl m.fh).mut hD f2, Wd.put j hr (fun u e => by rw [hD] at e; cases e) _, f2, upd_same, .nil, Nat.le_refl _, wm⟩, ?_⟩
      rintro i mm H3 ⟨rfl, hle, _, acc, ys, s3, F3, m3, j3, fd, hd, ra, hy, w3⟩
      by_cases hi : i < xs.length
      · right
        have hx : xs[i]? = some xs[i] := List.getElem?_eq_getElem hi
        obtain ⟨go, yld⟩ := (wk i F3 H3 m3.ff m3.fh).1 _ hx
        refine ⟨go, LcAt X.K W F2 H2 D (lcT Γ n sc2 sl ((ownOf Γ.N sc2.names).map (·.2)) ε ifs elt) xs (fun zs s4 => Qd (.d (.list zs)) s4) (i + 1), fun H' z => ⟨xs.length - (i + 1), by omega, rfl, z⟩, fun v H4 hv => ?_⟩
        obtain ⟨F4, m4, rv⟩ := yld v H4 hv
        rw [List.drop_eq_getElem_cons hi] at w3
        exact turn σ ε s3 F2 H2 F3 H3 F4 H4 D acc ys xs _ i _ v tt htt hD hr hb hx hy m3 j3 fd hd ra m4 rv (cy.er.fm ((m.trans m3).trans m4.more)) w3
      · left
        have e : i = xs.length := by omega
        subst e
        refine ⟨(wk _ F3 H3 m3.ff m3.fh).2 (Nat.le_refl _), ?_⟩
        rw [List.drop_length] at w3
        have w4 : Qd (.d (.list (ys ++ []))) s3 := w3
        rw [List.append_nil] at w4
        exact kq D acc ys s3 F2 H2 F3 H3 m hD m3 j3 hr fd hd ra w4
    cases ifs with
    | nil => exact .inr (whole tYes (.inl ⟨rfl, rfl⟩) fun _ _ _ _ _ => pts_nil)
    | cons c r =>
      cases r with
      | nil => exact .inr (whole _ (.inr ⟨c, rfl, rfl⟩) fun s H c2 cl fp => pts_one (ihX _ _ _ (CB s H c2 cl fp) c).2)
      | cons c2 r => exact absurd hifs (by simp)
theorem pe_lcw {elt tg iter : Expr} {ifs : List Expr} {pos : Pos} : PE X (.ListComp elt [⟨tg, iter, ifs, 0⟩] sc2 pos) (tWE X.K W Γ (n + 1) sc (.ListComp elt [⟨tg, iter, ifs, 0⟩] sc2 pos)) := by
  have nd : X.N.Nodup := by
    rw [C.n]
    exact C.nd
  rcases lc_all C ihX (elt := elt) (tg := tg) (iter := iter) (ifs := ifs) (pos := pos) (sc2 := sc2) with h | ⟨wi, g, tt, te, own, h1, h2, h3, h4, h5, h6, h7⟩
  · exact pe_false fun σ H R z => h σ H R (lcw_of z)
  · exact pe_imp (pe_lc C.calm nd h1 h2 h3 h4 h5 h6) fun σ H R z => h7 σ H R (lcw_of z)
end
end Z
set_option Elab.async false
set_option linter.all false
set_option maxRecDepth 100000
set_option maxHeartbeats 4000000
namespace Z
open PySem PySem.Spec PyProof.Rows L2 Evl
theorem kw_ok : ∀ {ks : List Keyword} {nm : List Str}, kwNames ks = some nm → ∀ (pos : Pos) (env : Env), (backToKw pos (keywordEach ks env)).all (·.1.isSome) = true ∧ (backToKw pos (keywordEach ks env)).filterMap (·.1) = nm ∧ (backToKw pos (keywordEach ks env)).any (·.1.isNone) = false
  | [], nm, h, pos, env => by
    cases h
    exact ⟨rfl, rfl, rfl⟩
  | ⟨none, e, p⟩ :: ks, nm, h, pos, env => by cases h
  | ⟨some x, e, p⟩ :: ks, nm, h, pos, env => by
    unfold kwNames at h
    cases q : kwNames ks with
    | none =>
      rw [q] at h
      cases h
    | some xs =>
      rw [q] at h
      cases h
      obtain ⟨h1, h2, h3⟩ := kw_ok q pos env
      refine ⟨?_, ?_, ?_⟩
      · show (true && (backToKw pos (keywordEach ks env)).all (·.1.isSome)) = true
        rw [h1]
        rfl
      · show x :: (backToKw pos (keywordEach ks env)).filterMap (·.1) = x :: xs
        rw [h2]
      · show (false || (backToKw pos (keywordEach ks env)).any (·.1.isNone)) = false
        rw [h3]
        rfl
theorem srAll_length {K : PySem.W.Frag} {F : Hp} : ∀ {vs : List V} {ss : List Sl}, SrAll K F vs ss → vs.length = ss.length
  | [], [], _ => rfl
  | _ :: _, _ :: _, h => congrArg Nat.succ (srAll_length h.2)
  | [], _ :: _, h => h.elim
  | _ :: _, [], h => h.elim
theorem srAll_app {K : PySem.W.Frag} {F : Hp} : ∀ {vs us : List V} {ss ts : List Sl}, SrAll K F vs ss → SrAll K F us ts → SrAll K F (vs ++ us) (ss ++ ts)
  | [], _, [], _, _, r => r
  | _ :: _, _, _ :: _, _, h, r => ⟨h.1, srAll_app h.2 r⟩
  | [], _, _ :: _, _, h, _ => h.elim
  | _ :: _, _, [], _, h, _ => h.elim
section
variable {S : Type} {X : Cx} {W : Wd S} {Γ : Gam S} {sc : Scope} {n : Nat} (C : CxOk X W Γ sc) (ih : ∀ e, PE X e (tWE X.K W Γ n sc e))
include C ih
theorem pe_kw {f : Str} {args : List Expr} {k : Keyword} {ks : List Keyword} {p pos : Pos} : PE X (.Call (.Name f p) args (k :: ks) pos) (tWE X.K W Γ (n + 1) sc (.Call (.Name f p) args (k :: ks) pos)) := by
  by_cases hp : args.all plainE = true ∧ sc.names.lookup f = some .globalImplicit
  · obtain ⟨hp, hl⟩ := hp
    have hg : Gl X f := C.gl f hl
    have nd := okSc_no C.dbg hl
    cases hn : kwNames (k :: ks) with
    | none =>
      refine pe_false fun σ H R ⟨ε, s, Qd, Ed, F, w, cy, kq⟩ => ?_
      simp only [wE, chk_iff, chkN_iff, Bool.and_eq_true, decide_eq_true_eq, isG_iff, Bool.not_eq_true', and_assoc, hn] at w
      exact w.2.2
    | some nm =>
      obtain ⟨k1, k2, k3⟩ := kw_ok hn pos X.env
      cases hf : kfOf Γ.kfn f args.length nm with
      | none =>
        refine pe_false fun σ H R ⟨ε, s, Qd, Ed, F, w, cy, kq⟩ => ?_
        simp only [wE, chk_iff, chkN_iff, Bool.and_eq_true, decide_eq_true_eq, isG_iff, Bool.not_eq_true', and_assoc, hn, hf] at w
        exact w.2.2
      | some spec =>
        obtain ⟨CX, j, a, G, hr, hm, hk, hx, _⟩ := C.kfs f _ _ spec hf
        cases args with
        | nil =>
          refine pe_w (pe_kg0 G C.gs hr hg hm hk hx (pk_w ih (k :: ks)) k1 k2 nd.1 k3) fun σ H R ε s Qd Ed F w cy kq => ?_
          simp only [wE, chk_iff, chkN_iff, Bool.and_eq_true, decide_eq_true_eq, isG_iff, Bool.not_eq_true', and_assoc, hn, hf, wArgs, List.nil_append] at w
          refine ⟨ε, s, _, Ed, F, w.2.2, cy, fun vs ss s2 F2 H2 m jj q r => ?_⟩
          exact ⟨(srAll_length r).trans q.2.1, ss, s2, F2, Qd, Ed, m.fh, r, jj, q.2.2, kq.next m, cy.kx.next m⟩
        | cons e es =>
          have hp2 := hp
          rw [List.all_cons, Bool.and_eq_true] at hp2
          refine pe_w (pe_kg G C.gs hr hg hm hk hx (pa_w ih _ hp) (pk_w ih (k :: ks)) k1 k2 nd.1 (star1 es X.env hp2.1) ?_) fun σ H R ε s Qd Ed F w cy kq => ?_
          · rw [k3, Bool.or_false]
            exact any0 (pos := pos) X.env hp
          simp only [wE, chk_iff, chkN_iff, Bool.and_eq_true, decide_eq_true_eq, isG_iff, Bool.not_eq_true', and_assoc, hn, hf] at w
          refine ⟨ε, s, _, Ed, F, w.2.2, cy, fun vs ss s2 F2 H2 m jj q r => ?_⟩
          refine ⟨ε, s2, _, Ed, F2, q, cy.next m jj, fun us ts s3 F3 H3 m3 j3 q3 r3 => ?_⟩
          have rr := srAll_ex m3.ff r
          exact ⟨(srAll_length r).trans q3.1, (srAll_length r3).trans q3.2.1, ss ++ ts, s3, F3, Qd, Ed, m3.fh, srAll_app rr r3, j3, q3.2.2, kq.next (m.trans m3), cy.kx.next (m.trans m3)⟩
  · refine pe_false fun σ H R ⟨ε, s, Qd, Ed, F, w, cy, kq⟩ => ?_
    simp only [wE, chk_iff, chkN_iff, Bool.and_eq_true, decide_eq_true_eq, isG_iff, Bool.not_eq_true', and_assoc] at w
    exact hp ⟨w.1, w.2.1⟩
end
/-! ### {"k": v, ..} -/
def trsOf {S : Type} (K : PySem.W.Frag) (W : Wd S) (Γ : Gam S) (n : Nat) (sc : Scope) : List Str → List Expr → List (TE × TE)
  | k :: ks, v :: vs => (tC (.str k), tWE K W Γ n sc v) :: trsOf K W Γ n sc ks vs
  | _, _ => []
theorem merge_new {kvs more : List (Key × V)} (h : (kvs.map (·.1) ++ more.map (·.1)).Nodup) : mergeK kvs more = kvs ++ more := by
  unfold mergeK
  induction more generalizing kvs with
  | nil => simp
  | cons p more ih =>
    rw [List.foldl_cons]
    have hn : (kvs.any fun kv => decide (kv.1 = p.1)) = false := by
      rw [List.any_eq_false]
      intro x hx
      have h1 := (List.nodup_append.mp h).2.2 x.1 (List.mem_map.mpr ⟨x, hx, rfl⟩) p.1 (by simp)
      simpa using h1
    have e : putK kvs p.1 p.2 = kvs ++ [p] := by
      unfold putK
      rw [if_neg (by rw [hn]; simp)]
    rw [e, ih (by simpa [List.append_assoc] using h), List.append_assoc]
    rfl
section
variable {S : Type} {X : Cx} {W : Wd S} {Γ : Gam S} {sc : Scope} {n : Nat} (ih : ∀ e, PE X e (tWE X.K W Γ n sc e))
include ih
theorem pps_w {pos : Pos} : ∀ {keys : List (Option Expr)} {vals : List Expr} {ks : List Str}, keyTexts keys = some ks → ks.length = vals.length → PPs X pos keys vals (trsOf X.K W Γ n sc ks vals)
  | [], vals, ks, h, hl => by
    cases h
    match vals, hl with
    | [], _ => exact pps_nil
  | none :: _, _, _, h, _ => by cases h
  | some e :: keys, vals, ks, h, hl => by
    unfold keyTexts at h
    split at h
    · rename_i h0
      cases h0
    · rename_i x j p r h0
      cases h0
      cases q : keyTexts keys with
      | none =>
        rw [q] at h
        cases h
      | some xs =>
        rw [q] at h
        cases h
        match vals, hl with
        | v :: vals, hl => exact pps_cons pe_str (ih v) (pps_w q (Nat.succ.inj hl))
    · cases h
theorem pairs_run {σ : L2.St} {ε : En} {Ed : QX S} : ∀ {ks : List Str} {vals : List Expr} {s : S} {Qd : List Sl → S → Prop} {F H : Hp} {R : List (V × V) → Hp → Prop}, ks.length = vals.length → vals.all plainE = true →
    wArgs (fun e s Q => wE Γ n false sc ε s e Q Ed) vals s Qd → Cy X.K W F H σ ε s Ed →
    (∀ vs ss s2 F2 H2, Fm W.rs F H F2 H2 → W.J s2 F2 H2 → Qd ss s2 → SrAll X.K F2 vs ss → vs.length = ks.length → R ((ks.zip vs).map fun p => (V.str p.1, p.2)) H2) → tPairs (trsOf X.K W Γ n sc ks vals) σ H R
  | [], [], s, Qd, F, H, R, _, _, w, cy, k => k [] [] s F H (Fm.refl cy.ex) cy.j w True.intro rfl
  | _ :: _, [], _, _, _, _, _, hl, _, _, _, _ => by cases hl
  | [], _ :: _, _, _, _, _, _, hl, _, _, _, _ => by cases hl
  | x :: ks, v :: vals, s, Qd, F, H, R, hl, hp, w, cy, k => by
    rw [List.all_cons, Bool.and_eq_true] at hp
    rw [wArgs_cons hp.1] at w
    show tWE X.K W Γ n sc v σ H fun y H2 => tPairs (trsOf X.K W Γ n sc ks vals) σ H2 fun ps H3 => R ((.str x, y) :: ps) H3
    refine ⟨ε, s, _, Ed, F, w, cy, fun u sl s2 F2 H2 m j q r => ?_⟩
    refine pairs_run (Nat.succ.inj hl) hp.2 q (cy.next m j) fun vs ss s3 F3 H3 m3 j3 q3 r3 l3 => ?_
    exact k (u :: vs) (sl :: ss) s3 F3 H3 (m.trans m3) j3 q3 ⟨sr_ex m3.ff r, r3⟩ (congrArg Nat.succ l3)
theorem keys_nodup {ks : List Str} {vs : List V} (h : ks.Nodup) (hl : vs.length = ks.length) : (((ks.map Sum.inr).zip vs : List (Key × V)).map (·.1)).Nodup := by
  have e : (((ks.map Sum.inr).zip vs : List (Key × V)).map (·.1)) = ks.map Sum.inr := by
    rw [List.map_fst_zip]
    rw [List.length_map]
    omega
  rw [e]
  exact List.Pairwise.map _ (fun a b hne e2 => hne (Sum.inr.inj e2)) h
theorem pe_dic {keys : List (Option Expr)} {vals : List Expr} {pos : Pos} : PE X (.Dict keys vals pos) (tWE X.K W Γ (n + 1) sc (.Dict keys vals pos)) := by
  cases hk : keyTexts keys with
  | none =>
    refine pe_false fun σ H R ⟨ε, s, Qd, Ed, F, w, cy, kq⟩ => ?_
    simp only [wE, hk] at w
  | some ks =>
    cases ho : keysOk ks vals with
    | false =>
      refine pe_false fun σ H R ⟨ε, s, Qd, Ed, F, w, cy, kq⟩ => ?_
      simp only [wE, hk, ho, chk] at w
    | true =>
      have ho2 := ho
      unfold keysOk at ho2
      simp only [Bool.and_eq_true, decide_eq_true_eq, Bool.not_eq_true'] at ho2
      obtain ⟨hl, hnd, hne, h15, hpl⟩ := ho2
      have klen : ∀ {keys : List (Option Expr)} {ks : List Str}, keyTexts keys = some ks → keys.all (·.isSome) = true ∧ keys.length = ks.length := by
        intro keys
        induction keys with
        | nil =>
          intro ks h
          cases h
          exact ⟨rfl, rfl⟩
        | cons e r ihk =>
          intro ks h
          unfold keyTexts at h
          split at h
          · rename_i h0
            cases h0
          · rename_i x j p r2 h0
            cases h0
            cases q : keyTexts r with
            | none =>
              rw [q] at h
              cases h
            | some xs =>
              rw [q] at h
              cases h
              obtain ⟨a, b⟩ := ihk q
              exact ⟨by simpa using a, by simpa using b⟩
          · cases h
      obtain ⟨ka, kl⟩ := klen hk
      have kn : keys ≠ [] := by
        intro e
        subst e
        cases hk
        match vals, hl, hne with
        | [], _, hne => cases hne
      refine pe_w (pe_disp (pps_w ih hk hl) ka (kl.trans hl) kn (by rw [kl, hl]; exact h15)) fun σ H R ε s Qd Ed F w cy kq => ?_
      simp only [wE, hk, ho, chk] at w
      intro p hp
      have hr : p ∉ W.rs := Wd.rs_ne cy.j hp
      have f0 : F p = none := fresh_back cy.ex hp
      have m1 : Fm [] F H F (upd H p (.dK [])) := Fm.own cy.ex hp
      have cy1 := cy.next (m1.more (rs := W.rs)) (Wd.pure cy.j m1)
      refine pairs_run ih hl hpl w cy1 fun vs ss s2 F2 H2 m j q r lv => ?_
      split at q
      · rename_i ds hds
        have ra := data_all hds r
        have hp2 : H2 p = some (.dK []) := m.hh p _ (.inr ⟨hr, fun _ z => by cases z⟩) upd_same
        have f2 : F2 p = none := m.nn p _ (.inr ⟨hr, fun _ z => by cases z⟩) upd_same f0
        have lds : ds.length = ks.length := (rpAll_len ra).symm.trans lv
        refine ⟨hp2, (ks.map Sum.inr).zip vs, ?_, ?_, ?_⟩
        · rw [List.zip_map_left, List.map_map]
          rfl
        · rw [List.length_zip, List.length_map]
          omega
        have em : mergeK [] ((ks.map Sum.inr).zip vs) = (ks.map Sum.inr).zip vs := by
          rw [merge_new (by simpa using keys_nodup ih hnd lv)]
          rfl
        rw [em]
        have t := (m1.more (rs := W.rs)).trans m
        have fin : Fm W.rs F H (upd F2 p (.dK ((ks.map Sum.inr).zip vs))) (upd H2 p (.dK ((ks.map Sum.inr).zip vs))) := by
          refine ⟨m.ff.trans (Ex.new f2), fun a o e => ?_, fun a o c e => ?_, fun a o c e f => ?_, fun a o e => ?_⟩
          · by_cases ha : a = p
            · subst ha
              rw [upd_same] at e ⊢
              exact e
            · rw [upd_ne ha] at e ⊢
              exact m.fh a o e
          · rw [upd_ne (ne_of_none e hp)]
            exact t.hh a o c e
          · rw [upd_ne (ne_of_none e hp)]
            exact t.nn a o c e f
          · by_cases ha : a = p
            · subst ha
              rw [upd_same] at e
              cases e
              exact .inr fun _ z => by cases z
            · rw [upd_ne ha] at e
              exact t.nf a o e
        refine kq (.ref p) (.dt ((ks.map Sum.inr).zip ds)) s2 _ _ fin ?_ q ⟨p, vs, rfl, ?_, ?_⟩
        · refine W.st s2 F2 H2 _ _ j (fun a o e c => ?_) (fun a ha => ?_) (fun a o e => ?_)
          · have ha : a ≠ p := fun z => by
              subst z
              rcases c with c | c
              · exact hr c
              · rw [hp2] at e
                cases e
                exact c.2 _ rfl
            rw [upd_ne ha]
            exact e
          · rw [upd_ne (fun z => hr (by rw [← z]; exact ha))]
            exact (W.ne s2 F2 H2 j a ha).2
          · by_cases ha : a = p
            · subst ha
              rw [upd_same] at e
              cases e
              exact .inr fun _ z => by cases z
            · rw [upd_ne ha] at e
              exact .inl e
        · rw [upd_same, List.map_fst_zip (by rw [List.length_map]; omega)]
        · rw [List.map_snd_zip (by rw [List.length_map]; omega)]
          exact dpAll_ex (Ex.new f2) _ _ ra
      · exact q.elim
end
end Z
set_option Elab.async false
set_option linter.all false
set_option maxRecDepth 100000
set_option maxHeartbeats 4000000
namespace Z
open PySem PySem.Spec PyProof.Rows L2 Evl
section
variable {S : Type}
/-- THE RULE: what the word says ahead of an expression, or a test, holds of the run -/
theorem sound (Γ : Gam S) : ∀ (n : Nat) (X : Cx) (W : Wd S) (sc : Scope), CxOk X W Γ sc → ∀ e : Expr, PE X e (tWE X.K W Γ n sc e) ∧ PT X e (tWT X.K W Γ n sc e) := by
  intro n
  induction n with
  | zero =>
    intro X W sc C e
    refine ⟨pe_false fun σ H R ⟨ε, s, Qd, Ed, F, w, cy, kq⟩ => ?_, pt_false fun σ H R ⟨ε, s, Qd, Ed, F, w, cy, kq⟩ => ?_⟩
    · simp only [wE, chk_iff, chkN_iff, Bool.and_eq_true, decide_eq_true_eq, isG_iff, Bool.not_eq_true', and_assoc] at w
    · simp only [wE, chk_iff, chkN_iff, Bool.and_eq_true, decide_eq_true_eq, isG_iff, Bool.not_eq_true', and_assoc] at w
  | succ n ihn =>
    intro X W sc C e
    have ih : ∀ e, PE X e (tWE X.K W Γ n sc e) := fun e => (ihn X W sc C e).1
    have it : ∀ e, PT X e (tWT X.K W Γ n sc e) := fun e => (ihn X W sc C e).2
    have no : ∀ e : Expr, (∀ ε s (Qd : QS S) Ed, ¬ wE Γ (n + 1) false sc ε s e Qd Ed) → PE X e (tWE X.K W Γ (n + 1) sc e) := fun e h => pe_false fun σ H R ⟨ε, s, Qd, Ed, F, w, cy, kq⟩ => h ε s Qd Ed w
    have noT : ∀ e : Expr, (∀ ε s (Qd : QS S) Ed, ¬ wE Γ (n + 1) true sc ε s e Qd Ed) → PT X e (tWT X.K W Γ (n + 1) sc e) := fun e h => pt_false fun σ H R ⟨ε, s, Qd, Ed, F, w, cy, kq⟩ => h ε s Qd Ed w
    constructor
    · cases e with
      | Name x p => exact pe_nm C
      | Constant c k p => exact pe_cst C
      | BinOp a op b p => exact pe_bo C ih
      | UnaryOp op a p =>
        cases op with
        | Not => exact pe_not C ih
        | USub => exact pe_neg C ih
        | _ => exact no _ fun ε s Qd Ed w => by simp only [wE, chk_iff, chkN_iff, Bool.and_eq_true, decide_eq_true_eq, isG_iff, Bool.not_eq_true', and_assoc] at w
      | BoolOp op es p =>
        cases op with
        | And =>
          refine pe_imp (pe_ands C ih es) fun σ H R ⟨ε, s, Qd, Ed, F, w, cy, kq⟩ => ⟨ε, s, Qd, Ed, F, ?_, cy, kq⟩
          simpa only [wE, chk_iff, chkN_iff, Bool.and_eq_true, decide_eq_true_eq, isG_iff, Bool.not_eq_true', and_assoc] using w
        | Or =>
          refine pe_imp (pe_ors C ih es) fun σ H R ⟨ε, s, Qd, Ed, F, w, cy, kq⟩ => ⟨ε, s, Qd, Ed, F, ?_, cy, kq⟩
          simpa only [wE, chk_iff, chkN_iff, Bool.and_eq_true, decide_eq_true_eq, isG_iff, Bool.not_eq_true', and_assoc] using w
      | Compare a ops bs p =>
        match ops, bs with
        | [op], [b] => exact pe_c1 C ih
        | [op, op2], [b, c] => exact pe_c2 C ih
        | [], _ => exact no _ fun ε s Qd Ed w => by simp only [wE, chk_iff, chkN_iff, Bool.and_eq_true, decide_eq_true_eq, isG_iff, Bool.not_eq_true', and_assoc] at w
        | [_], [] => exact no _ fun ε s Qd Ed w => by simp only [wE, chk_iff, chkN_iff, Bool.and_eq_true, decide_eq_true_eq, isG_iff, Bool.not_eq_true', and_assoc] at w
        | [_], _ :: _ :: _ => exact no _ fun ε s Qd Ed w => by simp only [wE, chk_iff, chkN_iff, Bool.and_eq_true, decide_eq_true_eq, isG_iff, Bool.not_eq_true', and_assoc] at w
        | [_, _], [] => exact no _ fun ε s Qd Ed w => by simp only [wE, chk_iff, chkN_iff, Bool.and_eq_true, decide_eq_true_eq, isG_iff, Bool.not_eq_true', and_assoc] at w
        | [_, _], [_] => exact no _ fun ε s Qd Ed w => by simp only [wE, chk_iff, chkN_iff, Bool.and_eq_true, decide_eq_true_eq, isG_iff, Bool.not_eq_true', and_assoc] at w
        | [_, _], _ :: _ :: _ :: _ => exact no _ fun ε s Qd Ed w => by simp only [wE, chk_iff, chkN_iff, Bool.and_eq_true, decide_eq_true_eq, isG_iff, Bool.not_eq_true', and_assoc] at w
        | _ :: _ :: _ :: _, _ => exact no _ fun ε s Qd Ed w => by simp only [wE, chk_iff, chkN_iff, Bool.and_eq_true, decide_eq_true_eq, isG_iff, Bool.not_eq_true', and_assoc] at w
      | IfExp c a b p => exact pe_if ih it
      | Tuple es k p => exact pe_tpl C ih
      | List es p => exact pe_lis C ih
      | Dict keys vals p => exact pe_dic ih
      | Subscript a i p =>
        cases i with
        | Slice lo hi st p2 =>
          cases st with
          | none => exact pe_sl ih
          | some st => exact no _ fun ε s Qd Ed w => by (simp only [wE, chk_iff, chkN_iff, Bool.and_eq_true, decide_eq_true_eq, isG_iff, Bool.not_eq_true', and_assoc, slE] at w; exact Bool.false_ne_true w.1.symm)
        | _ => exact pe_sub C ih rfl
      | Call f args kws p =>
        cases kws with
        | cons _ _ =>
          cases f with
          | Name g q => exact pe_kw C ih
          | _ => exact no _ fun ε s Qd Ed w => by simp only [wE, chk_iff, chkN_iff, Bool.and_eq_true, decide_eq_true_eq, isG_iff, Bool.not_eq_true', and_assoc] at w
        | nil =>
          cases f with
          | Name g q => exact pe_cl C ih
          | Attribute o m q =>
            match args with
            | [a] => exact pe_jn C ih
            | [] => exact no _ fun ε s Qd Ed w => by simp only [wE, chk_iff, chkN_iff, Bool.and_eq_true, decide_eq_true_eq, isG_iff, Bool.not_eq_true', and_assoc] at w
            | _ :: _ :: _ => exact no _ fun ε s Qd Ed w => by simp only [wE, chk_iff, chkN_iff, Bool.and_eq_true, decide_eq_true_eq, isG_iff, Bool.not_eq_true', and_assoc] at w
          | _ => exact no _ fun ε s Qd Ed w => by simp only [wE, chk_iff, chkN_iff, Bool.and_eq_true, decide_eq_true_eq, isG_iff, Bool.not_eq_true', and_assoc] at w
      | ListComp elt gens sc2 p =>
        match gens with
        | [⟨tg, iter, ifs, k⟩] =>
          by_cases hk : k = 0
          · subst hk
            exact pe_lcw C fun X' W' sc' C' e => ihn X' W' sc' C' e
          · refine no _ fun ε s Qd Ed w => ?_
            unfold wE at w
            split at w
            all_goals first
              | (rename_i h; cases h; done)
              | simp_all
        | [] => exact no _ fun ε s Qd Ed w => by simp only [wE, chk_iff, chkN_iff, Bool.and_eq_true, decide_eq_true_eq, isG_iff, Bool.not_eq_true', and_assoc] at w
        | _ :: _ :: _ => exact no _ fun ε s Qd Ed w => by simp only [wE, chk_iff, chkN_iff, Bool.and_eq_true, decide_eq_true_eq, isG_iff, Bool.not_eq_true', and_assoc] at w
      | _ => exact no _ fun ε s Qd Ed w => by simp only [wE, chk_iff, chkN_iff, Bool.and_eq_true, decide_eq_true_eq, isG_iff, Bool.not_eq_true', and_assoc] at w
    · have gen : ∀ e : Expr, condE e = false → (∀ ε s (Qd : QS S) Ed, wE Γ (n + 1) true sc ε s e Qd Ed → wE Γ n false sc ε s e (fun x s1 => dtru x fun b => Qd (.d (.bool b)) s1) Ed) → PT X e (tWT X.K W Γ (n + 1) sc e) := fun e he hw => pt_gen ih he hw
      cases e with
      | UnaryOp op a p =>
        cases op with
        | Not => exact pt_nt ih it
        | _ => exact gen _ rfl fun ε s Qd Ed w => by (simp only [wE, chk_iff, chkN_iff, Bool.and_eq_true, decide_eq_true_eq, isG_iff, Bool.not_eq_true', and_assoc] at w; exact w.2)
      | BoolOp op es p =>
        cases op with
        | And =>
          refine pt_imp (pt_ands ih it es).pt fun σ H R ⟨ε, s, Qd, Ed, F, w, cy, kq⟩ => ⟨ε, s, Qd, Ed, F, ?_, cy, kq⟩
          simpa only [wE, chk_iff, chkN_iff, Bool.and_eq_true, decide_eq_true_eq, isG_iff, Bool.not_eq_true', and_assoc] using w
        | Or =>
          refine pt_imp (pt_ors ih it es).pt fun σ H R ⟨ε, s, Qd, Ed, F, w, cy, kq⟩ => ⟨ε, s, Qd, Ed, F, ?_, cy, kq⟩
          simpa only [wE, chk_iff, chkN_iff, Bool.and_eq_true, decide_eq_true_eq, isG_iff, Bool.not_eq_true', and_assoc] using w
      | Compare a ops bs p =>
        match ops, bs with
        | [op], [b] => exact pt_c1 C ih
        | [op, op2], [b, c] => exact pt_c2 C ih
        | [], _ => exact noT _ fun ε s Qd Ed w => by (simp only [wE, chk_iff, chkN_iff, Bool.and_eq_true, decide_eq_true_eq, isG_iff, Bool.not_eq_true', and_assoc, condE] at w; exact Bool.false_ne_true w.1.symm)
        | [_], [] => exact noT _ fun ε s Qd Ed w => by (simp only [wE, chk_iff, chkN_iff, Bool.and_eq_true, decide_eq_true_eq, isG_iff, Bool.not_eq_true', and_assoc, condE] at w; exact Bool.false_ne_true w.1.symm)
        | [_], _ :: _ :: _ => exact noT _ fun ε s Qd Ed w => by (simp only [wE, chk_iff, chkN_iff, Bool.and_eq_true, decide_eq_true_eq, isG_iff, Bool.not_eq_true', and_assoc, condE] at w; exact Bool.false_ne_true w.1.symm)
        | [_, _], [] => exact noT _ fun ε s Qd Ed w => by (simp only [wE, chk_iff, chkN_iff, Bool.and_eq_true, decide_eq_true_eq, isG_iff, Bool.not_eq_true', and_assoc, condE] at w; exact Bool.false_ne_true w.1.symm)
        | [_, _], [_] => exact noT _ fun ε s Qd Ed w => by (simp only [wE, chk_iff, chkN_iff, Bool.and_eq_true, decide_eq_true_eq, isG_iff, Bool.not_eq_true', and_assoc, condE] at w; exact Bool.false_ne_true w.1.symm)
        | [_, _], _ :: _ :: _ :: _ => exact noT _ fun ε s Qd Ed w => by (simp only [wE, chk_iff, chkN_iff, Bool.and_eq_true, decide_eq_true_eq, isG_iff, Bool.not_eq_true', and_assoc, condE] at w; exact Bool.false_ne_true w.1.symm)
        | _ :: _ :: _ :: _, _ => exact noT _ fun ε s Qd Ed w => by (simp only [wE, chk_iff, chkN_iff, Bool.and_eq_true, decide_eq_true_eq, isG_iff, Bool.not_eq_true', and_assoc, condE] at w; exact Bool.false_ne_true w.1.symm)
      | IfExp c a b p => exact noT _ fun ε s Qd Ed w => by simp only [wE, chk_iff, chkN_iff, Bool.and_eq_true, decide_eq_true_eq, isG_iff, Bool.not_eq_true', and_assoc] at w
      | _ => exact gen _ rfl fun ε s Qd Ed w => by (simp only [wE, chk_iff, chkN_iff, Bool.and_eq_true, decide_eq_true_eq, isG_iff, Bool.not_eq_true', and_assoc] at w; exact w.2)
end
end Z
set_option Elab.async false
set_option linter.all false
set_option maxRecDepth 100000
set_option maxHeartbeats 4000000
namespace Z
open PySem PySem.Spec PyProof.Rows L2 Evl
/-! ### lists of one's own -/
def compE : Expr → Bool
  | .ListComp _ _ _ _ => true
  | .SetComp _ _ _ _ => true
  | .DictComp _ _ _ _ _ => true
  | _ => false
/-- data without a list -/
inductive Nl : PyData → Prop
  | none : Nl .none
  | bool (b : Bool) : Nl (.bool b)
  | int (i : Int) : Nl (.int i)
  | str (s : Str) : Nl (.str s)
  | tup (ds : List PyData) : (∀ d ∈ ds, Nl d) → Nl (.tuple ds)
/-- F2 keeps what F holds, lists aside -/
def Nx (F F2 : Hp) : Prop := ∀ a o, F a = some o → (∀ xs, o ≠ .lst xs) → F2 a = some o
theorem sqT_nl {K : PySem.W.Frag} {F F2 : Hp} (e : Nx F F2) {a : Addr} {xs : List V} (h : SqT K F a xs) : SqT K F2 a xs := by
  rcases h with h | h
  · rcases h with h | ⟨o, h⟩
    · exact .inl (.inl (e _ _ h fun _ z => by cases z))
    · exact .inl (.inr ⟨o, e _ _ h fun _ z => by cases z⟩)
  · exact .inr h
mutual
theorem rp_nl {K : PySem.W.Frag} {F F2 : Hp} (e : Nx F F2) : ∀ (d : PyData) (v : V), Nl d → Rp K F v d → Rp K F2 v d
  | .none, _, _, h => by cases h; exact .non
  | .bool b, _, _, h => by cases h; exact .bl b
  | .int i, _, _, h => by cases h; exact .int i
  | .str x, _, _, h => by cases h; exact .str x
  | .list ds, _, n, _ => by cases n
  | .tuple ds, _, n, h => by
    cases n with
    | tup _ n => cases h with
      | tup hs ha => exact .tup (sqT_nl e hs) (rpAll_nl e ds _ n ha)
  | .dict _, _, _, h => by cases h
theorem rpAll_nl {K : PySem.W.Frag} {F F2 : Hp} (e : Nx F F2) : ∀ (ds : List PyData) (vs : List V), (∀ d ∈ ds, Nl d) → RpAll K F vs ds → RpAll K F2 vs ds
  | [], _, _, h => by cases h; exact .nil
  | d :: ds, _, n, h => by
    cases h with
    | cons h1 h2 => exact .cons (rp_nl e d _ (n d List.mem_cons_self) h1) (rpAll_nl e ds _ (fun x hx => n x (List.mem_cons_of_mem _ hx)) h2)
end
/-- own lists read as data -/
def fz1 : Option Sl → Option Sl
  | some (.own xs) => some (.d (.list xs))
  | x => x
def frz (ε : En) : En := ε.map fz1
/-- the frozen part with the own lists -/
def fzF (F H : Hp) (ps rs : List Addr) : Hp := fun a => match F a with
  | some o => some o
  | none => if a ∈ ps ∧ a ∉ rs then H a else none
/-- the frozen part without new lists -/
def thF (F F2 : Hp) : Hp := fun a => match F a with
  | some o => some o
  | none => match F2 a with
    | some (.lst _) => none
    | z => z
theorem thF_ex {F F2 : Hp} : Ex F (thF F F2) := fun a o h => by
  show (match F a with
    | some o => some o
    | none => _) = some o
  rw [h]
theorem thF_sub {F F2 : Hp} (e : Ex F F2) {a : Addr} {o : HO} (h : thF F F2 a = some o) : F2 a = some o := by
  unfold thF at h
  cases f : F a with
  | some u =>
    simp only [f] at h
    cases h
    exact e a _ f
  | none =>
    simp only [f] at h
    split at h
    · cases h
    · exact h
theorem thF_none {F F2 : Hp} (e : Ex F F2) {a : Addr} (h : F2 a = none) : thF F F2 a = none := by
  cases z : thF F F2 a with
  | none => rfl
  | some o =>
    rw [thF_sub e z] at h
    cases h
theorem thF_lst {F F2 : Hp} {a : Addr} {xs : List V} (h : F a = none) (h2 : F2 a = some (.lst xs)) : thF F F2 a = none := by
  unfold thF
  simp only [h, h2]
theorem thF_nx {F F2 : Hp} (e : Ex F F2) : Nx F2 (thF F F2) := fun a o h n => by
  unfold thF
  cases f : F a with
  | some u =>
    have := e a u f
    rw [h] at this
    cases this
    rfl
  | none =>
    simp only [h]
    split
    · rename_i xs z
      cases z
      exact (n _ rfl).elim
    · rfl
section
variable {S : Type} {K : PySem.W.Frag} {W : Wd S} {F H F' F2 H2 : Hp} {σ : L2.St} {ε : En} {ps : List Addr} {s s2 : S} {Ed : QX S}
theorem fzF_ex {F H : Hp} {ps rs : List Addr} : Ex F (fzF F H ps rs) := fun a o h => by
  unfold fzF
  simp only [h]
theorem fzF_at {F H : Hp} {ps rs : List Addr} (e : Ex F H) {p : Addr} (hp : p ∈ ps) (hr : p ∉ rs) : fzF F H ps rs p = H p := by
  unfold fzF
  cases f : F p with
  | some o =>
    simp only
    exact (e p o f).symm
  | none =>
    simp only
    rw [if_pos ⟨hp, hr⟩]
theorem fzF_cases {F H : Hp} {ps rs : List Addr} {a : Addr} {o : HO} (h : fzF F H ps rs a = some o) : F a = some o ∨ (F a = none ∧ a ∈ ps ∧ a ∉ rs ∧ H a = some o) := by
  unfold fzF at h
  cases f : F a with
  | some u =>
    simp only [f] at h
    exact .inl h
  | none =>
    simp only [f] at h
    split at h
    · rename_i c
      exact .inr ⟨rfl, c.1, c.2, h⟩
    · cases h
theorem Er.ownAll (h : Er K W F H σ ε ps) : ∀ p ∈ ps, p ∉ W.rs → ∃ vs, H p = some (.lst vs) ∧ F p = none ∧ ∀ o, W.H0 p = some o → ¬ Nt o := by
  induction h with
  | nil => exact fun p hp hn => (hn hp).elim
  | no _ ih => exact ih
  | d _ _ ih => exact ih
  | t _ _ ih => exact ih
  | v _ ih => exact ih
  | @own p vs xs _ _ _ h0 hf hp hd hn r ih =>
    intro q hq hr
    rcases List.mem_cons.mp hq with rfl | hq
    · exact ⟨vs, hp, hf, h0⟩
    · exact ih q hq hr
theorem Er.frz (h : Er K W F H σ ε ps) (e : Ex F F') (c : ∀ p ∈ ps, p ∉ W.rs → F' p = H p) : Er K W F' H σ (frz ε) W.rs := by
  induction h with
  | nil => exact .nil
  | no _ ih => exact .no (ih c)
  | d hd _ ih => exact .d (dp_ex e _ _ hd) (ih c)
  | t hd _ ih => exact .t (sr_ex e hd) (ih c)
  | v _ ih => exact .v (ih c)
  | @own p vs xs _ _ _ h0 hf hp hd hn r ih =>
    have hr : p ∉ W.rs := fun z => hn (r.rs p z)
    exact .d (.lst ((c p List.mem_cons_self hr).trans hp) (dpAll_ex e _ _ hd)) (ih fun q hq => c q (List.mem_cons_of_mem _ hq))
/-- own lists are frozen for a while -/
structure Fz (K : PySem.W.Frag) (W : Wd S) (F H F' : Hp) (σ : L2.St) (ε : En) (s : S) (ps : List Addr) : Prop where
  ex : Ex F F'
  fm : Fm W.rs W.F0 W.H0 F' H
  er : Er K W F' H σ (Z.frz ε) W.rs
  j : W.J s F' H
  at_ : ∀ p ∈ ps, p ∉ W.rs → ∃ vs, H p = some (.lst vs) ∧ F' p = some (.lst vs) ∧ F p = none
theorem freeze (fm : Fm W.rs W.F0 W.H0 F H) (h : Er K W F H σ ε ps) (j : W.J s F H) : Fz K W F H (fzF F H ps W.rs) σ ε s ps := by
  have ex : Ex F (fzF F H ps W.rs) := fzF_ex
  have nt : ∀ a o, fzF F H ps W.rs a = some o → F a = some o ∨ Nt o := fun a o z => by
    rcases fzF_cases z with z | ⟨_, z1, z2, z3⟩
    · exact .inl z
    · obtain ⟨vs, e, _, _⟩ := h.ownAll a z1 z2
      rw [z3] at e
      cases e
      exact .inr fun _ y => by cases y
  have rsn : ∀ a ∈ W.rs, fzF F H ps W.rs a = none := fun a ha => by
    cases z : fzF F H ps W.rs a with
    | none => rfl
    | some o =>
      rcases fzF_cases z with z | ⟨_, _, z2, _⟩
      · rw [(W.ne s F H j a ha).2] at z
        cases z
      · exact (z2 ha).elim
  refine ⟨ex, ⟨fm.ff.trans ex, fun a o z => ?_, fm.hh, fun a o c z f => ?_, fun a o z => ?_⟩, h.frz ex fun p hp hr => fzF_at fm.fh hp hr, W.st s F H _ H j (fun _ _ z _ => z) rsn nt, fun p hp hr => ?_⟩
  · rcases fzF_cases z with z | ⟨_, _, _, z⟩
    · exact fm.fh a o z
    · exact z
  · cases y : fzF F H ps W.rs a with
    | none => rfl
    | some u =>
      rcases fzF_cases y with y | ⟨_, y1, y2, y3⟩
      · rw [fm.nn a o c z f] at y
        cases y
      · obtain ⟨vs, _, _, e0⟩ := h.ownAll a y1 y2
        rcases c with c | ⟨_, c⟩
        · have := fm.hh a o (.inl c) z
          have no : ¬ Nt o := e0 o z
          rw [y3] at this
          cases this
          obtain ⟨vs, e, _, _⟩ := h.ownAll a y1 y2
          rw [y3] at e
          cases e
          exact (no fun _ y => by cases y).elim
        · exact (e0 o z c).elim
  · rcases nt a o z with z | z
    · exact fm.nf a o z
    · exact .inr z
  · obtain ⟨vs, e, f, _⟩ := h.ownAll p hp hr
    exact ⟨vs, e, (fzF_at fm.fh hp hr).trans e, f⟩
/-- behind an evaluation over the frozen part: the lists are one's own again -/
theorem thaw (fm : Fm W.rs W.F0 W.H0 F H) (h : Er K W F H σ ε ps) (z : Fz K W F H F' σ ε s ps) (m : Fm W.rs F' H F2 H2) (j : W.J s2 F2 H2) :
    Ex F (thF F F2) ∧ Fm W.rs W.F0 W.H0 (thF F F2) H2 ∧ Er K W (thF F F2) H2 σ ε ps ∧ W.J s2 (thF F F2) H2 ∧ Nx F2 (thF F F2) := by
  have e2 : Ex F F2 := z.ex.trans m.ff
  have t := z.fm.trans m
  refine ⟨thF_ex, ⟨fm.ff.trans thF_ex, fun a o y => m.fh a o (thF_sub e2 y), t.hh, fun a o c y f => thF_none e2 (t.nn a o c y f), fun a o y => t.nf a o (thF_sub e2 y)⟩, h.keep thF_ex (fun p hp hr vs y => ?_) (fun p hp hr f vs y => ?_), W.st s2 F2 H2 _ H2 j (fun _ _ y _ => y) (fun a ha => thF_none e2 (W.ne s2 F2 H2 j a ha).2) fun a o y => .inl (thF_sub e2 y), thF_nx e2⟩
  · obtain ⟨us, e, f, _⟩ := z.at_ p hp hr
    rw [y] at e
    cases e
    exact m.fh p _ (m.ff p _ f)
  · obtain ⟨us, e, f', _⟩ := z.at_ p hp hr
    exact thF_lst f (m.ff p _ f')
/-- an own list is changed -/
theorem Er.change (h : Er K W F H σ ε ps) : ∀ {i : Nat} {xs : List PyData}, ε[i]? = some (some (.own xs)) → ∃ p vs, σ[i]? = some (some (.ref p)) ∧ p ∈ ps ∧ H p = some (.lst vs) ∧ RpAll K F vs xs ∧ p ∉ W.rs ∧ F p = none ∧ (∀ o, W.H0 p = some o → ¬ Nt o) ∧
    ∀ us ys, RpAll K F us ys → Er K W F (upd H p (.lst us)) σ (ε.set i (some (.own ys))) ps := by
  induction h with
  | nil =>
    intro i xs e
    simp at e
  | no _ ih =>
    intro i xs e
    cases i with
    | zero => simp at e
    | succ i =>
      obtain ⟨p, vs, h1, h2, h3, h4, h5, h6, h7, k⟩ := ih (i := i) (xs := xs) (by simpa using e)
      exact ⟨p, vs, by simpa using h1, h2, h3, h4, h5, h6, h7, fun us ys r => .no (k us ys r)⟩
  | d hd _ ih =>
    intro i xs e
    cases i with
    | zero => simp at e
    | succ i =>
      obtain ⟨p, vs, h1, h2, h3, h4, h5, h6, h7, k⟩ := ih (i := i) (xs := xs) (by simpa using e)
      exact ⟨p, vs, by simpa using h1, h2, h3, h4, h5, h6, h7, fun us ys r => .d hd (k us ys r)⟩
  | t hd _ ih =>
    intro i xs e
    cases i with
    | zero => simp at e
    | succ i =>
      obtain ⟨p, vs, h1, h2, h3, h4, h5, h6, h7, k⟩ := ih (i := i) (xs := xs) (by simpa using e)
      exact ⟨p, vs, by simpa using h1, h2, h3, h4, h5, h6, h7, fun us ys r => .t hd (k us ys r)⟩
  | v _ ih =>
    intro i xs e
    cases i with
    | zero => simp at e
    | succ i =>
      obtain ⟨p, vs, h1, h2, h3, h4, h5, h6, h7, k⟩ := ih (i := i) (xs := xs) (by simpa using e)
      exact ⟨p, vs, by simpa using h1, h2, h3, h4, h5, h6, h7, fun us ys r => .v (k us ys r)⟩
  | @own p vs ys σ ε ps h0 hf hp hd hn r ih =>
    intro i xs e
    cases i with
    | zero =>
      simp at e
      subst e
      have hr : p ∉ W.rs := fun z => hn (r.rs p z)
      refine ⟨p, vs, rfl, List.mem_cons_self, hp, hd, hr, hf, h0, fun us zs rr => .own h0 hf upd_same rr hn ?_⟩
      exact r.keep (Ex.refl F) (fun q hq _ ws y => by
        rw [upd_ne (fun z => hn (by rw [← z]; exact hq))]
        exact y) fun q hq _ f _ _ => f
    | succ i =>
      obtain ⟨q, us, h1, h2, h3, h4, h5, h6, h7, k⟩ := ih (i := i) (xs := xs) (by simpa using e)
      refine ⟨q, us, by simpa using h1, List.mem_cons_of_mem _ h2, h3, h4, h5, h6, h7, fun ws zs rr => .own h0 hf ?_ hd hn (k ws zs rr)⟩
      rw [upd_ne (fun z => hn (by rw [z]; exact h2))]
      exact hp
/-- an own list of a slot -/
theorem Er.putOwn (h : Er K W F H σ ε ps) {p : Addr} {vs : List V} {xs : List PyData} (h0 : ∀ o, W.H0 p = some o → ¬ Nt o) (hf : F p = none) (hp : H p = some (.lst vs)) (hd : RpAll K F vs xs) (hn : p ∉ ps) :
    ∀ i : Nat, ∃ ps', Er K W F H (σ.set i (some (.ref p))) (ε.set i (some (.own xs))) ps' ∧ ∀ q ∈ ps', q = p ∨ q ∈ ps := by
  induction h with
  | nil => exact fun i => ⟨_, .nil, fun _ h => .inr h⟩
  | no r ih =>
    intro i
    cases i with
    | zero => exact ⟨_, .own h0 hf hp hd hn r, fun q hq => List.mem_cons.mp hq⟩
    | succ i =>
      obtain ⟨q, r2, k⟩ := ih hn i
      exact ⟨q, .no r2, k⟩
  | d hx r ih =>
    intro i
    cases i with
    | zero => exact ⟨_, .own h0 hf hp hd hn r, fun q hq => List.mem_cons.mp hq⟩
    | succ i =>
      obtain ⟨q, r2, k⟩ := ih hn i
      exact ⟨q, .d hx r2, k⟩
  | t hx r ih =>
    intro i
    cases i with
    | zero => exact ⟨_, .own h0 hf hp hd hn r, fun q hq => List.mem_cons.mp hq⟩
    | succ i =>
      obtain ⟨q, r2, k⟩ := ih hn i
      exact ⟨q, .t hx r2, k⟩
  | v r ih =>
    intro i
    cases i with
    | zero => exact ⟨_, .own h0 hf hp hd hn r, fun q hq => List.mem_cons.mp hq⟩
    | succ i =>
      obtain ⟨q, r2, k⟩ := ih hn i
      exact ⟨q, .v r2, k⟩
  | @own p2 us ys σ ε ps g0 gf gp gd gn r ih =>
    have n2 : p ∉ ps := fun z => hn (List.mem_cons_of_mem _ z)
    intro i
    cases i with
    | zero => exact ⟨_, .own h0 hf hp hd n2 r, fun q hq => (List.mem_cons.mp hq).imp id (List.mem_cons_of_mem _)⟩
    | succ i =>
      obtain ⟨q, r2, k⟩ := ih n2 i
      refine ⟨_, .own g0 gf gp gd (fun z => ?_) r2, fun x hx => ?_⟩
      · rcases k p2 z with e | e
        · exact hn (by rw [← e]; exact List.mem_cons_self)
        · exact gn e
      · rcases List.mem_cons.mp hx with e | hx
        · exact .inr (by rw [e]; exact List.mem_cons_self)
        · exact (k x hx).imp id (List.mem_cons_of_mem _)
/-- a frozen part stays when an own list changes -/
theorem Fm.change (fm : Fm W.rs W.F0 W.H0 F H) {p : Addr} (h0 : ∀ o, W.H0 p = some o → ¬ Nt o) (hf : F p = none) (hl : H p = none ∨ ∃ vs, H p = some (.lst vs)) (o : HO) : Fm W.rs W.F0 W.H0 F (upd H p o) := by
  refine ⟨fm.ff, fun a u e => ?_, fun a u c e => ?_, fm.nn, fm.nf⟩
  · rw [upd_ne (fun z => by rw [z, hf] at e; cases e)]
    exact fm.fh a u e
  · rw [upd_ne (fun z => by
      subst z
      rcases c with c | ⟨_, c⟩
      · have h := fm.hh _ u (.inl c) e
        rcases hl with hl | ⟨vs, hl⟩
        · rw [hl] at h
          cases h
        · rw [hl] at h
          cases h
          exact h0 _ e fun _ y => by cases y
      · exact h0 u e c)]
    exact fm.hh a u c e
/-- a new list is nobody's -/
theorem Fm.fresh0 (fm : Fm W.rs W.F0 W.H0 F H) (j : W.J s F H) {p : Addr} (hp : H p = none) : ∀ o, W.H0 p = some o → ¬ Nt o := fun o e n => by
  have hr : p ∉ W.rs := fun z => (W.ne s F H j p z).1 hp
  rw [fm.hh p o (.inr ⟨hr, n⟩) e] at hp
  cases hp
theorem Er.ne (h : Er K W F H σ ε ps) (j : W.J s F H) : ∀ p ∈ ps, H p ≠ none := fun p hp => by
  by_cases hr : p ∈ W.rs
  · exact (W.ne s F H j p hr).1
  · obtain ⟨vs, e, _, _⟩ := h.ownAll p hp hr
    rw [e]
    exact fun z => by cases z
end
/-- names that are changed in place behind here -/
def mutS : Nat → Str → List Stmt → Bool
  | 0, _, _ => false
  | _, _, [] => false
  | n + 1, x, st :: rest => (match st with
    | .Expr (.Call (.Attribute (.Name y _) m _) [_] [] _) _ => (decide (m = "append") || decide (m = "extend")) && decide (y = x)
    | .Assign [.Subscript (.Name y _) _ _] _ _ => decide (y = x)
    | .For _ _ b _ _ => mutS n x b
    | .If _ a b _ => mutS n x a || mutS n x b
    | _ => false) || mutS n x rest
/-- x.append(a), x a list of one's own -/
def appOf (N : List Str) (sc : Scope) (ε : En) : Expr → Option (Nat × List PyData × Expr)
  | .Call (.Attribute (.Name x _) m apos) [a] [] pos => (match decide (m = "append") && (plainE a && ((apos.endLine == pos.line) && decide (sc.names.lookup x = some .local))) with
    | true => (match ixOf N x with
      | some i => (match ε[i]? with
        | some (some (.own xs)) => some (i, xs, a)
        | _ => none)
      | none => none)
    | false => none)
  | _ => none
theorem appOf_some {N : List Str} {sc : Scope} {ε : En} {e : Expr} {i : Nat} {xs : List PyData} {a : Expr} (h : appOf N sc ε e = some (i, xs, a)) :
    ∃ x p apos pos, e = .Call (.Attribute (.Name x p) "append" apos) [a] [] pos ∧ plainE a = true ∧ (apos.endLine == pos.line) = true ∧ sc.names.lookup x = some .local ∧ ixOf N x = some i ∧ ε[i]? = some (some (.own xs)) := by
  unfold appOf at h
  split at h
  · rename_i x p m apos b pos
    split at h
    · rename_i hc
      simp only [Bool.and_eq_true, decide_eq_true_eq] at hc
      obtain ⟨rfl, h1, h2, h3⟩ := hc
      split at h
      · rename_i k hk
        split at h
        · rename_i ys hy
          cases h
          exact ⟨x, p, apos, pos, rfl, h1, h2, h3, hk, hy⟩
        · cases h
      · cases h
    · cases h
  · cases h
/-- x.extend(a), x a list of one's own -/
def extOf (N : List Str) (sc : Scope) (ε : En) : Expr → Option (Nat × List PyData × Expr)
  | .Call (.Attribute (.Name x _) m apos) [a] [] pos => (match decide (m = "extend") && (plainE a && ((apos.endLine == pos.line) && decide (sc.names.lookup x = some .local))) with
    | true => (match ixOf N x with
      | some i => (match ε[i]? with
        | some (some (.own xs)) => some (i, xs, a)
        | _ => none)
      | none => none)
    | false => none)
  | _ => none
theorem extOf_some {N : List Str} {sc : Scope} {ε : En} {e : Expr} {i : Nat} {xs : List PyData} {a : Expr} (h : extOf N sc ε e = some (i, xs, a)) :
    ∃ x p apos pos, e = .Call (.Attribute (.Name x p) "extend" apos) [a] [] pos ∧ plainE a = true ∧ (apos.endLine == pos.line) = true ∧ sc.names.lookup x = some .local ∧ ixOf N x = some i ∧ ε[i]? = some (some (.own xs)) := by
  unfold extOf at h
  split at h
  · rename_i x p m apos b pos
    split at h
    · rename_i hc
      simp only [Bool.and_eq_true, decide_eq_true_eq] at hc
      obtain ⟨rfl, h1, h2, h3⟩ := hc
      split at h
      · rename_i k hk
        split at h
        · rename_i ys hy
          cases h
          exact ⟨x, p, apos, pos, rfl, h1, h2, h3, hk, hy⟩
        · cases h
      · cases h
    · cases h
  · cases h
theorem rpAll_set {K : PySem.W.Frag} {F : Hp} {v : V} {d : PyData} (r : Rp K F v d) : ∀ {vs : List V} {ds : List PyData} (j : Nat), RpAll K F vs ds → RpAll K F (vs.set j v) (ds.set j d)
  | _, _, _, .nil => .nil
  | _, _, 0, .cons _ t => .cons r t
  | _, _, j + 1, .cons h t => .cons h (rpAll_set r j t)
section
variable {S : Type}
/-- a list of one's own is made -/
def wMk (Γ : Gam S) (m : Nat) (sc : Scope) (ε : En) (s : S) (e : Expr) (Q : List PyData → S → Prop) (E : QX S) : Prop := match e with
  | .List es _ => wArgs (fun e s Q => wE Γ m false sc ε s e Q E) es s fun ss s1 => (match dataAll ss with
    | some ds => ds.length ≤ sizeLine ∧ Q ds s1
    | none => False)
  | .BinOp a .Add b _ => wE Γ m false sc ε s a (fun x s1 => wE Γ m false sc ε s1 b (fun y s2 => match x, y with
    | .d (.list xs), .d (.list ys) => xs.length + ys.length ≤ sizeLine ∧ Q (xs ++ ys) s2
    | _, _ => False) E) E
  | .ListComp elt gs sc2 p => wE Γ m false sc ε s (.ListComp elt gs sc2 p) (fun v s1 => match v with
    | .d (.list ds) => Q ds s1
    | _ => False) E
  | _ => False
def tMk (K : PySem.W.Frag) (W : Wd S) (Γ : Gam S) (m : Nat) (sc : Scope) (e : Expr) : TE := fun σ H R => ∃ ε s Qm Ed F, wMk Γ m sc ε s e Qm Ed ∧ Cy K W F H σ ε s Ed ∧
  ∀ (p : Addr) (vs : List V) (ds : List PyData) (s2 : S) (F2 H2 : Hp), Fm W.rs F H F2 H2 → W.J s2 F2 H2 → Qm ds s2 → H2 p = none → RpAll K F2 vs ds → R (.ref p) (upd H2 p (.lst vs))
variable {X : Cx} {W : Wd S} {Γ : Gam S} {sc : Scope} {m : Nat}
/-- a comprehension's list as one's own -/
theorem lcw_own {K : PySem.W.Frag} {elt : Expr} {gs : List Comprehension} {sc2 : Scope} {pp : Pos} {σ : L2.St} {H : Hp} {R : VK} (h : tMk K W Γ m sc (.ListComp elt gs sc2 pp) σ H R) : tLcW K W Γ m sc (.ListComp elt gs sc2 pp) σ H R := by
  obtain ⟨ε, s, Qm, Ed, F, w, cy, k⟩ := h
  refine ⟨ε, s, _, Ed, F, w, cy, fun D acc ys s3 F2 H2 F3 H3 mm hD m3 j3 hr fd hd ra w4 => ?_⟩
  have nd : ∀ a o, F3 a = some o → a ≠ D := fun a o e z => by
    rw [z, fd] at e
    cases e
  have f3 : Fm W.rs F2 H2 F3 (fun a => if a = D then none else H3 a) := by
    refine ⟨m3.ff, fun a o e => ?_, fun a o c e => ?_, m3.nn, m3.nf⟩
    · show (if a = D then none else H3 a) = some o
      rw [if_neg (nd a o e)]
      exact m3.fh a o e
    · show (if a = D then none else H3 a) = some o
      rw [if_neg (fun z => by rw [z, hD] at e; cases e)]
      exact m3.hh a o c e
  have j4 : W.J s3 F3 (fun a => if a = D then none else H3 a) := W.st s3 F3 H3 F3 _ j3 (fun a o e z => by
    show (if a = D then none else H3 a) = some o
    rw [if_neg (fun y => by
      subst y
      rcases z with z | z
      · exact hr z
      · rw [hd] at e
        cases e
        exact z.1 _ rfl)]
    exact e) (fun a ha => (W.ne s3 F3 H3 j3 a ha).2) fun _ _ e => .inl e
  have r := k D acc ys s3 F3 _ (mm.trans f3) j4 w4 (if_pos rfl) ra
  have e : upd (fun a => if a = D then none else H3 a) D (.lst acc) = H3 := by
    funext a
    by_cases ha : a = D
    · rw [ha, upd_same, hd]
    · rw [upd_ne ha, if_neg ha]
  rw [e] at r
  exact r
theorem pe_mk (C : CxOk X W Γ sc) {e : Expr} (hc : compE e = false) : PE X e (tMk X.K W Γ m sc e) := by
  have ih : ∀ e, PE X e (tWE X.K W Γ m sc e) := fun e => (sound Γ m X W sc C e).1
  have no : (∀ ε s (Q : List PyData → S → Prop) E, ¬ wMk Γ m sc ε s e Q E) → PE X e (tMk X.K W Γ m sc e) := fun h => pe_false fun σ H R ⟨ε, s, Q, E, F, w, _⟩ => h ε s Q E w
  cases e with
  | List es pos =>
    refine pe_imp (pe_lst (pa_wa ih es)) fun σ H R ⟨ε, s, Qm, Ed, F, w, cy, k⟩ => ?_
    refine ⟨ε, s, _, Ed, F, w, cy, fun vs ss s2 F2 H2 mm j q r => ?_⟩
    split at q
    · rename_i ds e
      have ra := data_all e r
      exact ⟨by rw [rpAll_len ra]; exact q.1, fun p hp => k p vs ds s2 F2 H2 mm j q.2 hp ra⟩
    · exact q.elim
  | BinOp a op b pos =>
    cases op with
    | Add =>
      refine pe_imp (pe_op op_cat (ih a) (ih b)) fun σ H R ⟨ε, s, Qm, Ed, F, w, cy, k⟩ => ?_
      refine ⟨ε, s, _, Ed, F, w, cy, fun v x s2 F2 H2 mm j q r => ?_⟩
      refine ⟨ε, s2, _, Ed, F2, q, cy.next mm j, fun u y s3 F3 H3 m3 j3 q3 r3 => ?_⟩
      dsimp only at q3
      split at q3
      · rename_i xs ys
        have r2 := sr_ex m3.ff r
        cases r2 with
        | @lst pa va _ ha ra => cases r3 with
          | @lst pb vb _ hb rb =>
            refine ⟨pa, pb, va, vb, rfl, rfl, m3.fh _ _ ha, m3.fh _ _ hb, by rw [rpAll_len ra, rpAll_len rb]; exact q3.1, fun p hp => ?_⟩
            exact k p _ _ s3 F3 H3 (mm.trans m3) j3 q3.2 hp (rpAll_append ra rb)
      · exact q3.elim
    | _ => exact no fun ε s Q E w => w
  | ListComp elt gs sc2 p => cases hc
  | _ => exact no fun ε s Q E w => w
end
end Z
set_option Elab.async false
set_option linter.all false
set_option maxRecDepth 100000
set_option maxHeartbeats 4000000
namespace Z
open PySem PySem.Spec PyProof.Rows L2 Evl
/-! ### what the compiler does with an assignment -/
theorem swaps0 {e : Expr} {t : Option Expr} {l : Nat} {env : Env} (h : compE e = false) : swapsWith e t l env = pure false := by
  cases e <;> first | rfl | cases h
def lineE (e : Expr) : Nat := e.pos.line
/-- two names take two values, stored from the right -/
def par2 (sc : Scope) (x y : Str) (px py : Pos) (a b : Expr) : Bool :=
  decide (sc.names.lookup x = some .local) && (decide (sc.names.lookup y = some .local) && (decide (x ≠ y) && (decide (py.line = px.line) && (plainE a && (plainE b && (!(([a, b] : List Expr).all (foldedForSure 8)) && !(([a, b] : List Expr).all (constantsAlone 8))))))))
def par3 (sc : Scope) (x y z : Str) (px py pz : Pos) (a b c : Expr) : Bool :=
  decide (sc.names.lookup x = some .local) && (decide (sc.names.lookup y = some .local) && (decide (sc.names.lookup z = some .local) && (decide (x ≠ y) && (decide (x ≠ z) && (decide (y ≠ z) && (decide (py.line = px.line) && (decide (pz.line = px.line) &&
  (plainE a && (plainE b && (plainE c && (!(([a, b, c] : List Expr).all (foldedForSure 8)) && !(([a, b, c] : List Expr).all (constantsAlone 8)))))))))))))
theorem star_any {es : List Expr} (h : es.all plainE = true) : (es.any fun | .Starred .. => true | _ => false) = false := by
  rw [List.any_eq_false]
  intro e he
  have := List.all_eq_true.mp h e he
  cases e <;> first | (intro z; cases z; done) | cases this
theorem star_no {a : Expr} (h : plainE a = true) : (match a with | .Starred .. => true | _ => false) = false := by
  cases a <;> first | rfl | cases h
theorem sws2 {env : Env} {x y : Str} {px py pt pt2 : Pos} {kt k2 : Nat} {a b : Expr} (hk : env.scope.kind = .function) (hx : env.scope.names.lookup x = some .local) (hy : env.scope.names.lookup y = some .local) (hne : x ≠ y) (hl : py.line = px.line)
    (ha : plainE a = true) (hb : plainE b = true) (h1 : (([a, b] : List Expr).all (foldedForSure 8)) = false) (h2 : (([a, b] : List Expr).all (constantsAlone 8)) = false) :
    swappedStores [.Tuple [.Name x px, .Name y py] kt pt] (.Tuple [a, b] k2 pt2) env = pure (some [x, y]) := by
  have bk : env.blockKind = .function := by
    unfold Env.blockKind
    rw [hk]
    rfl
  have kx : env.kindOf x = some .local := hx
  have ky : env.kindOf y = some .local := hy
  have st := star_any (es := [a, b]) (by simp [ha, hb])
  unfold swappedStores
  simp only [List.length_cons, List.length_nil, bk, st, h1, h2, List.filterMap_cons, List.filterMap_nil, kx, ky, List.head?_cons, Option.map_some, Option.getD_some, Expr.pos, hl]
  have e : ([x, y] : List Str).eraseDups = [x, y] := by
    rw [List.eraseDups_cons]
    have : (List.filter (fun b => !b == x) [y]) = [y] := by
      simp [List.filter_cons, beq_iff_eq, Ne.symm hne]
    rw [this]
    rfl
  simp [e]
  intro h
  exfalso
  rcases h with h | h
  · revert h
    cases a <;> first | (cases ha; done) | (intro h; cases h; done)
  · revert h
    cases b <;> first | (cases hb; done) | (intro h; cases h; done)
theorem sws3 {env : Env} {x y z : Str} {px py pz pt pt2 : Pos} {kt k2 : Nat} {a b c : Expr} (hk : env.scope.kind = .function) (hx : env.scope.names.lookup x = some .local) (hy : env.scope.names.lookup y = some .local) (hz : env.scope.names.lookup z = some .local) (hne : x ≠ y) (hn2 : x ≠ z) (hn3 : y ≠ z) (hl : py.line = px.line) (hl2 : pz.line = px.line)
    (ha : plainE a = true) (hb : plainE b = true) (hc : plainE c = true) (h1 : (([a, b, c] : List Expr).all (foldedForSure 8)) = false) (h2 : (([a, b, c] : List Expr).all (constantsAlone 8)) = false) :
    swappedStores [.Tuple [.Name x px, .Name y py, .Name z pz] kt pt] (.Tuple [a, b, c] k2 pt2) env = pure (some [x, y, z]) := by
  have bk : env.blockKind = .function := by
    unfold Env.blockKind
    rw [hk]
    rfl
  have kx : env.kindOf x = some .local := hx
  have ky : env.kindOf y = some .local := hy
  have kz : env.kindOf z = some .local := hz
  have st := star_any (es := [a, b, c]) (by simp [ha, hb, hc])
  unfold swappedStores
  simp only [List.length_cons, List.length_nil, bk, st, h1, h2, List.filterMap_cons, List.filterMap_nil, kx, ky, kz, List.head?_cons, Option.map_some, Option.getD_some, Expr.pos, hl, hl2]
  have e : ([x, y, z] : List Str).eraseDups = [x, y, z] := by
    rw [List.eraseDups_cons]
    have : (List.filter (fun b => !b == x) [y, z]) = [y, z] := by
      simp [List.filter_cons, beq_iff_eq, Ne.symm hne, Ne.symm hn2]
    rw [this, List.eraseDups_cons]
    have : (List.filter (fun b => !b == y) [z]) = [z] := by
      simp [List.filter_cons, beq_iff_eq, Ne.symm hn3]
    rw [this]
    rfl
  simp [e]
  intro h
  exfalso
  rcases h with h | h | h
  · revert h
    cases a <;> first | (cases ha; done) | (intro h; cases h; done)
  · revert h
    cases b <;> first | (cases hb; done) | (intro h; cases h; done)
  · revert h
    cases c <;> first | (cases hc; done) | (intro h; cases h; done)
/-- a pair of which one is a cell is not swapped -/
def cel2 (sc : Scope) (x y : Str) : Bool := decide (sc.names.lookup x = some .cell) || decide (sc.names.lookup y = some .cell)
theorem swsC {env : Env} {x y : Str} {px py pt pt2 : Pos} {kt k2 : Nat} {a b : Expr} (h : env.scope.names.lookup x = some .cell ∨ env.scope.names.lookup y = some .cell) : swappedStores [.Tuple [.Name x px, .Name y py] kt pt] (.Tuple [a, b] k2 pt2) env = pure none := by
  have k : (env.kindOf x == some NameKind.local) = false ∨ (env.kindOf y == some NameKind.local) = false := by
    rcases h with h | h
    · left
      have : env.kindOf x = some .cell := h
      rw [this]
      rfl
    · right
      have : env.kindOf y = some .cell := h
      rw [this]
      rfl
  unfold swappedStores
  rcases k with k | k
  · simp only [List.filterMap_cons, List.filterMap_nil, k, Bool.false_and]
    cases h2 : (env.kindOf y == some NameKind.local && py.line == (Option.map (fun x => x.pos.line) ([Expr.Name x px, Expr.Name y py].head?)).getD 0) <;> simp [h2]
  · simp only [List.filterMap_cons, List.filterMap_nil, k, Bool.false_and]
    cases h2 : (env.kindOf x == some NameKind.local && px.line == (Option.map (fun x => x.pos.line) ([Expr.Name x px, Expr.Name y py].head?)).getD 0) <;> simp [h2]
/-- no pair of displays -/
theorem swap_nm {x : Str} {p : Pos} {e : Expr} {env : Env} : swappedStores [.Name x p] e env = pure none := by
  cases e <;> rfl
theorem swap_ne {tg e : Expr} {env : Env} (h : tupE e = false) : swappedStores [tg] e env = pure none := by
  cases e <;> first | (cases h; done) | (cases tg <;> rfl)
theorem each1 {tg : Expr} {env : Env} (h : plainE tg = true) : (assignEach [tg] env).map (·.2) = [assign tg env] := by
  cases tg <;> first | rfl | cases h
/-- what a statement comes to -/
inductive Out where
  | nx (ε : En)
  | rt (s : Sl)
  | bk (ε : En)
  | ct (ε : En)
section
variable {S : Type}
/-- a loop's turns -/
def wFor (f : PyData → En → S → (Out → S → Prop) → Prop) : List PyData → En → S → (Out → S → Prop) → Prop
  | [], ε, s, O => O (.nx ε) s
  | x :: xs, ε, s, O => f x ε s fun o s1 => match o with
    | .nx ε1 => wFor f xs ε1 s1 O
    | .ct ε1 => wFor f xs ε1 s1 O
    | .bk ε1 => O (.nx ε1) s1
    | .rt v => O (.rt v) s1
def notOwn : Sl → Bool
  | .own _ => false
  | _ => true
/-- what follows a statement -/
def wThen (k : En → S → Prop) (O : Out → S → Prop) (o : Out) (s : S) : Prop := match o with
  | .nx ε => k ε s
  | o => O o s
/-- a name may take this value -/
def asgOk (sc : Scope) (x : Str) (p : Pos) (e : Expr) : Bool := (decide (sc.names.lookup x = some .local) || decide (sc.names.lookup x = some .cell)) && (!compE e || (match e with
  | .ListComp _ _ sc2 p2 => decide (sc.names.lookup x = some .local) && ((p.line == p2.line) && !(sc2.names.any fun (n, k) => n == x && (k == .local || k == .cell)))
  | _ => false))
theorem asgOk_iff {sc : Scope} {x : Str} {p : Pos} {e : Expr} (h : asgOk sc x p e = true) : (sc.names.lookup x = some .local ∨ sc.names.lookup x = some .cell) ∧ (compE e = false ∨ ∃ elt gs sc2 p2, e = .ListComp elt gs sc2 p2 ∧ sc.names.lookup x = some .local ∧ (p.line == p2.line) = true ∧ (sc2.names.any fun (n, k) => n == x && (k == .local || k == .cell)) = false) := by
  unfold asgOk at h
  obtain ⟨h1, h2⟩ := Bool.and_eq_true_iff.mp h
  refine ⟨?_, ?_⟩
  · rcases Bool.or_eq_true_iff.mp h1 with z | z
    · exact .inl (of_decide_eq_true z)
    · exact .inr (of_decide_eq_true z)
  · rcases Bool.or_eq_true_iff.mp h2 with z | z
    · left
      cases q : compE e with
      | false => rfl
      | true =>
        rw [q] at z
        cases z
    · right
      split at z
      · obtain ⟨z1, z2⟩ := Bool.and_eq_true_iff.mp z
        obtain ⟨z2, z3⟩ := Bool.and_eq_true_iff.mp z2
        refine ⟨_, _, _, _, rfl, of_decide_eq_true z1, z2, ?_⟩
        revert z3
        generalize (List.any _ _) = w
        intro z3
        cases w
        · rfl
        · cases z3
      · cases z
/-- the weakest word ahead of a block; m bounds the depth of its expressions, n its own -/
def wB (Γ : Gam S) (m : Nat) : Nat → Scope → En → S → List Stmt → (Out → S → Prop) → QX S → Prop
  | 0, _, _, _, _, _, _ => False
  | n + 1, sc, ε, s, sts, O, E => (match sts with
    | [] => O (.nx ε) s
    | st :: rest => (match st with
      | .Return (some e) _ => wE Γ m false sc (frz ε) s e (fun x s1 => O (.rt x) s1) E
      | .Return none _ => O (.rt (.d .none)) s
      | .Pass _ => wB Γ m n sc ε s rest O E
      | .Break _ => O (.bk ε) s
      | .Continue _ => O (.ct ε) s
      | .Expr e _ => (match appOf Γ.N sc ε e with
        | some (i, xs, a) => (match Γ.raw with
          | true => wE Γ m false sc ε s a (fun v s1 => match v with
            | .d d => xs.length < 100000 ∧ wB Γ m n sc (ε.set i (some (.own (xs ++ [d])))) s1 rest O E
            | _ => False) E
          | false => wE Γ m false sc (frz ε) s a (fun v s1 => match v with
            | .d d => Nl d ∧ (xs.length < 100000 ∧ wB Γ m n sc (ε.set i (some (.own (xs ++ [d])))) s1 rest O E)
            | _ => False) E)
        | none => (match extOf Γ.N sc ε e with
          | some (i, xs, a) => chk Γ.raw (wE Γ m false sc ε s a (fun v s1 => match v with
            | .d (.list ds) => xs.length + ds.length ≤ sizeLine ∧ wB Γ m n sc (ε.set i (some (.own (xs ++ ds)))) s1 rest O E
            | _ => False) E)
          | none => chkN (compE e) (wE Γ m false sc ε s e (fun _ s1 => wB Γ m n sc ε s1 rest O E) E)))
      | .If c a b _ => wE Γ m true sc ε s c (fun x s1 => match x with
        | .d (.bool true) => wB Γ m n sc ε s1 a (wThen (fun ε s => wB Γ m n sc ε s rest O E) O) E
        | .d (.bool false) => wB Γ m n sc ε s1 b (wThen (fun ε s => wB Γ m n sc ε s rest O E) O) E
        | _ => False) E
      | .For tg it body [] _ => chkN (setE it) (match slotsT Γ.N sc tg with
        | none => False
        | some sl => wIter Γ.free sc tg (fun e s Q => wE Γ m false sc ε s e Q E) it s fun xs s1 =>
          wFor (fun x ε s k => match bindS sl x ε with
            | none => False
            | some ε2 => wB Γ m n sc ε2 s body k E) xs ε s1 (wThen (fun ε s => wB Γ m n sc ε s rest O E) O))
      | .Assign [.Name x p] e pos => (match ixOf Γ.N x with
        | none => False
        | some i => chk (asgOk sc x p e) (match mutS n x rest with
          | true => wMk Γ m sc ε s e (fun ds s1 => wB Γ m n sc (ε.set i (some (.own ds))) s1 rest O E) E
          | false => wE Γ m false sc ε s e (fun v s1 => wB Γ m n sc (ε.set i (some v)) s1 rest O E) E))
      | .Assign [.Subscript (.Name x _) ie _] e _ => (match ixOf Γ.N x with
        | none => False
        | some i => (match ε[i]? with
          | some (some (.own xs)) => chk (decide (sc.names.lookup x = some .local) && (!(compE e) && (!(slE ie) && !(tupE e)))) (wE Γ m false sc (frz ε) s e (fun v s1 => match v with
            | .d d => Nl d ∧ wE Γ m false sc (frz ε) s1 ie (fun k s2 => match k with
              | .d (.int k) => (match ixN xs.length k with
                | some j => wB Γ m n sc (ε.set i (some (.own (xs.set j d)))) s2 rest O E
                | none => False)
              | _ => False) E
            | _ => False) E)
          | _ => False))
      | .Assign [.Tuple ts kt pt] e pos => (match ts, e with
        | [.Name x px, .Name y py], .Tuple [a, b] k2 pt2 => (match ixOf Γ.N x, ixOf Γ.N y with
          | some i, some j => (match par2 sc x y px py a b with
            | true => wArgs (fun e s Q => wE Γ m false sc ε s e Q E) [a, b] s fun vs s1 => (match vs with
            | [v, w] => wB Γ m n sc ((ε.set i (some v)).set j (some w)) s1 rest O E
            | _ => False)
            | false => chk (cel2 sc x y) (match slotsT Γ.N sc (.Tuple [.Name x px, .Name y py] kt pt) with
              | none => False
              | some sl => wE Γ m false sc ε s (.Tuple [a, b] k2 pt2) (fun v s1 => match v with
                | .d d => (match bindS sl d ε with
                  | none => False
                  | some ε2 => wB Γ m n sc ε2 s1 rest O E)
                | _ => False) E))
          | _, _ => False)
        | [.Name x px, .Name y py, .Name z pz], .Tuple [a, b, c] k2 pt2 => (match ixOf Γ.N x, ixOf Γ.N y, ixOf Γ.N z with
          | some i, some j, some l => chk (par3 sc x y z px py pz a b c) (wArgs (fun e s Q => wE Γ m false sc ε s e Q E) [a, b, c] s fun vs s1 => (match vs with
            | [v, w, u] => wB Γ m n sc (((ε.set i (some v)).set j (some w)).set l (some u)) s1 rest O E
            | _ => False))
          | _, _, _ => False)
        | ts, e => (match slotsT Γ.N sc (.Tuple ts kt pt) with
          | none => False
          | some sl => chkN (tupE e || compE e) (wE Γ m false sc ε s e (fun v s1 => match v with
            | .d d => (match bindS sl d ε with
              | none => False
              | some ε2 => wB Γ m n sc ε2 s1 rest O E)
            | _ => False) E)))
      | _ => False))
end
end Z
set_option Elab.async false
set_option linter.all false
set_option maxRecDepth 100000
set_option maxHeartbeats 4000000
namespace Z
open PySem PySem.Spec PyProof.Rows L2 Evl
section
variable {S : Type}
/-- what is wanted behind, from the frozen part F1 on -/
def Hold1 (K : PySem.W.Frag) (W : Wd S) (D : Ends) (F1 : Hp) (s : S) : Out → Prop
  | .nx ε => ∀ σ F H, Fm W.rs W.F0 W.H0 F H → Ex F1 F → Ers K W F H σ ε → W.J s F H → D.nx σ H
  | .bk ε => ∀ σ F H, Fm W.rs W.F0 W.H0 F H → Ex F1 F → Ers K W F H σ ε → W.J s F H → D.bk σ H
  | .ct ε => ∀ σ F H, Fm W.rs W.F0 W.H0 F H → Ex F1 F → Ers K W F H σ ε → W.J s F H → D.ct σ H
  | .rt sl => ∀ v F H, Fm W.rs W.F0 W.H0 F H → W.J s F H → Sr K F v sl → D.rt v H
def Hold (K : PySem.W.Frag) (W : Wd S) (D : Ends) (F1 : Hp) (O : Out → S → Prop) : Prop := ∀ o s, O o s → Hold1 K W D F1 s o
theorem Hold.next {K : PySem.W.Frag} {W : Wd S} {D : Ends} {F1 F2 : Hp} {O : Out → S → Prop} (h : Hold K W D F1 O) (e : Ex F1 F2) : Hold K W D F2 O := fun o s q => by
  have z := h o s q
  cases o with
  | nx ε => exact fun σ F H a b c d => z σ F H a (e.trans b) c d
  | bk ε => exact fun σ F H a b c d => z σ F H a (e.trans b) c d
  | ct ε => exact fun σ F H a b c d => z σ F H a (e.trans b) c d
  | rt sl => exact z
structure Cz (K : PySem.W.Frag) (W : Wd S) (F H : Hp) (σ : L2.St) (ε : En) (s : S) (Ed : QX S) : Prop where
  fm : Fm W.rs W.F0 W.H0 F H
  er : Ers K W F H σ ε
  j : W.J s F H
  kx : Kx K W.rs W.J W.cls W.F0 W.H0 Ed W.xe
theorem Cz.cy {K : PySem.W.Frag} {W : Wd S} {F H : Hp} {σ : L2.St} {ε : En} {s : S} {Ed : QX S} (c : Cz K W F H σ ε s Ed) : Cy K W F H σ ε s Ed := ⟨c.fm.fh, c.er, c.j, c.kx.next c.fm⟩
theorem Cz.next {K : PySem.W.Frag} {W : Wd S} {F H F2 H2 : Hp} {σ : L2.St} {ε : En} {s s2 : S} {Ed : QX S} (c : Cz K W F H σ ε s Ed) (m : Fm W.rs F H F2 H2) (j : W.J s2 F2 H2) : Cz K W F2 H2 σ ε s2 Ed := ⟨c.fm.trans m, c.er.fm m, j, c.kx⟩
/-- a block's reading -/
def tWB (K : PySem.W.Frag) (W : Wd S) (Γ : Gam S) (m n : Nat) (sc : Scope) (sts : List Stmt) : TS := fun D σ H => ∃ ε s O Ed F, wB Γ m n sc ε s sts O Ed ∧ Cz K W F H σ ε s Ed ∧ Hold K W D F O
theorem pss_false {X : Cx} {sts : List Stmt} {t : TS} (h : ∀ D σ H, ¬ t D σ H) : PSs X sts t := ⟨fun _ _ σ H D _ q => (h D σ H q).elim⟩
variable {X : Cx} {W : Wd S} {Γ : Gam S} {sc : Scope} {m n : Nat}
/-- behind the first statement -/
theorem hold_then {K : PySem.W.Frag} {D : Ends} {F1 : Hp} {O : Out → S → Prop} {rest : List Stmt} {Ed : QX S} (h : Hold K W D F1 O) (kx : Kx K W.rs W.J W.cls W.F0 W.H0 Ed W.xe) :
    Hold K W { D with nx := tWB K W Γ m n sc rest D } F1 (wThen (fun ε s => wB Γ m n sc ε s rest O Ed) O) := by
  intro o s q
  cases o with
  | nx ε => exact fun σ F H a b c d => ⟨ε, s, O, Ed, F, q, ⟨a, c, d, kx⟩, h.next b⟩
  | bk ε => exact h _ s q
  | ct ε => exact h _ s q
  | rt sl => exact h _ s q
theorem sole0 {tg e : Expr} {l : Nat} {env : Env} (h : compE e = false) : swapsWithSole [tg] e l env = pure false := by
  unfold swapsWithSole
  exact swaps0 h
theorem not_t {b : Bool} (h : (!b) = true) : b = false := by
  cases b
  · rfl
  · cases h
theorem loop_at {α : Type} {xs : List α} {i : Nat} (h : i < xs.length) : xs.drop i = xs[i] :: xs.drop (i + 1) := List.drop_eq_getElem_cons h
variable (C : CxOk X W Γ sc)
include C
theorem ps_forw {tg it : Expr} {body rest : List Stmt} {pos : Pos} (ihb : ∀ sts, PSs X sts (tWB X.K W Γ m n sc sts)) :
    PSs X (.For tg it body [] pos :: rest) (tWB X.K W Γ m (n + 1) sc (.For tg it body [] pos :: rest)) := by
  have ih : ∀ e, PE X e (tWE X.K W Γ m sc e) := fun e => (sound Γ m X W sc C e).1
  cases hset : setE it with
  | true =>
    refine pss_false fun D σ H ⟨ε, s, O, Ed, F, w, cz, ho⟩ => ?_
    simp only [wB, chk_iff, chkN_iff, hset] at w
    exact Bool.false_ne_true w.1.symm
  | false =>
    cases hsl : slotsT Γ.N sc tg with
    | none =>
      refine pss_false fun D σ H ⟨ε, s, O, Ed, F, w, cz, ho⟩ => ?_
      simp only [wB, chk_iff, chkN_iff, hsl] at w
      exact w.2
    | some sl =>
      refine pss_imp (pss_cons (ps_for C.po C.calm (pi_w C ih it) (pg_w C hsl) (ihb body) (fold0 X.env hset)) (ihb rest)) fun D σ H ⟨ε, s, O, Ed, F, w, cz, ho⟩ => ?_
      simp only [wB, chk_iff, chkN_iff, hsl] at w
      refine ⟨ε, s, _, Ed, F, w.2, cz.cy, fun J xs s2 F2 H2 mm j q wk => ?_⟩
      have cz2 : Cz X.K W F2 H2 σ ε s2 Ed := cz.next mm j
      have ho2 : Hold X.K W { D with nx := tWB X.K W Γ m n sc rest D } F2 (wThen (fun ε s => wB Γ m n sc ε s rest O Ed) O) := hold_then (ho.next mm.ff) cz.kx
      refine ⟨fun i k σ H => k = xs.length - i ∧ i ≤ xs.length ∧ ∃ ε s F, Cz X.K W F H σ ε s Ed ∧ Ex F2 F ∧ wFor (fun x ε s k => match bindS sl x ε with
            | none => False
            | some ε2 => wB Γ m n sc ε2 s body k Ed) (xs.drop i) ε s (wThen (fun ε s => wB Γ m n sc ε s rest O Ed) O), ⟨xs.length, rfl, Nat.zero_le _, ε, s2, F2, cz2, Ex.refl F2, q⟩, ?_⟩
      rintro i k σ3 H3 ⟨rfl, hle, ε3, s3, F3, cz3, e3, w3⟩
      by_cases hi : i < xs.length
      · right
        obtain ⟨go, yld⟩ := (wk i F3 H3 e3 cz3.fm.fh).1 _ (List.getElem?_eq_getElem hi)
        rw [loop_at hi] at w3
        simp only [wFor] at w3
        refine ⟨go, fun σ4 H4 => ∃ ε s F, Cz X.K W F H4 σ4 ε s Ed ∧ Ex F2 F ∧ wFor (fun x ε s k => match bindS sl x ε with
            | none => False
            | some ε2 => wB Γ m n sc ε2 s body k Ed) (xs.drop (i + 1)) ε s (wThen (fun ε s => wB Γ m n sc ε s rest O Ed) O), fun σ4 H4 z => ⟨xs.length - (i + 1), by omega, rfl, hi, z⟩, fun v H4 hv => ?_⟩
        obtain ⟨F4, m4, rv⟩ := yld v H4 hv
        have cz4 := cz3.next m4.more (Wd.pure cz3.j m4)
        cases hb : bindS sl xs[i] ε3 with
        | none =>
          simp only [hb] at w3
        | some ε2 =>
          simp only [hb] at w3
          refine gS_put m4.fh hb rv cz4.er (slotsT_one hsl) fun σ5 e5 _ _ => ?_
          refine ⟨ε2, s3, _, Ed, F4, w3, ⟨cz4.fm, e5, cz4.j, cz.kx⟩, fun o s6 q6 => ?_⟩
          cases o with
          | nx ε6 => exact fun σ F H a b c d => ⟨ε6, s6, F, ⟨a, c, d, cz.kx⟩, (e3.trans m4.ff).trans b, q6⟩
          | ct ε6 => exact fun σ F H a b c d => ⟨ε6, s6, F, ⟨a, c, d, cz.kx⟩, (e3.trans m4.ff).trans b, q6⟩
          | bk ε6 => exact fun σ F H a b c d => (ho2.next (e3.trans m4.ff)) (.nx ε6) s6 q6 σ F H a b c d
          | rt v6 => exact ho2 (.rt v6) s6 q6
      · left
        have e : i = xs.length := by omega
        subst e
        refine ⟨(wk _ F3 H3 e3 cz3.fm.fh).2 (Nat.le_refl _), ?_⟩
        rw [List.drop_length] at w3
        exact (ho2.next e3) (.nx ε3) s3 w3 σ3 F3 H3 cz3.fm (Ex.refl F3) cz3.er cz3.j
theorem nmSlot {x : Str} {i : Nat} (e : ixOf Γ.N x = some i) : X.N[i]? = some x := by
  rw [C.n]
  exact ixOf_get e
theorem ps_nmw {x : Str} {p pos : Pos} {e : Expr} {rest : List Stmt} (ihb : ∀ sts, PSs X sts (tWB X.K W Γ m n sc sts)) :
    PSs X (.Assign [.Name x p] e pos :: rest) (tWB X.K W Γ m (n + 1) sc (.Assign [.Name x p] e pos :: rest)) := by
  cases hx : ixOf Γ.N x with
  | none =>
    refine pss_false fun D σ H ⟨ε, s, O, Ed, F, w, cz, ho⟩ => ?_
    simp only [wB, chk_iff, chkN_iff, hx] at w
  | some i =>
    by_cases hk : asgOk sc x p e = true
    case neg =>
      refine pss_false fun D σ H ⟨ε, s, O, Ed, F, w, cz, ho⟩ => ?_
      simp only [wB, chk_iff, chkN_iff, hx] at w
      exact hk w.1
    obtain ⟨hloc, hcomp⟩ := asgOk_iff hk
    have mk : ∀ (D : Ends) (σ : L2.St) (H : Hp), mutS n x rest = true → tWB X.K W Γ m (n + 1) sc (.Assign [.Name x p] e pos :: rest) D σ H → tMk X.K W Γ m sc e σ H fun v H1 => tWB X.K W Γ m n sc rest D (σ.set i (some v)) H1 := by
      rintro D σ H hmut ⟨ε, s, O, Ed, F, w, cz, ho⟩
      simp only [wB, chk_iff, chkN_iff, hx, hmut] at w
      refine ⟨ε, s, _, Ed, F, w.2, cz.cy, fun p vs ds s2 F2 H2 mm j q hp ra => ?_⟩
      have c2 := cz.next mm j
      have fo : Fm W.rs F2 H2 F2 (upd H2 p (.lst vs)) := Fm.own c2.fm.fh hp
      obtain ⟨ps, er⟩ := c2.er
      obtain ⟨ps', er3, _⟩ := (er.fm fo).putOwn (c2.fm.fresh0 j hp) (fresh_back c2.fm.fh hp) upd_same ra (fun z => er.ne j p z hp) i
      exact ⟨ε.set i (some (.own ds)), s2, O, Ed, F2, q, ⟨c2.fm.trans fo, ⟨ps', er3⟩, Wd.put j (Wd.rs_ne j hp) (fun u e => by rw [hp] at e; cases e) _, cz.kx⟩, ho.next mm.ff⟩
    have fin : ∀ (D : Ends) (σ : L2.St) (H : Hp), mutS n x rest = false → tWB X.K W Γ m (n + 1) sc (.Assign [.Name x p] e pos :: rest) D σ H → tWE X.K W Γ m sc e σ H fun v H1 => tWB X.K W Γ m n sc rest D (σ.set i (some v)) H1 := by
      rintro D σ H hmut ⟨ε, s, O, Ed, F, w, cz, ho⟩
      simp only [wB, chk_iff, chkN_iff, hx, hmut] at w
      refine ⟨ε, s, _, Ed, F, w.2, cz.cy, fun v sl s2 F2 H2 mm j q r => ?_⟩
      have c2 := cz.next mm j
      exact ⟨ε.set i (some sl), s2, O, Ed, F2, q, ⟨c2.fm, c2.er.put r i, j, cz.kx⟩, ho.next mm.ff⟩
    rcases hcomp with hc | ⟨elt, gs, sc2, p2, rfl, hl, hline, hany⟩
    · cases hmut : mutS n x rest with
      | true => exact pss_imp (pss_cons (ps_asg (pe_mk (m := m) C hc) (pg_nm C hloc hx) (sole0 hc) swap_nm (each1 rfl)) (ihb rest)) fun D σ H h => mk D σ H hmut h
      | false => exact pss_imp (pss_cons (ps_asg (sound Γ m X W sc C e).1 (pg_nm C hloc hx) (sole0 hc) swap_nm (each1 rfl)) (ihb rest)) fun D σ H h => fin D σ H hmut h
    · have both : ∀ (D : Ends) (σ : L2.St) (H : Hp), tWB X.K W Γ m (n + 1) sc (.Assign [.Name x p] (.ListComp elt gs sc2 p2) pos :: rest) D σ H → tLcW X.K W Γ m sc (.ListComp elt gs sc2 p2) σ H fun v H1 => tWB X.K W Γ m n sc rest D (σ.set i (some v)) H1 := fun D σ H z => by
        cases hmut : mutS n x rest with
        | true => exact lcw_own (mk D σ H hmut z)
        | false => exact lcw_of (fin D σ H hmut z)
      have gone : (∀ σ H R, ¬ tLcW X.K W Γ m sc (.ListComp elt gs sc2 p2) σ H R) → PSs X (.Assign [.Name x p] (.ListComp elt gs sc2 p2) pos :: rest) (tWB X.K W Γ m (n + 1) sc (.Assign [.Name x p] (.ListComp elt gs sc2 p2) pos :: rest)) :=
        fun h => pss_false fun D σ H z => h σ H _ (both D σ H z)
      have nd : X.N.Nodup := by
        rw [C.n]
        exact C.nd
      cases m with
      | zero =>
        refine gone fun σ H R ⟨ε, s, Qd, Ed, F, w, cy, kq⟩ => ?_
        simp only [wE, chk_iff, chkN_iff, Bool.and_eq_true, decide_eq_true_eq, isG_iff, Bool.not_eq_true', and_assoc] at w
      | succ m =>
        match gs with
        | [⟨tg, iter, ifs, k⟩] =>
          by_cases hk : k = 0
          · subst hk
            rcases lc_all C (fun X' W' sc' C' e => sound Γ m X' W' sc' C' e) (elt := elt) (tg := tg) (iter := iter) (ifs := ifs) (pos := p2) (sc2 := sc2) with h | ⟨wi, g, tt, te, own, h1, h2, h3, h4, h5, h6, h7⟩
            · exact gone h
            · refine pss_imp (pss_cons (ps_setLc C.calm nd (nmSlot C hx) (C.lo x hl) (sw_true C.kind (C.lo x hl) hline hany) h1 h2 h3 h4 h5 h6) (ihb rest)) fun D σ H z => ?_
              exact h7 σ H _ (both D σ H z)
          · refine gone fun σ H R ⟨ε, s, Qd, Ed, F, w, cy, kq⟩ => ?_
            unfold wE at w
            split at w
            all_goals first
              | (rename_i h; cases h; done)
              | simp_all
        | [] =>
          refine gone fun σ H R ⟨ε, s, Qd, Ed, F, w, cy, kq⟩ => ?_
          simp only [wE, chk_iff, chkN_iff, Bool.and_eq_true, decide_eq_true_eq, isG_iff, Bool.not_eq_true', and_assoc] at w
        | _ :: _ :: _ =>
          refine gone fun σ H R ⟨ε, s, Qd, Ed, F, w, cy, kq⟩ => ?_
          simp only [wE, chk_iff, chkN_iff, Bool.and_eq_true, decide_eq_true_eq, isG_iff, Bool.not_eq_true', and_assoc] at w
theorem ps_setO {x : Str} {px p2 pos : Pos} {ie e : Expr} {rest : List Stmt} (ihb : ∀ sts, PSs X sts (tWB X.K W Γ m n sc sts)) :
    PSs X (.Assign [.Subscript (.Name x px) ie p2] e pos :: rest) (tWB X.K W Γ m (n + 1) sc (.Assign [.Subscript (.Name x px) ie p2] e pos :: rest)) := by
  have ih : ∀ e, PE X e (tWE X.K W Γ m sc e) := fun e => (sound Γ m X W sc C e).1
  cases hx : ixOf Γ.N x with
  | none =>
    refine pss_false fun D σ H ⟨ε, s, O, Ed, F, w, cz, ho⟩ => ?_
    simp only [wB, chk_iff, chkN_iff, hx] at w
  | some i =>
    by_cases hk : sc.names.lookup x = some .local ∧ compE e = false ∧ slE ie = false ∧ tupE e = false
    case neg =>
      refine pss_false fun D σ H ⟨ε, s, O, Ed, F, w, cz, ho⟩ => ?_
      simp only [wB, chk_iff, chkN_iff, hx] at w
      split at w
      · simp only [chk_iff, Bool.and_eq_true, decide_eq_true_eq, Bool.not_eq_true'] at w
        exact hk w.1
      · exact w
    obtain ⟨hl, hc, hsl, ht⟩ := hk
    have nd := okSc_no C.dbg hl
    have ha : ∀ v, assign (.Subscript (.Name x px) ie p2) X.env v = (do
      let ov ← holding [v] (eval (.Name x px) X.env)
      let iv ← holding [v, ov] (eval ie X.env)
      standAt p2
      holding [v, ov, iv] (setItem ov iv v)
      release [v, ov, iv] []) := by
      intro v
      cases ie <;> first | rfl | cases hsl
    refine pss_imp (pss_cons (ps_asg (ih e) (pg_sub (pe_var (nmSlot C hx) (CxOk.vis C (.inl hl)) nd.1 nd.2.1) (ih ie) L2.set_list ha) (sole0 hc) (swap_ne ht) (each1 rfl)) (ihb rest)) fun D σ H ⟨ε, s, O, Ed, F, w, cz, ho⟩ => ?_
    simp only [wB, chk_iff, chkN_iff, hx] at w
    split at w
    · rename_i xs hown
      replace w := w.2
      obtain ⟨ps, er⟩ := cz.er
      have z := freeze cz.fm er cz.j
      refine ⟨frz ε, s, _, Ed, _, w, ⟨z.fm.fh, ⟨_, z.er⟩, z.j, cz.kx.next z.fm⟩, fun v sl s2 F2 H2 mm j q r => ?_⟩
      obtain ⟨e1, fm1, er1, j1, nx1⟩ := thaw cz.fm er z mm j
      dsimp only at q
      split at q
      · rename_i d
        obtain ⟨nl, q⟩ := q
        have r1 : Rp X.K (thF F F2) v d := rp_nl nx1 d v nl r
        obtain ⟨p, vs, g1, _⟩ := er1.change hown
        have z2 := freeze fm1 er1 j1
        refine ⟨.ref p, g1, frz ε, s2, _, Ed, _, q, ⟨z2.fm.fh, ⟨_, z2.er⟩, z2.j, cz.kx.next z2.fm⟩, fun k slk s3 F3 H3 m3 j3 q3 r3 => ?_⟩
        obtain ⟨e2, fm2, er2, j2, nx2⟩ := thaw fm1 er1 z2 m3 j3
        dsimp only at q3
        split at q3
        · rename_i kk
          cases r3
          split at q3
          · rename_i jj hj
            obtain ⟨p', vs', g1', mem, hp, ra, hr, hf, h0, ch⟩ := er2.change hown
            have pe : p' = p := by
              rw [g1] at g1'
              cases g1'
              rfl
            subst pe
            refine ⟨p', vs', kk, jj, rfl, rfl, hp, by rw [rpAll_len ra]; exact hj, ?_⟩
            exact ⟨ε.set i (some (.own (xs.set jj d))), s3, O, Ed, _, q3, ⟨fm2.change h0 hf (.inr ⟨vs', hp⟩) _, ⟨ps, ch _ _ (rpAll_set (dp_ex e2 _ _ r1) jj ra)⟩, Wd.put j2 hr (fun u e => by rw [hp] at e; cases e; exact ⟨_, rfl⟩) _, cz.kx⟩, ho.next (e1.trans e2)⟩
          · exact q3.elim
        · exact q3.elim
      · exact q.elim
    · exact w.elim
theorem ps_appO {x : Str} {px apos cpos pos : Pos} {a : Expr} {rest : List Stmt} {i : Nat} (ihb : ∀ sts, PSs X sts (tWB X.K W Γ m n sc sts))
    (h1 : plainE a = true) (h2 : (apos.endLine == cpos.line) = true) (hl : sc.names.lookup x = some .local) (hx : ixOf Γ.N x = some i) :
    PSs X (.Expr (.Call (.Attribute (.Name x px) "append" apos) [a] [] cpos) pos :: rest) (fun D σ H => ∃ ε s O Ed F xs, ε[i]? = some (some (.own xs)) ∧ wE Γ m false sc (frz ε) s a (fun v s1 => match v with
          | .d d => Nl d ∧ (xs.length < 100000 ∧ wB Γ m n sc (ε.set i (some (.own (xs ++ [d])))) s1 rest O Ed)
          | _ => False) Ed ∧ Cz X.K W F H σ ε s Ed ∧ Hold X.K W D F O) := by
  have ih : ∀ e, PE X e (tWE X.K W Γ m sc e) := fun e => (sound Γ m X W sc C e).1
  have nd := okSc_no C.dbg hl
  refine pss_imp (pss_cons (ps_expr (pe_bm F.plainAttrs_list F.slot_list_append F.type_list_append mt_append (pe_var (nmSlot C hx) (CxOk.vis C (.inl hl)) nd.1 nd.2.1) (pa_cons (ih a) pa_nil (star1 [] X.env h1)) (base0 X.env rfl) (by rw [star1 [] X.env h1]; rfl) h2 (star1 [] X.env h1) rfl) (swaps0 rfl)) (ihb rest)) fun D σ H ⟨ε, s, O, Ed, F, xs, hown, w, cz, ho⟩ => ?_
  obtain ⟨ps, er⟩ := cz.er
  have z := freeze cz.fm er cz.j
  obtain ⟨p, vs, g1, _, hp, _⟩ := er.change hown
  refine ⟨.ref p, g1, Or.inl ⟨rfl, vs, sq_of hp⟩, frz ε, s, _, Ed, _, w, ⟨z.fm.fh, ⟨_, z.er⟩, z.j, cz.kx.next z.fm⟩, fun v sl s2 F2 H2 mm j q r => ?_⟩
  obtain ⟨e1, fm1, er1, j1, nx1⟩ := thaw cz.fm er z mm j
  dsimp only at q
  split at q
  · rename_i d
    obtain ⟨nl, hz, q⟩ := q
    have r1 : Rp X.K (thF F F2) v d := rp_nl nx1 d v nl r
    obtain ⟨p', vs', g1', mem, hp', ra, hr, hf, h0, ch⟩ := er1.change hown
    have pe : p' = p := by
      rw [g1] at g1'
      cases g1'
      rfl
    subst pe
    refine ⟨p', vs', v, rfl, rfl, hp', sz_lt (by rw [rpAll_len ra]; exact hz), ?_⟩
    exact ⟨ε.set i (some (.own (xs ++ [d]))), s2, O, Ed, _, q, ⟨fm1.change h0 hf (.inr ⟨vs', hp'⟩) _, ⟨ps, ch _ _ (rpAll_append ra (.cons r1 .nil))⟩, Wd.put j1 hr (fun u e => by rw [hp'] at e; cases e; exact ⟨_, rfl⟩) _, cz.kx⟩, ho.next e1⟩
  · exact q.elim
/-- an own list that may hold lists: the argument is read without it -/
theorem ps_appR {x : Str} {px apos cpos pos : Pos} {a : Expr} {rest : List Stmt} {i : Nat} (ihb : ∀ sts, PSs X sts (tWB X.K W Γ m n sc sts))
    (h1 : plainE a = true) (h2 : (apos.endLine == cpos.line) = true) (hl : sc.names.lookup x = some .local) (hx : ixOf Γ.N x = some i) :
    PSs X (.Expr (.Call (.Attribute (.Name x px) "append" apos) [a] [] cpos) pos :: rest) (fun D σ H => ∃ ε s O Ed F xs, ε[i]? = some (some (.own xs)) ∧ wE Γ m false sc ε s a (fun v s1 => match v with
          | .d d => xs.length < 100000 ∧ wB Γ m n sc (ε.set i (some (.own (xs ++ [d])))) s1 rest O Ed
          | _ => False) Ed ∧ Cz X.K W F H σ ε s Ed ∧ Hold X.K W D F O) := by
  have ih : ∀ e, PE X e (tWE X.K W Γ m sc e) := fun e => (sound Γ m X W sc C e).1
  have nd := okSc_no C.dbg hl
  refine pss_imp (pss_cons (ps_expr (pe_bm F.plainAttrs_list F.slot_list_append F.type_list_append mt_append (pe_var (nmSlot C hx) (CxOk.vis C (.inl hl)) nd.1 nd.2.1) (pa_cons (ih a) pa_nil (star1 [] X.env h1)) (base0 X.env rfl) (by rw [star1 [] X.env h1]; rfl) h2 (star1 [] X.env h1) rfl) (swaps0 rfl)) (ihb rest)) fun D σ H ⟨ε, s, O, Ed, F, xs, hown, w, cz, ho⟩ => ?_
  obtain ⟨ps, er⟩ := cz.er
  obtain ⟨p, vs, g1, _, hp, _⟩ := er.change hown
  refine ⟨.ref p, g1, Or.inl ⟨rfl, vs, sq_of hp⟩, ε, s, _, Ed, F, w, cz.cy, fun v sl s2 F2 H2 mm j q r => ?_⟩
  have c2 := cz.next mm j
  have er1 := er.fm mm
  dsimp only at q
  split at q
  · rename_i d
    obtain ⟨hz, q⟩ := q
    obtain ⟨p', vs', g1', mem, hp', ra, hr, hf, h0, ch⟩ := er1.change hown
    have pe : p' = p := by
      rw [g1] at g1'
      cases g1'
      rfl
    subst pe
    refine ⟨p', vs', v, rfl, rfl, hp', sz_lt (by rw [rpAll_len ra]; exact hz), ?_⟩
    exact ⟨ε.set i (some (.own (xs ++ [d]))), s2, O, Ed, _, q, ⟨c2.fm.change h0 hf (.inr ⟨vs', hp'⟩) _, ⟨ps, ch _ _ (rpAll_append ra (.cons r .nil))⟩, Wd.put j hr (fun u e => by rw [hp'] at e; cases e; exact ⟨_, rfl⟩) _, cz.kx⟩, ho.next mm.ff⟩
  · exact q.elim
theorem ps_extR {x : Str} {px apos cpos pos : Pos} {a : Expr} {rest : List Stmt} {i : Nat} (ihb : ∀ sts, PSs X sts (tWB X.K W Γ m n sc sts))
    (h1 : plainE a = true) (h2 : (apos.endLine == cpos.line) = true) (hl : sc.names.lookup x = some .local) (hx : ixOf Γ.N x = some i) :
    PSs X (.Expr (.Call (.Attribute (.Name x px) "extend" apos) [a] [] cpos) pos :: rest) (fun D σ H => ∃ ε s O Ed F xs, ε[i]? = some (some (.own xs)) ∧ wE Γ m false sc ε s a (fun v s1 => match v with
          | .d (.list ds) => xs.length + ds.length ≤ sizeLine ∧ wB Γ m n sc (ε.set i (some (.own (xs ++ ds)))) s1 rest O Ed
          | _ => False) Ed ∧ Cz X.K W F H σ ε s Ed ∧ Hold X.K W D F O) := by
  have ih : ∀ e, PE X e (tWE X.K W Γ m sc e) := fun e => (sound Γ m X W sc C e).1
  have nd := okSc_no C.dbg hl
  refine pss_imp (pss_cons (ps_expr (pe_bm F.plainAttrs_list F.slot_list_extend F.type_list_extend mt_extend (pe_var (nmSlot C hx) (CxOk.vis C (.inl hl)) nd.1 nd.2.1) (pa_cons (ih a) pa_nil (star1 [] X.env h1)) (base0 X.env rfl) (by rw [star1 [] X.env h1]; rfl) h2 (star1 [] X.env h1) rfl) (swaps0 rfl)) (ihb rest)) fun D σ H ⟨ε, s, O, Ed, F, xs, hown, w, cz, ho⟩ => ?_
  obtain ⟨ps, er⟩ := cz.er
  obtain ⟨p, vs, g1, _, hp, _⟩ := er.change hown
  refine ⟨.ref p, g1, Or.inl ⟨rfl, vs, sq_of hp⟩, ε, s, _, Ed, F, w, cz.cy, fun v sl s2 F2 H2 mm j q r => ?_⟩
  have c2 := cz.next mm j
  have er1 := er.fm mm
  dsimp only at q
  split at q
  · rename_i ds
    obtain ⟨hz, q⟩ := q
    obtain ⟨p', vs', g1', mem, hp', ra, hr, hf, h0, ch⟩ := er1.change hown
    have pe : p' = p := by
      rw [g1] at g1'
      cases g1'
      rfl
    subst pe
    have r : Rp X.K F2 v (.list ds) := r
    cases r with
    | @lst b zs _ hb rb =>
      refine ⟨p', b, vs', zs, rfl, rfl, hp', mm.fh b _ hb, by rw [rpAll_len ra, rpAll_len rb]; exact hz, ?_⟩
      exact ⟨ε.set i (some (.own (xs ++ ds))), s2, O, Ed, _, q, ⟨c2.fm.change h0 hf (.inr ⟨vs', hp'⟩) _, ⟨ps, ch _ _ (rpAll_append ra rb)⟩, Wd.put j hr (fun u e => by rw [hp'] at e; cases e; exact ⟨_, rfl⟩) _, cz.kx⟩, ho.next mm.ff⟩
  · exact q.elim
theorem ps_tupw {ts : List Expr} {kt : Nat} {pt pos : Pos} {e : Expr} {rest : List Stmt} (ihb : ∀ sts, PSs X sts (tWB X.K W Γ m n sc sts))
    (hw : ∀ ε s (O : Out → S → Prop) Ed, wB Γ m (n + 1) sc ε s (.Assign [.Tuple ts kt pt] e pos :: rest) O Ed → (match slotsT Γ.N sc (.Tuple ts kt pt) with
          | none => False
          | some sl => chkN (tupE e || compE e) (wE Γ m false sc ε s e (fun v s1 => match v with
            | .d d => (match bindS sl d ε with
              | none => False
              | some ε2 => wB Γ m n sc ε2 s1 rest O Ed)
            | _ => False) Ed))) :
    PSs X (.Assign [.Tuple ts kt pt] e pos :: rest) (tWB X.K W Γ m (n + 1) sc (.Assign [.Tuple ts kt pt] e pos :: rest)) := by
  cases hsl : slotsT Γ.N sc (.Tuple ts kt pt) with
  | none =>
    refine pss_false fun D σ H ⟨ε, s, O, Ed, F, w, cz, ho⟩ => ?_
    have z := hw ε s O Ed w
    simp only [hsl] at z
  | some sl =>
    by_cases hk : tupE e = false ∧ compE e = false
    case neg =>
      refine pss_false fun D σ H ⟨ε, s, O, Ed, F, w, cz, ho⟩ => ?_
      have z := hw ε s O Ed w
      simp only [hsl, chkN_iff, Bool.or_eq_false_iff] at z
      exact hk z.1
    refine pss_imp (pss_cons (ps_asg (sound Γ m X W sc C e).1 (pg_w C hsl) (sole0 hk.2) (swap_ne hk.1) (each1 rfl)) (ihb rest)) fun D σ H ⟨ε, s, O, Ed, F, w, cz, ho⟩ => ?_
    have z := hw ε s O Ed w
    simp only [hsl, chkN_iff, Bool.or_eq_false_iff] at z
    refine ⟨ε, s, _, Ed, F, z.2, cz.cy, fun v sv s2 F2 H2 mm j q r => ?_⟩
    have c2 := cz.next mm j
    cases sv with
    | d d =>
      dsimp only at q
      cases hb : bindS sl d ε with
      | none =>
        rw [hb] at q
        exact q.elim
      | some ε2 =>
        simp only [hb] at q
        exact gS_put mm.fh hb r c2.er (slotsT_one hsl) fun σ5 e5 _ _ => ⟨ε2, s2, O, Ed, F2, q, ⟨c2.fm, e5, j, cz.kx⟩, ho.next mm.ff⟩
    | _ => exact False.elim q
theorem ps_tupg {ts : List Expr} {kt : Nat} {pt pos : Pos} {e : Expr} {rest : List Stmt} (ihb : ∀ sts, PSs X sts (tWB X.K W Γ m n sc sts)) (hc : compE e = false) (hs : swappedStores [.Tuple ts kt pt] e X.env = pure none)
    (hw : ∀ ε s (O : Out → S → Prop) Ed, wB Γ m (n + 1) sc ε s (.Assign [.Tuple ts kt pt] e pos :: rest) O Ed → (match slotsT Γ.N sc (.Tuple ts kt pt) with
          | none => False
          | some sl => (wE Γ m false sc ε s e (fun v s1 => match v with
            | .d d => (match bindS sl d ε with
              | none => False
              | some ε2 => wB Γ m n sc ε2 s1 rest O Ed)
            | _ => False) Ed))) :
    PSs X (.Assign [.Tuple ts kt pt] e pos :: rest) (tWB X.K W Γ m (n + 1) sc (.Assign [.Tuple ts kt pt] e pos :: rest)) := by
  cases hsl : slotsT Γ.N sc (.Tuple ts kt pt) with
  | none =>
    refine pss_false fun D σ H ⟨ε, s, O, Ed, F, w, cz, ho⟩ => ?_
    have z := hw ε s O Ed w
    simp only [hsl] at z
  | some sl =>
    refine pss_imp (pss_cons (ps_asg (sound Γ m X W sc C e).1 (pg_w C hsl) (sole0 hc) hs (each1 rfl)) (ihb rest)) fun D σ H ⟨ε, s, O, Ed, F, w, cz, ho⟩ => ?_
    have z := hw ε s O Ed w
    simp only [hsl] at z
    refine ⟨ε, s, _, Ed, F, z, cz.cy, fun v sv s2 F2 H2 mm j q r => ?_⟩
    have c2 := cz.next mm j
    cases sv with
    | d d =>
      dsimp only at q
      cases hb : bindS sl d ε with
      | none =>
        rw [hb] at q
        exact q.elim
      | some ε2 =>
        simp only [hb] at q
        exact gS_put mm.fh hb r c2.er (slotsT_one hsl) fun σ5 e5 _ _ => ⟨ε2, s2, O, Ed, F2, q, ⟨c2.fm, e5, j, cz.kx⟩, ho.next mm.ff⟩
    | _ => exact False.elim q
theorem b_and {a b : Bool} (h : (a && b) = true) : a = true ∧ b = true := Bool.and_eq_true_iff.mp h
theorem ps_par2w {x y : Str} {px py pt pt2 pos : Pos} {kt k2 : Nat} {a b : Expr} {rest : List Stmt} (ihb : ∀ sts, PSs X sts (tWB X.K W Γ m n sc sts)) :
    PSs X (.Assign [.Tuple [.Name x px, .Name y py] kt pt] (.Tuple [a, b] k2 pt2) pos :: rest) (tWB X.K W Γ m (n + 1) sc (.Assign [.Tuple [.Name x px, .Name y py] kt pt] (.Tuple [a, b] k2 pt2) pos :: rest)) := by
  cases hx : ixOf Γ.N x with
  | none =>
    refine pss_false fun D σ H ⟨ε, s, O, Ed, F, w, cz, ho⟩ => ?_
    simp only [wB, chk_iff, chkN_iff, hx] at w
  | some i =>
    cases hy : ixOf Γ.N y with
    | none =>
      refine pss_false fun D σ H ⟨ε, s, O, Ed, F, w, cz, ho⟩ => ?_
      simp only [wB, chk_iff, chkN_iff, hx, hy] at w
    | some j =>
      cases hp : par2 sc x y px py a b with
      | false =>
        cases hcl : cel2 sc x y with
        | false =>
          refine pss_false fun D σ H ⟨ε, s, O, Ed, F, w, cz, ho⟩ => ?_
          simp only [wB, chk_iff, chkN_iff, hx, hy, hp, hcl] at w
          exact Bool.false_ne_true w.1
        | true =>
          refine ps_tupg C ihb rfl (swsC ?_) fun ε s O Ed w => ?_
          · rcases Bool.or_eq_true_iff.mp hcl with z | z
            · exact .inl (C.ce x (of_decide_eq_true z))
            · exact .inr (C.ce y (of_decide_eq_true z))
          · simp only [wB, chk_iff, chkN_iff, hx, hy, hp, hcl] at w
            exact w.2
      | true =>
        obtain ⟨p1, hp2⟩ := b_and C hp
        obtain ⟨p2, hp2⟩ := b_and C hp2
        obtain ⟨p3, hp2⟩ := b_and C hp2
        obtain ⟨p4, hp2⟩ := b_and C hp2
        obtain ⟨p5, hp2⟩ := b_and C hp2
        obtain ⟨p6, hp2⟩ := b_and C hp2
        obtain ⟨p7, p8⟩ := b_and C hp2
        have nd : X.N.Nodup := by
          rw [C.n]
          exact C.nd
        have hi := nmSlot C hx
        have hj := nmSlot C hy
        have ij : i ≠ j := fun z => by
          subst z
          rw [hi] at hj
          exact of_decide_eq_true p3 (Option.some.inj hj)
        have lx := C.lo x (of_decide_eq_true p1)
        have ly := C.lo y (of_decide_eq_true p2)
        have hpl : ([a, b] : List Expr).all plainE = true := by simp [p5, p6]
        refine pss_imp (pss_cons (ps_par C.calm nd hi hj ij lx ly (pa_w (fun e => (sound Γ m X W sc C e).1) [a, b] hpl) (sws2 C.kind lx ly (of_decide_eq_true p3) (of_decide_eq_true p4) p5 p6 (not_t p7) (not_t p8)) rfl) (ihb rest)) fun D σ H ⟨ε, s, O, Ed, F, w, cz, ho⟩ => ?_
        simp only [wB, chk_iff, chkN_iff, hx, hy, hp] at w
        refine ⟨ε, s, _, Ed, F, w, cz.cy, fun vs ss s2 F2 H2 mm jj q r => ?_⟩
        have c2 := cz.next mm jj
        split at q
        · rename_i sv sw
          match vs, r with
          | [v, u], r => exact ⟨v, u, rfl, (ε.set i (some sv)).set j (some sw), s2, O, Ed, F2, q, ⟨c2.fm, (c2.er.put r.1 i).put r.2.1 j, jj, cz.kx⟩, ho.next mm.ff⟩
        · exact q.elim
theorem ps_par3w {x y z : Str} {px py pz pt pt2 pos : Pos} {kt k2 : Nat} {a b c : Expr} {rest : List Stmt} (ihb : ∀ sts, PSs X sts (tWB X.K W Γ m n sc sts)) :
    PSs X (.Assign [.Tuple [.Name x px, .Name y py, .Name z pz] kt pt] (.Tuple [a, b, c] k2 pt2) pos :: rest) (tWB X.K W Γ m (n + 1) sc (.Assign [.Tuple [.Name x px, .Name y py, .Name z pz] kt pt] (.Tuple [a, b, c] k2 pt2) pos :: rest)) := by
  cases hx : ixOf Γ.N x with
  | none =>
    refine pss_false fun D σ H ⟨ε, s, O, Ed, F, w, cz, ho⟩ => ?_
    simp only [wB, chk_iff, chkN_iff, hx] at w
  | some i =>
    cases hy : ixOf Γ.N y with
    | none =>
      refine pss_false fun D σ H ⟨ε, s, O, Ed, F, w, cz, ho⟩ => ?_
      simp only [wB, chk_iff, chkN_iff, hx, hy] at w
    | some j =>
      cases hz : ixOf Γ.N z with
      | none =>
        refine pss_false fun D σ H ⟨ε, s, O, Ed, F, w, cz, ho⟩ => ?_
        simp only [wB, chk_iff, chkN_iff, hx, hy, hz] at w
      | some l =>
        cases hp : par3 sc x y z px py pz a b c with
        | false =>
          refine pss_false fun D σ H ⟨ε, s, O, Ed, F, w, cz, ho⟩ => ?_
          simp only [wB, chk_iff, chkN_iff, hx, hy, hz, hp] at w
          exact Bool.false_ne_true w.1
        | true =>
          obtain ⟨p1, hp2⟩ := b_and C hp
          obtain ⟨p2, hp2⟩ := b_and C hp2
          obtain ⟨p3, hp2⟩ := b_and C hp2
          obtain ⟨p4, hp2⟩ := b_and C hp2
          obtain ⟨p5, hp2⟩ := b_and C hp2
          obtain ⟨p6, hp2⟩ := b_and C hp2
          obtain ⟨p7, hp2⟩ := b_and C hp2
          obtain ⟨p8, hp2⟩ := b_and C hp2
          obtain ⟨p9, hp2⟩ := b_and C hp2
          obtain ⟨p10, hp2⟩ := b_and C hp2
          obtain ⟨p11, hp2⟩ := b_and C hp2
          obtain ⟨p12, p13⟩ := b_and C hp2
          have nd : X.N.Nodup := by
            rw [C.n]
            exact C.nd
          have hi := nmSlot C hx
          have hj := nmSlot C hy
          have hl := nmSlot C hz
          have ij : i ≠ j := fun z => by
            subst z
            rw [hi] at hj
            exact of_decide_eq_true p4 (Option.some.inj hj)
          have il : i ≠ l := fun z => by
            subst z
            rw [hi] at hl
            exact of_decide_eq_true p5 (Option.some.inj hl)
          have jl : j ≠ l := fun z => by
            subst z
            rw [hj] at hl
            exact of_decide_eq_true p6 (Option.some.inj hl)
          have lx := C.lo x (of_decide_eq_true p1)
          have ly := C.lo y (of_decide_eq_true p2)
          have lz := C.lo z (of_decide_eq_true p3)
          have hpl : ([a, b, c] : List Expr).all plainE = true := by simp [p9, p10, p11]
          refine pss_imp (pss_cons (ps_par3 C.calm nd hi hj hl ij il jl lx ly lz (pa_w (fun e => (sound Γ m X W sc C e).1) [a, b, c] hpl) (sws3 C.kind lx ly lz (of_decide_eq_true p4) (of_decide_eq_true p5) (of_decide_eq_true p6) (of_decide_eq_true p7) (of_decide_eq_true p8) p9 p10 p11 (not_t p12) (not_t p13)) rfl) (ihb rest)) fun D σ H ⟨ε, s, O, Ed, F, w, cz, ho⟩ => ?_
          simp only [wB, chk_iff, chkN_iff, hx, hy, hz] at w
          refine ⟨ε, s, _, Ed, F, w.2, cz.cy, fun vs ss s2 F2 H2 mm jj q r => ?_⟩
          have c2 := cz.next mm jj
          split at q
          · rename_i sv sw su
            match vs, r with
            | [v, u, t], r => exact ⟨v, u, t, rfl, ((ε.set i (some sv)).set j (some sw)).set l (some su), s2, O, Ed, F2, q, ⟨c2.fm, ((c2.er.put r.1 i).put r.2.1 j).put r.2.2.1 l, jj, cz.kx⟩, ho.next mm.ff⟩
          · exact q.elim
end
end Z
set_option Elab.async false
set_option linter.all false
set_option maxRecDepth 100000
set_option maxHeartbeats 4000000
namespace Z
open PySem PySem.Spec PyProof.Rows L2 Evl
section
variable {S : Type} {X : Cx} {W : Wd S} {Γ : Gam S} {sc : Scope} {m : Nat} (C : CxOk X W Γ sc)
include C
theorem soundB : ∀ (n : Nat) (sts : List Stmt), PSs X sts (tWB X.K W Γ m n sc sts) := by
  intro n
  induction n with
  | zero =>
    intro sts
    refine pss_false fun D σ H ⟨ε, s, O, Ed, F, w, cz, ho⟩ => ?_
    simp only [wB, chk_iff, chkN_iff] at w
  | succ n ihb =>
    intro sts
    have ih : ∀ e, PE X e (tWE X.K W Γ m sc e) := fun e => (sound Γ m X W sc C e).1
    have it : ∀ e, PT X e (tWT X.K W Γ m sc e) := fun e => (sound Γ m X W sc C e).2
    have no : ∀ sts : List Stmt, (∀ ε s (O : Out → S → Prop) Ed, ¬ wB Γ m (n + 1) sc ε s sts O Ed) → PSs X sts (tWB X.K W Γ m (n + 1) sc sts) := fun sts h => pss_false fun D σ H ⟨ε, s, O, Ed, F, w, cz, ho⟩ => h ε s O Ed w
    cases sts with
    | nil =>
      refine pss_imp pss_nil fun D σ H ⟨ε, s, O, Ed, F, w, cz, ho⟩ => ?_
      simp only [wB, chk_iff, chkN_iff] at w
      exact ho (.nx ε) s w σ F H cz.fm (Ex.refl F) cz.er cz.j
    | cons st rest =>
      cases st with
      | Return v p =>
        cases v with
        | none =>
          refine pss_imp (pss_cons ps_retN (ihb rest)) fun D σ H ⟨ε, s, O, Ed, F, w, cz, ho⟩ => ?_
          simp only [wB, chk_iff, chkN_iff] at w
          exact ho (.rt (.d .none)) s w .non F H cz.fm cz.j .non
        | some e =>
          refine pss_imp (pss_cons (ps_ret (ih e)) (ihb rest)) fun D σ H ⟨ε, s, O, Ed, F, w, cz, ho⟩ => ?_
          simp only [wB, chk_iff, chkN_iff] at w
          obtain ⟨ps, er⟩ := cz.er
          have z := freeze cz.fm er cz.j
          exact ⟨frz ε, s, _, Ed, _, w, ⟨z.fm.fh, ⟨_, z.er⟩, z.j, cz.kx.next z.fm⟩, fun v sl s2 F2 H2 mm j q r => ho (.rt sl) s2 q v F2 H2 (z.fm.trans mm) j r⟩
      | Pass p =>
        refine pss_imp (pss_cons ps_pass (ihb rest)) fun D σ H ⟨ε, s, O, Ed, F, w, cz, ho⟩ => ?_
        simp only [wB, chk_iff, chkN_iff] at w
        exact ⟨ε, s, O, Ed, F, w, cz, ho⟩
      | Break p =>
        refine pss_imp (pss_cons ps_break (ihb rest)) fun D σ H ⟨ε, s, O, Ed, F, w, cz, ho⟩ => ?_
        simp only [wB, chk_iff, chkN_iff] at w
        exact ho (.bk ε) s w σ F H cz.fm (Ex.refl F) cz.er cz.j
      | Continue p =>
        refine pss_imp (pss_cons ps_continue (ihb rest)) fun D σ H ⟨ε, s, O, Ed, F, w, cz, ho⟩ => ?_
        simp only [wB, chk_iff, chkN_iff] at w
        exact ho (.ct ε) s w σ F H cz.fm (Ex.refl F) cz.er cz.j
      | Expr e p =>
        refine ⟨fun pins sh σ H D I ⟨ε, s, O, Ed, F, w, cz, ho⟩ => ?_⟩
        simp only [wB, chk_iff, chkN_iff] at w
        split at w
        · rename_i i xs a hap
          obtain ⟨x, px, apos, pos, rfl, h1, h2, h3, h4, h5⟩ := appOf_some hap
          split at w
          · exact (ps_appR C ihb h1 h2 h3 h4).run pins sh σ H D I ⟨ε, s, O, Ed, F, xs, h5, w, cz, ho⟩
          · exact (ps_appO C ihb h1 h2 h3 h4).run pins sh σ H D I ⟨ε, s, O, Ed, F, xs, h5, w, cz, ho⟩
        split at w
        · rename_i i xs a hap
          obtain ⟨x, px, apos, pos, rfl, h1, h2, h3, h4, h5⟩ := extOf_some hap
          exact (ps_extR C ihb h1 h2 h3 h4).run pins sh σ H D I ⟨ε, s, O, Ed, F, xs, h5, w.2, cz, ho⟩
        · have hc := w.1
          exact (pss_cons (ps_expr (ih e) (swaps0 hc)) (ihb rest)).run pins sh σ H D I ⟨ε, s, _, Ed, F, w.2, cz.cy, fun v sl s2 F2 H2 mm j q r => ⟨ε, s2, O, Ed, F2, q, cz.next mm j, ho.next mm.ff⟩⟩
      | If c a b p =>
        refine pss_imp (pss_cons (ps_if (it c) (ihb a) (ihb b)) (ihb rest)) fun D σ H ⟨ε, s, O, Ed, F, w, cz, ho⟩ => ?_
        simp only [wB, chk_iff, chkN_iff] at w
        refine ⟨ε, s, _, Ed, F, w, cz.cy, fun k s2 F2 H2 mm j q => ?_⟩
        cases k with
        | true => exact ⟨ε, s2, _, Ed, F2, q, cz.next mm j, hold_then (ho.next mm.ff) cz.kx⟩
        | false => exact ⟨ε, s2, _, Ed, F2, q, cz.next mm j, hold_then (ho.next mm.ff) cz.kx⟩
      | For tg i body els p =>
        cases els with
        | nil => exact ps_forw C ihb
        | cons _ _ => exact no _ fun ε s O Ed w => by simp only [wB, chk_iff, chkN_iff] at w
      | Assign tgs e p =>
        match tgs with
        | [] => exact no _ fun ε s O Ed w => by simp only [wB, chk_iff, chkN_iff] at w
        | _ :: _ :: _ => exact no _ fun ε s O Ed w => by simp only [wB, chk_iff, chkN_iff] at w
        | [tg] =>
          cases tg with
          | Name x px => exact ps_nmw C ihb
          | Tuple ts kt pt =>
            by_cases h2 : (∃ x px y py a b k2 pt2, ts = [.Name x px, .Name y py] ∧ e = .Tuple [a, b] k2 pt2) ∨ (∃ x px y py z pz a b c k2 pt2, ts = [.Name x px, .Name y py, .Name z pz] ∧ e = .Tuple [a, b, c] k2 pt2)
            · rcases h2 with ⟨x, px, y, py, a, b, k2, pt2, rfl, rfl⟩ | ⟨x, px, y, py, z, pz, a, b, c, k2, pt2, rfl, rfl⟩
              · exact ps_par2w C ihb
              · exact ps_par3w C ihb
            · refine ps_tupw C ihb fun ε s O Ed w => ?_
              unfold wB at w
              dsimp only at w
              split at w
              · exact (h2 (.inl ⟨_, _, _, _, _, _, _, _, rfl, rfl⟩)).elim
              · exact (h2 (.inr ⟨_, _, _, _, _, _, _, _, _, _, _, rfl, rfl⟩)).elim
              · exact w
          | Subscript o ie p2 =>
            cases o with
            | Name x px => exact ps_setO C ihb
            | _ => exact no _ fun ε s O Ed w => by simp only [wB, chk_iff, chkN_iff] at w
          | _ => exact no _ fun ε s O Ed w => by simp only [wB, chk_iff, chkN_iff] at w
      | _ => exact no _ fun ε s O Ed w => by simp only [wB, chk_iff, chkN_iff] at w
end
/-- what all bodies of a law share -/
structure Wq (S : Type) where
  rs : List Addr
  J : S → Hp → Hp → Prop
  ne : ∀ s F H, J s F H → ∀ a ∈ rs, H a ≠ none ∧ F a = none
  st : ∀ s F H F2 H2, J s F H → (∀ a o, H a = some o → (a ∈ rs ∨ Fx o) → H2 a = some o) → (∀ a ∈ rs, F2 a = none) → (∀ a o, F2 a = some o → F a = some o ∨ Nt o) → J s F2 H2
  cls : Str → Option Addr
def Wq.wd {S : Type} (q : Wq S) (F H : Hp) (E : XK) : Wd S := ⟨F, H, q.rs, q.J, q.ne, q.st, q.cls, E⟩
def startE (N : List Str) (ss : List Sl) : En := ss.map some ++ List.replicate (N.length - ss.length) none
theorem er_none {S : Type} {K : PySem.W.Frag} {W : Wd S} {F H : Hp} : ∀ n : Nat, Er K W F H (List.replicate n none) (List.replicate n none) W.rs
  | 0 => .nil
  | n + 1 => .no (er_none n)
theorem er_args {S : Type} {K : PySem.W.Frag} {W : Wd S} {F H : Hp} : ∀ {vs : List V} {ss : List Sl} (n : Nat), SrAll K F vs ss → Er K W F H (vs.map some ++ List.replicate n none) (ss.map some ++ List.replicate n none) W.rs
  | [], [], n, _ => er_none n
  | v :: vs, .d x :: ss, n, h => .d h.1 (er_args n h.2)
  | v :: vs, .v x :: ss, n, h => by
    have e : v = x := h.1
    subst e
    exact .v (er_args n h.2)
  | v :: vs, .own x :: ss, n, h => h.1.elim
  | v :: vs, .dt x :: ss, n, h => .t h.1 (er_args n h.2)
  | [], _ :: _, _, h => h.elim
  | _ :: _, [], _, h => h.elim
theorem srAll_len {K : PySem.W.Frag} {F : Hp} : ∀ {vs : List V} {ss : List Sl}, SrAll K F vs ss → vs.length = ss.length
  | [], [], _ => rfl
  | _ :: _, _ :: _, h => congrArg Nat.succ (srAll_len h.2)
  | [], _ :: _, h => h.elim
  | _ :: _, [], h => h.elim
/-- a body's end -/
def fnO {S : Type} (Qd : QS S) : Out → S → Prop
  | .rt v, s => Qd v s
  | .nx _, s => Qd (.d .none) s
  | _, _ => False
/-- a def of the program by its name, called by values | by n values and keywords -/
structure FnH (S : Type) (r : Bool) (P : Program) (w : World) (K : PySem.W.Frag) (mg : Str → Option Value) (base : Heap) (q : Wq S) (k : Nat) (x : Str) (spec : Fsp S) : Prop where
  ex : ∃ a : Addr, FnC r P w K mg base (L2.CX P w) k a (spOf K q.rs q.J q.cls spec) ∧ mg x = some (.ref a) ∧ PySem.W.keepIn K (.ref a) = true
structure FnKH (S : Type) (r : Bool) (P : Program) (w : World) (K : PySem.W.Frag) (mg : Str → Option Value) (base : Heap) (q : Wq S) (k : Nat) (x : Str) (n : Nat) (ks : List Str) (spec : Fsp S) : Prop where
  ex : ∃ a : Addr, FnKC r P w K mg base (L2.CX P w) k a n ks (spOf K q.rs q.J q.cls spec) ∧ mg x = some (.ref a) ∧ PySem.W.keepIn K (.ref a) = true
section
variable {S : Type} {r : Bool} {P : Program} {w : World} {K : PySem.W.Frag} {mg : Str → Option Value} {base : Heap} {q : Wq S} {j k n : Nat} {x : Str} {ks : List Str} {spec : Fsp S}
theorem FnH.mono (h : FnH S r P w K mg base q j x spec) (l : j ≤ k) : FnH S r P w K mg base q k x spec := by
  obtain ⟨a, G, z⟩ := h.ex
  exact ⟨a, G.mono l, z⟩
theorem FnKH.mono (h : FnKH S r P w K mg base q j x n ks spec) (l : j ≤ k) : FnKH S r P w K mg base q k x n ks spec := by
  obtain ⟨a, G, z⟩ := h.ex
  exact ⟨a, G.mono l, z⟩
theorem FnH.weak (h : FnH S false P w K mg base q k x spec) (r : Bool) : FnH S r P w K mg base q k x spec := by
  obtain ⟨a, G, z⟩ := h.ex
  exact ⟨a, G.weak r, z⟩
/-- what a def's body may let out is taken -/
theorem passes_def {N : List Str} {qual : Str} {scope : Scope} {f : Addr} {cdv : Value} {A : Around} {outer : List Env} {sh : Shared} {H : Hp} {E : XK} :
    Passes (L2.CX P w) (cxOf (L2.CX P w) P w K mg base N qual scope f cdv A outer sh H E) E :=
  passes_call (X := cxOf (L2.CX P w) P w K mg base N qual scope f cdv A outer sh H E) (takes_of rfl rfl rfl rfl) fun _ _ _ _ h => h
theorem passes_no (X : Cx) (h1 : X.prog = P) (h2 : X.w = w) : Passes (L2.CX P w) X E0 := fun _ _ _ _ _ _ _ ⟨_, _, _, _, _, _, _, _, _, _, _, _, z⟩ => z.elim
/-- the context of a def's body -/
theorem ctx_def (q : Wq S) (Γ : Gam S) {qual : Str} {scope : Scope} {N ps : List Str} (SC : FnScope N ps scope) (hN : Γ.N = N) (ok : okSc scope = true)
    (free : ∀ x, Γ.free.contains x = true → mg x = none) (glob : ∀ x sl, Γ.glob.lookup x = some sl → ∃ v u, mg x = some u ∧ RelV v u ∧ ∀ F, Sr K F v sl)
    (fns : ∀ f spec, Γ.fns.lookup f = some spec → FnH S Γ.rep P w K mg base q k f spec) (kfs : ∀ f n ks spec, kfOf Γ.kfn f n ks = some spec → FnKH S Γ.rep P w K mg base q k f n ks spec)
    {f : Addr} {cdv : Value} {A : Around} {outer : List Env} {sh : Shared} {H : Hp} {E : XK} (F1 H1 : Hp)
    (hg : Γ.rep = true → (A.deeper (envOfC qual scope sh.heap.objs.size f cdv)).guards = some []) (hr : Room k (A.deeper (envOfC qual scope sh.heap.objs.size f cdv))) :
    CxOk (cxOf (L2.CX P w) P w K mg base N qual scope f cdv A outer sh H E) (q.wd F1 H1 E) Γ scope := by
  refine ⟨rfl, hN.symm, by rw [hN]; exact SC.nd, fun x h => h, fun x h => h, fun x h => h, fun x h => .inr h, fun _ _ => rfl, ok, free, glob, ?_, ?_, SC.kind, passes_of (E₁ := fun e' s'' => L2.CX P w outer H sh E e' s'') rfl, ?_, hg⟩
  · intro g sp hgs
    obtain ⟨a, G, h1, h2⟩ := (fns g sp hgs).ex
    exact ⟨L2.CX P w, k, a, G, hr, h1, h2, passes_def, fun X' e1 e2 _ => passes_no X' e1 e2⟩
  · intro g n ks sp hgs
    obtain ⟨a, G, h1, h2⟩ := (kfs g n ks sp hgs).ex
    exact ⟨L2.CX P w, k, a, G, hr, h1, h2, passes_def, fun X' e1 e2 _ => passes_no X' e1 e2⟩
  · have := hr.un
    show (A.deeper (envOfC qual scope sh.heap.objs.size f cdv)).units + 66 < cLine
    omega
/-- a def's body keeps its promise -/
theorem fn_body {qual : Str} {params : Arguments} {body : List Stmt} {scope : Scope} {dvs : List V} {kws : List (Str × V)} {f : Addr} {fd : FuncData}
    {N ps : List Str} (q : Wq S) (Γ : Gam S) (m n : Nat) (F : FunD K x qual params body scope dvs kws f fd) (SC : FnScope N ps scope) (hN : Γ.N = N) (ok : okSc scope = true)
    (free : ∀ x, Γ.free.contains x = true → mg x = none) (glob : ∀ x sl, Γ.glob.lookup x = some sl → ∃ v u, mg x = some u ∧ RelV v u ∧ ∀ F, Sr K F v sl)
    (fns : ∀ f spec, Γ.fns.lookup f = some spec → FnH S Γ.rep P w K mg base q k f spec) (kfs : ∀ f n ks spec, kfOf Γ.kfn f n ks = some spec → FnKH S Γ.rep P w K mg base q k f n ks spec)
    (many : ∀ ss s Qd Ed, spec ss s Qd Ed → ss.length = ps.length)
    (hw : ∀ ss s Qd Ed, spec ss s Qd Ed → wB Γ m n scope (startE N ss) s body (fnO Qd) Ed) : FnG Γ.rep P w K mg base (L2.CX P w) (k + 1) f fd ps (spOf K q.rs q.J q.cls spec) := by
  refine FunD_okG F SC ?_ ?_
  · rintro vs H Q E ⟨ss, s, F1, Qd, Ed, ex, sr, j, hs, kq, kx⟩
    exact (srAll_len sr).trans (many ss s Qd Ed hs)
  · rintro cdv A outer sh H vs Q E hg hr ⟨ss, s, F1, Qd, Ed, ex, sr, j, hs, kq, kx⟩
    have C := ctx_def (P := P) (w := w) (K := K) (mg := mg) (base := base) (qual := qual) (f := f) (cdv := cdv) (A := A) (outer := outer) (sh := sh) (H := H) (E := E) q Γ SC hN ok free glob fns kfs F1 H hg hr
    refine ⟨tWB K (q.wd F1 H E) Γ m n scope body, soundB C n body, ?_⟩
    refine ⟨startE N ss, s, fnO Qd, Ed, F1, hw ss s Qd Ed hs, ⟨Fm.refl ex, ⟨(q.wd F1 H E).rs, ?_⟩, j, kx⟩, ?_⟩
    · unfold L2.start startE
      rw [srAll_len sr]
      exact er_args _ sr
    · intro o s2 ho
      cases o with
      | rt v => exact fun v2 F2 H2 fm j2 r => kq v2 v s2 F2 H2 fm j2 ho r
      | nx ε => exact fun σ F2 H2 fm _ _ j2 => kq .non (.d .none) s2 F2 H2 fm j2 ho .non
      | bk ε => exact ho.elim
      | ct ε => exact ho.elim
/-- by name, all values written -/
theorem FnG.fnh {f : Addr} {fd : FuncData} {ps : List Str} (G : FnG r P w K mg base (L2.CX P w) k f fd ps (spOf K q.rs q.J q.cls spec)) (hb : Binds K fd ps []) (hm : mg x = some (.ref f)) (kp : PySem.W.keepIn K (.ref f) = true) : FnH S r P w K mg base q k x spec := by
  have c := G.call hb .nil
  refine ⟨f, ⟨fun A outer s H us vs Q E hg hr he rv h => c.go A outer s H us vs Q E hg hr he rv ?_⟩, hm, kp⟩
  rw [List.append_nil]
  exact h
/-- by name, the last ones by default -/
theorem FnG.fnd {f : Addr} {fd : FuncData} {ps : List Str} {dv : List V} {du : List Value} {ds : List Sl} (G : FnG r P w K mg base (L2.CX P w) k f fd ps (spOf K q.rs q.J q.cls spec)) (hb : Binds K fd ps du) (hd : Vals dv du) (hs : ∀ F, SrAll K F dv ds)
    (hm : mg x = some (.ref f)) (kp : PySem.W.keepIn K (.ref f) = true) : FnH S r P w K mg base q k x fun ss => spec (ss ++ ds) := by
  have c := G.call hb hd
  refine ⟨f, ⟨fun A outer s H us vs Q E hg hr he rv h => c.go A outer s H us vs Q E hg hr he rv ?_⟩, hm, kp⟩
  obtain ⟨ss, s1, F1, Qd, Ed, ex, sr, z⟩ := h
  exact ⟨ss ++ ds, s1, F1, Qd, Ed, ex, srAll_app sr (hs F1), z⟩
/-- by name, by keywords -/
theorem FnG.fnk {f : Addr} {fd : FuncData} {ps : List Str} {g : List Value → List Value → List Value} {gV : List V → List V → List V} {gS : List Sl → List Sl} (G : FnG r P w K mg base (L2.CX P w) k f fd ps (spOf K q.rs q.J q.cls spec)) (hb : KBn K fd ps n ks g gV)
    (hs : ∀ F vs ss, vs.length = n + ks.length → SrAll K F vs ss → SrAll K F (gV (vs.take n) (vs.drop n)) (gS ss)) (hm : mg x = some (.ref f)) (kp : PySem.W.keepIn K (.ref f) = true) : FnKH S r P w K mg base q k x n ks fun ss => spec (gS ss) := by
  have c := G.callK hb
  refine ⟨f, ⟨fun A outer s H us ws vs zs Q E hg hr he rv rz l1 l2 h => c.go A outer s H us ws vs zs Q E hg hr he rv rz l1 l2 ?_⟩, hm, kp⟩
  obtain ⟨ss, s1, F1, Qd, Ed, ex, sr, z⟩ := h
  exact ⟨gS ss, s1, F1, Qd, Ed, ex, hs F1 _ _ (by rw [List.length_append, l1, l2]) sr, z⟩
end
end Z
set_option Elab.async false
set_option linter.all false
set_option maxRecDepth 100000
set_option maxHeartbeats 4000000
namespace Z
open PySem PySem.Spec PyProof.Rows L2 Evl
section
variable {S : Type}
/-! ### the words of the printed bodies -/
def bif2 (b : Bool) (A B : Prop) : Prop := match b with
  | true => A
  | false => B
def asSeq (x : Sl) (Q : List PyData → Prop) : Prop := match x with
  | .d (.list xs) => Q xs
  | .d (.tuple xs) => Q xs
  | .d (.str z) => Q (z.cps.toList.map fun c => .str ⟨#[c]⟩)
  | _ => False
def asInt (x : Sl) (Q : Int → Prop) : Prop := match x with
  | .d (.int i) => Q i
  | _ => False
def allD (xs : List Sl) (Q : List PyData → Prop) : Prop := match dataAll xs with
  | some ds => Q ds
  | none => False
def outD (x : Sl) (Q : PyData → Prop) : Prop := match x with
  | .d y => Q y
  | _ => False
def zipS (x y : Sl) (Q : List PyData → Prop) : Prop := match x, y with
  | .d (.list a), .d (.list b) => Q (zipD a b)
  | .d (.tuple a), .d (.tuple b) => Q (zipD a b)
  | _, _ => False
def rangeS1 (x : Sl) (Q : List PyData → Prop) : Prop := match x with
  | .d (.int n) => n ≤ 2 ^ 61 ∧ -(2 ^ 61) ≤ n ∧ Q (rangeD 0 n)
  | _ => False
def rangeS2 (x y : Sl) (Q : List PyData → Prop) : Prop := match x, y with
  | .d (.int m), .d (.int n) => n ≤ 2 ^ 61 ∧ -(2 ^ 61) ≤ n ∧ m ≤ 2 ^ 61 ∧ -(2 ^ 61) ≤ m ∧ Q (rangeD m n)
  | _, _ => False
def enumerateS (x : Sl) (Q : List PyData → Prop) : Prop := match x with
  | .d (.list xs) => Q (enumD 0 xs)
  | _ => False
def noX : QX S := fun _ _ => False
/-! ### a comprehension whose turns leave the world as it is -/
theorem wMap_all {f : PyData → S → (Option PyData → S → Prop) → Prop} {g : PyData → PyData} {s : S} : ∀ {xs : List PyData} {Q : List PyData → S → Prop}, (∀ x ∈ xs, ∀ k : Option PyData → S → Prop, k (some (g x)) s → f x s k) → Q (xs.map g) s → wMap f xs s Q
  | [], Q, _, q => q
  | x :: xs, Q, h, q => h x List.mem_cons_self _ (wMap_all (xs := xs) (fun y hy => h y (List.mem_cons_of_mem _ hy)) q)
theorem wMap_sel {f : PyData → S → (Option PyData → S → Prop) → Prop} {p : PyData → Bool} {g : PyData → PyData} {s : S} : ∀ {xs : List PyData} {Q : List PyData → S → Prop}, (∀ x ∈ xs, ∀ k : Option PyData → S → Prop, k (if p x = true then some (g x) else none) s → f x s k) → Q ((xs.filter p).map g) s → wMap f xs s Q
  | [], Q, _, q => q
  | x :: xs, Q, h, q => h x List.mem_cons_self _ (wMap_sel (xs := xs) (fun y hy => h y (List.mem_cons_of_mem _ hy)) (by
      by_cases e : p x = true
      · simpa [e] using q
      · simpa [e] using q))
theorem boolsD_map (p : PyData → Bool) : ∀ xs : List PyData, boolsD (xs.map fun x => .bool (p x)) = some (xs.map p)
  | [] => rfl
  | x :: xs => by simp [boolsD, boolsD_map p xs]
def spl (x : Sl) (Q : List PyData → Prop) : Prop := match x with
  | .d (.list ds) => Q ds
  | .d (.tuple ds) => Q ds
  | _ => False
/-- specs by name -/
theorem fns_nil {r : Bool} {P : Program} {w : World} {K : PySem.W.Frag} {mg : Str → Option Value} {base : Heap} {q : Wq S} {k : Nat} : ∀ (f : Str) (sp : Fsp S), ([] : List (Str × Fsp S)).lookup f = some sp → FnH S r P w K mg base q k f sp := fun f sp h => by cases h
theorem fns_cons {r : Bool} {P : Program} {w : World} {K : PySem.W.Frag} {mg : Str → Option Value} {base : Heap} {q : Wq S} {k : Nat} {x : Str} {spec : Fsp S} {l : List (Str × Fsp S)} (h : FnH S r P w K mg base q k x spec) (t : ∀ (f : Str) (sp : Fsp S), l.lookup f = some sp → FnH S r P w K mg base q k f sp) : ∀ (f : Str) (sp : Fsp S), ((x, spec) :: l).lookup f = some sp → FnH S r P w K mg base q k f sp := by
  intro f sp e
  rw [List.lookup_cons] at e
  split at e
  · next e2 =>
    have e3 : f = x := by simpa using e2
    cases e
    rw [e3]
    exact h
  · exact t f sp e
theorem kfs_nil {r : Bool} {P : Program} {w : World} {K : PySem.W.Frag} {mg : Str → Option Value} {base : Heap} {q : Wq S} {k : Nat} : ∀ (f : Str) (n : Nat) (ks : List Str) (sp : Fsp S), kfOf ([] : List ((Str × Nat × List Str) × Fsp S)) f n ks = some sp → FnKH S r P w K mg base q k f n ks sp := fun f n ks sp h => by cases h
end
/-! ### data of bounded depth and length -/
def okD (L : Nat) : Nat → PyData → Bool
  | _, .none => true
  | _, .bool _ => true
  | _, .int _ => true
  | _, .str z => PyData.strOk z && decide (z.length ≤ L)
  | n + 1, .list xs => decide (xs.length ≤ L) && xs.all (okD L n)
  | n + 1, .tuple xs => decide (xs.length ≤ L) && xs.all (okD L n)
  | 0, .list _ => false
  | 0, .tuple _ => false
  | _, .dict _ => false
theorem okD_mono {L M : Nat} (l : L ≤ M) : ∀ {n m : Nat} {d : PyData}, n ≤ m → okD L n d = true → okD M m d = true
  | _, _, .none, _, _ => by simp [okD]
  | _, _, .bool _, _, _ => by simp [okD]
  | _, _, .int _, _, _ => by simp [okD]
  | _, _, .str z, _, h => by
    simp only [okD, Bool.and_eq_true, decide_eq_true_eq] at h ⊢
    exact ⟨h.1, by omega⟩
  | _, _, .dict _, _, h => by simp [okD] at h
  | 0, _, .list _, _, h => by simp [okD] at h
  | 0, _, .tuple _, _, h => by simp [okD] at h
  | n + 1, 0, .list _, k, h => by omega
  | n + 1, 0, .tuple _, k, h => by omega
  | n + 1, m + 1, .list xs, k, h => by
    simp only [okD, Bool.and_eq_true, decide_eq_true_eq, List.all_eq_true] at h ⊢
    exact ⟨by omega, fun x hx => okD_mono l (by omega) (h.2 x hx)⟩
  | n + 1, m + 1, .tuple xs, k, h => by
    simp only [okD, Bool.and_eq_true, decide_eq_true_eq, List.all_eq_true] at h ⊢
    exact ⟨by omega, fun x hx => okD_mono l (by omega) (h.2 x hx)⟩
theorem canLayAll0_of : ∀ {xs : List PyData}, (∀ x ∈ xs, x.canLay0 = true) → PyData.canLayAll0 xs = true
  | [], _ => by simp only [PyData.canLayAll0]
  | x :: xs, h => by
    simp only [PyData.canLayAll0, Bool.and_eq_true]
    exact ⟨h x List.mem_cons_self, canLayAll0_of fun y hy => h y (List.mem_cons_of_mem _ hy)⟩
theorem depthAll_of {n : Nat} : ∀ {xs : List PyData}, (∀ x ∈ xs, x.depth ≤ n) → PyData.depthAll xs ≤ n
  | [], _ => by simp [PyData.depthAll]
  | x :: xs, h => by
    have h1 := h x List.mem_cons_self
    have h2 := depthAll_of (xs := xs) fun y hy => h y (List.mem_cons_of_mem _ hy)
    simp only [PyData.depthAll]
    omega
theorem okD_lay {L : Nat} : ∀ {n : Nat} {d : PyData}, okD L n d = true → d.canLay0 = true ∧ d.depth ≤ n + 1
  | _, .none, _ => by simp [PyData.canLay0, PyData.depth]
  | _, .bool _, _ => by simp [PyData.canLay0, PyData.depth]
  | _, .int _, _ => by simp [PyData.canLay0, PyData.depth]
  | _, .str z, h => by
    simp only [okD, Bool.and_eq_true, decide_eq_true_eq] at h
    simp [PyData.canLay0, PyData.depth, h.1]
  | _, .dict _, h => by simp [okD] at h
  | 0, .list _, h => by simp [okD] at h
  | 0, .tuple _, h => by simp [okD] at h
  | n + 1, .list xs, h => by
    simp only [okD, Bool.and_eq_true, decide_eq_true_eq, List.all_eq_true] at h
    have hd := depthAll_of (n := n + 1) fun x hx => (okD_lay (h.2 x hx)).2
    refine ⟨by simpa only [PyData.canLay0] using canLayAll0_of fun x hx => (okD_lay (h.2 x hx)).1, ?_⟩
    simp only [PyData.depth]
    omega
  | n + 1, .tuple xs, h => by
    simp only [okD, Bool.and_eq_true, decide_eq_true_eq, List.all_eq_true] at h
    have hd := depthAll_of (n := n + 1) fun x hx => (okD_lay (h.2 x hx)).2
    refine ⟨by simpa only [PyData.canLay0] using canLayAll0_of fun x hx => (okD_lay (h.2 x hx)).1, ?_⟩
    simp only [PyData.depth]
    omega
abbrev Ok (d : PyData) : Prop := okD 100 60 d = true
theorem Ok.shaped {d : PyData} (h : Ok d) : SeqAt.shaped d = true := by
  obtain ⟨h1, h2⟩ := okD_lay h
  unfold SeqAt.shaped
  rw [h1, Bool.true_and]
  exact decide_eq_true (by omega)
theorem Ok.tup {xs : List PyData} (h : Ok (.tuple xs)) : xs.length ≤ 100 ∧ ∀ x ∈ xs, Ok x := by
  simp only [Ok, okD, Bool.and_eq_true, decide_eq_true_eq, List.all_eq_true] at h
  exact ⟨h.1, fun x hx => okD_mono (Nat.le_refl _) (by omega) (h.2 x hx)⟩
theorem Ok.lst {xs : List PyData} (h : Ok (.list xs)) : xs.length ≤ 100 ∧ ∀ x ∈ xs, Ok x := by
  simp only [Ok, okD, Bool.and_eq_true, decide_eq_true_eq, List.all_eq_true] at h
  exact ⟨h.1, fun x hx => okD_mono (Nat.le_refl _) (by omega) (h.2 x hx)⟩
theorem Ok.str {z : Str} (h : Ok (.str z)) : z.length ≤ 100 := by
  simp only [Ok, okD, Bool.and_eq_true, decide_eq_true_eq] at h
  exact h.2
end Z

set_option Elab.async false
set_option linter.all false
set_option maxRecDepth 100000
set_option maxHeartbeats 4000000
namespace Z
open PySem PySem.Spec PyProof.Rows L2 Evl
/-! ### readings -/
def isInt : PyData → Bool
  | .int _ => true
  | _ => false
def isNum : PyData → Bool
  | .int i => decide (0 ≤ i)
  | _ => false
def isPos : PyData → Bool
  | .int i => decide (0 < i)
  | _ => false
def gLETTERS : Str := "abcdefghijklmnopqrstuvwxyz"
def isNm : PyData → Bool
  | .str z => decide (1 ≤ z.length) && (decide (z.length ≤ 8) && z.cps.toList.all fun c => decide (c ∈ gLETTERS.cps.toList))
  | _ => false
def isStr : PyData → Bool
  | .str _ => true
  | _ => false
def inI (is : List Int) : PyData → Bool
  | .int j => is.contains j
  | _ => false
def gl0 : List (Str × Sl) := [("LETTERS", .d (.str gLETTERS))]
def fr0 : List Str := ["isinstance", "len", "all", "int", "bool", "str", "tuple", "list", "range", "sorted", "set"]
/-! ### the probe -/
def prB (k : PyData) (c : Int) : List PyData := .tuple [.str "fork", k, .str "x", .str "a", .int 1] :: (if c = 2 then [.tuple [.str "kill", .str "a", .int 2]] else [])
def prT (c : Int) : Int := if c = 2 then 2 else 1
def prW (c last : Int) (x : Int) : PyData := .int (if x = c then prT c + 1 else last)
def prF (c last : Int) : PyData := .tuple [.str "wait", .tuple [.tuple [.str "a", prW c last 0, prW c last 1, prW c last 2]], .int (-1), .int last, .tuple []]
def prO (c last : Int) (n : Nat) : List PyData := (List.range n).map fun (i : Nat) => .tuple [.str "wait", .tuple [], .int (prT c + 2 + (i : Int)), .int last, .tuple []]
def prL (last place : Int) (b : Bool) : PyData := if b then .tuple [.str "wait", .tuple [], .int last, .int place, .tuple []] else .tuple [.str "poll", .tuple [], .int last, .int last, .int place, .tuple []]
/-- what it looks for -/
def lookS (b : Bool) : Str := if b = true then "settled" else "reach"
/-- number n + 1 -/
def probeD (k : PyData) (c : Int) (n : Nat) (m : PyData) (b : Bool) : PyData :=
  .tuple [.tuple [m, .tuple [.str "a"], .tuple (prB k c ++ (prF c (prT c + n + 3) :: (prO c (prT c + n + 3) n ++ [prL (prT c + n + 3) (prT c + n + 2) b, .tuple [.str "exit", .int 0], .tuple [.str "exit", .int 1]])))], .int (prT c + n + 2)]
/-! ### specs -/
section
variable {S : Type}
def sp1 (f : PyData → Bool) : Fsp S := fun ss s Q _ => ∃ d, ss = [.d d] ∧ Ok d ∧ Q (.d (.bool (f d))) s
theorem sp1_in {f : PyData → Bool} {d : PyData} {s : S} {Q : QS S} {E : QX S} (h : Ok d) (q : Q (.d (.bool (f d))) s) : sp1 f [.d d] s Q E := ⟨d, rfl, h, q⟩
abbrev sp_is_integer : Fsp S := sp1 isInt
abbrev sp_is_number : Fsp S := sp1 isNum
abbrev sp_is_name : Fsp S := sp1 isNm
abbrev sp_is_one_of : Fsp S := fun ss s Q _ => ∃ d is, ss = [.d d, .d (.tuple (is.map .int))] ∧ Ok d ∧ Q (.d (.bool (inI is d))) s
def xNU (w : Str) : XR := ("NotUsable", [("at", .int (-1)), ("word", .str w)])
def sp_need : Fsp S := fun ss s Q E => ∃ b w, ss = [.d (.bool b), .d (.str w)] ∧ (b = true → Q (.d .none) s) ∧ (b = false → E (xNU w) s)
def badW (k c n m : PyData) : Option Str :=
  if isNm k = true then (if inI [0, 1, 2] c = true then (if isPos n = true then (if (isNm m && !PyData.eqv m k) = true then none else some "called") else some "number") else some "code") else some "kind"
def sp_check_probe : Fsp S := fun ss s Q E => ∃ k c n m, ss = [.d k, .d c, .d n, .d m] ∧ Ok k ∧ Ok c ∧ Ok n ∧ Ok m ∧ (badW k c n m = none → Q (.d .none) s) ∧ ∀ w, badW k c n m = some w → E (xNU w) s
def sp_probe_of : Fsp S := fun ss s Q E => ∃ k c m, ∃ n : Nat, ∃ b, ss = [.d (.str k), .d (.int c), .d (.int (n + 1 : Nat)), .d (.str m), .d (.str (lookS b))] ∧ 0 ≤ c ∧ c ≤ 2 ∧ n ≤ 70 ∧ Q (.d (probeD (.str k) c n (.str m) b)) s
def spProbe (b : Bool) : Fsp S := fun ss s Q E => ∃ k c n m, ss = [.d k, .d c, .d n, .d m] ∧ Ok k ∧ Ok c ∧ Ok n ∧ Ok m ∧
  (∀ k0 c0 m0, ∀ n0 : Nat, k = .str k0 → c = .int c0 → m = .str m0 → n = .int (n0 + 1 : Nat) → n0 ≤ 70 ∧ (badW k c n m = none → Q (.d (probeD k c0 n0 m b)) s)) ∧ ∀ w, badW k c n m = some w → E (xNU w) s
abbrev sp_settled_probe : Fsp S := spProbe true
abbrev sp_reach_probe : Fsp S := spProbe false
def spSame (n : Nat) : Fsp S := fun ss s Q _ => ∃ d, ss = [.d d, .d d] ∧ okD 100 n d = true ∧ Q (.d (.bool true)) s
class Dpt where
  n : Nat
/-- 0: not at all -/
def spSm : Nat → Fsp S
  | 0 => fun _ _ _ _ => False
  | n + 1 => spSame n
abbrev sp_law_same [Dpt] : Fsp S := spSm Dpt.n
end
end Z
set_option Elab.async false
set_option linter.all false
set_option maxRecDepth 100000
set_option maxHeartbeats 4000000
namespace Z
open PySem PySem.Spec PyProof.Rows L2 Evl
section
variable {S : Type} 

def top (i : Nat) : Stmt := PySem.Challenge.pw_forkyields_k42_probes_told.main.body.getD i (.Pass ⟨0, 0, 0, 0⟩)
abbrev s_is_integer : Stmt := top 8
theorem sc_is_integer : FnScope ["thing"] ["thing"] (defScope s_is_integer) := ⟨rfl, rfl, rfl, by decide +kernel, rfl, by decide +kernel, by decide +kernel⟩
abbrev G_is_integer : Gam S := ⟨["thing"], gl0, [], fr0, [], false, false⟩
def J_is_integer_1 (Q : QS S) (E : QX S) (d0 : PyData) (x1 : Sl) (s2 : S) : Prop :=
Q x1 s2
theorem f_is_integer (d0 : PyData) (s : S) (Q : QS S) (E : QX S) : wB G_is_integer 30 30 (defScope s_is_integer) (startE ["thing"] [.d d0]) s (defBody s_is_integer) (fnO Q) E = (
dcall .isinstance [(.d d0), (.v (.ty "int"))] fun z3 =>
dtru z3 fun b4 =>
if b4 = true then (dcall .isinstance [(.d d0), (.v (.ty "bool"))] fun z5 =>
dtru z5 fun b6 =>
J_is_integer_1 Q E d0 (.d (.bool (!b6))) s) else (J_is_integer_1 Q E d0 (z3) s)) := by kernel_rfl

abbrev s_is_number : Stmt := top 9
theorem sc_is_number : FnScope ["thing"] ["thing"] (defScope s_is_number) := ⟨rfl, rfl, rfl, by decide +kernel, rfl, by decide +kernel, by decide +kernel⟩
abbrev G_is_number : Gam S := ⟨["thing"], gl0, [("is_integer", sp_is_integer)], fr0, [], false, false⟩
def J_is_number_1 (Q : QS S) (E : QX S) (d0 : PyData) (x1 : Sl) (s2 : S) : Prop :=
Q x1 s2
theorem f_is_number (d0 : PyData) (s : S) (Q : QS S) (E : QX S) : wB G_is_number 30 30 (defScope s_is_number) (startE ["thing"] [.d d0]) s (defBody s_is_number) (fnO Q) E = (
sp_is_integer [(.d d0)] s (fun y3 s4 =>
dtru y3 fun b5 =>
if b5 = true then (dcmp .GtE (.d d0) (.d (.int 0)) fun c6 =>
J_is_number_1 Q E d0 (.d (.bool c6)) s4) else (J_is_number_1 Q E d0 (y3) s4)) E) := by kernel_rfl

abbrev s_is_name : Stmt := top 10
theorem sc_is_name : FnScope ["thing", "letter"] ["thing"] (defScope s_is_name) := ⟨rfl, rfl, rfl, by decide +kernel, rfl, by decide +kernel, by decide +kernel⟩
abbrev G_is_name : Gam S := ⟨["thing", "letter"], gl0, [], fr0, [], false, false⟩
def J_is_name_1 (Q : QS S) (E : QX S) (d0 : PyData) (x1 : Sl) (s2 : S) : Prop :=
Q x1 s2
theorem f_is_name (d0 : PyData) (s : S) (Q : QS S) (E : QX S) : wB G_is_name 30 30 (defScope s_is_name) (startE ["thing", "letter"] [.d d0]) s (defBody s_is_name) (fnO Q) E = (
dcall .isinstance [(.d d0), (.v (.ty "str"))] fun z3 =>
dtru z3 fun b4 =>
if b4 = true then (dcall .len [(.d d0)] fun z5 =>
dcmp .LtE (.d (.int 1)) z5 fun c6 =>
if c6 = true then (dcmp .LtE z5 (.d (.int 8)) fun c7 =>
if c7 = true then (asSeq (.d d0) fun xs8 =>
xs8.length ≤ 1000000 ∧ wMap (fun x9 s10 k11 => dcmp .In (.d x9) (.d (.str gLETTERS)) fun c12 =>
outD (.d (.bool c12)) fun y => k11 (some y) s10) xs8 s fun ys13 s14 =>
dcall .all_ [(.d (.list ys13))] fun z15 =>
J_is_name_1 Q E d0 (z15) s14) else (J_is_name_1 Q E d0 (.d (.bool c7)) s)) else (J_is_name_1 Q E d0 (.d (.bool false)) s)) else (J_is_name_1 Q E d0 (z3) s)) := by kernel_rfl

abbrev s_is_one_of : Stmt := top 11
theorem sc_is_one_of : FnScope ["thing", "numbers"] ["thing", "numbers"] (defScope s_is_one_of) := ⟨rfl, rfl, rfl, by decide +kernel, rfl, by decide +kernel, by decide +kernel⟩
abbrev G_is_one_of : Gam S := ⟨["thing", "numbers"], gl0, [("is_integer", sp_is_integer)], fr0, [], false, false⟩
def J_is_one_of_1 (Q : QS S) (E : QX S) (d0 : PyData) (d1 : PyData) (x1 : Sl) (s2 : S) : Prop :=
Q x1 s2
theorem f_is_one_of (d0 : PyData) (d1 : PyData) (s : S) (Q : QS S) (E : QX S) : wB G_is_one_of 30 30 (defScope s_is_one_of) (startE ["thing", "numbers"] [.d d0, .d d1]) s (defBody s_is_one_of) (fnO Q) E = (
sp_is_integer [(.d d0)] s (fun y3 s4 =>
dtru y3 fun b5 =>
if b5 = true then (dcmp .In (.d d0) (.d d1) fun c6 =>
J_is_one_of_1 Q E d0 d1 (.d (.bool c6)) s4) else (J_is_one_of_1 Q E d0 d1 (y3) s4)) E) := by kernel_rfl

abbrev s_settled_probe : Stmt := top 15
theorem sc_settled_probe : FnScope ["kind", "code", "number", "called"] ["kind", "code", "number", "called"] (defScope s_settled_probe) := ⟨rfl, rfl, rfl, by decide +kernel, rfl, by decide +kernel, by decide +kernel⟩
abbrev G_settled_probe : Gam S := ⟨["kind", "code", "number", "called"], gl0, [("check_probe", sp_check_probe), ("probe_of", sp_probe_of)], fr0, [], false, false⟩
theorem f_settled_probe (d0 : PyData) (d1 : PyData) (d2 : PyData) (d3 : PyData) (s : S) (Q : QS S) (E : QX S) : wB G_settled_probe 30 30 (defScope s_settled_probe) (startE ["kind", "code", "number", "called"] [.d d0, .d d1, .d d2, .d d3]) s (defBody s_settled_probe) (fnO Q) E = (
sp_check_probe [(.d d0), (.d d1), (.d d2), (.d d3)] s (fun y1 s2 =>
sp_probe_of [(.d d0), (.d d1), (.d d2), (.d d3), (.d (.str "settled"))] s2 (fun y3 s4 =>
Q y3 s4) E) E) := by kernel_rfl

abbrev s_reach_probe : Stmt := top 16
theorem sc_reach_probe : FnScope ["kind", "code", "number", "called"] ["kind", "code", "number", "called"] (defScope s_reach_probe) := ⟨rfl, rfl, rfl, by decide +kernel, rfl, by decide +kernel, by decide +kernel⟩
abbrev G_reach_probe : Gam S := ⟨["kind", "code", "number", "called"], gl0, [("check_probe", sp_check_probe), ("probe_of", sp_probe_of)], fr0, [], false, false⟩
theorem f_reach_probe (d0 : PyData) (d1 : PyData) (d2 : PyData) (d3 : PyData) (s : S) (Q : QS S) (E : QX S) : wB G_reach_probe 30 30 (defScope s_reach_probe) (startE ["kind", "code", "number", "called"] [.d d0, .d d1, .d d2, .d d3]) s (defBody s_reach_probe) (fnO Q) E = (
sp_check_probe [(.d d0), (.d d1), (.d d2), (.d d3)] s (fun y1 s2 =>
sp_probe_of [(.d d0), (.d d1), (.d d2), (.d d3), (.d (.str "reach"))] s2 (fun y3 s4 =>
Q y3 s4) E) E) := by kernel_rfl

abbrev s_check_probe : Stmt := top 17
theorem sc_check_probe : FnScope ["kind", "code", "number", "called"] ["kind", "code", "number", "called"] (defScope s_check_probe) := ⟨rfl, rfl, rfl, by decide +kernel, rfl, by decide +kernel, by decide +kernel⟩
abbrev G_check_probe : Gam S := ⟨["kind", "code", "number", "called"], gl0, [("is_name", sp_is_name), ("need", sp_need), ("is_one_of", sp_is_one_of), ("is_number", sp_is_number)], fr0, [], false, false⟩
def J_check_probe_2 (Q : QS S) (E : QX S) (d0 : PyData) (d1 : PyData) (d2 : PyData) (d3 : PyData) (y1 : Sl) (s2 : S) (y3 : Sl) (s4 : S) (y5 : Sl) (s6 : S) (y7 : Sl) (s8 : S) (x9 : Sl) (s10 : S) (y11 : Sl) (s12 : S) (x13 : Sl) (s14 : S) : Prop :=
sp_need [x13, (.d (.str "called"))] s14 (fun y15 s16 =>
Q (.d .none) s16) E
def J_check_probe_1 (Q : QS S) (E : QX S) (d0 : PyData) (d1 : PyData) (d2 : PyData) (d3 : PyData) (y1 : Sl) (s2 : S) (y3 : Sl) (s4 : S) (y5 : Sl) (s6 : S) (y7 : Sl) (s8 : S) (x9 : Sl) (s10 : S) : Prop :=
sp_need [x9, (.d (.str "number"))] s10 (fun y11 s12 =>
sp_is_name [(.d d3)] s12 (fun y17 s18 =>
dtru y17 fun b19 =>
if b19 = true then (dcmp .NotEq (.d d3) (.d d0) fun c20 =>
J_check_probe_2 Q E d0 d1 d2 d3 y1 s2 y3 s4 y5 s6 y7 s8 x9 s10 y11 s12 (.d (.bool c20)) s18) else (J_check_probe_2 Q E d0 d1 d2 d3 y1 s2 y3 s4 y5 s6 y7 s8 x9 s10 y11 s12 (y17) s18)) E) E
theorem f_check_probe (d0 : PyData) (d1 : PyData) (d2 : PyData) (d3 : PyData) (s : S) (Q : QS S) (E : QX S) : wB G_check_probe 30 30 (defScope s_check_probe) (startE ["kind", "code", "number", "called"] [.d d0, .d d1, .d d2, .d d3]) s (defBody s_check_probe) (fnO Q) E = (
sp_is_name [(.d d0)] s (fun y1 s2 =>
sp_need [y1, (.d (.str "kind"))] s2 (fun y3 s4 =>
(List.length ([(.int 0), (.int 1), (.int 2)] : List PyData)) ≤ sizeLine ∧
sp_is_one_of [(.d d1), (.d (.tuple [(.int 0), (.int 1), (.int 2)]))] s4 (fun y5 s6 =>
sp_need [y5, (.d (.str "code"))] s6 (fun y7 s8 =>
sp_is_number [(.d d2)] s8 (fun y21 s22 =>
dtru y21 fun b23 =>
if b23 = true then (dcmp .Gt (.d d2) (.d (.int 0)) fun c24 =>
J_check_probe_1 Q E d0 d1 d2 d3 y1 s2 y3 s4 y5 s6 y7 s8 (.d (.bool c24)) s22) else (J_check_probe_1 Q E d0 d1 d2 d3 y1 s2 y3 s4 y5 s6 y7 s8 (y21) s22)) E) E) E) E) E) := by kernel_rfl

abbrev s_probe_of : Stmt := top 18
theorem sc_probe_of : FnScope ["kind", "code", "number", "called", "looking", "begin", "taking", "place", "last", "targets", "takes", "looks", "probe", "known", "p"] ["kind", "code", "number", "called", "looking"] (defScope s_probe_of) := ⟨rfl, rfl, rfl, by decide +kernel, rfl, by decide +kernel, by decide +kernel⟩
abbrev G_probe_of : Gam S := ⟨["kind", "code", "number", "called", "looking", "begin", "taking", "place", "last", "targets", "takes", "looks", "probe", "known", "p"], gl0, [], fr0, [], false, false⟩
theorem f_probe_of (d0 : PyData) (d1 : PyData) (d2 : PyData) (d3 : PyData) (d4 : PyData) (s : S) (Q : QS S) (E : QX S) : wB G_probe_of 30 30 (defScope s_probe_of) (startE ["kind", "code", "number", "called", "looking", "begin", "taking", "place", "last", "targets", "takes", "looks", "probe", "known", "p"] [.d d0, .d d1, .d d2, .d d3, .d d4]) s (defBody s_probe_of) (fnO Q) E = (
(List.length ([(.str "fork"), d0, (.str "x"), (.str "a"), (.int 1)] : List PyData)) ≤ sizeLine ∧
(List.length ([(.tuple [(.str "fork"), d0, (.str "x"), (.str "a"), (.int 1)])] : List PyData)) ≤ sizeLine ∧
dcmp .Eq (.d d1) (.d (.int 2)) fun c1 =>
bif2 c1 ((List.length ([(.str "kill"), (.str "a"), (.int 2)] : List PyData)) ≤ sizeLine ∧
(List.length ([(.tuple [(.str "kill"), (.str "a"), (.int 2)])] : List PyData)) ≤ sizeLine ∧
dbin .Add (.d (.list [(.tuple [(.str "fork"), d0, (.str "x"), (.str "a"), (.int 1)])])) (.d (.list [(.tuple [(.str "kill"), (.str "a"), (.int 2)])])) fun z2 =>
dcall .len [z2] fun z3 =>
dbin .Add z3 (.d d2) fun z4 =>
dbin .Add z4 (.d (.int 1)) fun z5 =>
dbin .Add z5 (.d (.int 1)) fun z6 =>
(List.length ([(.int 0), (.int 1), (.int 2)] : List PyData)) ≤ sizeLine ∧
asSeq (.d (.tuple [(.int 0), (.int 1), (.int 2)])) fun xs7 =>
xs7.length ≤ 1000000 ∧ wMap (fun x8 s9 k10 => dcmp .Eq (.d x8) (.d d1) fun c11 =>
bif2 c11 (dbin .Add z3 (.d (.int 1)) fun z12 =>
outD z12 fun y => k10 (some y) s9) (outD z6 fun y => k10 (some y) s9)) xs7 s fun ys13 s14 =>
spl (.d (.list ys13)) fun ds15 =>
allD ([(.d (.str "a"))] ++ (ds15.map Sl.d ++ [])) fun ds16 => ds16.length ≤ sizeLine ∧
(List.length ([(.tuple ds16)] : List PyData)) ≤ sizeLine ∧
(List.length ([] : List PyData)) ≤ sizeLine ∧
allD [(.d (.str "wait")), (.d (.tuple [(.tuple ds16)])), (.d (.int (-1))), z6, (.d (.tuple []))] fun ds17 => ds17.length ≤ sizeLine ∧
(List.length ([(.tuple ds17)] : List PyData)) ≤ sizeLine ∧
dbin .Add z3 (.d (.int 1)) fun z18 =>
dbin .Add z3 (.d d2) fun z19 =>
rangeS2 z18 z19 fun xs20 =>
xs20.length ≤ 1000000 ∧ wMap (fun x21 s22 k23 => (List.length ([] : List PyData)) ≤ sizeLine ∧
dbin .Add (.d x21) (.d (.int 1)) fun z24 =>
(List.length ([] : List PyData)) ≤ sizeLine ∧
allD [(.d (.str "wait")), (.d (.tuple [])), z24, z6, (.d (.tuple []))] fun ds25 => ds25.length ≤ sizeLine ∧
outD (.d (.tuple ds25)) fun y => k23 (some y) s22) xs20 s14 fun ys26 s27 =>
dbin .Add (.d (.list [(.tuple ds17)])) (.d (.list ys26)) fun z28 =>
(List.length ([] : List PyData)) ≤ sizeLine ∧
(List.length ([] : List PyData)) ≤ sizeLine ∧
allD [(.d (.str "wait")), (.d (.tuple [])), z6, z5, (.d (.tuple []))] fun ds29 => ds29.length ≤ sizeLine ∧
(List.length ([] : List PyData)) ≤ sizeLine ∧
(List.length ([] : List PyData)) ≤ sizeLine ∧
allD [(.d (.str "poll")), (.d (.tuple [])), z6, z6, z5, (.d (.tuple []))] fun ds30 => ds30.length ≤ sizeLine ∧
(List.length ([] : List PyData)) ≤ sizeLine ∧
(List.length ([] : List PyData)) ≤ sizeLine ∧
allD [(.d (.str "wait")), (.d (.tuple [])), z6, z6, (.d (.tuple []))] fun ds31 => ds31.length ≤ sizeLine ∧
(List.length ([(.str "a")] : List PyData)) ≤ sizeLine ∧
spl z2 fun ds32 =>
spl z28 fun ds33 =>
dix (.dt [(.inr "settled", (.tuple ds29)), (.inr "reach", (.tuple ds30)), (.inr "rest", (.tuple ds31))]) (.d d4) fun z34 =>
(List.length ([(.str "exit"), (.int 0)] : List PyData)) ≤ sizeLine ∧
(List.length ([(.str "exit"), (.int 1)] : List PyData)) ≤ sizeLine ∧
allD (ds32.map Sl.d ++ (ds33.map Sl.d ++ [z34, (.d (.tuple [(.str "exit"), (.int 0)])), (.d (.tuple [(.str "exit"), (.int 1)]))])) fun ds35 => ds35.length ≤ sizeLine ∧
(List.length ([d3, (.tuple [(.str "a")]), (.tuple ds35)] : List PyData)) ≤ sizeLine ∧
dcmp .Eq (.d d4) (.d (.str "rest")) fun c36 =>
bif2 c36 (dbin .Sub z5 (.d (.int 1)) fun z37 =>
allD [(.d (.tuple [d3, (.tuple [(.str "a")]), (.tuple ds35)])), z37] fun ds38 => ds38.length ≤ sizeLine ∧
Q (.d (.tuple ds38)) s27) (allD [(.d (.tuple [d3, (.tuple [(.str "a")]), (.tuple ds35)])), z5] fun ds39 => ds39.length ≤ sizeLine ∧
Q (.d (.tuple ds39)) s27)) ((List.length ([] : List PyData)) ≤ sizeLine ∧
dbin .Add (.d (.list [(.tuple [(.str "fork"), d0, (.str "x"), (.str "a"), (.int 1)])])) (.d (.list [])) fun z40 =>
dcall .len [z40] fun z41 =>
dbin .Add z41 (.d d2) fun z42 =>
dbin .Add z42 (.d (.int 1)) fun z43 =>
dbin .Add z43 (.d (.int 1)) fun z44 =>
(List.length ([(.int 0), (.int 1), (.int 2)] : List PyData)) ≤ sizeLine ∧
asSeq (.d (.tuple [(.int 0), (.int 1), (.int 2)])) fun xs45 =>
xs45.length ≤ 1000000 ∧ wMap (fun x46 s47 k48 => dcmp .Eq (.d x46) (.d d1) fun c49 =>
bif2 c49 (dbin .Add z41 (.d (.int 1)) fun z50 =>
outD z50 fun y => k48 (some y) s47) (outD z44 fun y => k48 (some y) s47)) xs45 s fun ys51 s52 =>
spl (.d (.list ys51)) fun ds53 =>
allD ([(.d (.str "a"))] ++ (ds53.map Sl.d ++ [])) fun ds54 => ds54.length ≤ sizeLine ∧
(List.length ([(.tuple ds54)] : List PyData)) ≤ sizeLine ∧
(List.length ([] : List PyData)) ≤ sizeLine ∧
allD [(.d (.str "wait")), (.d (.tuple [(.tuple ds54)])), (.d (.int (-1))), z44, (.d (.tuple []))] fun ds55 => ds55.length ≤ sizeLine ∧
(List.length ([(.tuple ds55)] : List PyData)) ≤ sizeLine ∧
dbin .Add z41 (.d (.int 1)) fun z56 =>
dbin .Add z41 (.d d2) fun z57 =>
rangeS2 z56 z57 fun xs58 =>
xs58.length ≤ 1000000 ∧ wMap (fun x59 s60 k61 => (List.length ([] : List PyData)) ≤ sizeLine ∧
dbin .Add (.d x59) (.d (.int 1)) fun z62 =>
(List.length ([] : List PyData)) ≤ sizeLine ∧
allD [(.d (.str "wait")), (.d (.tuple [])), z62, z44, (.d (.tuple []))] fun ds63 => ds63.length ≤ sizeLine ∧
outD (.d (.tuple ds63)) fun y => k61 (some y) s60) xs58 s52 fun ys64 s65 =>
dbin .Add (.d (.list [(.tuple ds55)])) (.d (.list ys64)) fun z66 =>
(List.length ([] : List PyData)) ≤ sizeLine ∧
(List.length ([] : List PyData)) ≤ sizeLine ∧
allD [(.d (.str "wait")), (.d (.tuple [])), z44, z43, (.d (.tuple []))] fun ds67 => ds67.length ≤ sizeLine ∧
(List.length ([] : List PyData)) ≤ sizeLine ∧
(List.length ([] : List PyData)) ≤ sizeLine ∧
allD [(.d (.str "poll")), (.d (.tuple [])), z44, z44, z43, (.d (.tuple []))] fun ds68 => ds68.length ≤ sizeLine ∧
(List.length ([] : List PyData)) ≤ sizeLine ∧
(List.length ([] : List PyData)) ≤ sizeLine ∧
allD [(.d (.str "wait")), (.d (.tuple [])), z44, z44, (.d (.tuple []))] fun ds69 => ds69.length ≤ sizeLine ∧
(List.length ([(.str "a")] : List PyData)) ≤ sizeLine ∧
spl z40 fun ds70 =>
spl z66 fun ds71 =>
dix (.dt [(.inr "settled", (.tuple ds67)), (.inr "reach", (.tuple ds68)), (.inr "rest", (.tuple ds69))]) (.d d4) fun z72 =>
(List.length ([(.str "exit"), (.int 0)] : List PyData)) ≤ sizeLine ∧
(List.length ([(.str "exit"), (.int 1)] : List PyData)) ≤ sizeLine ∧
allD (ds70.map Sl.d ++ (ds71.map Sl.d ++ [z72, (.d (.tuple [(.str "exit"), (.int 0)])), (.d (.tuple [(.str "exit"), (.int 1)]))])) fun ds73 => ds73.length ≤ sizeLine ∧
(List.length ([d3, (.tuple [(.str "a")]), (.tuple ds73)] : List PyData)) ≤ sizeLine ∧
dcmp .Eq (.d d4) (.d (.str "rest")) fun c74 =>
bif2 c74 (dbin .Sub z43 (.d (.int 1)) fun z75 =>
allD [(.d (.tuple [d3, (.tuple [(.str "a")]), (.tuple ds73)])), z75] fun ds76 => ds76.length ≤ sizeLine ∧
Q (.d (.tuple ds76)) s65) (allD [(.d (.tuple [d3, (.tuple [(.str "a")]), (.tuple ds73)])), z43] fun ds77 => ds77.length ≤ sizeLine ∧
Q (.d (.tuple ds77)) s65))) := by kernel_rfl

variable [Dpt]
abbrev s_law_same : Stmt := top 22
theorem sc_law_same : FnScope ["_law_told", "_law_due", "_law_fit", "_law_k"] ["_law_told", "_law_due"] (defScope s_law_same) := ⟨rfl, rfl, rfl, by decide +kernel, rfl, by decide +kernel, by decide +kernel⟩
abbrev G_law_same : Gam S := ⟨["_law_told", "_law_due", "_law_fit", "_law_k"], gl0, [("_law_same", sp_law_same)], fr0, [], false, false⟩
def J_law_same_1 (Q : QS S) (E : QX S) (d0 : PyData) (d1 : PyData) (z1 : Sl) (b2 : Bool) (z3 : Sl) (b4 : Bool) (z5 : Sl) (x6 : Bool) (s7 : S) : Prop :=
bif2 x6 (Q (.d (.bool false)) s7) (dcall .len [(.d d1)] fun z8 =>
rangeS1 z8 fun xs9 =>
xs9.length ≤ 1000000 ∧ wMap (fun x10 s11 k12 => dix (.d d0) (.d x10) fun z13 =>
dix (.d d1) (.d x10) fun z14 =>
sp_law_same [z13, z14] s11 (fun y15 s16 =>
dtru y15 fun b17 =>
bif2 (!b17) (outD (.d x10) fun y => k12 (some y) s16) (k12 none s16)) noX) xs9 s7 fun ys18 s19 =>
(List.length ([] : List PyData)) ≤ sizeLine ∧
dcmp .Eq (.d (.list ys18)) (.d (.list [])) fun c20 =>
Q (.d (.bool c20)) s19)
def J_law_same_2 (Q : QS S) (E : QX S) (d0 : PyData) (d1 : PyData) (z1 : Sl) (b2 : Bool) (z3 : Sl) (b4 : Bool) (z25 : Sl) (x26 : Bool) (s27 : S) : Prop :=
bif2 x26 (Q (.d (.bool false)) s27) (dcall .len [(.d d1)] fun z28 =>
rangeS1 z28 fun xs29 =>
xs29.length ≤ 1000000 ∧ wMap (fun x30 s31 k32 => dix (.d d0) (.d x30) fun z33 =>
dix (.d d1) (.d x30) fun z34 =>
sp_law_same [z33, z34] s31 (fun y35 s36 =>
dtru y35 fun b37 =>
bif2 (!b37) (outD (.d x30) fun y => k32 (some y) s36) (k32 none s36)) noX) xs29 s27 fun ys38 s39 =>
(List.length ([] : List PyData)) ≤ sizeLine ∧
dcmp .Eq (.d (.list ys38)) (.d (.list [])) fun c40 =>
Q (.d (.bool c40)) s39)
def J_law_same_3 (Q : QS S) (E : QX S) (d0 : PyData) (d1 : PyData) (z1 : Sl) (b2 : Bool) (c45 : Bool) (z47 : Sl) (b48 : Bool) (x49 : Sl) (s50 : S) : Prop :=
Q x49 s50
def J_law_same_4 (Q : QS S) (E : QX S) (d0 : PyData) (d1 : PyData) (z1 : Sl) (b2 : Bool) (c45 : Bool) (z47 : Sl) (b48 : Bool) (x54 : Sl) (s55 : S) : Prop :=
Q x54 s55
theorem f_law_same (d0 : PyData) (d1 : PyData) (s : S) (Q : QS S) (E : QX S) : wB G_law_same 30 30 (defScope s_law_same) (startE ["_law_told", "_law_due", "_law_fit", "_law_k"] [.d d0, .d d1]) s (defBody s_law_same) (fnO Q) E = (
disT (.d d1) ["tuple", "list"] fun z1 =>
dtru z1 fun b2 =>
bif2 b2 (dcall .isinstance [(.d d1), (.v (.ty "tuple"))] fun z3 =>
dtru z3 fun b4 =>
bif2 b4 (dcall .isinstance [(.d d0), (.v (.ty "tuple"))] fun z5 =>
dtru z5 fun b21 =>
if (!b21) = true then (J_law_same_1 Q E d0 d1 z1 b2 z3 b4 z5 (!b21) s) else (dcall .len [(.d d0)] fun z22 =>
dcall .len [(.d d1)] fun z23 =>
dcmp .NotEq z22 z23 fun c24 =>
J_law_same_1 Q E d0 d1 z1 b2 z3 b4 z5 (c24) s)) (dcall .isinstance [(.d d0), (.v (.ty "list"))] fun z25 =>
dtru z25 fun b41 =>
if (!b41) = true then (J_law_same_2 Q E d0 d1 z1 b2 z3 b4 z25 (!b41) s) else (dcall .len [(.d d0)] fun z42 =>
dcall .len [(.d d1)] fun z43 =>
dcmp .NotEq z42 z43 fun c44 =>
J_law_same_2 Q E d0 d1 z1 b2 z3 b4 z25 (c44) s))) (dcmp .Is (.d d1) (.d .none) fun c45 =>
bif2 c45 (dcmp .Is (.d d0) (.d .none) fun c46 =>
Q (.d (.bool c46)) s) (dcall .isinstance [(.d d1), (.v (.ty "str"))] fun z47 =>
dtru z47 fun b48 =>
bif2 b48 (dcall .isinstance [(.d d0), (.v (.ty "str"))] fun z51 =>
dtru z51 fun b52 =>
if b52 = true then (dcmp .Eq (.d d0) (.d d1) fun c53 =>
J_law_same_3 Q E d0 d1 z1 b2 c45 z47 b48 (.d (.bool c53)) s) else (J_law_same_3 Q E d0 d1 z1 b2 c45 z47 b48 (z51) s)) (dcall .isinstance [(.d d0), (.v (.ty "int"))] fun z56 =>
dtru z56 fun b57 =>
if b57 = true then (dcall .isinstance [(.d d0), (.v (.ty "bool"))] fun z58 =>
dcall .isinstance [(.d d1), (.v (.ty "bool"))] fun z59 =>
dcmp .Eq z58 z59 fun c60 =>
if c60 = true then (dcmp .Eq (.d d0) (.d d1) fun c61 =>
J_law_same_4 Q E d0 d1 z1 b2 c45 z47 b48 (.d (.bool c61)) s) else (J_law_same_4 Q E d0 d1 z1 b2 c45 z47 b48 (.d (.bool c60)) s)) else (J_law_same_4 Q E d0 d1 z1 b2 c45 z47 b48 (z56) s))))) := by kernel_rfl

end
end Z
set_option Elab.async false
set_option linter.all false
set_option maxRecDepth 100000
set_option maxHeartbeats 4000000
namespace Z
open PySem PySem.Spec PyProof.Rows L2 Evl
section
variable {S : Type}
abbrev Wok (G : Gam S) (st : Stmt) (sp : Fsp S) : Prop := ∀ ss s Q E, sp ss s Q E → wB G 30 30 (defScope st) (startE G.N ss) s (defBody st) (fnO Q) E
/-! ### the words on data -/
def isTup : PyData → Bool
  | .tuple _ => true
  | _ => false
def isLst : PyData → Bool
  | .list _ => true
  | _ => false
def isIb : PyData → Bool
  | .int _ => true
  | .bool _ => true
  | _ => false
def isBl : PyData → Bool
  | .bool _ => true
  | _ => false
theorem dI_int {x : PyData} {Q : Sl → Prop} : dcall .isinstance [.d x, .v (.ty "int")] Q = Q (.d (.bool (isIb x))) := by cases x <;> rfl
theorem dI_bool {x : PyData} {Q : Sl → Prop} : dcall .isinstance [.d x, .v (.ty "bool")] Q = Q (.d (.bool (isBl x))) := by cases x <;> rfl
theorem dI_str {x : PyData} {Q : Sl → Prop} : dcall .isinstance [.d x, .v (.ty "str")] Q = Q (.d (.bool (isStr x))) := by cases x <;> rfl
theorem dI_tup {x : PyData} {Q : Sl → Prop} : dcall .isinstance [.d x, .v (.ty "tuple")] Q = Q (.d (.bool (isTup x))) := by cases x <;> rfl
theorem dI_lst {x : PyData} {Q : Sl → Prop} : dcall .isinstance [.d x, .v (.ty "list")] Q = Q (.d (.bool (isLst x))) := by cases x <;> rfl
theorem dT_b {b : Bool} {Q : Bool → Prop} : dtru (.d (.bool b)) Q = Q b := rfl
theorem dL_t {xs : List PyData} {Q : Sl → Prop} : dcall .len [.d (.tuple xs)] Q = Q (.d (.int xs.length)) := rfl
theorem dL_l {xs : List PyData} {Q : Sl → Prop} : dcall .len [.d (.list xs)] Q = Q (.d (.int xs.length)) := rfl
theorem dL_s {z : Str} {Q : Sl → Prop} : dcall .len [.d (.str z)] Q = (z.length ≤ sizeLine ∧ Q (.d (.int z.length))) := rfl
theorem dA_b {f : PyData → Bool} {xs : List PyData} {Q : Sl → Prop} : dcall .all_ [.d (.list (xs.map fun x => .bool (f x)))] Q = Q (.d (.bool (xs.all f))) := by
  unfold dcall
  simp [boolsD_map, List.all_map]
theorem bT {A B : Prop} : bif2 true A B = A := rfl
theorem bF {A B : Prop} : bif2 false A B = B := rfl
theorem aT {xs : List PyData} {Q : List PyData → Prop} : asSeq (.d (.tuple xs)) Q = Q xs := rfl
theorem aL {xs : List PyData} {Q : List PyData → Prop} : asSeq (.d (.list xs)) Q = Q xs := rfl
theorem aS {z : Str} {Q : List PyData → Prop} : asSeq (.d (.str z)) Q = Q (z.cps.toList.map fun c => .str ⟨#[c]⟩) := rfl
theorem oD {x : PyData} {Q : PyData → Prop} : outD (.d x) Q = Q x := rfl
theorem le100 {n : Nat} (h : n ≤ 100) : n ≤ 1000000 := by omega
theorem le100s {n : Nat} (h : n ≤ 100) : n ≤ sizeLine := Nat.le_trans h (by decide)
theorem ok_is_integer : Wok (S := S) G_is_integer s_is_integer sp_is_integer := by
  rintro ss s Q E ⟨d, rfl, hd, hq⟩
  refine Eq.mpr (f_is_integer d s Q E) ?_
  simp only [dI_int, dI_bool, dT_b, J_is_integer_1]
  cases d <;> simpa [isIb, isBl, isInt] using hq
theorem ok_is_number : Wok (S := S) G_is_number s_is_number sp_is_number := by
  rintro ss s Q E ⟨d, rfl, hd, hq⟩
  refine Eq.mpr (f_is_number d s Q E) (sp1_in hd ?_)
  cases d <;> simpa [dT_b, isInt, isNum, dcmp, J_is_number_1] using hq
theorem ok_is_name : Wok (S := S) G_is_name s_is_name sp_is_name := by
  rintro ss s Q E ⟨d, rfl, hd, hq⟩
  refine Eq.mpr (f_is_name d s Q E) ?_
  simp only [dI_str, dT_b]
  cases d with
  | str z =>
    have hz := hd.str
    simp only [isStr, if_true, dL_s, dcmp, aS, J_is_name_1]
    refine ⟨le100s hz, ?_⟩
    simp only [isNm] at hq
    by_cases h1 : (1 : Int) ≤ z.length
    · have h1' : 1 ≤ z.length := by omega
      by_cases h8 : (z.length : Int) ≤ 8
      · have h8' : z.length ≤ 8 := by omega
        simp only [h1, h8, h1', h8', decide_true, if_true, Bool.true_and, List.length_map] at hq ⊢
        refine ⟨?_, ?_⟩
        · have : z.cps.toList.length = z.length := by simp [Str.length]
          omega
        · refine wMap_all (g := fun x => .bool (match x with
            | .str c => decide (c.cps.toList.headD 0 ∈ gLETTERS.cps.toList)
            | _ => false)) (fun x hx k hk => ?_) ?_
          · obtain ⟨c, hc, rfl⟩ := List.mem_map.mp hx
            exact ⟨c, rfl, by simpa [oD] using hk⟩
          · rw [dA_b, List.all_map]
            exact hq
      · have h8' : ¬ z.length ≤ 8 := by omega
        simpa [h1, h8, h1', h8'] using hq
    · have h1' : ¬ 1 ≤ z.length := by omega
      simpa [h1, h1'] using hq
  | _ => simpa [isStr, isNm, J_is_name_1] using hq
theorem anyI {z : Int} : ∀ is : List Int, ((is.map PyData.int).any fun y => eqF y (.int z)) = is.contains z
  | [] => rfl
  | a :: as => by
    rw [List.map_cons, List.any_cons, anyI as, List.contains_cons]
    congr 1
    show (a == z) = (z == a)
    by_cases q : a = z
    · subst q
      simp
    · exact (beq_false_of_ne q).trans (beq_false_of_ne (Ne.symm q)).symm
theorem ok_is_one_of : Wok (S := S) G_is_one_of s_is_one_of sp_is_one_of := by
  rintro ss s Q E ⟨d, is, rfl, hd, hq⟩
  refine Eq.mpr (f_is_one_of d (.tuple (is.map .int)) s Q E) (sp1_in hd ?_)
  rw [dT_b]
  cases d with
  | int z =>
    simp only [isInt, if_true, dcmp, flatD, J_is_one_of_1]
    refine ⟨True.intro, by simp [flatD], ?_⟩
    rw [anyI]
    exact hq
  | _ => simpa [isInt, inI, J_is_one_of_1] using hq
theorem shI {a : Int} : SeqAt.shaped (.int a) = true := rfl
theorem dEq_i {a b : Int} {Q : Bool → Prop} : dcmp .Eq (.d (.int a)) (.d (.int b)) Q = Q (decide (a = b)) := by
  have e : (a == b) = decide (a = b) := by
    by_cases h : a = b <;> simp [h]
  simp [dcmp, shI, PyData.eqv, e]
theorem dGt_i {a b : Int} {Q : Bool → Prop} : dcmp .Gt (.d (.int a)) (.d (.int b)) Q = Q (decide (b < a)) := rfl
theorem add_i {a b : Int} {Q : Sl → Prop} : dbin .Add (.d (.int a)) (.d (.int b)) Q = Q (.d (.int (a + b))) := rfl
theorem allD_i {xs : List Sl} {ds : List PyData} {Q : List PyData → Prop} (h : dataAll xs = some ds) (q : Q ds) : allD xs Q := by
  unfold allD
  rw [h]
  exact q
/-! ### check_probe -/
theorem need_i {b : Bool} {w : Str} {s : S} {Q : QS S} {E : QX S} (h1 : b = true → Q (.d .none) s) (h2 : b = false → E (xNU w) s) : sp_need [.d (.bool b), .d (.str w)] s Q E := ⟨b, w, rfl, h1, h2⟩
theorem ok_check_probe : Wok (S := S) G_check_probe s_check_probe sp_check_probe := by
  rintro ss s Q E ⟨k, c, n, m, rfl, hk, hc, hn, hm, hq, he⟩
  refine Eq.mpr (f_check_probe k c n m s Q E) (sp1_in hk ?_)
  refine need_i (fun e1 => ?_) fun e1 => he "kind" (by simp [badW, e1])
  refine ⟨le100s (by simp), c, [0, 1, 2], rfl, hc, ?_⟩
  refine need_i (fun e2 => ?_) fun e2 => he "code" (by simp [badW, e1, e2])
  refine sp1_in hn ?_
  rw [dT_b]
  have hpos : ∀ b : Bool, b = isPos n → J_check_probe_1 Q E k c n m (.d (.bool (isNm k))) s (.d .none) s (.d (.bool (inI [0, 1, 2] c))) s (.d .none) s (.d (.bool b)) s → True := fun _ _ _ => trivial
  have fin : isPos n = true → ∀ b : Bool, (isNm m && !PyData.eqv m k) = b → (b = true → Q (.d .none) s) ∧ (b = false → E (xNU "called") s) := fun e3 b hb => by
    subst hb
    exact ⟨fun e4 => hq (by simp only [badW, e1, e2, e3, e4, if_true]), fun e4 => he "called" (by simp only [badW, e1, e2, e3, e4, if_true, Bool.false_eq_true, if_false])⟩
  have go : ∀ b : Bool, b = isPos n → ∀ y1 y3 y5 y7, J_check_probe_1 Q E k c n m y1 s y3 s y5 s y7 s (.d (.bool b)) s := fun b hb y1 y3 y5 y7 => by
    refine need_i (fun e3 => ?_) fun e3 => he "number" (by simp only [badW, e1, e2, if_true, ← hb, e3, Bool.false_eq_true, if_false])
    rw [hb] at e3
    refine sp1_in hm ?_
    rw [dT_b]
    cases e4 : isNm m with
    | true =>
      rw [if_pos rfl]
      refine ⟨hm.shaped, hk.shaped, ?_⟩
      obtain ⟨h1, h2⟩ := fin e3 _ rfl
      rw [e4, Bool.true_and] at h1 h2
      exact need_i h1 h2
    | false =>
      rw [if_neg Bool.false_ne_true]
      obtain ⟨h1, h2⟩ := fin e3 _ rfl
      rw [e4, Bool.false_and] at h1 h2
      exact need_i h1 h2
  cases n with
  | int i =>
    by_cases h0 : 0 ≤ i
    · have : isNum (.int i) = true := decide_eq_true h0
      rw [this, if_pos rfl, dGt_i]
      exact go _ rfl _ _ _ _
    · have : isNum (.int i) = false := decide_eq_false h0
      rw [this, if_neg Bool.false_ne_true]
      refine go false ?_ _ _ _ _
      show false = decide (0 < i)
      rw [decide_eq_false (by omega)]
  | _ => exact go false rfl _ _ _ _
end
end Z
set_option Elab.async false
set_option linter.all false
set_option maxRecDepth 100000
set_option maxHeartbeats 4000000
namespace Z
open PySem PySem.Spec PyProof.Rows L2 Evl
section
variable {S : Type}
def probe_rest (d1 d2 d3 d4 : PyData) (s : S) (Q : QS S) (z2 : Sl) : Prop :=
dcall .len [z2] fun z3 =>
dbin .Add z3 (.d d2) fun z4 =>
dbin .Add z4 (.d (.int 1)) fun z5 =>
dbin .Add z5 (.d (.int 1)) fun z6 =>
(List.length ([(.int 0), (.int 1), (.int 2)] : List PyData)) ≤ sizeLine ∧
asSeq (.d (.tuple [(.int 0), (.int 1), (.int 2)])) fun xs7 =>
xs7.length ≤ 1000000 ∧ wMap (fun x8 s9 k10 => dcmp .Eq (.d x8) (.d d1) fun c11 =>
bif2 c11 (dbin .Add z3 (.d (.int 1)) fun z12 =>
outD z12 fun y => k10 (some y) s9) (outD z6 fun y => k10 (some y) s9)) xs7 s fun ys13 s14 =>
spl (.d (.list ys13)) fun ds15 =>
allD ([(.d (.str "a"))] ++ (ds15.map Sl.d ++ [])) fun ds16 => ds16.length ≤ sizeLine ∧
(List.length ([(.tuple ds16)] : List PyData)) ≤ sizeLine ∧
(List.length ([] : List PyData)) ≤ sizeLine ∧
allD [(.d (.str "wait")), (.d (.tuple [(.tuple ds16)])), (.d (.int (-1))), z6, (.d (.tuple []))] fun ds17 => ds17.length ≤ sizeLine ∧
(List.length ([(.tuple ds17)] : List PyData)) ≤ sizeLine ∧
dbin .Add z3 (.d (.int 1)) fun z18 =>
dbin .Add z3 (.d d2) fun z19 =>
rangeS2 z18 z19 fun xs20 =>
xs20.length ≤ 1000000 ∧ wMap (fun x21 s22 k23 => (List.length ([] : List PyData)) ≤ sizeLine ∧
dbin .Add (.d x21) (.d (.int 1)) fun z24 =>
(List.length ([] : List PyData)) ≤ sizeLine ∧
allD [(.d (.str "wait")), (.d (.tuple [])), z24, z6, (.d (.tuple []))] fun ds25 => ds25.length ≤ sizeLine ∧
outD (.d (.tuple ds25)) fun y => k23 (some y) s22) xs20 s14 fun ys26 s27 =>
dbin .Add (.d (.list [(.tuple ds17)])) (.d (.list ys26)) fun z28 =>
(List.length ([] : List PyData)) ≤ sizeLine ∧
(List.length ([] : List PyData)) ≤ sizeLine ∧
allD [(.d (.str "wait")), (.d (.tuple [])), z6, z5, (.d (.tuple []))] fun ds29 => ds29.length ≤ sizeLine ∧
(List.length ([] : List PyData)) ≤ sizeLine ∧
(List.length ([] : List PyData)) ≤ sizeLine ∧
allD [(.d (.str "poll")), (.d (.tuple [])), z6, z6, z5, (.d (.tuple []))] fun ds30 => ds30.length ≤ sizeLine ∧
(List.length ([] : List PyData)) ≤ sizeLine ∧
(List.length ([] : List PyData)) ≤ sizeLine ∧
allD [(.d (.str "wait")), (.d (.tuple [])), z6, z6, (.d (.tuple []))] fun ds31 => ds31.length ≤ sizeLine ∧
(List.length ([(.str "a")] : List PyData)) ≤ sizeLine ∧
spl z2 fun ds32 =>
spl z28 fun ds33 =>
dix (.dt [(.inr "settled", (.tuple ds29)), (.inr "reach", (.tuple ds30)), (.inr "rest", (.tuple ds31))]) (.d d4) fun z34 =>
(List.length ([(.str "exit"), (.int 0)] : List PyData)) ≤ sizeLine ∧
(List.length ([(.str "exit"), (.int 1)] : List PyData)) ≤ sizeLine ∧
allD (ds32.map Sl.d ++ (ds33.map Sl.d ++ [z34, (.d (.tuple [(.str "exit"), (.int 0)])), (.d (.tuple [(.str "exit"), (.int 1)]))])) fun ds35 => ds35.length ≤ sizeLine ∧
(List.length ([d3, (.tuple [(.str "a")]), (.tuple ds35)] : List PyData)) ≤ sizeLine ∧
dcmp .Eq (.d d4) (.d (.str "rest")) fun c36 =>
bif2 c36 (dbin .Sub z5 (.d (.int 1)) fun z37 =>
allD [(.d (.tuple [d3, (.tuple [(.str "a")]), (.tuple ds35)])), z37] fun ds38 => ds38.length ≤ sizeLine ∧
Q (.d (.tuple ds38)) s27) (allD [(.d (.tuple [d3, (.tuple [(.str "a")]), (.tuple ds35)])), z5] fun ds39 => ds39.length ≤ sizeLine ∧
Q (.d (.tuple ds39)) s27)
theorem dataAll_map : ∀ ds : List PyData, dataAll (ds.map Sl.d) = some ds
  | [] => rfl
  | d :: ds => by
    show (match dataAll (ds.map Sl.d) with
      | some xs => some (d :: xs)
      | none => none) = _
    rw [dataAll_map ds]
theorem dataAll_app : ∀ (ds : List PyData) {xs : List Sl} {es : List PyData}, dataAll xs = some es → dataAll (ds.map Sl.d ++ xs) = some (ds ++ es)
  | [], _, _, h => h
  | d :: ds, xs, es, h => by
    show (match dataAll (ds.map Sl.d ++ xs) with
      | some xs => some (d :: xs)
      | none => none) = _
    rw [dataAll_app ds h]
    rfl
theorem dix_t {kvs : List (Key × PyData)} {k : Str} {z : PyData} {Q : Sl → Prop} (h : lookK kvs k = some z) (q : Q (.d z)) : dix (.dt kvs) (.d (.str k)) Q := by
  show (match lookK kvs k with
    | some z => Q (.d z)
    | none => False)
  rw [h]
  exact q
theorem spl_l {xs : List PyData} {Q : List PyData → Prop} : spl (.d (.list xs)) Q = Q xs := rfl
theorem probe_f (k : PyData) (c : Int) (d2 d3 d4 : PyData) (s : S) (Q : QS S) (E : QX S) (h1 : c = 2 → probe_rest (.int c) d2 d3 d4 s Q (.d (.list [.tuple [.str "fork", k, .str "x", .str "a", .int 1], .tuple [.str "kill", .str "a", .int 2]])))
      (h2 : c ≠ 2 → probe_rest (.int c) d2 d3 d4 s Q (.d (.list [.tuple [.str "fork", k, .str "x", .str "a", .int 1]]))) :
    wB G_probe_of 30 30 (defScope s_probe_of) (startE ["kind", "code", "number", "called", "looking", "begin", "taking", "place", "last", "targets", "takes", "looks", "probe", "known", "p"] [.d k, .d (.int c), .d d2, .d d3, .d d4]) s (defBody s_probe_of) (fnO Q) E := by
  refine Eq.mpr (f_probe_of k (.int c) d2 d3 d4 s Q E) ⟨le100s (by simp), le100s (by simp), ?_⟩
  refine ⟨rfl, rfl, ?_⟩
  have e : PyData.eqv (.int c) (.int 2) = decide (c = 2) := by
    have : (c == 2) = decide (c = 2) := by
      by_cases h : c = 2 <;> simp [h]
    simp [PyData.eqv, this]
  rw [e]
  by_cases q : c = 2
  · rw [decide_eq_true q]
    exact ⟨le100s (by simp), le100s (by simp), le100s (by simp), h1 q⟩
  · rw [decide_eq_false q]
    exact ⟨le100s (by simp), le100s (by simp), h2 q⟩
theorem range_len {lo hi : Int} : (rangeD lo hi).length = (hi - lo).toNat := by simp [rangeD]
def intD : PyData → Int
  | .int i => i
  | _ => 0
theorem probe_go {k m : Str} {c : Int} {n : Nat} {b : Bool} {s : S} {Q : QS S} {B : List PyData} (hB : B = prB (.str k) c) (h0 : 0 ≤ c) (h2 : c ≤ 2) (hn : n ≤ 70) (q : Q (.d (probeD (.str k) c n (.str m) b)) s) :
    probe_rest (.int c) (.int (n + 1 : Nat)) (.str m) (.str (lookS b)) s Q (.d (.list B)) := by
  have ht : (B.length : Int) = prT c := by
    rw [hB]
    unfold prB prT
    by_cases e : c = 2 <;> simp [e]
  have hl : B.length ≤ 2 := by
    unfold prT at ht
    by_cases e : c = 2
    · rw [if_pos e] at ht
      omega
    · rw [if_neg e] at ht
      omega
  have tb : 1 ≤ prT c ∧ prT c ≤ 2 := by
    unfold prT
    by_cases e : c = 2 <;> simp [e]
  unfold probe_rest
  rw [dL_l, add_i, add_i, add_i, ht]
  have e5 : prT c + ((n + 1 : Nat) : Int) + 1 = prT c + n + 2 := by omega
  have e6 : prT c + ((n + 1 : Nat) : Int) + 1 + 1 = prT c + n + 3 := by omega
  rw [e6, e5]
  refine ⟨le100s (by simp), ?_⟩
  rw [aT]
  refine ⟨by simp, wMap_all (g := fun x => prW c (prT c + n + 3) (intD x)) (fun x hx k hk => ?_) ?_⟩
  · have hx2 : x = .int (intD x) := by
      simp only [List.mem_cons, List.not_mem_nil, or_false] at hx
      rcases hx with rfl | rfl | rfl <;> rfl
    revert hk
    generalize intD x = xi at hx2
    intro hk
    rw [hx2, dEq_i, add_i]
    have hk : k (some (prW c (prT c + n + 3) xi)) s := hk
    unfold prW at hk
    by_cases e : xi = c
    · rw [decide_eq_true e, bT]
      rw [if_pos e] at hk
      exact hk
    · rw [decide_eq_false e, bF]
      rw [if_neg e] at hk
      exact hk
  rw [spl_l]
  refine allD_i (dataAll_app [.str "a"] (dataAll_app _ rfl)) ⟨le100s (by simp), le100s (by simp), le100s (by simp), ?_⟩
  refine allD_i rfl ⟨le100s (by simp), le100s (by simp), ?_⟩
  rw [add_i, add_i]
  refine ⟨by omega, by omega, by omega, by omega, ?_⟩
  refine ⟨by rw [range_len]; omega, wMap_all (g := fun x => .tuple [.str "wait", .tuple [], .int (intD x + 1), .int (prT c + n + 3), .tuple []]) (fun x hx k hk => ?_) ?_⟩
  · refine ⟨le100s (by simp), ?_⟩
    obtain ⟨i, _, rfl⟩ := List.mem_map.mp hx
    rw [add_i]
    exact ⟨le100s (by simp), allD_i rfl ⟨le100s (by simp), hk⟩⟩
  have hr : (rangeD (prT c + 1) (prT c + ((n + 1 : Nat) : Int))).map (fun x => PyData.tuple [.str "wait", .tuple [], .int (intD x + 1), .int (prT c + n + 3), .tuple []]) = prO c (prT c + n + 3) n := by
    unfold rangeD prO
    have e : (prT c + ((n + 1 : Nat) : Int) - (prT c + 1)).toNat = n := by omega
    rw [e, List.map_map]
    refine List.map_congr_left fun i _ => ?_
    show PyData.tuple [.str "wait", .tuple [], .int (prT c + 1 + (i : Int) + 1), _, _] = _
    rw [show prT c + 1 + (i : Int) + 1 = prT c + 2 + (i : Int) by omega]
  rw [hr]
  have hlen : (prO c (prT c + n + 3) n).length = n := by simp [prO]
  refine ⟨le100s (by simp [hlen]; omega), ?_⟩
  have q2 := q
  unfold probeD at q2
  refine ⟨le100s (by simp), le100s (by simp), allD_i rfl ⟨le100s (by simp), le100s (by simp), le100s (by simp), allD_i rfl ⟨le100s (by simp), le100s (by simp), le100s (by simp), allD_i rfl ⟨le100s (by simp), le100s (by simp), ?_⟩⟩⟩⟩
  rw [spl_l, spl_l]
  cases b with
  | true =>
    refine dix_t (z := prL (prT c + n + 3) (prT c + n + 2) true) rfl ⟨le100s (by simp), le100s (by simp), allD_i (dataAll_app _ (dataAll_app _ rfl)) ⟨le100s (by simp [hlen]; omega), le100s (by simp), ⟨by decide +kernel, by decide +kernel, ?_⟩⟩⟩
    rw [show PyData.eqv (.str (lookS true)) (.str "rest") = false by decide +kernel]
    show bif2 false _ _
    rw [bF]
    refine allD_i rfl ⟨le100s (by simp), ?_⟩
    rw [hB]
    exact q2
  | false =>
    refine dix_t (z := prL (prT c + n + 3) (prT c + n + 2) false) rfl ⟨le100s (by simp), le100s (by simp), allD_i (dataAll_app _ (dataAll_app _ rfl)) ⟨le100s (by simp [hlen]; omega), le100s (by simp), ⟨by decide +kernel, by decide +kernel, ?_⟩⟩⟩
    rw [show PyData.eqv (.str (lookS false)) (.str "rest") = false by decide +kernel]
    show bif2 false _ _
    rw [bF]
    refine allD_i rfl ⟨le100s (by simp), ?_⟩
    rw [hB]
    exact q2
theorem ok_probe_of : Wok (S := S) G_probe_of s_probe_of sp_probe_of := by
  rintro ss s Q E ⟨k, c, m, n, b, rfl, h0, h2, hn, hq⟩
  exact probe_f (.str k) c _ _ _ s Q E (fun e => probe_go (by simp [prB, e]) h0 h2 hn hq) fun e => probe_go (by simp [prB, e]) h0 h2 hn hq
theorem badW_none {k c n m : PyData} (h : badW k c n m = none) : ∃ k0 c0 m0, ∃ n0 : Nat, k = .str k0 ∧ c = .int c0 ∧ 0 ≤ c0 ∧ c0 ≤ 2 ∧ n = .int (n0 + 1 : Nat) ∧ m = .str m0 := by
  unfold badW at h
  cases k with
  | str k0 =>
    split at h
    · cases c with
      | int c0 =>
        split at h
        · rename_i h2
          cases n with
          | int i =>
            split at h
            · rename_i h3
              cases m with
              | str m0 =>
                have h3' : 0 < i := of_decide_eq_true h3
                have h2' : c0 ∈ ([0, 1, 2] : List Int) := List.contains_iff_mem.mp h2
                simp only [List.mem_cons, List.not_mem_nil, or_false] at h2'
                exact ⟨k0, c0, m0, (i - 1).toNat, rfl, rfl, by omega, by omega, congrArg PyData.int (by omega : i = (((i - 1).toNat + 1 : Nat) : Int)), rfl⟩
              | _ => simp [isNm] at h
            · cases h
          | _ => simp [isPos] at h
        · cases h
      | _ => simp [inI] at h
    · cases h
  | _ => simp [isNm] at h
theorem ok_settled_probe : Wok (S := S) G_settled_probe s_settled_probe sp_settled_probe := by
  rintro ss s Q E ⟨k, c, n, m, rfl, hk, hc, hn, hm, h1, h2⟩
  refine Eq.mpr (f_settled_probe k c n m s Q E) ⟨k, c, n, m, rfl, hk, hc, hn, hm, fun hb => ?_, h2⟩
  obtain ⟨k0, c0, m0, n0, rfl, rfl, e1, e2, rfl, rfl⟩ := badW_none hb
  obtain ⟨h70, hq⟩ := h1 k0 c0 m0 n0 rfl rfl rfl rfl
  exact ⟨k0, c0, m0, n0, true, rfl, e1, e2, h70, hq hb⟩
theorem ok_reach_probe : Wok (S := S) G_reach_probe s_reach_probe sp_reach_probe := by
  rintro ss s Q E ⟨k, c, n, m, rfl, hk, hc, hn, hm, h1, h2⟩
  refine Eq.mpr (f_reach_probe k c n m s Q E) ⟨k, c, n, m, rfl, hk, hc, hn, hm, fun hb => ?_, h2⟩
  obtain ⟨k0, c0, m0, n0, rfl, rfl, e1, e2, rfl, rfl⟩ := badW_none hb
  obtain ⟨h70, hq⟩ := h1 k0 c0 m0 n0 rfl rfl rfl rfl
  exact ⟨k0, c0, m0, n0, false, rfl, e1, e2, h70, hq hb⟩
end
end Z
set_option Elab.async false
set_option linter.all false
set_option maxRecDepth 100000
set_option maxHeartbeats 4000000
namespace Z
open PySem PySem.Spec PyProof.Rows L2 Evl
section
variable {S : Type}
theorem range_mem {n : Nat} {x : PyData} (h : x ∈ rangeD 0 (n : Int)) : ∃ i : Nat, i < n ∧ x = .int (i : Int) := by
  obtain ⟨i, hi, rfl⟩ := List.mem_map.mp h
  have := List.mem_range.mp hi
  exact ⟨i, by omega, by simp⟩
theorem atI_nat' {α : Type} {xs : List α} {i : Nat} (h : i < xs.length) : atI xs (i : Int) = some xs[i] := by
  unfold atI ixN
  rw [if_pos (by omega), if_pos (by omega)]
  simp [h]
theorem eqv_refl_flat : ∀ {d : PyData}, flatD d = true → PyData.eqv d d = true
  | .none, _ => rfl
  | .bool b, _ => by cases b <;> rfl
  | .int i, _ => by simp [PyData.eqv]
  | .str z, _ => by simp [PyData.eqv]
/-- the turns of the comparison of two equal sequences -/
theorem same_turns {xs : List PyData} {sp : Fsp S} {s : S} {Q : QS S} {mk : List PyData → PyData} (hmk : ∀ i : Nat, ∀ h : i < xs.length, ∀ Q : Sl → Prop, Q (.d xs[i]) → dix (.d (mk xs)) (.d (.int (i : Int))) Q)
    (hl : xs.length ≤ 100) (hx : ∀ x ∈ xs, ∀ s (Q : QS S) E, Q (.d (.bool true)) s → sp [.d x, .d x] s Q E) (hq : Q (.d (.bool true)) s) :
    rangeS1 (.d (.int xs.length)) fun ys => ys.length ≤ 1000000 ∧ wMap (fun x s k => dix (.d (mk xs)) (.d x) fun z => dix (.d (mk xs)) (.d x) fun z2 => sp [z, z2] s (fun y s2 => dtru y fun b => bif2 (!b) (outD (.d x) fun y => k (some y) s2) (k none s2)) noX) ys s fun ys s2 =>
      (List.length ([] : List PyData)) ≤ sizeLine ∧ dcmp .Eq (.d (.list ys)) (.d (.list [])) fun c => Q (.d (.bool c)) s2 := by
  refine ⟨by omega, by omega, by rw [range_len]; omega, wMap_sel (p := fun _ => false) (g := id) (fun x hx2 k hk => ?_) ?_⟩
  · obtain ⟨i, hi, rfl⟩ := range_mem hx2
    exact hmk i hi _ (hmk i hi _ (hx _ (List.getElem_mem hi) _ _ _ hk))
  · have e : ((rangeD 0 (xs.length : Int)).filter fun _ => false).map id = [] := by simp
    rw [e]
    refine ⟨le100s (by simp), ?_⟩
    refine ⟨by decide +kernel, by decide +kernel, ?_⟩
    have e2 : PyData.eqv (.list []) (.list []) = true := by decide +kernel
    rw [e2]
    exact hq
def isSq : PyData → Bool
  | .tuple _ => true
  | .list _ => true
  | _ => false
theorem dS_s {x : PyData} {Q : Sl → Prop} : disT (.d x) ["tuple", "list"] Q = Q (.d (.bool (isSq x))) := by cases x <;> rfl
theorem dIs_n {x : PyData} {Q : Bool → Prop} : dcmp .Is (.d x) (.d .none) Q = Q (isNoneS (.d x)) := by cases x <;> rfl
theorem ok_law_same (m : Nat) (hm : m ≤ 55) (m' : Nat) (hm' : m' ≤ m) :
    letI : Dpt := ⟨m⟩
    ∀ ss s Q E, spSame (S := S) m' ss s Q E → wB G_law_same 30 30 (defScope s_law_same) (startE (G_law_same (S := S)).N ss) s (defBody s_law_same) (fnO Q) E := by
  letI : Dpt := ⟨m⟩
  have hrec : ∀ n : Nat, n + 1 ≤ m → ∀ x, okD 100 n x = true → ∀ s (Q : QS S) E, Q (.d (.bool true)) s → sp_law_same (S := S) [.d x, .d x] s Q E := by
    intro n hn x hx s Q E q
    show spSm m _ s Q E
    cases m with
    | zero => omega
    | succ m => exact ⟨x, rfl, okD_mono (by omega) (by omega) hx, q⟩
  rintro ss s Q E ⟨d, rfl, hd, hq⟩
  refine Eq.mpr (f_law_same d d s Q E) ?_
  have hok : Ok d := okD_mono (by omega) (by omega) hd
  rw [dS_s, dT_b]
  cases d with
  | tuple xs =>
    obtain ⟨n, rfl⟩ : ∃ n, m' = n + 1 := by
      cases m' with
      | zero => simp [okD] at hd
      | succ n => exact ⟨n, rfl⟩
    simp only [okD, Bool.and_eq_true, decide_eq_true_eq, List.all_eq_true] at hd
    simp only [isSq, bT]
    rw [dI_tup, dT_b]
    simp only [isTup, bT]
    rw [dI_tup, dT_b]
    simp only [isTup, Bool.not_true, Bool.false_eq_true, if_false]
    rw [dL_t, dL_t]
    refine ⟨rfl, rfl, ?_⟩
    have e : PyData.eqv (.int (xs.length : Int)) (.int xs.length) = true := by simp [PyData.eqv]
    rw [e]
    simp only [Bool.not_true, J_law_same_1, bF]
    rw [dL_t]
    refine same_turns (mk := .tuple) (fun i h Q q => ?_) hd.1 (fun x hx s Q E q => hrec n (by omega) x (hd.2 x hx) s Q E q) hq
    simp only [dix, atI_nat' h]
    exact q
  | list xs =>
    obtain ⟨n, rfl⟩ : ∃ n, m' = n + 1 := by
      cases m' with
      | zero => simp [okD] at hd
      | succ n => exact ⟨n, rfl⟩
    simp only [okD, Bool.and_eq_true, decide_eq_true_eq, List.all_eq_true] at hd
    simp only [isSq, bT]
    rw [dI_tup, dT_b]
    simp only [isTup, bF]
    rw [dI_lst, dT_b]
    simp only [isLst, Bool.not_true, Bool.false_eq_true, if_false]
    rw [dL_l, dL_l]
    refine ⟨rfl, rfl, ?_⟩
    have e : PyData.eqv (.int (xs.length : Int)) (.int xs.length) = true := by simp [PyData.eqv]
    rw [e]
    simp only [Bool.not_true, J_law_same_2, bF]
    rw [dL_l]
    refine same_turns (mk := .list) (fun i h Q q => ?_) hd.1 (fun x hx s Q E q => hrec n (by omega) x (hd.2 x hx) s Q E q) hq
    simp only [dix, atI_nat' h]
    exact q
  | none =>
    simp only [isSq, bF]
    rw [dIs_n]
    simp only [isNoneS, bT]
    rw [dIs_n]
    exact hq
  | str z =>
    simp only [isSq, bF]
    rw [dIs_n]
    simp only [isNoneS, bF]
    rw [dI_str, dT_b]
    simp only [isStr, bT]
    rw [dI_str, dT_b]
    simp only [isStr, if_true]
    refine ⟨hok.shaped, hok.shaped, ?_⟩
    rw [eqv_refl_flat rfl]
    exact hq
  | int i =>
    simp only [isSq, bF]
    rw [dIs_n]
    simp only [isNoneS, bF]
    rw [dI_str, dT_b]
    simp only [isStr, bF]
    rw [dI_int, dT_b]
    simp only [isIb, if_true]
    rw [dI_bool, dI_bool]
    refine ⟨rfl, rfl, ?_⟩
    have e : PyData.eqv (.bool (isBl (.int i))) (.bool (isBl (.int i))) = true := rfl
    rw [e]
    simp only [if_true]
    refine ⟨hok.shaped, hok.shaped, ?_⟩
    rw [eqv_refl_flat rfl]
    exact hq
  | bool b =>
    simp only [isSq, bF]
    rw [dIs_n]
    simp only [isNoneS, bF]
    rw [dI_str, dT_b]
    simp only [isStr, bF]
    rw [dI_int, dT_b]
    simp only [isIb, if_true]
    rw [dI_bool, dI_bool]
    refine ⟨rfl, rfl, ?_⟩
    have e : PyData.eqv (.bool (isBl (.bool b))) (.bool (isBl (.bool b))) = true := rfl
    rw [e]
    simp only [if_true]
    refine ⟨hok.shaped, hok.shaped, ?_⟩
    rw [eqv_refl_flat rfl]
    exact hq
  | dict _ => simp [okD] at hd
end
end Z
set_option Elab.async false
set_option linter.all false
set_option maxRecDepth 100000
set_option maxHeartbeats 4000000
namespace Z
open PySem PySem.Spec PyProof.Rows L2 Evl
abbrev s_init : Stmt := inClass (top 5) 0
theorem sc_init : FnScope ["self", "word", "at"] ["self", "word", "at"] (defScope s_init) := ⟨rfl, rfl, rfl, by decide +kernel, rfl, by decide +kernel, by decide +kernel⟩
/-- an own error with two fields -/
structure Er2 (K : PySem.W.Frag) (mg : Str → Option Value) (x : Str) (C fI : Addr) : Prop where
  gC : mg x = some (.ref C)
  oc : OexC K C
  xf : XfC K C
  iC : PySem.W.findIn K (.ref C) "__init__" = some (some (.ref fI))
  tI : PySem.W.typeIn K (.ref fI) = some (.type "function")
  nW : PySem.W.findIn K (.ref C) "word" = some none
  nA : PySem.W.findIn K (.ref C) "at" = some none
/-- __init__ of such an error -/
def spInit (K : PySem.W.Frag) (C : Addr) : Sp := fun vs H Q _ => ∃ a v1 v2, vs = [.ref a, v1, v2] ∧ H a = some (exo a C none) ∧
  ∀ dx H2, H dx = none → dx ≠ a → (∀ b, b ≠ a → b ≠ dx → H2 b = H b) → H2 a = some (exo a C (some dx)) → H2 dx = some (exd dx [("at", v2), ("word", v1)]) → Q .non H2
section
variable {P : Program} {w : World} {K : PySem.W.Frag} {mg : Str → Option Value} {base : Heap}
theorem ok_init {x : Str} {C fI : Addr} {qual : Str} {f : Addr} {fd : FuncData} (F : FunD K "__init__" qual (defArgs s_init) (defBody s_init) (defScope s_init) [] [] f fd) (T : Er2 K mg x C fI) : FnG false P w K mg base (L2.CX P w) 1 f fd ["self", "word", "at"] (spInit K C) := by
  refine FunD_okG F sc_init ?_ ?_
  · rintro vs H Q E ⟨a, v1, v2, rfl, _⟩
    rfl
  · rintro cdv A outer sh H vs Q E hg hr ⟨a, v1, v2, rfl, ha, k⟩
    refine ⟨_, pss_cons (ps_ost (pv 0) (pv 1)) (pss_one (ps_ost (pv 0) (pv 2))), ?_⟩
    refine ⟨v1, rfl, .ref a, rfl, a, C, rfl, T.oc, T.nW, .inl ⟨ha, fun dx hd na => ?_⟩⟩
    have nad : a ≠ dx := na.symm
    refine ⟨v2, rfl, .ref a, rfl, a, C, rfl, T.oc, T.nA, .inr ⟨dx, _, upd_same, by rw [upd_ne na, upd_same], by show 1 ≤ 900; decide, ?_⟩⟩
    refine k dx _ hd na (fun b h1 h2 => by rw [upd_ne h2, upd_ne h1, upd_ne h2]) ?_ upd_same
    rw [upd_ne nad, upd_same]
end
end Z
set_option Elab.async false
set_option linter.all false
set_option maxRecDepth 100000
set_option maxHeartbeats 4000000
namespace Z
open PySem PySem.Spec PyProof.Rows L2 Evl
def DefAt (K : PySem.W.Frag) (mg : Str → Option Value) (x : Str) (st : Stmt) (ps : List Str) : Prop := ∃ f fd, FunD K x x (defArgs st) (defBody st) (defScope st) [] [] f fd ∧ mg x = some (.ref f) ∧ Binds K fd ps []
abbrev s_need : Stmt := top 13
theorem sc_need : FnScope ["condition", "word"] ["condition", "word"] (defScope s_need) := ⟨rfl, rfl, rfl, by decide +kernel, rfl, by decide +kernel, by decide +kernel⟩
section
variable {S : Type} {P : Program} {w : World} {K : PySem.W.Frag} {mg : Str → Option Value} {base : Heap} {q : Wq S}
theorem h_need {C fI : Addr} {fdI : FuncData} {qual : Str} (D : DefAt K mg "need" s_need ["condition", "word"]) (T : Er2 K mg "NotUsable" C fI) (FI : FunD K "__init__" qual (defArgs s_init) (defBody s_init) (defScope s_init) [] [] fI fdI)
    (bI : Binds K fdI ["self", "word", "at"] []) (hc : q.cls "NotUsable" = some C) : FnH S false P w K mg base q 3 "need" sp_need := by
  obtain ⟨f, fd, F, hm, hb⟩ := D
  refine FnG.fnh (f := f) (fd := fd) (ps := ["condition", "word"]) (FunD_okG (k := 2) F sc_need ?_ ?_) hb hm F.kp
  · rintro vs H Q E ⟨ss, s, F1, Qd, Ed, ex, sr, j, ⟨b, w0, rfl, h⟩, kq, kx⟩
    exact srAll_len sr
  · rintro cdv A outer sh H vs Q E hg hr ⟨ss, s, F1, Qd, Ed, ex, sr, j, ⟨b, w0, rfl, h1, h2⟩, kq, kx⟩
    obtain ⟨v, u, rfl, r1, r2⟩ := srAll2 sr
    have r1' : Rp K F1 v (.bool b) := r1
    have r2' : Rp K F1 u (.str w0) := r2
    cases r1'
    cases r2'
    refine ⟨_, pss_one (ps_if (pt_not (pt_val (pv 0))) (pss_one (ps_raise rfl (takes_of rfl rfl rfl rfl) (pmk_oex T.oc T.iC T.tI (ok_init FI T).ok hr bI .nil (passes_no _ rfl rfl) (by rfl) T.gC (pa_cons (pv 1) (pa_cons (pe_un un_neg pe_int) pa_nil))))) pss_nil), ?_⟩
    refine ⟨.bl b, rfl, b, rfl, ?_⟩
    cases b with
    | true => exact kq .non (.d .none) s F1 H (Fm.refl ex) j (h1 rfl) .non
    | false =>
      rw [if_pos (by rfl)]
      refine ⟨.str w0, rfl, 1, rfl, by show 2 ≤ 1000; decide, fun a ha => ?_⟩
      refine ⟨a, .str w0, .int (-1), rfl, upd_same, fun dx H2 hd na hbb e1 e2 => ⟨rfl, dx, _, e1, e2, ?_, ?_⟩⟩
      · rw [upd_ne na] at hd
        exact hd
      · rw [upd_ne na] at hd
        have hH : upd (del H2 a) dx (.xd [("at", .int (-1)), ("word", .str w0)]) = upd H dx (.xd [("at", .int (-1)), ("word", .str w0)]) := by
          funext b
          by_cases hb1 : b = dx
          · rw [hb1, upd_same, upd_same]
          · rw [upd_ne hb1, upd_ne hb1]
            by_cases hb2 : b = a
            · rw [hb2, del_same, ha]
            · rw [del_ne hb2, hbb b hb2 hb1, upd_ne hb2]
        show E (.ref C) (some dx) (upd (del H2 a) dx (.xd [("at", .int (-1)), ("word", .str w0)]))
        rw [hH]
        have fm : Fm [] F1 H F1 (upd H dx (.xd [("at", V.int (-1)), ("word", .str w0)])) := Fm.own ex hd
        exact kx (xNU w0) s F1 _ dx C [.int (-1), .str w0] fm.more (Wd.pure (W := q.wd F1 H E) j fm) (h2 rfl) hc upd_same (.cons (.int _) (.cons (.str _) .nil))
end
end Z
set_option Elab.async false
set_option linter.all false
set_option maxRecDepth 100000
set_option maxHeartbeats 4000000
namespace Z
open PySem PySem.Spec PyProof.Rows L2 Evl
/-! ### isinstance of a caught error that has a dict -/
structure XiC (K : PySem.W.Frag) (C : Addr) : Prop where
  ha : PySem.W.findIn K (.ref C) "__class__" = some (some (.builtin "object.__class__"))
  hn : PySem.W.specialIn K (.builtin "object.__class__") "__get__" = some (some (.builtin "getset_descriptor.__get__"))
  ht : PySem.W.takesIn K (.builtin "object.__class__") = some true
  hm : PySem.W.mroIn K C (.type "object") = some true
  hc : (PySem.W.clsIn K C).isSome = true
theorem call_isX {X : Cx} {a C : Addr} {oe : Obj} {cls : Value} {d : Option Addr} {pn : List (Addr × Obj)} (T : XfC X.K C) (Y : XiC X.K C) (hz : Zc cls d oe) (hf : ∃ vs, oe.data = .fields vs) :
    CallR (X.suite a ((a, oe) :: pn)) (.builtin "isinstance") (fun xs H Q => ∃ (c : V) (cv : Value) (b : Bool) (dd : Addr) (fs : List (Str × V)), xs = [.ref a, c] ∧ (∀ u, RelV c u → u = cv) ∧ cls = .ref C ∧ d = some dd ∧ H dd = some (.xd fs) ∧ PySem.W.kitOne X.K (.ref C) cv = some b ∧ Q (.bl b) H) := by
  intro pins s σ H xs us Q I r h
  obtain ⟨c, cv, b, dd, fs, rfl, hcv, ec, ed, hd, e, q⟩ := h
  obtain ⟨u1, u2, rfl, r1, r2⟩ := vals2 r
  subst ec
  subst ed
  have e1 : u1 = Value.ref a := r1
  subst e1
  have e2 := hcv _ r2
  subst e2
  obtain ⟨ha, _⟩ := I.pin (a, oe) (List.mem_append_left _ List.mem_cons_self)
  obtain ⟨vs, hdat⟩ := hf
  have hx : ObjOk X.prog X.w H s.heap dd (.xd fs) := I.hok dd _ hd
  obtain ⟨mA, hns, _⟩ := hx
  obtain ⟨od, ho, _⟩ := lookIn_ns hns
  have J : PySem.W.InstAt s.heap a oe C (some od) := ⟨ha, hz.1, by unfold PySem.W.notCls; rw [hdat] <;> rfl, by rw [hz.2]; exact ho⟩
  exact PySem.W.kia_one (PySem.W.kitx_exc Y.hc T.ga T.gg T.exC Y.ha Y.hn Y.ht Y.hm) I.kIn J e (fun z => nomatch z) fun tk => ⟨.bl b, H, I.tok tk, rfl, q⟩
theorem ifF {A B : Prop} (h : B) : if false = true then A else B := by
  rw [if_neg Bool.false_ne_true]
  exact h
theorem ifT {A B : Prop} (h : A) : if true = true then A else B := by
  rw [if_pos rfl]
  exact h
/-! ### the def that hears -/
abbrev s_heard : Stmt := top 23
theorem sc_heard : FnScope ["_law_ask", "failure"] ["_law_ask"] (defScope s_heard) := ⟨rfl, rfl, rfl, by decide +kernel, rfl, by decide +kernel, by decide +kernel⟩
/-- what it makes of the call: the value told, or the word and the place of an own error -/
def tHeard (CNU : Addr) : (XK → Hp → VK → Prop) → Hp → VK → Prop := fun tl H Q =>
  tl (fun cls d H2 => ∃ dd fs w0 v0, cls = .ref CNU ∧ d = some dd ∧ H2 dd = some (.xd fs) ∧ fs.lookup ("word" : Str) = some w0 ∧ fs.lookup ("at" : Str) = some v0 ∧ ∀ p, H2 p = none → Q (.ref p) (upd H2 p (.tup [.str "use", w0, v0]))) H
    fun v H2 => [V.str "told", v].length ≤ sizeLine ∧ ∀ p, H2 p = none → Q (.ref p) (upd H2 p (.tup [.str "told", v]))
/-- the names that it uses -/
structure HeardOk (K : PySem.W.Frag) (mg : Str → Option Value) (CNU CIP CF : Addr) : Prop where
  gNU : mg "NotUsable" = some (.ref CNU)
  gIP : mg "InvalidPaper" = some (.ref CIP)
  gF : mg "ForkError" = some (.ref CF)
  xf : XfC K CNU
  xi : XiC K CNU
  nW : PySem.W.findIn K (.ref CNU) "word" = some none
  nA : PySem.W.findIn K (.ref CNU) "at" = some none
  ex : PySem.W.exmOne K (.ref CNU) (.ref CF) = some true
  kIP : PySem.W.kitOne K (.ref CNU) (.ref CIP) = some false
  kNU : PySem.W.kitOne K (.ref CNU) (.ref CNU) = some true
  mI : mg "isinstance" = none
theorem heard_gives {X : Cx} {g CNU CIP CF : Addr} {cdg : Value} {q : Str} (T : HeardOk X.K X.mg CNU CIP CF) : LamX.GivesTo X ["_law_ask", "failure"] "_law_heard" (defScope s_heard) g cdg (defBody s_heard) "_law_ask" q (tHeard CNU) := by
  intro f c' s H Q tl act hc h
  refine ⟨_, pss_one (ps_try_as (X := (cxOf C8.CX0 X.prog X.w X.K X.mg X.base ["_law_ask", "failure"] "_law_heard" (defScope s_heard) g cdg X.A X.stack s H C8.E0).nox) (c := .ref CF) (i := 1)
      (tb := fun W D σ H => ∃ Ech : XK, (∀ cls d σ' H', Ech cls d H' → σ'.length = 2 → W cls d σ' H') ∧ σ[0]? = some (some (.ref f)) ∧ H c' = some (LamX.CodeO c' q) ∧ tl Ech H fun v H2 => [V.str "told", v].length ≤ sizeLine ∧ ∀ p, H2 p = none → D.rt (.ref p) (upd H2 p (.tup [.str "told", v])))
      rfl rfl sc_heard.nd rfl rfl ⟨rfl, by decide, .inl T.gF⟩ LamX.takes0 (fun W pn xe tk _ => ?_)
      (fun a oe cls d pn hz hf => pss_cons (ps_if (pt_val (pe_callB (call_isX T.xf T.xi hz hf) (by rfl) T.mI (by decide +kernel) (pa_cons (pv 1) (pa_cons (pe_glob (v := .ref CIP) (by rfl) T.gIP rfl (by decide)) pa_nil)))) pss_never pss_nil)
        (pss_cons (ps_if (pt_val (pe_callB (call_isX T.xf T.xi hz hf) (by rfl) T.mI (by decide +kernel) (pa_cons (pv 1) (pa_cons (pe_glob (v := .ref CNU) (by rfl) T.gNU rfl (by decide)) pa_nil))))
          (pss_one (ps_ret (pe_tup (pa_cons pe_str (pa_cons (pe_xf T.xf T.nW hz hf (pv 1)) (pa_cons (pe_xf T.xf T.nA hz hf (pv 1)) pa_nil)))))) pss_nil) pss_never))), ?_⟩
  · refine ⟨fun pins s' σ H' D I h' => ?_⟩
    obtain ⟨Ech, hW, h1, h2, h3⟩ := h'
    exact (pss_one (ps_ret (pe_tup (pa_cons pe_str (pa_cons (act (fun cls d σ H => σ.length = 2 → W cls d σ H) pn xe Ech _ _ (fun u s3 ⟨a, B, sI, pins2, σ2, H2, cls, d, e, I2, nb, up, sky, na, os, ag, w2⟩ => tk u s3 ⟨a, B, sI, pins2, σ2, H2, cls, d, e, I2, nb, up, sky, na, os, ag, w2 I2.len⟩) hW) pa_nil))))).run pins s' σ H' D I ⟨h1, h2, h3⟩
  · refine ⟨_, fun cls d σ2 H2 z hl2 => ?_, rfl, hc, h⟩
    obtain ⟨dd, fs, w0, v0, rfl, rfl, hd, lw, la, hq⟩ := z
    refine ⟨true, T.ex, fun _ a na => ?_, fun z => by cases z⟩
    have sl : (σ2.set 1 (some (.ref a)))[1]? = some (some (V.ref a)) := by
      rw [List.getElem?_set_self (by omega)]
    refine ⟨.ref a, sl, .ref CIP, .ref CIP, false, dd, fs, rfl, fun u r => r, rfl, rfl, hd, T.kIP, false, rfl, ?_⟩
    refine ifF ?_
    refine ⟨.ref a, sl, .ref CNU, .ref CNU, true, dd, fs, rfl, fun u r => r, rfl, rfl, hd, T.kNU, true, rfl, ?_⟩
    refine ifT ?_
    refine ⟨.ref a, sl, rfl, rfl, dd, fs, w0, rfl, hd, lw, .ref a, sl, rfl, rfl, dd, fs, v0, rfl, hd, la, sz_of (by show 3 ≤ 100000; decide), ?_⟩
    exact hq
end Z
set_option Elab.async false
set_option linter.all false
set_option maxRecDepth 100000
set_option maxHeartbeats 4000000
namespace Z
open PySem PySem.Spec PyProof.Rows L2 Evl
/-! ### the feed: a dict -/
def fdK (c : Addr) (turn rest drawn : Int) : List (Key × V) := [(.inr "cells", .ref c), (.inr "turn", .int turn), (.inr "rest", .int rest), (.inr "drawn", .int drawn)]
theorem n_cells_turn : ¬ (("cells" : Str) = "turn") := by decide +kernel
theorem n_cells_rest : ¬ (("cells" : Str) = "rest") := by decide +kernel
theorem n_cells_drawn : ¬ (("cells" : Str) = "drawn") := by decide +kernel
theorem n_turn_cells : ¬ (("turn" : Str) = "cells") := by decide +kernel
theorem n_turn_rest : ¬ (("turn" : Str) = "rest") := by decide +kernel
theorem n_turn_drawn : ¬ (("turn" : Str) = "drawn") := by decide +kernel
theorem n_rest_cells : ¬ (("rest" : Str) = "cells") := by decide +kernel
theorem n_rest_turn : ¬ (("rest" : Str) = "turn") := by decide +kernel
theorem n_rest_drawn : ¬ (("rest" : Str) = "drawn") := by decide +kernel
theorem n_drawn_cells : ¬ (("drawn" : Str) = "cells") := by decide +kernel
theorem n_drawn_turn : ¬ (("drawn" : Str) = "turn") := by decide +kernel
theorem n_drawn_rest : ¬ (("drawn" : Str) = "rest") := by decide +kernel
theorem val_cells {c : Addr} {t r k : Int} : valV (fdK c t r k) (.inr "cells") = some (.ref c) := by simp [valV, fdK, List.find?_cons, n_cells_turn, n_cells_rest, n_cells_drawn, n_turn_cells, n_turn_rest, n_turn_drawn, n_rest_cells, n_rest_turn, n_rest_drawn, n_drawn_cells, n_drawn_turn, n_drawn_rest]
theorem val_turn {c : Addr} {t r k : Int} : valV (fdK c t r k) (.inr "turn") = some (.int t) := by simp [valV, fdK, List.find?_cons, n_cells_turn, n_cells_rest, n_cells_drawn, n_turn_cells, n_turn_rest, n_turn_drawn, n_rest_cells, n_rest_turn, n_rest_drawn, n_drawn_cells, n_drawn_turn, n_drawn_rest]
theorem val_rest {c : Addr} {t r k : Int} : valV (fdK c t r k) (.inr "rest") = some (.int r) := by simp [valV, fdK, List.find?_cons, n_cells_turn, n_cells_rest, n_cells_drawn, n_turn_cells, n_turn_rest, n_turn_drawn, n_rest_cells, n_rest_turn, n_rest_drawn, n_drawn_cells, n_drawn_turn, n_drawn_rest]
theorem val_drawn {c : Addr} {t r k : Int} : valV (fdK c t r k) (.inr "drawn") = some (.int k) := by simp [valV, fdK, List.find?_cons, n_cells_turn, n_cells_rest, n_cells_drawn, n_turn_cells, n_turn_rest, n_turn_drawn, n_rest_cells, n_rest_turn, n_rest_drawn, n_drawn_cells, n_drawn_turn, n_drawn_rest]
theorem put_turn {c : Addr} {t r k v : Int} : putK (fdK c t r k) (.inr "turn") (.int v) = fdK c v r k := by simp [putK, fdK, n_cells_turn, n_cells_rest, n_cells_drawn, n_turn_cells, n_turn_rest, n_turn_drawn, n_rest_cells, n_rest_turn, n_rest_drawn, n_drawn_cells, n_drawn_turn, n_drawn_rest]
theorem put_rest {c : Addr} {t r k v : Int} : putK (fdK c t r k) (.inr "rest") (.int v) = fdK c t v k := by simp [putK, fdK, n_cells_turn, n_cells_rest, n_cells_drawn, n_turn_cells, n_turn_rest, n_turn_drawn, n_rest_cells, n_rest_turn, n_rest_drawn, n_drawn_cells, n_drawn_turn, n_drawn_rest]
theorem put_drawn {c : Addr} {t r k v : Int} : putK (fdK c t r k) (.inr "drawn") (.int v) = fdK c t r v := by simp [putK, fdK, n_cells_turn, n_cells_rest, n_cells_drawn, n_turn_cells, n_turn_rest, n_turn_drawn, n_rest_cells, n_rest_turn, n_rest_drawn, n_drawn_cells, n_drawn_turn, n_drawn_rest]
section
variable {K : PySem.W.Frag} {σ : L2.St} {H : Hp} {ta tb te : TE}
theorem ev_dg {p : Addr} {kvs : List (Key × V)} {k : Key} {v : V} (ha : Ev ta σ H (.ref p)) (hb : Ev tb σ H (kV k)) (h : H p = some (.dK kvs)) (hv : valV kvs k = some v) : Ev (tDGet ta tb) σ H v := fun H1 e Q q =>
  ha H1 e _ fun H2 e2 => hb H2 (e.trans e2) _ fun H3 e3 => ⟨p, v, rfl, by rw [← hv]; exact DGet.k (((e.trans e2).trans e3) p _ h), q H3 (e2.trans e3)⟩
theorem q_dput {p : Addr} {kvs : List (Key × V)} {k : Key} {v : V} {tz : TS} {D : Ends} (h : H p = some (.dK kvs)) (hv : Ev te σ H v) (ha : Ev ta σ H (.ref p)) (hb : Ev tb σ H (kV k)) (hl : kvs.length < 1000)
    (q : ∀ H1, Ex H H1 → tz D σ (upd H1 p (.dK (putK kvs k v)))) : tSeq (sDPut ta tb te) tz D σ H :=
  hv H (Ex.refl H) _ fun H1 e1 => ha H1 e1 _ fun H2 e2 => hb H2 (e1.trans e2) _ fun H3 e3 => ⟨p, _, rfl, DPut.k (((e1.trans e2).trans e3) p _ h) (Nat.lt_of_lt_of_le hl (by decide)), q H3 ((e1.trans e2).trans e3)⟩
theorem ev_int1 {i : Int} (h : Ev ta σ H (.int i)) : Ev (tCB (fun xs H Q => (∃ i, xs = [.int i] ∧ Q (.int i) H) ∨ ∃ k, xs = [.bl k] ∧ Q (.int (if k then 1 else 0)) H) (tCons ta tNil)) σ H (.int i) := fun H1 e Q q =>
  h H1 e _ fun H2 e2 => .inl ⟨i, rfl, q H2 e2⟩
theorem ev_lenS {p : Addr} {xs : List V} (ha : Ev ta σ H (.ref p)) (h : SqL K H p xs) : Ev (tCB (fun xs H Q => ∃ p ys, xs = [.ref p] ∧ (SqL K H p ys ∨ SqT K H p ys) ∧ Q (.int ys.length) H) (tCons ta tNil)) σ H (.int (xs.length : Int)) := fun H1 e Q q =>
  ha H1 e _ fun H2 e2 => ⟨p, xs, rfl, Or.inl (ex_l (e.trans e2) h), q H2 e2⟩
theorem et_R {r : R2} {x y : V} {b : Bool} (ha : Ev ta σ H x) (hb : Ev tb σ H y) (hr : RV r x y H (.bl b)) : EvT (tTest (tOp r ta tb)) σ H b := et_test (ev_op ha hb hr)
theorem q_par {i j : Nat} {v w : V} {tz : TS} {D : Ends} (ha : Ev ta σ H v) (hb : Ev tb σ H w) (q : ∀ H1, Ex H H1 → tz D ((σ.set i (some v)).set j (some w)) H1) : tSeq (tPar i j (tCons ta (tCons tb tNil))) tz D σ H :=
  ha H (Ex.refl H) _ fun H1 e1 => hb H1 e1 _ fun H2 e2 => ⟨v, w, rfl, q H2 (e1.trans e2)⟩
end
/-- the feed behind some changes of its own -/
structure Fs (H0 H : Hp) (p c : Addr) (turn rest drawn : Int) : Prop where
  hp : H p = some (.dK (fdK c turn rest drawn))
  ks : ∀ a o, a ≠ p → H0 a = some o → H a = some o
theorem Fs.ex {H0 H H1 : Hp} {p c : Addr} {t r k : Int} (f : Fs H0 H p c t r k) (e : Ex H H1) : Fs H0 H1 p c t r k := ⟨e _ _ f.hp, fun a o n h => e _ _ (f.ks a o n h)⟩
theorem Fs.put {H0 H H1 : Hp} {p c : Addr} {t r k : Int} (f : Fs H0 H p c t r k) (e : Ex H H1) (t' r' k' : Int) {kvs : List (Key × V)} (h : kvs = fdK c t' r' k') : Fs H0 (upd H1 p (.dK kvs)) p c t' r' k' :=
  ⟨by rw [upd_same, h], fun a o n i => by
    rw [upd_ne n]
    exact e _ _ (f.ks a o n i)⟩
theorem mod_lt' {a n : Int} (h : 0 < n) : 0 ≤ a % n ∧ a % n < n := ⟨Int.emod_nonneg _ (by omega), Int.emod_lt_of_pos _ h⟩
theorem eqv_intsE {ns : List Int} : PyData.eqv (.list (ns.map .int)) (.list []) = ns.isEmpty := by
  cases ns <;> rfl
theorem dpAll_ints {K : PySem.W.Frag} {H : Hp} : ∀ {ns : List Int}, DpAll K H (ns.map .int) (ns.map .int)
  | [] => .nil
  | _ :: _ => .cons (.int _) dpAll_ints
theorem rv_neD {K : PySem.W.Frag} {H : Hp} {x y : V} {d e : PyData} (hx : ∀ H1, Ex H H1 → Dp K H1 x d) (hy : ∀ H1, Ex H H1 → Dp K H1 y e) (sd : SeqAt.shaped d = true) (se : SeqAt.shaped e = true) : RV (rNeD K) x y H (.bl (!PyData.eqv d e)) :=
  fun H1 ex Q q => ⟨d, e, hx H1 ex, hy H1 ex, sd, se, q H1 (Ex.refl H1)⟩
theorem rv_mod {H : Hp} {i j : Int} (h : 0 < j) : RV (rI (fun _ j => 0 < j) fun i j => .int (i % j)) (.int i) (.int j) H (.int (i % j)) := rv_I h
theorem rv_mul {H : Hp} {i j : Int} (h : CMul i j) : RV (rI CMul fun i j => .int (i * j)) (.int i) (.int j) H (.int (i * j)) := rv_I h
theorem rv_div {H : Hp} {i j : Int} (h : CDiv i j) : RV (rI CDiv fun i j => .int (i / j)) (.int i) (.int j) H (.int (i / j)) := rv_I h
theorem rv_add {H : Hp} {i j : Int} : RV (rI0 fun i j => .int (i + j)) (.int i) (.int j) H (.int (i + j)) := rv_I0
theorem ints_shaped {ns : List Int} (h : ns.length ≤ 63) : SeqAt.shaped (.list (ns.map .int)) = true := by
  refine Ok.shaped (okD_mono (L := 63) (n := 1) (by omega) (by omega) ?_)
  simp only [okD, Bool.and_eq_true, decide_eq_true_eq, List.all_eq_true]
  refine ⟨by rw [List.length_map]; exact h, fun x hx => ?_⟩
  obtain ⟨i, _, rfl⟩ := List.mem_map.mp hx
  simp [okD]
theorem atI_in {α : Type} {xs : List α} {i : Int} (h0 : 0 ≤ i) (h1 : i < xs.length) : ∃ x ∈ xs, atI xs i = some x := by
  have hn : i.toNat < xs.length := by omega
  refine ⟨xs[i.toNat], List.getElem_mem hn, ?_⟩
  unfold atI ixN
  rw [if_pos h0, if_pos h1]
  show xs[i.toNat]? = _
  exact List.getElem?_eq_getElem hn
/-- the cell that is read -/
def cellI (ns : List Int) (turn : Int) : Int := match atI (ns.map V.int) (turn % ((ns.map V.int).length : Int)) with
  | some (.int x) => x
  | _ => 29
theorem cellI_at {ns : List Int} {turn : Int} (h : ns ≠ []) : atI (ns.map V.int) (turn % ((ns.map V.int).length : Int)) = some (.int (cellI ns turn)) := by
  have hl : 0 < (ns.map V.int).length := by
    rw [List.length_map]
    exact List.length_pos_iff.mpr h
  obtain ⟨x, hx, e⟩ := atI_in (xs := ns.map V.int) (i := turn % ((ns.map V.int).length : Int)) (Int.emod_nonneg _ (by omega)) (Int.emod_lt_of_pos _ (by omega))
  obtain ⟨i, _, rfl⟩ := List.mem_map.mp hx
  unfold cellI
  rw [e]
theorem cellI_nil {turn : Int} : cellI [] turn = 29 := by
  have e : ∀ i : Int, atI ([] : List V) i = none := fun i => by
    unfold atI
    cases ixN ([] : List V).length i <;> rfl
  show (match atI ([] : List V) _ with
    | some (.int x) => x
    | _ => 29) = 29
  rw [e]
abbrev s_draw : Stmt := top 21
abbrev N_draw : List Str := ["_law_feed_here", "_law_many", "_law_digit", "_law_turn", "_law_cells", "_law_cell", "_law_mixed"]
theorem sc_draw : FnScope N_draw ["_law_feed_here", "_law_many"] (defScope s_draw) := ⟨rfl, rfl, rfl, by decide +kernel, rfl, by decide +kernel, by decide +kernel⟩
section
variable {P : Program} {w : World} {K : PySem.W.Frag} {mg : Str → Option Value} {base : Heap}
theorem dw_go {p c : Addr} {ns : List Int} (hlen : ns.length ≤ 63) {cdv : Value} {A : Around} {outer : List Env} {sh : Shared} {H : Hp} {f : Addr} {Q : VK} {E : XK} {n : Int} {turn rest k : Int} {CX : CXT}
    (mInt : mg "int" = none) (mLen : mg "len" = none) (hr : Room 0 (A.deeper (envOfC "_law_draw" (defScope s_draw) sh.heap.objs.size f cdv)))
    (hn : 0 < n) (hn2 : n ≤ 1000) (hp : H p = some (.dK (fdK c turn rest k))) (hc : H c = some (.lst (ns.map .int)))
    (fin : ∀ (r turn' rest' k' : Int) (H2 : Hp), 0 ≤ r → r < n → Fs H H2 p c turn' rest' k' → Q (.int r) H2) :
    ∃ t, PSs (cxOf CX P w K mg base N_draw "_law_draw" (defScope s_draw) f cdv A outer sh H E) (defBody s_draw) t ∧
      t { nx := fun _ H' => Q .non H', rt := Q } (start N_draw [.ref p, .int n]) H := by
  have hu : (cxOf CX P w K mg base N_draw "_law_draw" (defScope s_draw) f cdv A outer sh H E).A.units + 64 < cLine := by
    have := hr.un
    show (A.deeper (envOfC "_law_draw" (defScope s_draw) sh.heap.objs.size f cdv)).units + 64 < cLine
    omega
  have hu1 : (cxOf CX P w K mg base N_draw "_law_draw" (defScope s_draw) f cdv A outer sh H E).A.units + 1 < cLine := by omega
  have ncp : c ≠ p := by
    intro e
    rw [e, hp] at hc
    cases hc
  refine ⟨_, (pss_cons (ps_dput hu1 (pv 0) pe_str (pe_op op_add (pe_dget hu1 (pv 0) pe_str (fun _ _ => rfl)) pe_int) rfl) (pss_cons (ps_if (pt_cmpR op_gt (pe_dget hu1 (pv 0) pe_str (fun _ _ => rfl)) pe_int (nomark _)) (pss_cons (ps_set (i := 2) sc_draw.nd rfl (.inl rfl) (pe_op op_mod (pe_callTy call_int1 (by rfl) mInt (by decide +kernel) (pa_cons (pe_dget hu1 (pv 0) pe_str (fun _ _ => rfl)) pa_nil)) (pv 1))) (pss_cons (ps_dput hu1 (pv 0) pe_str (pe_op op_fdiv (pe_dget hu1 (pv 0) pe_str (fun _ _ => rfl)) (pv 1)) rfl) (pss_one (ps_ret (pv 2))))) pss_nil) (pss_cons (ps_par (i := 3) (j := 4) rfl sc_draw.nd rfl rfl (by decide) rfl rfl (pa_cons (pe_dget hu1 (pv 0) pe_str (fun _ _ => rfl)) (pa_cons (pe_dget hu1 (pv 0) pe_str (fun _ _ => rfl)) pa_nil)) (sws2 rfl rfl rfl (by decide +kernel) rfl rfl rfl (by decide +kernel) (by decide +kernel)) rfl) (pss_cons (ps_dput hu1 (pv 0) pe_str (pe_op op_add (pv 3) pe_int) rfl) (pss_cons (ps_set (i := 5) sc_draw.nd rfl (.inl rfl) (pe_ifExp (pt_cmpR (op_neD hu) (pv 4) (pe_lst pa_nil) (nomark _)) (pe_ix ix_list (pv 4) (pe_op op_mod (pe_callTy call_int1 (by rfl) mInt (by decide +kernel) (pa_cons (pv 3) pa_nil)) (pe_callB call_len_seq (by rfl) mLen PySem.boot_len (pa_cons (pv 4) pa_nil))) (fun _ _ => rfl)) pe_int)) (pss_cons (ps_if (PW.pt (pw_and (pt_cmpR op_lt (pv 3) (pe_callB call_len_seq (by rfl) mLen PySem.boot_len (pa_cons (pv 4) pa_nil)) (nomark _)) (pw_and1 (pt_cmpR op_ge (pv 5) (pe_op op_pow pe_int pe_int) (nomark _))))) (pss_cons (ps_dput hu1 (pv 0) pe_str (pe_op op_fdiv (pv 5) (pv 1)) rfl) (pss_one (ps_ret (pe_op op_mod (pe_callTy call_int1 (by rfl) mInt (by decide +kernel) (pa_cons (pv 5) pa_nil)) (pv 1))))) pss_nil) (pss_cons (ps_set (i := 6) sc_draw.nd rfl (.inl rfl) (pe_op op_mod (pe_callTy call_int1 (by rfl) mInt (by decide +kernel) (pa_cons (pe_op op_add (pe_op op_add (pe_op op_mod (pe_callTy call_int1 (by rfl) mInt (by decide +kernel) (pa_cons (pv 5) pa_nil)) pe_int) (pe_op op_mul pe_int (pe_dget hu1 (pv 0) pe_str (fun _ _ => rfl)))) pe_int) pa_nil)) pe_int)) (pss_cons (ps_set (i := 6) sc_draw.nd rfl (.inl rfl) (pe_op op_mod (pe_callTy call_int1 (by rfl) mInt (by decide +kernel) (pa_cons (pe_op op_add (pe_op op_add (pe_op op_mul (pv 6) (pv 6)) (pe_op op_mul pe_int (pe_dget hu1 (pv 0) pe_str (fun _ _ => rfl)))) pe_int) pa_nil)) pe_int)) (pss_one (ps_ret (pe_op op_mod (pe_callTy call_int1 (by rfl) mInt (by decide +kernel) (pa_cons (pe_op op_fdiv (pe_op op_mod (pe_callTy call_int1 (by rfl) mInt (by decide +kernel) (pa_cons (pe_op op_add (pe_op op_mul (pv 6) (pv 6)) (pe_op op_mul pe_int (pv 6))) pa_nil)) pe_int) pe_int) pa_nil)) (pv 1)))))))))))), ?_⟩
  have f0 : Fs H H p c turn rest k := ⟨hp, fun _ _ _ h => h⟩
  have hcl : ∀ {t r k : Int} {H1 : Hp}, Fs H H1 p c t r k → SqL K H1 c (ns.map .int) := fun f => sq_of (f.ks c _ ncp hc)
  show (_ : TS) _ [some (.ref p), some (.int n), none, none, none, none, none] H
  refine q_dput (k := .inr "drawn") f0.hp (ev_op (ev_dg (k := .inr "drawn") (ev_var rfl) ev_c f0.hp val_drawn) ev_c rv_add) (ev_var rfl) ev_c (by show 4 < 1000; decide) fun H1 e1 => ?_
  have f1 := f0.put e1 turn rest (k + 1) (put_drawn (k := k))
  refine q_if (et_R (ev_dg (k := .inr "rest") (ev_var rfl) ev_c f1.hp val_rest) ev_c rv_I0) (fun hb H2 e2 => ?_) (fun hb H2 e2 => ?_)
  · have f2 := f1.ex e2
    refine q_asg (ev_op (ev_int1 (ev_dg (k := .inr "rest") (ev_var rfl) ev_c f2.hp val_rest)) (ev_var rfl) (rv_mod hn)) fun H3 e3 => ?_
    have f3 := f2.ex e3
    refine q_dput (k := .inr "rest") f3.hp (ev_op (ev_dg (k := .inr "rest") (ev_var rfl) ev_c f3.hp val_rest) (ev_var rfl) (rv_div ⟨hn, by omega⟩)) (ev_var rfl) ev_c (by show 4 < 1000; decide) fun H4 e4 => ?_
    have f4 := f3.put e4 turn (rest / n) (k + 1) (put_rest (r := rest))
    refine s_ret (ev_var rfl) fun H5 e5 => ?_
    have m := mod_lt' (a := rest) hn
    exact fin _ _ _ _ H5 m.1 m.2 (f4.ex e5)
  show (_ : TS) _ [some (.ref p), some (.int n), none, none, none, none, none] H2
  have f2 := f1.ex e2
  refine q_par (ev_dg (k := .inr "turn") (ev_var rfl) ev_c f2.hp val_turn) (ev_dg (k := .inr "cells") (ev_var rfl) ev_c f2.hp val_cells) fun H3 e3 => ?_
  have f3 := f2.ex e3
  refine q_dput (k := .inr "turn") f3.hp (ev_op (ev_var rfl) ev_c rv_add) (ev_var rfl) ev_c (by show 4 < 1000; decide) fun H4 e4 => ?_
  have f4 := f3.put e4 (turn + 1) rest (k + 1) (put_turn (t := turn))
  refine q_asg (v := .int (cellI ns turn)) (ev_if (b := !ns.isEmpty) ?_ (fun hb => ?_) fun hb => ?_) fun H5 e5 => ?_
  · refine et_test (ev_opL (ev_var rfl) (el_lst ea_nil (by simp)) fun q H5 hq e5 => ?_)
    rw [← eqv_intsE]
    exact rv_neD (fun H6 e6 => .lst (ex_l (e5.trans e6) (hcl f4)) dpAll_ints) (fun H6 e6 => .lst (ex_l e6 (sq_of hq)) .nil) (ints_shaped hlen) (by decide +kernel)
  · have hne : ns ≠ [] := by
      intro e
      rw [e] at hb
      cases hb
    have hpos : (0 : Int) < ((ns.map V.int).length : Int) := by
      rw [List.length_map]
      have := List.length_pos_iff.mpr hne
      omega
    exact ev_op (ev_var rfl) (ev_op (ev_int1 (ev_var rfl)) (ev_lenS (ev_var rfl) (hcl f4)) (rv_mod hpos)) (rv_ixL (hcl f4) (cellI_at hne))
  · have hne : ns = [] := by
      cases ns with
      | nil => rfl
      | cons _ _ => cases hb
    rw [hne, cellI_nil]
    exact ev_c
  have f5 := f4.ex e5
  refine q_if (b := decide (turn < ((ns.map V.int).length : Int)) && decide (10 ^ (18 : Int).toNat ≤ cellI ns turn)) (et_and (et_R (ev_var rfl) (ev_lenS (ev_var rfl) (hcl f5)) rv_I0) fun _ => et_R (ev_var rfl) (ev_op ev_c ev_c (rv_I ⟨by decide, by decide, by decide⟩)) rv_I0) (fun hb H6 e6 => ?_) (fun hb H6 e6 => ?_)
  · have f6 := f5.ex e6
    refine q_dput (k := .inr "rest") f6.hp (ev_op (ev_var rfl) (ev_var rfl) (rv_div ⟨hn, by omega⟩)) (ev_var rfl) ev_c (by show 4 < 1000; decide) fun H7 e7 => ?_
    have f7 := f6.put e7 (turn + 1) (cellI ns turn / n) (k + 1) (put_rest (r := rest))
    refine s_ret (ev_op (ev_int1 (ev_var rfl)) (ev_var rfl) (rv_mod hn)) fun H8 e8 => ?_
    have m := mod_lt' (a := cellI ns turn) hn
    exact fin _ _ _ _ H8 m.1 m.2 (f7.ex e8)
  have f6 := f5.ex e6
  refine q_asg (ev_op (ev_int1 (ev_op (ev_op (ev_op (ev_int1 (ev_var rfl)) ev_c (rv_mod (j := 2147483587) (by decide))) (ev_op ev_c (ev_dg (k := .inr "drawn") (ev_var rfl) ev_c f6.hp val_drawn) (rv_mul (show CMul 6700417 (k + 1) from .inl ⟨by decide, by decide⟩))) rv_add) ev_c rv_add)) ev_c (rv_mod (j := 2147483587) (by decide))) fun H7 e7 => ?_
  have f7 := f6.ex e7
  have m1 := mod_lt' (a := cellI ns turn % 2147483587 + 6700417 * (k + 1) + 907) (n := 2147483587) (by decide)
  generalize (cellI ns turn % 2147483587 + 6700417 * (k + 1) + 907) % 2147483587 = x1 at m1
  refine q_asg (ev_op (ev_int1 (ev_op (ev_op (ev_op (ev_var rfl) (ev_var rfl) (rv_mul (show CMul x1 x1 from .inl ⟨by omega, by omega⟩))) (ev_op ev_c (ev_dg (k := .inr "drawn") (ev_var rfl) ev_c f7.hp val_drawn) (rv_mul (show CMul 19660813 (k + 1) from .inl ⟨by decide, by decide⟩))) rv_add) ev_c rv_add)) ev_c (rv_mod (j := 2147483563) (by decide))) fun H8 e8 => ?_
  have f8 := f7.ex e8
  have m2 := mod_lt' (a := x1 * x1 + 19660813 * (k + 1) + 53) (n := 2147483563) (by decide)
  generalize (x1 * x1 + 19660813 * (k + 1) + 53) % 2147483563 = x2 at m2
  refine s_ret (ev_op (ev_int1 (ev_op (ev_op (ev_int1 (ev_op (ev_op (ev_var rfl) (ev_var rfl) (rv_mul (show CMul x2 x2 from .inl ⟨by omega, by omega⟩))) (ev_op ev_c (ev_var rfl) (rv_mul (show CMul 601 x2 from .inl ⟨by decide, by decide⟩))) rv_add)) ev_c (rv_mod (j := 2147483549) (by decide))) ev_c (rv_div ⟨by decide, by decide⟩))) (ev_var rfl) (rv_mod hn)) fun H9 e9 => ?_
  have m := mod_lt' (a := (x2 * x2 + 601 * x2) % 2147483549 / 16) hn
  exact fin _ _ _ _ H9 m.1 m.2 (f8.ex e9)
end
end Z
set_option Elab.async false
set_option linter.all false
set_option maxRecDepth 100000
set_option maxHeartbeats 4000000
namespace Z
open PySem PySem.Spec PyProof.Rows L2 Evl
/-- what stands around the law's defs: the feed, its cells, the tables of code objects, the error's class -/
structure KW where
  p : Addr
  c : Addr
  ns : List Int
  T : List (Addr × Str)
  C : Addr
def KW.rs (i : KW) : List Addr := i.p :: i.c :: i.T.map (·.1)
structure KJ (i : KW) (F H : Hp) : Prop where
  fd : ∃ t r k : Int, H i.p = some (.dK (fdK i.c t r k))
  cl : H i.c = some (.lst (i.ns.map .int))
  tb : LamX.Tabs i.T H
  nf : ∀ a ∈ i.rs, F a = none
  nt : ∀ a o, F a = some o → Nt o
theorem codeO_nl {c : Addr} {q : Str} (xs : List V) : LamX.CodeO c q ≠ .lst xs := fun z => by
  unfold LamX.CodeO at z
  cases z
theorem codeO_nd {c : Addr} {q : Str} (xs : List (Key × V)) : LamX.CodeO c q ≠ .dK xs := fun z => by
  unfold LamX.CodeO at z
  cases z
theorem tabs_keep {T : List (Addr × Str)} {H H2 : Hp} (t : LamX.Tabs T H) (h : ∀ a o, H a = some o → ((∃ ps, o = .tbl ps) ∨ ∃ c q, o = LamX.CodeO c q) → H2 a = some o) : LamX.Tabs T H2 := by
  intro q hq
  obtain ⟨ps, h1, h2, h3⟩ := t q hq
  refine ⟨ps, h _ _ h1 (.inl ⟨ps, rfl⟩), h2, fun pos cv hc => ?_⟩
  obtain ⟨c, e1, e2⟩ := h3 pos cv hc
  exact ⟨c, e1, h _ _ e2 (.inr ⟨c, q.2, rfl⟩)⟩
theorem KJ.ne {i : KW} {F H : Hp} (j : KJ i F H) : ∀ a ∈ i.rs, H a ≠ none ∧ F a = none := by
  intro a ha
  refine ⟨?_, j.nf a ha⟩
  rcases List.mem_cons.mp ha with e | ha
  · obtain ⟨t, r, k, h⟩ := j.fd
    rw [e, h]
    simp
  rcases List.mem_cons.mp ha with e | ha
  · rw [e, j.cl]
    simp
  obtain ⟨q, hq, rfl⟩ := List.mem_map.mp ha
  obtain ⟨ps, h1, _⟩ := j.tb q hq
  rw [h1]
  simp
def kQ (i : KW) : Wq Unit where
  rs := i.rs
  J := fun _ F H => KJ i F H
  ne := fun _ F H j => j.ne
  st := by
    rintro s F H F2 H2 j h f n
    obtain ⟨t, r, k, hp⟩ := j.fd
    refine ⟨⟨t, r, k, h _ _ hp (.inl List.mem_cons_self)⟩, h _ _ j.cl (.inl (List.mem_cons_of_mem _ List.mem_cons_self)), tabs_keep j.tb fun a o ha ho => ?_, f, fun a o ha => ?_⟩
    · refine h a o ha (.inr ⟨fun xs z => ?_, fun xs z => ?_⟩)
      · rcases ho with ⟨ps, rfl⟩ | ⟨c, q, rfl⟩
        · cases z
        · exact codeO_nl xs z
      · rcases ho with ⟨ps, rfl⟩ | ⟨c, q, rfl⟩
        · cases z
        · exact codeO_nd xs z
    · rcases n a o ha with z | z
      · exact j.nt a o z
      · exact z
  cls := fun x => if x = "NotUsable" then some i.C else none
section
variable {P : Program} {w : World} {K : PySem.W.Frag} {mg : Str → Option Value} {base : Heap}
def spDraw (p : Addr) : Fsp Unit := fun ss s Q _ => ∃ n : Int, ss = [.v (.ref p), .d (.int n)] ∧ 0 < n ∧ n ≤ 1000 ∧ ∀ i : Int, 0 ≤ i → i < n → Q (.d (.int i)) s
/-- a change of the feed alone -/
theorem KJ.draw {i : KW} {F H H2 : Hp} {t r k : Int} (ex : Ex F H) (j : KJ i F H) (f : Fs H H2 i.p i.c t r k) : Fm i.rs F H F H2 ∧ KJ i F H2 := by
  obtain ⟨t0, r0, k0, hp⟩ := j.fd
  have np : i.c ≠ i.p := fun e => by
    have := j.cl
    rw [e, hp] at this
    cases this
  refine ⟨⟨Ex.refl F, fun a o e => ?_, fun a o c e => ?_, fun a o c e z => z, fun a o e => .inl e⟩, ⟨t, r, k, f.hp⟩, f.ks _ _ np j.cl, tabs_keep j.tb fun a o ha ho => f.ks a o (fun e => ?_) ha, j.nf, j.nt⟩
  · refine f.ks a o (fun z => ?_) (ex a o e)
    rw [z, j.nf _ List.mem_cons_self] at e
    cases e
  · rcases c with c | ⟨c, _⟩
    · cases c
    · exact f.ks a o (fun z => c (by rw [z]; exact List.mem_cons_self)) e
  · subst e
    rw [hp] at ha
    have ha := Option.some.inj ha
    rcases ho with ⟨ps, rfl⟩ | ⟨c, q, rfl⟩
    · cases ha
    · exact codeO_nd _ ha.symm
theorem h_draw {i : KW} (hlen : i.ns.length ≤ 63) (D : DefAt K mg "_law_draw" s_draw ["_law_feed_here", "_law_many"]) (mInt : mg "int" = none) (mLen : mg "len" = none) : FnH Unit false P w K mg base (kQ i) 1 "_law_draw" (spDraw i.p) := by
  obtain ⟨f, fd, F, hm, hb⟩ := D
  refine FnG.fnh (f := f) (fd := fd) (ps := ["_law_feed_here", "_law_many"]) (FunD_okG (k := 0) F sc_draw ?_ ?_) hb hm F.kp
  · rintro vs H Q E ⟨ss, s, F1, Qd, Ed, ex, sr, j, ⟨n, rfl, h⟩, kq, kx⟩
    exact srAll_len sr
  · rintro cdv A outer sh H vs Q E hg hr ⟨ss, s, F1, Qd, Ed, ex, sr, j, ⟨n, rfl, h0, h1, hq⟩, kq, kx⟩
    obtain ⟨v, u, rfl, r1, r2⟩ := srAll2 sr
    have e1 : v = .ref i.p := r1
    subst e1
    have e2 : Rp K F1 u (.int n) := r2
    cases e2
    have j2 : KJ i F1 H := j
    obtain ⟨t, r, k, hp⟩ := j2.fd
    refine dw_go hlen mInt mLen hr h0 h1 hp j2.cl fun x t2 r2 k2 H2 x0 x1 fs => ?_
    obtain ⟨fm, j3⟩ := j2.draw ex fs
    exact kq (.int x) (.d (.int x)) s F1 H2 fm j3 (hq x x0 x1) (.int x)
end
end Z
set_option Elab.async false
set_option linter.all false
set_option maxRecDepth 100000
set_option maxHeartbeats 4000000
namespace Z
open PySem PySem.Spec PyProof.Rows L2 Evl
section
variable {S : Type} {P : Program} {w : World} {K : PySem.W.Frag} {mg : Str → Option Value} {base : Heap} {q : Wq S}
structure TopOk (K : PySem.W.Frag) (mg : Str → Option Value) : Prop where
  free : ∀ x, fr0.contains x = true → mg x = none
  glob : ∀ x sl, gl0.lookup x = some sl → ∃ v u, mg x = some u ∧ RelV v u ∧ ∀ F, Sr K F v sl
theorem fn_def {x : Str} {st : Stmt} {N ps : List Str} {k : Nat} {spec : Fsp S} {G : Gam S} (T : TopOk K mg) (D : DefAt K mg x st ps) (SC : FnScope N ps (defScope st)) (hN : G.N = N) (hg : G.glob = gl0) (hf : G.free = fr0) (hr : G.rep = false) (hk : G.kfn = []) (ok : okSc (defScope st) = true)
    (fns : ∀ f sp, G.fns.lookup f = some sp → FnH S false P w K mg base q k f sp) (many : ∀ ss s Qd Ed, spec ss s Qd Ed → ss.length = ps.length)
    (hw : ∀ ss s Q E, spec ss s Q E → wB G 30 30 (defScope st) (startE G.N ss) s (defBody st) (fnO Q) E) : FnH S false P w K mg base q (k + 1) x spec := by
  obtain ⟨f, fd, F, hm, hb⟩ := D
  have g := fn_body (P := P) (w := w) (mg := mg) (base := base) q G 30 30 F SC hN ok (by rw [hf]; exact T.free) (by rw [hg]; exact T.glob) (k := k) (by rw [hr]; exact fns) (by rw [hk]; exact kfs_nil) many (by rw [← hN]; exact hw)
  rw [hr] at g
  exact g.fnh hb hm F.kp
theorem many1 {f : PyData → Bool} : ∀ ss s Qd Ed, sp1 (S := S) f ss s Qd Ed → ss.length = 1 := by
  rintro ss s Qd Ed ⟨d, rfl, _⟩
  rfl
/-- where the defs stand that are called by values alone -/
structure AllDefs (K : PySem.W.Frag) (mg : Str → Option Value) : Prop where
  is_integer : DefAt K mg "is_integer" s_is_integer ["thing"]
  is_number : DefAt K mg "is_number" s_is_number ["thing"]
  is_name : DefAt K mg "is_name" s_is_name ["thing"]
  is_one_of : DefAt K mg "is_one_of" s_is_one_of ["thing", "numbers"]
  need : DefAt K mg "need" s_need ["condition", "word"]
  check_probe : DefAt K mg "check_probe" s_check_probe ["kind", "code", "number", "called"]
  probe_of : DefAt K mg "probe_of" s_probe_of ["kind", "code", "number", "called", "looking"]
  same : DefAt K mg "_law_same" s_law_same ["_law_told", "_law_due"]
  draw : DefAt K mg "_law_draw" s_draw ["_law_feed_here", "_law_many"]
/-- a def with a keyword-only last parameter -/
structure ProbeAt (K : PySem.W.Frag) (mg : Str → Option Value) (x : Str) (st : Stmt) : Prop where
  ex : ∃ f fd, FunD K x x (defArgs st) (defBody st) (defScope st) [] [("called", .str "probe")] f fd ∧ mg x = some (.ref f) ∧
    (∃ ds, Vals [.str "probe"] ds ∧ Binds K fd ["kind", "code", "number", "called"] ds) ∧
    KBn K fd ["kind", "code", "number", "called"] 3 ["called"] (fun us ws => us ++ ws) (fun us ws => us ++ ws) ∧
    KBn K fd ["kind", "code", "number", "called"] 0 ["called", "number", "code", "kind"] (fun _ ws => ws.reverse) (fun _ ws => ws.reverse)
theorem h_is_integer (T : TopOk K mg) (D : AllDefs K mg) : FnH S false P w K mg base q 1 "is_integer" sp_is_integer :=
  fn_def (G := G_is_integer) T D.is_integer sc_is_integer rfl rfl rfl rfl rfl (by decide +kernel) fns_nil many1 ok_is_integer
theorem h_is_number (T : TopOk K mg) (D : AllDefs K mg) : FnH S false P w K mg base q 2 "is_number" sp_is_number :=
  fn_def (G := G_is_number) T D.is_number sc_is_number rfl rfl rfl rfl rfl (by decide +kernel) (fns_cons (h_is_integer T D) fns_nil) many1 ok_is_number
theorem h_is_name (T : TopOk K mg) (D : AllDefs K mg) : FnH S false P w K mg base q 1 "is_name" sp_is_name :=
  fn_def (G := G_is_name) T D.is_name sc_is_name rfl rfl rfl rfl rfl (by decide +kernel) fns_nil many1 ok_is_name
theorem h_is_one_of (T : TopOk K mg) (D : AllDefs K mg) : FnH S false P w K mg base q 2 "is_one_of" sp_is_one_of :=
  fn_def (G := G_is_one_of) T D.is_one_of sc_is_one_of rfl rfl rfl rfl rfl (by decide +kernel) (fns_cons (h_is_integer T D) fns_nil) (by
    rintro ss s Qd Ed ⟨d, is, rfl, _⟩
    rfl) ok_is_one_of
theorem h_check_probe (T : TopOk K mg) (D : AllDefs K mg) (hn : FnH S false P w K mg base q 3 "need" sp_need) : FnH S false P w K mg base q 4 "check_probe" sp_check_probe :=
  fn_def (G := G_check_probe) T D.check_probe sc_check_probe rfl rfl rfl rfl rfl (by decide +kernel) (fns_cons ((h_is_name T D).mono (by omega)) (fns_cons hn (fns_cons ((h_is_one_of T D).mono (by omega)) (fns_cons ((h_is_number T D).mono (by omega)) fns_nil)))) (by
    rintro ss s Qd Ed ⟨k, c, n, m, rfl, _⟩
    rfl) ok_check_probe
theorem h_probe_of (T : TopOk K mg) (D : AllDefs K mg) : FnH S false P w K mg base q 1 "probe_of" sp_probe_of :=
  fn_def (G := G_probe_of) T D.probe_of sc_probe_of rfl rfl rfl rfl rfl (by decide +kernel) fns_nil (by
    rintro ss s Qd Ed ⟨k, c, m, n, b, rfl, _⟩
    rfl) ok_probe_of
/-- a probe's def, whichever: how it is called -/
structure ProbeH (P : Program) (w : World) (K : PySem.W.Frag) (mg : Str → Option Value) (base : Heap) (q : Wq S) (k : Nat) (x : Str) (b : Bool) : Prop where
  d : FnH S false P w K mg base q k x fun ss => spProbe b (ss ++ [.d (.str "probe")])
  k3 : FnKH S false P w K mg base q k x 3 ["called"] (spProbe b)
  k0 : FnKH S false P w K mg base q k x 0 ["called", "number", "code", "kind"] fun ss => spProbe b ss.reverse
theorem ProbeH.mono {j k : Nat} {x : Str} {b : Bool} (h : ProbeH P w K mg base q j x b) (l : j ≤ k) : ProbeH P w K mg base q k x b := ⟨h.d.mono l, h.k3.mono l, h.k0.mono l⟩
theorem srAll_rev {F : Hp} : ∀ {vs : List V} {ss : List Sl}, SrAll K F vs ss → SrAll K F vs.reverse ss.reverse
  | [], [], _ => True.intro
  | v :: vs, s :: ss, h => by
    rw [List.reverse_cons, List.reverse_cons]
    exact srAll_app (srAll_rev h.2) ⟨h.1, True.intro⟩
  | [], _ :: _, h => h.elim
  | _ :: _, [], h => h.elim
theorem probe_h {x : Str} {st : Stmt} {N : List Str} {b : Bool} {G : Gam S} (T : TopOk K mg) (D : ProbeAt K mg x st) (SC : FnScope N ["kind", "code", "number", "called"] (defScope st)) (hN : G.N = N) (hg : G.glob = gl0) (hf : G.free = fr0) (hr : G.rep = false) (hk : G.kfn = []) (ok : okSc (defScope st) = true)
    (fns : ∀ f sp, G.fns.lookup f = some sp → FnH S false P w K mg base q 4 f sp)
    (hw : ∀ ss s Q E, spProbe b ss s Q E → wB G 30 30 (defScope st) (startE G.N ss) s (defBody st) (fnO Q) E) : ProbeH P w K mg base q 5 x b := by
  obtain ⟨f, fd, F, hm, ⟨ds, hd, hb⟩, hb3, hb0⟩ := D.ex
  have g := fn_body (P := P) (w := w) (mg := mg) (base := base) q G 30 30 F SC hN ok (by rw [hf]; exact T.free) (by rw [hg]; exact T.glob) (k := 4) (by rw [hr]; exact fns) (by rw [hk]; exact kfs_nil) (spec := spProbe b) (by
    rintro ss s Qd Ed ⟨k, c, n, m, rfl, _⟩
    rfl) (by rw [← hN]; exact hw)
  rw [hr] at g
  refine ⟨g.fnd hb hd (ds := [.d (.str "probe")]) (fun F => ⟨.str _, True.intro⟩) hm F.kp, ?_, ?_⟩
  · refine g.fnk (gS := fun ss => ss) hb3 (fun F vs ss hl h => ?_) hm F.kp
    show SrAll K F (vs.take 3 ++ vs.drop 3) ss
    rw [List.take_append_drop]
    exact h
  · refine g.fnk (gS := fun ss => ss.reverse) hb0 (fun F vs ss hl h => ?_) hm F.kp
    show SrAll K F (vs.drop 0).reverse ss.reverse
    rw [List.drop_zero]
    exact srAll_rev h
theorem h_settled (T : TopOk K mg) (D : AllDefs K mg) (DP : ProbeAt K mg "settled_probe" s_settled_probe) (hn : FnH S false P w K mg base q 3 "need" sp_need) : ProbeH P w K mg base q 5 "settled_probe" true :=
  probe_h (G := G_settled_probe) T DP sc_settled_probe rfl rfl rfl rfl rfl (by decide +kernel) (fns_cons (h_check_probe T D hn) (fns_cons ((h_probe_of T D).mono (by omega)) fns_nil)) ok_settled_probe
theorem h_reach (T : TopOk K mg) (D : AllDefs K mg) (DP : ProbeAt K mg "reach_probe" s_reach_probe) (hn : FnH S false P w K mg base q 3 "need" sp_need) : ProbeH P w K mg base q 5 "reach_probe" false :=
  probe_h (G := G_reach_probe) T DP sc_reach_probe rfl rfl rfl rfl rfl (by decide +kernel) (fns_cons (h_check_probe T D hn) (fns_cons ((h_probe_of T D).mono (by omega)) fns_nil)) ok_reach_probe
/-- the comparison, by the depth of what is compared -/
theorem h_same (T : TopOk K mg) (D : AllDefs K mg) : ∀ m : Nat, m ≤ 50 → FnH S false P w K mg base q (m + 1) "_law_same" (spSm m) := by
  have many : ∀ m ss s Qd Ed, spSame (S := S) m ss s Qd Ed → ss.length = 2 := by
    rintro m ss s Qd Ed ⟨d, rfl, _⟩
    rfl
  intro m
  induction m with
  | zero =>
    intro _
    exact fn_def (k := 0) (G := ⟨["_law_told", "_law_due", "_law_fit", "_law_k"], gl0, [], fr0, [], false, false⟩) T D.same (haveI : Dpt := ⟨0⟩; sc_law_same) rfl rfl rfl rfl rfl (by decide +kernel) fns_nil (fun _ _ _ _ h => h.elim) fun _ _ _ _ h => h.elim
  | succ m ih =>
    intro hm
    letI : Dpt := ⟨m⟩
    exact fn_def (k := m + 1) (G := G_law_same) T D.same sc_law_same rfl rfl rfl rfl rfl (by decide +kernel) (fns_cons (ih (by omega)) fns_nil) (many m) (ok_law_same m (by omega) m (Nat.le_refl m))
end
end Z
set_option Elab.async false
set_option linter.all false
set_option maxRecDepth 100000
set_option maxHeartbeats 4000000
namespace Z
open PySem PySem.Spec PyProof.Rows L2 Evl
theorem pe_ex {X : Cx} {e : Expr} {I : Type} {t : I → TE} (h : ∀ i, PE X e (t i)) : PE X e (fun σ H Q => ∃ i, t i σ H Q) := ⟨fun pins s σ H Q J ⟨i, q⟩ => (h i).run pins s σ H Q J q⟩
section
variable {S : Type} {P : Program} {w : World} {K : PySem.W.Frag} {mg : Str → Option Value} {base : Heap}
/-- the context of a lambda's body -/
theorem ctx_lam (q : Wq S) (Γ : Gam S) {N : List Str} {qual : Str} {sc0 scope : Scope} {f0 : Addr} {cdv0 : Value} {A0 : Around} {outer0 : List Env} {sh0 : Shared} {H0 : Hp} {E0' : XK} {k : Nat}
    (L : LamX.LamS sc0 scope) (hN : Γ.N = N) (nd : N.Nodup) (ok : okSc scope = true) (hrep : Γ.rep = false)
    (free : ∀ x, Γ.free.contains x = true → mg x = none) (glob : ∀ x sl, Γ.glob.lookup x = some sl → ∃ v u, mg x = some u ∧ RelV v u ∧ ∀ F, Sr K F v sl)
    (fns : ∀ f spec, Γ.fns.lookup f = some spec → FnH S false P w K mg base q k f spec) (kfs : ∀ f n ks spec, kfOf Γ.kfn f n ks = some spec → FnKH S false P w K mg base q k f n ks spec)
    (A : Around) (outer : List Env) (s : Shared) (H : Hp) (E : XK) (f c' : Addr) (F1 H1 : Hp)
    (hr : Room k (A.deeper (LamX.lamEnv (cxOf (L2.CX P w) P w K mg base N qual sc0 f0 cdv0 A0 outer0 sh0 H0 E0') scope s.heap.objs.size f c'))) :
    CxOk (LamX.lamCx (cxOf (L2.CX P w) P w K mg base N qual sc0 f0 cdv0 A0 outer0 sh0 H0 E0') A outer s H E scope f c') (q.wd F1 H1 E) Γ scope := by
  have ps : Passes (L2.CX P w) (LamX.lamCx (cxOf (L2.CX P w) P w K mg base N qual sc0 f0 cdv0 A0 outer0 sh0 H0 E0') A outer s H E scope f c') E :=
    passes_call (X := LamX.lamCx (cxOf (L2.CX P w) P w K mg base N qual sc0 f0 cdv0 A0 outer0 sh0 H0 E0') A outer s H E scope f c') (takes_of rfl rfl rfl rfl) fun _ _ _ _ h => h
  refine ⟨rfl, hN.symm, by rw [hN]; exact nd, fun x h => h, fun x h => h, fun x h => h, fun x h => .inr h, fun x h => ?_, ok, free, glob, ?_, ?_, L.kind, passes_of (E₁ := fun e' s'' => L2.CX P w outer H s E e' s'') rfl, ?_, fun z => ?_⟩
  · exact ((L.own _ (PySem.mem_of_lookup h)).2 rfl).elim
  · intro g sp hgs
    obtain ⟨a, G, h1, h2⟩ := (fns g sp hgs).ex
    exact ⟨L2.CX P w, k, a, G.weak _, hr, h1, h2, ps, fun X' e1 e2 _ => passes_no X' e1 e2⟩
  · intro g n ks sp hgs
    obtain ⟨a, G, h1, h2⟩ := (kfs g n ks sp hgs).ex
    refine ⟨L2.CX P w, k, a, ?_, hr, h1, h2, ps, fun X' e1 e2 _ => passes_no X' e1 e2⟩
    rw [hrep]
    exact G
  · have := hr.un
    show (A.deeper (LamX.lamEnv (cxOf (L2.CX P w) P w K mg base N qual sc0 f0 cdv0 A0 outer0 sh0 H0 E0') scope s.heap.objs.size f c')).units + 66 < cLine
    omega
  · rw [hrep] at z
    cases z
end
/-- no own list among the slots -/
def noOwn (ε : En) : Prop := ∀ (i : Nat) (xs : List PyData), ε[i]? ≠ some (some (.own xs))
theorem er_move {S : Type} {K : PySem.W.Frag} {W W2 : Wd S} {F H H2 : Hp} {σ : L2.St} {ε : En} {ps : List Addr} (h : Er K W F H σ ε ps) : noOwn ε → Er K W2 F H2 σ ε W2.rs := by
  induction h with
  | nil => exact fun _ => .nil
  | no _ ih => exact fun n => .no (ih fun i xs z => n (i + 1) xs (by simpa using z))
  | d hd _ ih => exact fun n => .d hd (ih fun i xs z => n (i + 1) xs (by simpa using z))
  | t hd _ ih => exact fun n => .t hd (ih fun i xs z => n (i + 1) xs (by simpa using z))
  | v _ ih => exact fun n => .v (ih fun i xs z => n (i + 1) xs (by simpa using z))
  | own _ _ _ _ _ _ _ => exact fun n => (n 0 _ rfl).elim
section
variable {K : PySem.W.Frag}
/-- behind the making of a lambda -/
theorem KJ.lam {i : KW} {F H H1 : Hp} (ex : Ex F H) (j : KJ i F H) (e : LamX.ExtN H H1) (t : LamX.Tabs i.T H1) : Fm i.rs F H F H1 ∧ KJ i F H1 := by
  obtain ⟨t0, r0, k0, hp⟩ := j.fd
  refine ⟨⟨Ex.refl F, fun a o h => e a o (ex a o h) (j.nt a o h), fun a o c h => ?_, fun a o c h z => z, fun a o h => .inl h⟩, ⟨t0, r0, k0, e _ _ hp fun ps z => by cases z⟩, e _ _ j.cl fun ps z => (by cases z), t, j.nf, j.nt⟩
  rcases c with c | ⟨_, c⟩
  · cases c
  · exact e a o h c
theorem look_word (v w : V) : List.lookup ("word" : Str) [(("at" : Str), v), (("word" : Str), w)] = some w := by
  have h : (("word" : Str) == "at") = false := by decide +kernel
  have h2 : (("word" : Str) == "word") = true := by decide +kernel
  simp only [List.lookup, h, h2]
theorem look_at (v w : V) : List.lookup ("at" : Str) [(("at" : Str), v), (("word" : Str), w)] = some v := by
  have h2 : (("at" : Str) == "at") = true := by decide +kernel
  simp only [List.lookup, h2]
/-- what a def that hears makes of a lambda's word -/
theorem heard_ans {i : KW} {Γ : Gam Unit} {m : Nat} {lsc : Scope} {body : Expr} {W : Wd Unit} {F H : Hp} {σ : L2.St} {ε : En} {R : VK} {Qb : QS Unit} {Eb : QX Unit} (ex : Ex F H) (er : Ers K W F H σ ε) (no : noOwn ε) (j : KJ i F H)
    (w : wE Γ m false lsc ε () body Qb Eb) (h0 : ∀ sl s, Qb sl s → ∃ d, sl = .d d) (h2 : ∀ xr s, Eb xr s → ∃ w0, xr = xNU w0)
    (h1 : ∀ d F2 H2 v p, Fm i.rs F H F2 H2 → KJ i F2 H2 → Qb (.d d) () → Rp K F2 v d → H2 p = none → R (.ref p) (upd H2 p (.tup [.str "told", v])))
    (h3 : ∀ w0 F2 H2 p, Fm i.rs F H F2 H2 → KJ i F2 H2 → Eb (xNU w0) () → H2 p = none → R (.ref p) (upd H2 p (.tup [.str "use", .str w0, .int (-1)]))) :
    LamX.tLam i.T (tHeard i.C) (fun E σ H Q => ∃ z : Hp × Hp, tWE K ((kQ i).wd z.1 z.2 E) Γ m lsc body σ H Q) σ H R := by
  refine ⟨j.tb, fun H1 eN T1 => ?_⟩
  obtain ⟨fm0, j1⟩ := j.lam ex eN T1
  obtain ⟨ps, er⟩ := er
  refine ⟨(F, H1), ε, (), Qb, Eb, F, w, ⟨fm0.fh, ⟨_, er_move er no⟩, j1, ?_⟩, ?_⟩
  · intro xr s2 F2 H2 dx C vs fm j2 e hc hd rv
    obtain ⟨w0, rfl⟩ := h2 xr s2 e
    have hC : C = i.C := by
      have z : (if ("NotUsable" : Str) = "NotUsable" then some i.C else none) = some C := hc
      rw [if_pos rfl] at z
      exact (Option.some.inj z).symm
    subst hC
    cases rv with
    | @cons v1 vs1 _ _ r1 rr =>
      cases rr with
      | @cons v2 vs2 _ _ r2 rr2 =>
        cases rr2
        have r1' : Rp K F2 v1 (.int (-1)) := r1
        have r2' : Rp K F2 v2 (.str w0) := r2
        cases r1'
        cases r2'
        refine ⟨dx, _, .str w0, .int (-1), rfl, rfl, hd, look_word _ _, look_at _ _, fun p hp => h3 w0 F2 H2 p (fm0.trans fm) j2 e hp⟩
  · intro v sl s2 F2 H2 fm j2 q r
    obtain ⟨d, rfl⟩ := h0 sl s2 q
    exact ⟨sz_of (by show 2 ≤ 100000; decide), fun p hp => h1 d F2 H2 v p (fm0.trans fm) j2 q r hp⟩
end
end Z
set_option Elab.async false
set_option linter.all false
set_option maxRecDepth 100000
set_option maxHeartbeats 4000000
namespace Z
open PySem PySem.Spec PyProof.Rows L2 Evl
/-! ### words of printed bodies: lists of one's own -/
def nlD (x : Sl) (Q : PyData → Prop) : Prop := match x with
  | .d d => Nl d ∧ Q d
  | _ => False
def ixO (k : Sl) (n : Nat) (Q : Nat → Prop) : Prop := match k with
  | .d (.int k) => (match ixN n k with
    | some j => Q j
    | none => False)
  | _ => False
def cat2 (x y : Sl) (Q : List PyData → Prop) : Prop := match x, y with
  | .d (.list xs), .d (.list ys) => xs.length + ys.length ≤ sizeLine ∧ Q (xs ++ ys)
  | _, _ => False
section
variable {S : Type}
def loopF (Γ : Gam S) (m n : Nat) (sc : Scope) (sl : Bool × List Nat) (body : List Stmt) (E : QX S) : PyData → En → S → (Out → S → Prop) → Prop := fun x ε s k => match bindS sl x ε with
  | none => False
  | some ε2 => wB Γ m n sc ε2 s body k E
def forBody : Stmt → List Stmt
  | .For _ _ b _ _ => b
  | _ => []
theorem wFor_steps {f : PyData → En → S → (Out → S → Prop) → Prop} {I : Nat → En → Prop} {s : S} {O : Out → S → Prop} : ∀ (xs : List PyData) (n : Nat) (ε : En), I n ε →
    (∀ x ε i k, i < n + xs.length → I i ε → (∀ ε2, I (i + 1) ε2 → k (.nx ε2) s) → f x ε s k) → (∀ ε, I (n + xs.length) ε → O (.nx ε) s) → wFor f xs ε s O
  | [], n, ε, i, _, y => y ε i
  | x :: xs, n, ε, i, h, y => h x ε n _ (by rw [List.length_cons]; omega) i fun ε2 i2 => wFor_steps xs (n + 1) ε2 i2 (fun x ε j k hj => h x ε j k (by rw [List.length_cons]; omega)) fun ε3 i3 => y ε3 (by
    rw [List.length_cons]
    have e : n + (xs.length + 1) = n + 1 + xs.length := by omega
    rw [e]
    exact i3)
end
end Z
set_option Elab.async false
set_option linter.all false
set_option maxRecDepth 100000
set_option maxHeartbeats 4000000
namespace Z
open PySem PySem.Spec PyProof.Rows L2 Evl
section
variable {S : Type} 

abbrev s_law_probe : Stmt := top 24
theorem sc_law_probe : FnScope ["_law_title", "_law_ending", "_law_count", "_law_name", "_law_far", "_law_places", "_law_size", "_law_targets", "_law_k"] ["_law_title", "_law_ending", "_law_count", "_law_name", "_law_far"] (defScope s_law_probe) := ⟨rfl, rfl, rfl, by decide +kernel, rfl, by decide +kernel, by decide +kernel⟩
abbrev G_law_probe : Gam S := ⟨["_law_title", "_law_ending", "_law_count", "_law_name", "_law_far", "_law_places", "_law_size", "_law_targets", "_law_k"], gl0, [], fr0, [], false, false⟩
theorem f_law_probe (d0 : PyData) (d1 : PyData) (d2 : PyData) (d3 : PyData) (d4 : PyData) (s : S) (Q : QS S) (E : QX S) : wB G_law_probe 30 30 (defScope s_law_probe) (startE ["_law_title", "_law_ending", "_law_count", "_law_name", "_law_far", "_law_places", "_law_size", "_law_targets", "_law_k"] [.d d0, .d d1, .d d2, .d d3, .d d4]) s (defBody s_law_probe) (fnO Q) E = (
(List.length ([(.str "fork"), d0, (.str "x"), (.str "a"), (.int 1)] : List PyData)) ≤ sizeLine ∧
(List.length ([(.tuple [(.str "fork"), d0, (.str "x"), (.str "a"), (.int 1)])] : List PyData)) ≤ sizeLine ∧
(List.length ([(.str "kill"), (.str "a"), (.int 2)] : List PyData)) ≤ sizeLine ∧
(List.length ([(.tuple [(.str "kill"), (.str "a"), (.int 2)])] : List PyData)) ≤ sizeLine ∧
dcmp .Eq (.d d1) (.d (.int 2)) fun c1 =>
dcall .int_ [(.d (.bool c1))] fun z2 =>
dbin .Mult (.d (.list [(.tuple [(.str "kill"), (.str "a"), (.int 2)])])) z2 fun z3 =>
cat2 (.d (.list [(.tuple [(.str "fork"), d0, (.str "x"), (.str "a"), (.int 1)])])) z3 fun ds4 =>
dbin .Add (.d d2) (.d (.int 4)) fun z5 =>
dcmp .Eq (.d d1) (.d (.int 2)) fun c6 =>
dcall .int_ [(.d (.bool c6))] fun z7 =>
dbin .Add z5 z7 fun z8 =>
dbin .Sub z8 (.d (.int 1)) fun z9 =>
dbin .Sub z8 (.d (.int 1)) fun z10 =>
dbin .Sub z8 (.d (.int 1)) fun z11 =>
allD [z9, z10, z11] fun ds12 => ds12.length ≤ sizeLine ∧
dcall .len [(.d (.list ds4))] fun z13 =>
dbin .Add z13 (.d (.int 1)) fun z14 =>
nlD z14 fun d15 =>
ixO (.d d1) (List.length (ds12 : List PyData)) fun j16 =>
(List.length ([(.str "a")] : List PyData)) ≤ sizeLine ∧
dcall .tuple_ [(.d (.list (List.set ds12 j16 d15)))] fun z17 =>
dbin .Add (.d (.tuple [(.str "a")])) z17 fun z18 =>
allD [z18] fun ds19 => ds19.length ≤ sizeLine ∧
dbin .Sub z8 (.d (.int 1)) fun z20 =>
(List.length ([] : List PyData)) ≤ sizeLine ∧
allD [(.d (.str "wait")), (.d (.tuple ds19)), (.d (.int (-1))), z20, (.d (.tuple []))] fun ds21 => ds21.length ≤ sizeLine ∧
nlD (.d (.tuple ds21)) fun d22 => List.length ds4 < 100000 ∧
dbin .Sub (.d d2) (.d (.int 1)) fun z23 =>
rangeS1 z23 fun xs24 =>
wFor (loopF G_law_probe 30 24 (defScope s_law_probe) (false, [8]) (forBody ((defBody s_law_probe).getD 5 (.Pass ⟨0, 0, 0, 0⟩))) E) xs24 [some (.d d0), some (.d d1), some (.d d2), some (.d d3), some (.d d4), some (.own (ds4 ++ [d22])), some z8, some (.own (List.set ds12 j16 d15)), none] s (wThen (fun ε s => wB G_law_probe 30 24 (defScope s_law_probe) ε s ((defBody s_law_probe).drop 6) (fnO Q) E) (fnO Q))) := by kernel_rfl

theorem f_law_probe_b5 (d0 : PyData) (d1 : PyData) (d2 : PyData) (d3 : PyData) (d4 : PyData) (c6 : PyData) (c7 : List PyData) (c5 : List PyData) (o8 : Option Sl) (x : PyData) (s : S) (k : Out → S → Prop) (E : QX S) : loopF G_law_probe 30 24 (defScope s_law_probe) (false, [8]) (forBody ((defBody s_law_probe).getD 5 (.Pass ⟨0, 0, 0, 0⟩))) E x [some (.d d0), some (.d d1), some (.d d2), some (.d d3), some (.d d4), some (.own c5), some (.d c6), some (.own c7), o8] s k = (
(List.length ([] : List PyData)) ≤ sizeLine ∧
dcall .len [(.d (.list c5))] fun z25 =>
dbin .Add z25 (.d (.int 1)) fun z26 =>
dbin .Sub (.d c6) (.d (.int 1)) fun z27 =>
(List.length ([] : List PyData)) ≤ sizeLine ∧
allD [(.d (.str "wait")), (.d (.tuple [])), z26, z27, (.d (.tuple []))] fun ds28 => ds28.length ≤ sizeLine ∧
nlD (.d (.tuple ds28)) fun d29 => List.length c5 < 100000 ∧
k (.nx [some (.d d0), some (.d d1), some (.d d2), some (.d d3), some (.d d4), some (.own (c5 ++ [d29])), some (.d c6), some (.own c7), some (.d x)]) s) := by kernel_rfl

theorem f_law_probe_a5 (d0 : PyData) (d1 : PyData) (d2 : PyData) (d3 : PyData) (d4 : PyData) (c6 : PyData) (c7 : List PyData) (c5 : List PyData) (o8 : Option Sl) (s : S) (Q : QS S) (E : QX S) : wB G_law_probe 30 24 (defScope s_law_probe) [some (.d d0), some (.d d1), some (.d d2), some (.d d3), some (.d d4), some (.own c5), some (.d c6), some (.own c7), o8] s ((defBody s_law_probe).drop 6) (fnO Q) E = (
dtru (.d d4) fun b30 =>
bif2 b30 ((List.length ([] : List PyData)) ≤ sizeLine ∧
dbin .Sub (.d c6) (.d (.int 1)) fun z31 =>
dbin .Sub (.d c6) (.d (.int 1)) fun z32 =>
dbin .Sub (.d c6) (.d (.int 2)) fun z33 =>
(List.length ([] : List PyData)) ≤ sizeLine ∧
allD [(.d (.str "poll")), (.d (.tuple [])), z31, z32, z33, (.d (.tuple []))] fun ds34 => ds34.length ≤ sizeLine ∧
nlD (.d (.tuple ds34)) fun d35 => List.length c5 < 100000 ∧
(List.length ([(.str "a")] : List PyData)) ≤ sizeLine ∧
(List.length ([(.str "exit"), (.int 0)] : List PyData)) ≤ sizeLine ∧
(List.length ([(.str "exit"), (.int 1)] : List PyData)) ≤ sizeLine ∧
(List.length ([(.tuple [(.str "exit"), (.int 0)]), (.tuple [(.str "exit"), (.int 1)])] : List PyData)) ≤ sizeLine ∧
dbin .Add (.d (.list (c5 ++ [d35]))) (.d (.list [(.tuple [(.str "exit"), (.int 0)]), (.tuple [(.str "exit"), (.int 1)])])) fun z36 =>
dcall .tuple_ [z36] fun z37 =>
allD [(.d d3), (.d (.tuple [(.str "a")])), z37] fun ds38 => ds38.length ≤ sizeLine ∧
dbin .Sub (.d c6) (.d (.int 2)) fun z39 =>
allD [(.d (.tuple ds38)), z39] fun ds40 => ds40.length ≤ sizeLine ∧
Q (.d (.tuple ds40)) s) ((List.length ([] : List PyData)) ≤ sizeLine ∧
dbin .Sub (.d c6) (.d (.int 1)) fun z41 =>
dbin .Sub (.d c6) (.d (.int 2)) fun z42 =>
(List.length ([] : List PyData)) ≤ sizeLine ∧
allD [(.d (.str "wait")), (.d (.tuple [])), z41, z42, (.d (.tuple []))] fun ds43 => ds43.length ≤ sizeLine ∧
nlD (.d (.tuple ds43)) fun d44 => List.length c5 < 100000 ∧
(List.length ([(.str "a")] : List PyData)) ≤ sizeLine ∧
(List.length ([(.str "exit"), (.int 0)] : List PyData)) ≤ sizeLine ∧
(List.length ([(.str "exit"), (.int 1)] : List PyData)) ≤ sizeLine ∧
(List.length ([(.tuple [(.str "exit"), (.int 0)]), (.tuple [(.str "exit"), (.int 1)])] : List PyData)) ≤ sizeLine ∧
dbin .Add (.d (.list (c5 ++ [d44]))) (.d (.list [(.tuple [(.str "exit"), (.int 0)]), (.tuple [(.str "exit"), (.int 1)])])) fun z45 =>
dcall .tuple_ [z45] fun z46 =>
allD [(.d d3), (.d (.tuple [(.str "a")])), z46] fun ds47 => ds47.length ≤ sizeLine ∧
dbin .Sub (.d c6) (.d (.int 2)) fun z48 =>
allD [(.d (.tuple ds47)), z48] fun ds49 => ds49.length ≤ sizeLine ∧
Q (.d (.tuple ds49)) s)) := by kernel_rfl

end
end Z
set_option Elab.async false
set_option linter.all false
set_option maxRecDepth 100000
set_option maxHeartbeats 1000000
namespace Z
open PySem PySem.Spec PyProof.Rows L2 Evl
section
variable {S : Type}
def sp_law_probe : Fsp S := fun ss s Q _ => ∃ k c m, ∃ n : Nat, ∃ b, ss = [.d (.str k), .d (.int c), .d (.int (n + 1 : Nat)), .d (.str m), .d (.bool b)] ∧ 0 ≤ c ∧ c ≤ 2 ∧ n ≤ 70 ∧ Q (.d (probeD (.str k) c n (.str m) (!b))) s
theorem sub_i {a b : Int} {Q : Sl → Prop} : dbin .Sub (.d (.int a)) (.d (.int b)) Q = Q (.d (.int (a - b))) := rfl
theorem int_b {b : Bool} {Q : Sl → Prop} : dcall .int_ [.d (.bool b)] Q = Q (.d (.int (if b then 1 else 0))) := rfl
theorem tuple_i {xs : List PyData} {Q : Sl → Prop} : dcall .tuple_ [.d (.list xs)] Q = Q (.d (.tuple xs)) := rfl
theorem add_t {a b : List PyData} {Q : Sl → Prop} : dbin .Add (.d (.tuple a)) (.d (.tuple b)) Q = (a.length + b.length ≤ sizeLine ∧ Q (.d (.tuple (a ++ b)))) := rfl
theorem add_l {a b : List PyData} {Q : Sl → Prop} : dbin .Add (.d (.list a)) (.d (.list b)) Q = (a.length + b.length ≤ sizeLine ∧ Q (.d (.list (a ++ b)))) := rfl
theorem mul_l {a xs : List PyData} {k : Int} {Q : Sl → Prop} (h : -(2 ^ 63) ≤ k) (h2 : k < 2 ^ 63) (h3 : a.length * k.toNat ≤ sizeLine) (e : (List.replicate k.toNat a).flatten = xs) (q : Q (.d (.list xs))) : dbin .Mult (.d (.list a)) (.d (.int k)) Q := by
  subst e
  exact ⟨h, h2, h3, q⟩
theorem cat2_i {xs ys zs : List PyData} {Q : List PyData → Prop} (h : xs ++ ys = zs) (l : xs.length + ys.length ≤ sizeLine) (q : Q zs) : cat2 (.d (.list xs)) (.d (.list ys)) Q := by
  subst h
  exact ⟨l, q⟩
theorem ixO_i {n : Nat} {k : Int} {j : Nat} {Q : Nat → Prop} (h : ixN n k = some j) (q : Q j) : ixO (.d (.int k)) n Q := by
  show (match ixN n k with
    | some j => Q j
    | none => False)
  rw [h]
  exact q
theorem nl_nil : ∀ d ∈ ([] : List PyData), Nl d := fun _ h => nomatch h
theorem nl_cons {x : PyData} {xs : List PyData} (h : Nl x) (t : ∀ d ∈ xs, Nl d) : ∀ d ∈ x :: xs, Nl d := fun d hd => by
  rcases List.mem_cons.mp hd with rfl | hd
  · exact h
  · exact t d hd
theorem prB_len {k : PyData} {c : Int} : ((prB k c).length : Int) = prT c := by
  unfold prB prT
  by_cases e : c = 2 <;> simp [e]
theorem prT_b {c : Int} : 1 ≤ prT c ∧ prT c ≤ 2 := by
  unfold prT
  by_cases e : c = 2 <;> simp [e]
theorem tgt {c L : Int} (h0 : 0 ≤ c) (h2 : c ≤ 2) : List.set [PyData.int L, PyData.int L, PyData.int L] c.toNat (PyData.int (prT c + 1)) = [prW c L 0, prW c L 1, prW c L 2] := by
  have h : c = 0 ∨ c = 1 ∨ c = 2 := by omega
  rcases h with rfl | rfl | rfl <;> simp [prW, prT]
theorem prO_succ {c L : Int} {i : Nat} : prO c L (i + 1) = prO c L i ++ [.tuple [.str "wait", .tuple [], .int (prT c + 2 + (i : Int)), .int L, .tuple []]] := by
  unfold prO
  rw [List.range_succ, List.map_append]
  rfl
theorem prO_len {c L : Int} {i : Nat} : (prO c L i).length = i := by simp [prO]
theorem ok_law_probe : Wok (S := S) G_law_probe s_law_probe sp_law_probe := by
  rintro ss s Q E ⟨k, c, m, n, b, rfl, h0, h2, hn, hq⟩
  have tb := prT_b (c := c)
  have pl := prB_len (k := .str k) (c := c)
  have pl2 : (prB (.str k) c).length ≤ 2 := by omega
  have hix : ixN 3 c = some c.toNat := by
    have h : c = 0 ∨ c = 1 ∨ c = 2 := by omega
    rcases h with rfl | rfl | rfl <;> decide
  refine Eq.mpr (f_law_probe _ _ _ _ _ s Q E) ⟨le100s (by simp), le100s (by simp), le100s (by simp), le100s (by simp), ?_⟩
  rw [dEq_i, int_b]
  refine mul_l (xs := if c = 2 then [.tuple [.str "kill", .str "a", .int 2]] else []) (by split <;> decide) (by split <;> decide) (le100s (by by_cases e : c = 2 <;> simp [e])) (by by_cases e : c = 2 <;> simp [e]) ?_
  refine cat2_i (zs := prB (.str k) c) rfl (le100s (by by_cases e : c = 2 <;> simp [e])) ?_
  rw [add_i, dEq_i, int_b, add_i]
  have hsz : ((n + 1 : Nat) : Int) + 4 + (if decide (c = 2) = true then 1 else 0) = prT c + n + 4 := by
    unfold prT
    by_cases e : c = 2 <;> simp [e] <;> omega
  rw [hsz, sub_i, sub_i, sub_i]
  have hs1 : prT c + (n : Int) + 4 - 1 = prT c + n + 3 := by omega
  have hs2 : prT c + (n : Int) + 4 - 2 = prT c + n + 2 := by omega
  rw [hs1]
  refine allD_i rfl ⟨le100s (by simp), ?_⟩
  rw [dL_l, pl, add_i]
  refine ⟨.int _, ixO_i hix ⟨le100s (by simp), ?_⟩⟩
  rw [tgt h0 h2, tuple_i, add_t]
  refine ⟨le100s (by simp), allD_i rfl ⟨le100s (by simp), ?_⟩⟩
  rw [sub_i, hs1]
  refine ⟨le100s (by simp), allD_i rfl ⟨le100s (by simp), ?_⟩⟩
  refine ⟨?_, by omega, ?_⟩
  · repeat' first | exact Nl.int _ | exact Nl.str _ | exact nl_nil | apply Nl.tup | apply nl_cons
  rw [sub_i]
  refine ⟨by omega, by omega, ?_⟩
  have rl : (rangeD 0 (((n + 1 : Nat) : Int) - 1)).length = n := by
    rw [range_len]
    omega
  refine wFor_steps (I := fun i ε => ∃ o8, ε = [some (.d (.str k)), some (.d (.int c)), some (.d (.int (n + 1 : Nat))), some (.d (.str m)), some (.d (.bool b)), some (.own (prB (.str k) c ++ prF c (prT c + n + 3) :: prO c (prT c + n + 3) i)), some (.d (.int (prT c + n + 4))), some (.own [prW c (prT c + n + 3) 0, prW c (prT c + n + 3) 1, prW c (prT c + n + 3) 2]), o8]) _ 0 _ ⟨none, rfl⟩ ?_ ?_
  · rintro x ε i kk hi ⟨o8, rfl⟩ y
    rw [rl] at hi
    refine Eq.mpr (f_law_probe_b5 _ _ _ _ _ _ _ _ o8 x s kk E) ⟨le100s (by simp), ?_⟩
    rw [dL_l, add_i, sub_i, hs1]
    refine ⟨le100s (by simp), allD_i rfl ⟨le100s (by simp), ?_, ?_, y _ ⟨some (.d x), ?_⟩⟩⟩
    · repeat' first | exact Nl.int _ | exact Nl.str _ | exact nl_nil | apply Nl.tup | apply nl_cons
    · rw [List.length_append, List.length_cons, prO_len]
      omega
    · have e : (((prB (.str k) c ++ prF c (prT c + n + 3) :: prO c (prT c + n + 3) i).length : Nat) : Int) + 1 = prT c + 2 + (i : Int) := by
        rw [List.length_append, List.length_cons, prO_len]
        omega
      rw [e, prO_succ, List.append_assoc, List.cons_append]
  · rintro ε ⟨o8, rfl⟩
    rw [rl, Nat.zero_add]
    show wB G_law_probe 30 24 (defScope s_law_probe) [some (.d (.str k)), some (.d (.int c)), some (.d (.int (n + 1 : Nat))), some (.d (.str m)), some (.d (.bool b)), some (.own (prB (.str k) c ++ prF c (prT c + n + 3) :: prO c (prT c + n + 3) n)), some (.d (.int (prT c + n + 4))), some (.own [prW c (prT c + n + 3) 0, prW c (prT c + n + 3) 1, prW c (prT c + n + 3) 2]), o8] s ((defBody s_law_probe).drop 6) (fnO Q) E
    refine Eq.mpr (f_law_probe_a5 _ _ _ _ _ _ _ _ o8 s Q E) ?_
    rw [dT_b]
    have ln : (prB (.str k) c ++ prF c (prT c + n + 3) :: prO c (prT c + n + 3) n).length ≤ 80 := by
      rw [List.length_append, List.length_cons, prO_len]
      omega
    have fin : ∀ z : PyData, (prB (.str k) c ++ prF c (prT c + n + 3) :: prO c (prT c + n + 3) n) ++ [z] ++ [PyData.tuple [.str "exit", .int 0], .tuple [.str "exit", .int 1]] = prB (.str k) c ++ (prF c (prT c + n + 3) :: (prO c (prT c + n + 3) n ++ [z, .tuple [.str "exit", .int 0], .tuple [.str "exit", .int 1]])) := fun z => by simp
    unfold probeD at hq
    cases b with
    | true =>
      refine ⟨le100s (by simp), ?_⟩
      rw [sub_i, sub_i, sub_i, hs1, hs2]
      refine ⟨le100s (by simp), allD_i rfl ⟨le100s (by simp), ?_, by omega, le100s (by simp), le100s (by simp), le100s (by simp), le100s (by simp), ?_⟩⟩
      · repeat' first | exact Nl.int _ | exact Nl.str _ | exact nl_nil | apply Nl.tup | apply nl_cons
      rw [add_l]
      refine ⟨le100s (by rw [List.length_append]; simp only [List.length_cons, List.length_nil]; omega), ?_⟩
      rw [tuple_i]
      refine allD_i rfl ⟨le100s (by simp), ?_⟩
      rw [sub_i, hs2]
      refine allD_i rfl ⟨le100s (by simp), ?_⟩
      rw [fin]
      exact hq
    | false =>
      refine ⟨le100s (by simp), ?_⟩
      rw [sub_i, sub_i, hs1, hs2]
      refine ⟨le100s (by simp), allD_i rfl ⟨le100s (by simp), ?_, by omega, le100s (by simp), le100s (by simp), le100s (by simp), le100s (by simp), ?_⟩⟩
      · repeat' first | exact Nl.int _ | exact Nl.str _ | exact nl_nil | apply Nl.tup | apply nl_cons
      rw [add_l]
      refine ⟨le100s (by rw [List.length_append]; simp only [List.length_cons, List.length_nil]; omega), ?_⟩
      rw [tuple_i]
      refine allD_i rfl ⟨le100s (by simp), ?_⟩
      rw [sub_i, hs2]
      refine allD_i rfl ⟨le100s (by simp), ?_⟩
      rw [fin]
      exact hq
end
end Z
set_option Elab.async false
set_option linter.all false
set_option maxRecDepth 100000
set_option maxHeartbeats 1000000
namespace Z
open PySem PySem.Spec PyProof.Rows L2 Evl
theorem FunD_okL {P : Program} {w : World} {K : PySem.W.Frag} {mg : Str → Option Value} {base : Heap} {x qual : Str} {params : Arguments} {body : List Stmt} {scope : Scope} {dvs : List V} {kws : List (Str × V)} {f : Addr} {fd : FuncData}
    {CX : CXT} {N ps : List Str} {k : Nat} {sp : Sp} (F : FunD K x qual params body scope dvs kws f fd) (SC : FnScope N ps scope) (many : ∀ vs H Q E, sp vs H Q E → vs.length = ps.length)
    (hb : ∀ (cdv : Value), (∃ oc od dV kV doc pm an ct osl, K.lookup f = some ⟨oc, od, .func (PySem.W.fnOf x qual params body scope dV kV doc pm an cdv ct), osl⟩) → ∀ (A : Around) (outer : List Env) (s : Shared) (H : Hp) (vs : List V) (Q : VK) (E : XK), Room k (A.deeper (envOfC qual scope s.heap.objs.size f cdv)) → sp vs H Q E →
      ∃ t, PSs (cxOf CX P w K mg base N qual scope f cdv A outer s H E) body t ∧ t { nx := fun _ H' => Q .non H', rt := Q } (start N vs) H) : FnG false P w K mg base CX (k + 1) f fd ps sp := by
  obtain ⟨oc, od, dV, kV, doc, pm, an, cdv, ct, osl, rfl, lk, hcd, h4, h5⟩ := F.ex
  have ok : FnOk P w K mg base CX (k + 1) f _ ps sp := fn_of lk hcd SC many fun A outer s H vs Q E hr hsp => hb cdv ⟨oc, od, dV, kV, doc, pm, an, ct, osl, lk⟩ A outer s H vs Q E hr hsp
  exact ⟨ok.len, fun A outer s H args us vs Q E _ hr he hb hv q => ok.run A outer s H args us vs Q E hr he hb hv q⟩
/-- where a def with lambdas stands: its table is at P -/
structure LamAt (K : PySem.W.Frag) (mg : Str → Option Value) (base : Heap) (x : Str) (st : Stmt) (ps : List Str) (P : Addr) : Prop where
  ex : ∃ f fd, FunD K x x (defArgs st) (defBody st) (defScope st) [] [] f fd ∧ mg x = some (.ref f) ∧ Binds K fd ps [] ∧
    ∀ cdv, (∃ oc od dV kV doc pm an ct osl, K.lookup f = some ⟨oc, od, .func (PySem.W.fnOf x x (defArgs st) (defBody st) (defScope st) dV kV doc pm an cdv ct), osl⟩) → ∃ c, cdv = .ref c ∧ LamX.TabB base mg c P
/-! ### both probes refuse -/
abbrev s_ref : Stmt := top 25
abbrev N_ref : List Str := ["_law_title", "_law_ending", "_law_count", "_law_name", "_law_word", "_law_due"]
theorem sc_ref : FnScope N_ref ["_law_title", "_law_ending", "_law_count", "_law_name", "_law_word"] (defScope s_ref) := ⟨rfl, rfl, rfl, by decide +kernel, rfl, by decide +kernel, by decide +kernel⟩
def lamE : Expr → Option (Expr × Scope)
  | .Call _ (.Call _ [.Lambda _ b sc _] _ _ :: _) _ _ => some (b, sc)
  | _ => none
def lamSt : Stmt → Expr × Scope
  | .If (.UnaryOp .Not e _) _ _ _ => (lamE e).getD (.Constant .none 0 ⟨0, 0, 0, 0⟩, defScope s_ref)
  | .Return (some e) _ => (lamE e).getD (.Constant .none 0 ⟨0, 0, 0, 0⟩, defScope s_ref)
  | _ => (.Constant .none 0 ⟨0, 0, 0, 0⟩, defScope s_ref)
abbrev lam1 : Expr × Scope := lamSt ((defBody s_ref).getD 1 (.Pass ⟨0, 0, 0, 0⟩))
abbrev lam2 : Expr × Scope := lamSt ((defBody s_ref).getD 2 (.Pass ⟨0, 0, 0, 0⟩))
abbrev G_ref : Gam Unit := ⟨N_ref, gl0, [("_law_same", spSm 2)], fr0, [(("settled_probe", 3, ["called"]), spProbe true), (("reach_probe", 3, ["called"]), spProbe false)], false, false⟩
theorem f_lam1 (d0 d1 d2 d3 d4 d5 : PyData) (Q : QS Unit) (E : QX Unit) : wE G_ref 30 false lam1.2 [some (.d d0), some (.d d1), some (.d d2), some (.d d3), some (.d d4), some (.d d5)] () lam1.1 Q E = (([.d d0, .d d1, .d d2] : List Sl).length = 3 ∧ ([.d d3] : List Sl).length = 1 ∧ spProbe true [.d d0, .d d1, .d d2, .d d3] () Q E) := by kernel_rfl
theorem f_lam2 (d0 d1 d2 d3 d4 d5 : PyData) (Q : QS Unit) (E : QX Unit) : wE G_ref 30 false lam2.2 [some (.d d0), some (.d d1), some (.d d2), some (.d d3), some (.d d4), some (.d d5)] () lam2.1 Q E = (([.d d0, .d d1, .d d2] : List Sl).length = 3 ∧ ([.d d3] : List Sl).length = 1 ∧ spProbe false [.d d0, .d d1, .d d2, .d d3] () Q E) := by kernel_rfl
theorem lam1S : LamX.LamS (defScope s_ref) lam1.2 := LamX.lamS_by (by decide +kernel)
theorem lam2S : LamX.LamS (defScope s_ref) lam2.2 := LamX.lamS_by (by decide +kernel)
end Z
set_option Elab.async false
set_option linter.all false
set_option maxRecDepth 100000
set_option maxHeartbeats 1000000
namespace Z
open PySem PySem.Spec PyProof.Rows L2 Evl
abbrev dueD (wd : Str) : PyData := .tuple [.str "use", .str wd, .int (-1)]
def sp_ref : Fsp Unit := fun ss s Q _ => ∃ k c n m wd, ss = [.d k, .d c, .d n, .d m, .d (.str wd)] ∧ Ok k ∧ Ok c ∧ Ok n ∧ Ok m ∧ badW k c n m = some wd ∧ okD 100 1 (dueD wd) = true ∧ (∀ n0 : Nat, n = .int (n0 + 1 : Nat) → n0 ≤ 70) ∧ Q (.d (.bool true)) s
theorem probe_bad {b : Bool} {k c n m : PyData} {wd : Str} (hk : Ok k) (hc : Ok c) (hn : Ok n) (hm : Ok m) (hb : badW k c n m = some wd) (h70 : ∀ n0 : Nat, n = .int (n0 + 1 : Nat) → n0 ≤ 70) : spProbe (S := Unit) b [.d k, .d c, .d n, .d m] () (fun _ _ => False) (fun xr _ => xr = xNU wd) :=
  ⟨k, c, n, m, rfl, hk, hc, hn, hm, fun k0 c0 m0 n0 _ _ _ e => ⟨h70 n0 e, fun h => by rw [hb] at h; cases h⟩, fun w h => by
    rw [hb] at h
    cases h
    rfl⟩
section
variable {P : Program} {w : World} {K : PySem.W.Frag} {mg : Str → Option Value} {base : Heap}
def tLm (K : PySem.W.Frag) (i : KW) (Γ : Gam Unit) (lm : Expr × Scope) : XK → TE := fun E σ H Q => ∃ z : Hp × Hp, tWE K ((kQ i).wd z.1 z.2 E) Γ 30 lm.2 lm.1 σ H Q
/-- a lambda that raises is heard, and what is heard is as it should be -/
theorem hear_go {i : KW} {Γ : Gam Unit} {lm : Expr × Scope} {W : Wd Unit} (hrs : W.rs = i.rs) (hJ : W.J = fun _ F H => KJ i F H) {due : Expr} {sc : Scope} {F H : Hp} {σ : L2.St} {ε : En} {wd : Str} {R : VK} {E : XK} {cls : Str → Option Addr}
    (ex : Ex F H) (er : Ers K W F H σ ε) (no : noOwn ε) (j : KJ i F H)
    (wl : wE Γ 30 false lm.2 ε () lm.1 (fun _ _ => False) (fun xr _ => xr = xNU wd))
    (wdue : ∀ Q Ed, wE Γ 30 false sc ε () due Q Ed = Q (.d (dueD wd)) ())
    (hd : okD 100 1 (dueD wd) = true) (fin : ∀ F2 H2, Fm i.rs F H F2 H2 → KJ i F2 H2 → R (.bl true) H2) :
    LamX.tLam i.T (tHeard i.C) (tLm K i Γ lm) σ H fun v H1 => tWE K W Γ 30 sc due σ H1 fun u H2 => spOf K i.rs (fun (_ : Unit) F H => KJ i F H) cls (spSm 2) [v, u] H2 R E := by
  refine heard_ans (W := W) ex er no j wl (fun sl s h => h.elim) (fun xr s h => ⟨wd, h⟩) (fun d F2 H2 v p _ _ h => h.elim) ?_
  intro w0 F3 H3 p m3 j3 hw hp
  have ew : w0 = wd := by
    have h : xNU w0 = xNU wd := hw
    unfold xNU at h
    simpa using h
  subst ew
  have nf := fresh_back m3.fh hp
  have mn : Fm i.rs F3 H3 (upd F3 p (.tup [.str "use", .str w0, .int (-1)])) (upd H3 p (.tup [.str "use", .str w0, .int (-1)])) := Fm.new m3.fh hp
  have m4 := m3.trans mn
  have j4 : KJ i (upd F3 p (.tup [.str "use", .str w0, .int (-1)])) (upd H3 p (.tup [.str "use", .str w0, .int (-1)])) := by
    have q : W.J () F3 H3 := by rw [hJ]; exact j3
    have q2 := Wd.pure (W := W) q (Fm.new (rs := []) (o := .tup [.str "use", .str w0, .int (-1)]) m3.fh hp)
    rw [hJ] at q2
    exact q2
  have rp : Rp K (upd F3 p (.tup [.str "use", .str w0, .int (-1)])) (.ref p) (dueD w0) := .tup (.inl (.inl upd_same)) (.cons (.str _) (.cons (.str _) (.cons (.int _) .nil)))
  have mW : Fm W.rs F H (upd F3 p (.tup [.str "use", .str w0, .int (-1)])) (upd H3 p (.tup [.str "use", .str w0, .int (-1)])) := by rw [hrs]; exact m4
  refine ⟨ε, (), fun sl _ => sl = .d (dueD w0), fun _ _ => False, _, ?_, ⟨m4.fh, er.fm mW, by rw [hJ]; exact j4, fun _ _ _ _ _ _ _ _ _ z => z.elim⟩, fun u sl s5 F5 H5 m5 j5 q5 r5 => ?_⟩
  · rw [wdue]
  · subst q5
    rw [hrs] at m5
    rw [hJ] at j5
    refine ⟨[.d (dueD w0), .d (dueD w0)], (), F5, fun sl _ => sl = .d (.bool true), fun _ _ => False, m5.fh, ⟨dp_ex m5.ff _ _ rp, r5, True.intro⟩, j5, ⟨dueD w0, rfl, ?_, rfl⟩, fun v sl s6 F6 H6 m6 j6 q6 r6 => ?_, fun _ _ _ _ _ _ _ _ _ z => z.elim⟩
    · exact hd
    · subst q6
      cases r6
      exact fin F6 H6 ((m4.trans m5).trans m6) j6
theorem kfs_cons {S : Type} {r : Bool} {q : Wq S} {k : Nat} {x : Str × Nat × List Str} {spec : Fsp S} {l : List ((Str × Nat × List Str) × Fsp S)} (h : FnKH S r P w K mg base q k x.1 x.2.1 x.2.2 spec) (t : ∀ (f : Str) (n : Nat) (ks : List Str) (sp : Fsp S), kfOf l f n ks = some sp → FnKH S r P w K mg base q k f n ks sp) :
    ∀ (f : Str) (n : Nat) (ks : List Str) (sp : Fsp S), kfOf ((x, spec) :: l) f n ks = some sp → FnKH S r P w K mg base q k f n ks sp := by
  intro f n ks sp e
  unfold kfOf at e
  rw [List.lookup_cons] at e
  split at e
  · next e2 =>
    have e3 : (f, n, ks) = x := by simpa using e2
    cases e
    subst e3
    exact h
  · exact t f n ks sp e
theorem f_due (d0 d1 d2 d3 : PyData) (z : Str) (o : Option Sl) (Q : QS Unit) (E : QX Unit) : (match (defBody s_ref).getD 0 (.Pass ⟨0, 0, 0, 0⟩) with
    | .Assign _ e _ => wE G_ref 30 false (defScope s_ref) [some (.d d0), some (.d d1), some (.d d2), some (.d d3), some (.d (.str z)), o] () e Q E
    | _ => False) = ((List.length ([.str "use", .str z, .int (-1)] : List PyData)) ≤ sizeLine ∧ Q (.d (dueD z)) ()) := by kernel_rfl
theorem f_dueN (d0 d1 d2 d3 : PyData) (z : Str) (pos : Pos) (Q : QS Unit) (E : QX Unit) : wE G_ref 30 false (defScope s_ref) [some (.d d0), some (.d d1), some (.d d2), some (.d d3), some (.d (.str z)), some (.d (dueD z))] () (.Name "_law_due" pos) Q E = Q (.d (dueD z)) () := by kernel_rfl
abbrev q_ref : Str := (envOfC "_law_refused" (defScope s_ref) 0 0 .none).qual ++ "<lambda>"
theorem h_ref {i : KW} {CIP CF PT : Addr} (T : TopOk K mg) (D : LamAt K mg base "_law_refused" s_ref ["_law_title", "_law_ending", "_law_count", "_law_name", "_law_word"] PT) (DH : DefAt K mg "_law_heard" s_heard ["_law_ask"])
    (HO : HeardOk K mg i.C CIP CF) (hT : (PT, q_ref) ∈ i.T) (hu : ∀ p ∈ i.T, p.1 = PT → p.2 = q_ref)
    (hs : FnH Unit false P w K mg base (kQ i) 5 "_law_same" (spSm 2)) (p1 : ProbeH P w K mg base (kQ i) 5 "settled_probe" true) (p2 : ProbeH P w K mg base (kQ i) 5 "reach_probe" false) :
    FnH Unit false P w K mg base (kQ i) 8 "_law_refused" sp_ref := by
  obtain ⟨f, fd, F, hm, hb, hcd⟩ := D.ex
  have fns : ∀ f spec, G_ref.fns.lookup f = some spec → FnH Unit false P w K mg base (kQ i) 5 f spec := fns_cons hs fns_nil
  have kfs : ∀ f n ks spec, kfOf G_ref.kfn f n ks = some spec → FnKH Unit false P w K mg base (kQ i) 5 f n ks spec := kfs_cons (x := ("settled_probe", 3, ["called"])) p1.k3 (kfs_cons (x := ("reach_probe", 3, ["called"])) p2.k3 kfs_nil)
  refine FnG.fnh (f := f) (fd := fd) (ps := ["_law_title", "_law_ending", "_law_count", "_law_name", "_law_word"]) (FunD_okL (k := 7) F sc_ref ?_ ?_) hb hm F.kp
  · rintro vs H Q E ⟨ss, s, F1, Qd, Ed, ex, sr, j, ⟨k, c, n, m, wd, rfl, _⟩, kq, kx⟩
    exact srAll_len sr
  · rintro cdv hl A outer sh H vs Q E hr ⟨ss, s, F1, Qd, Ed, ex, sr, j, ⟨k, c, n, m, wd, rfl, hk, hc, hn, hm', hbad, hok, h70, hq⟩, kq, kx⟩
    obtain ⟨cc, rfl, TB⟩ := hcd cdv hl
    have fns7 : ∀ f spec, G_ref.fns.lookup f = some spec → FnH Unit false P w K mg base (kQ i) 7 f spec := fun f spec h => (fns f spec h).mono (by omega)
    have kfs7 : ∀ f n ks spec, kfOf G_ref.kfn f n ks = some spec → FnKH Unit false P w K mg base (kQ i) 7 f n ks spec := fun f n ks spec h => (kfs f n ks spec h).mono (by omega)
    have C := ctx_def (P := P) (w := w) (K := K) (mg := mg) (base := base) (qual := "_law_refused") (f := f) (cdv := .ref cc) (A := A) (outer := outer) (sh := sh) (H := H) (E := E) (kQ i) G_ref sc_ref rfl (by decide +kernel) T.free T.glob fns7 kfs7 F1 H (fun z => by cases z) hr
    obtain ⟨CX2, k2, a2, G2, hr2, hm2, hk2, ps2, _⟩ := C.fns "_law_same" (spSm 2) rfl
    obtain ⟨g, gd, FH, hmg, hbg⟩ := DH
    obtain ⟨oc, od, dV, kV, doc, pm, an, cdg, ct, osl, rfl, lk, hcg, _, _⟩ := FH.ex
    have lam : ∀ {params : Arguments} {body : Expr} {lsc : Scope} {p lpos pos : Pos}, (∀ env, defaultsOf params env = ([], [])) → (∀ (q : Str) (cl : List (Str × Addr)) (pm cv ctv : Value), bindArgs (PySem.W.kla_fn "<lambda>" q params body lsc cl pm cv ctv) ⟨[], []⟩ = pure []) → LamX.LamS (defScope s_ref) lsc → okSc lsc = true →
        PE (cxOf (L2.CX P w) P w K mg base N_ref "_law_refused" (defScope s_ref) f (.ref cc) A outer sh H E) (.Call (.Name "_law_heard" p) [.Lambda params body lsc lpos] [] pos) (LamX.tLam i.T (tHeard i.C) (tLm K i G_ref (body, lsc))) :=
      fun hdef hbind L okl => LamX.pe_lamcall (k := 5) (P := PT) (c := cc) rfl hmg FH.kp lk hcg hbg sc_heard rfl (.inl rfl) (heard_gives HO) TB rfl hT hu hr L (hdef _) hbind
        (fun A2 outer2 s2 H2 E2 f2 c2 hr' => pe_ex fun z => (sound G_ref 30 _ _ _ (ctx_lam (kQ i) G_ref L rfl sc_ref.nd okl rfl T.free T.glob fns kfs A2 outer2 s2 H2 E2 f2 c2 z.1 z.2 hr') _).1) (by decide +kernel) (by decide +kernel) (by decide +kernel)
    have ex1 : ∀ e, PE (cxOf (L2.CX P w) P w K mg base N_ref "_law_refused" (defScope s_ref) f (.ref cc) A outer sh H E) e (tWE K ((kQ i).wd F1 H E) G_ref 30 (defScope s_ref) e) := fun e => (sound G_ref 30 _ _ _ C e).1
    refine ⟨_, pss_cons (ps_asg (ex1 _) (pg_nm (i := 5) C (.inl rfl) rfl) (sole0 rfl) swap_nm (each1 rfl)) (pss_cons (ps_if (pt_not (pt_val (pe_fg G2 (fun z => by cases z) hr2 rfl hm2 hk2 ps2 (pa_cons (lam (fun _ => rfl) (fun _ _ _ _ _ => rfl) lam1S (by decide +kernel)) (pa_cons (ex1 _) pa_nil)) (by decide +kernel) rfl rfl))) pss_never pss_nil)
      (pss_one (ps_ret (pe_fg G2 (fun z => by cases z) hr2 rfl hm2 hk2 ps2 (pa_cons (lam (fun _ => rfl) (fun _ _ _ _ _ => rfl) lam2S (by decide +kernel)) (pa_cons (ex1 _) pa_nil)) (by decide +kernel) rfl rfl)))), ?_⟩
    have no : noOwn [some (.d k), some (.d c), some (.d n), some (.d m), some (.d (.str wd)), some (.d (dueD wd))] := by
      intro ix xs h
      rcases ix with _ | _ | _ | _ | _ | _ | ix <;> simp at h
    have er : Ers K ((kQ i).wd F1 H E) F1 H (L2.start N_ref vs) [some (.d k), some (.d c), some (.d n), some (.d m), some (.d (.str wd)), none] := by
      refine ⟨((kQ i).wd F1 H E).rs, ?_⟩
      have z := er_args (K := K) (W := (kQ i).wd F1 H E) (H := H) 1 sr
      unfold L2.start
      rw [srAll_len sr]
      exact z
    refine ⟨[some (.d k), some (.d c), some (.d n), some (.d m), some (.d (.str wd)), none], (), fun sl _ => sl = .d (dueD wd), fun _ _ => False, F1, Eq.mpr (f_due k c n m wd none _ _) ⟨le100s (by simp), rfl⟩, ⟨ex, er, j, fun _ _ _ _ _ _ _ _ _ z => z.elim⟩, fun v sl s2 F2 H2 m2 j2 q2 r2 => ?_⟩
    subst q2
    have er6 : Ers K ((kQ i).wd F1 H E) F2 H2 ((L2.start N_ref vs).set 5 (some v)) [some (.d k), some (.d c), some (.d n), some (.d m), some (.d (.str wd)), some (.d (dueD wd))] := (er.fm m2).put r2 5
    refine hear_go (i := i) (Γ := G_ref) (lm := lam1) (W := (kQ i).wd F1 H E) (wd := wd) rfl rfl m2.fh er6 no j2 (Eq.mpr (f_lam1 k c n m (.str wd) (dueD wd) _ _) ⟨rfl, rfl, probe_bad hk hc hn hm' hbad h70⟩) (fun Q Ed => f_dueN k c n m wd _ Q Ed) hok fun F6 H6 m6 j6 => ⟨true, rfl, ?_⟩
    show (if false = true then _ else _)
    refine ifF ?_
    refine hear_go (i := i) (Γ := G_ref) (lm := lam2) (W := (kQ i).wd F1 H E) (wd := wd) rfl rfl m6.fh (er6.fm m6) no j6 (Eq.mpr (f_lam2 k c n m (.str wd) (dueD wd) _ _) ⟨rfl, rfl, probe_bad hk hc hn hm' hbad h70⟩) (fun Q Ed => f_dueN k c n m wd _ Q Ed) hok fun F7 H7 m7 j7 => ?_
    exact kq (.bl true) (.d (.bool true)) () F7 H7 ((m2.trans m6).trans m7) j7 hq (.bl true)
end
end Z
set_option Elab.async false
set_option linter.all false
set_option maxRecDepth 100000
set_option maxHeartbeats 1000000
namespace Z
open PySem PySem.Spec PyProof.Rows L2 Evl
abbrev s_feed : Stmt := top 20
theorem sc_feed : FnScope ["_law_script"] ["_law_script"] (defScope s_feed) := ⟨rfl, rfl, rfl, by decide +kernel, rfl, by decide +kernel, by decide +kernel⟩
theorem merge_fd {c : Addr} : mergeK [] (fdK c 0 0 0) = fdK c 0 0 0 := by
  simp [mergeK, putK, fdK, n_cells_turn, n_cells_rest, n_cells_drawn, n_turn_rest, n_turn_drawn, n_rest_drawn, n_turn_cells, n_rest_cells, n_drawn_cells, n_rest_turn, n_drawn_turn, n_drawn_rest]
theorem cut_to {α : Type} {xs : List α} {i : Int} (h : 0 ≤ i) : cutG xs none (some i) = xs.take i.toNat := by
  unfold cutG HT.sIx
  dsimp only
  rw [if_neg (by omega)]
  simp only [List.drop_zero, Nat.sub_zero]
  by_cases c : i.toNat ≤ xs.length
  · rw [Nat.min_eq_left c]
  · rw [Nat.min_eq_right (by omega), List.take_of_length_le (by omega), List.take_of_length_le (by omega)]
theorem cut63 {ns : List Int} (h : ns.length ≤ 63) : cutV (ns.map V.int) none (some 63) = ns.map V.int := by
  have e := cut_to (xs := ns.map V.int) (i := 63) (by omega)
  show cutG (ns.map V.int) none (some 63) = _
  rw [e]
  exact List.take_of_length_le (by rw [List.length_map]; exact h)
/-- a new feed -/
def spFeed (K : PySem.W.Frag) : Sp := fun vs H Q _ => ∃ (a : Addr) (ns : List Int), vs = [.ref a] ∧ SqL K H a (ns.map V.int) ∧ ns.length ≤ 63 ∧
  ∀ (p c : Addr) (H2 : Hp), Ex H H2 → H2 p = some (.dK (fdK c 0 0 0)) → H2 c = some (.lst (ns.map V.int)) → H p = none → H c = none → Q (.ref p) H2
section
variable {P : Program} {w : World} {K : PySem.W.Frag} {mg : Str → Option Value} {base : Heap}
theorem ok_feed {f : Addr} {fd : FuncData} (mL : mg "list" = none) (F : FunD K "_law_feed" "_law_feed" (defArgs s_feed) (defBody s_feed) (defScope s_feed) [] [] f fd) : FnG false P w K mg base (L2.CX P w) 1 f fd ["_law_script"] (spFeed K) := by
  refine FunD_okG F sc_feed ?_ ?_
  · rintro vs H Q E ⟨a, ns, rfl, _⟩
    rfl
  · rintro cdv A outer sh H vs Q E hg hr ⟨a, ns, rfl, hs, hl, k⟩
    refine ⟨_, pss_one (ps_ret (pe_disp (pps_cons pe_str (pe_callTy call_list_of (by rfl) mL (by decide +kernel) (pa_cons (pe_slice sl_list (pv 0) po_none (po_some pe_int)) pa_nil)) (pps_cons pe_str pe_int (pps_cons pe_str pe_int (pps_cons pe_str pe_int pps_nil)))) rfl rfl (by decide) (by decide))), ?_⟩
    intro p hp
    have hs2 : SqL K (upd H p (.dK [])) a (ns.map V.int) := ex_l (Ex.new hp) hs
    refine el_sl (K := K) (ev_var rfl) eo_none (eo_some ev_c) hs2 (upd H p (.dK [])) (Ex.refl _) _ fun c1 H1 hc1 e1 h1 => ?_
    rw [cut63 hl] at h1
    refine ⟨c1, ns.map V.int, rfl, .inl (sq_of h1), fun c hc => ?_⟩
    have pc : p ≠ c := ne_of_none (e1 _ _ upd_same) hc
    have hcH : H c = none := by
      cases q : H c with
      | none => rfl
      | some o =>
        rw [e1 _ _ (Ex.new hp _ _ q)] at hc
        cases hc
    refine ⟨by rw [upd_ne pc]; exact e1 _ _ upd_same, fdK c 0 0 0, rfl, by show 4 ≤ 15; decide, ?_⟩
    rw [merge_fd]
    refine k p c _ (fun b o q => ?_) upd_same (by rw [upd_ne (Ne.symm pc)]; exact upd_same) hp hcH
    rw [upd_ne (ne_of_none q hp), upd_ne (ne_of_none q hcH)]
    exact e1 _ _ (Ex.new hp _ _ q)
end
end Z
set_option Elab.async false
set_option linter.all false
set_option maxRecDepth 100000
set_option maxHeartbeats 1000000
namespace Z
open PySem PySem.Spec PyProof.Rows L2 Evl
theorem pss_ex {X : Cx} {sts : List Stmt} {I : Type} {t : I → TS} (h : ∀ i, PSs X sts (t i)) : PSs X sts (fun D σ H => ∃ i, t i D σ H) := ⟨fun pins s σ H D J ⟨i, q⟩ => (h i).run pins s σ H D J q⟩
section
variable {S : Type} {X : Cx} {W : Wd S} {Γ : Gam S} {sc : Scope} {m n : Nat}
theorem hold_end {K : PySem.W.Frag} {D : Ends} {F1 : Hp} {O : Out → S → Prop} {Ed : QX S} (hn : 0 < n) (h : Hold K W D F1 O) : Hold K W D F1 (wThen (fun ε s => wB Γ m n sc ε s [] O Ed) O) := by
  intro o s q
  cases o with
  | nx ε =>
    obtain ⟨n, rfl⟩ : ∃ k, n = k + 1 := ⟨n - 1, by omega⟩
    have q2 : wB Γ m (n + 1) sc ε s [] O Ed := q
    simp only [wB] at q2
    exact h _ s q2
  | bk ε => exact h _ s q
  | ct ε => exact h _ s q
  | rt sl => exact h _ s q
variable (C : CxOk X W Γ sc)
include C
theorem ps_forG {tg it : Expr} {body rest : List Stmt} {pos : Pos} {u : TS} (ihb : ∀ sts, PSs X sts (tWB X.K W Γ m n sc sts)) (hn : 0 < n) (hu : PSs X rest u) :
    PSs X (.For tg it body [] pos :: rest) (fun D σ H => ∃ ε s O Ed F, wB Γ m (n + 1) sc ε s [.For tg it body [] pos] O Ed ∧ Cz X.K W F H σ ε s Ed ∧ Hold X.K W { D with nx := u D } F O) := by
  have ih : ∀ e, PE X e (tWE X.K W Γ m sc e) := fun e => (sound Γ m X W sc C e).1
  cases hset : setE it with
  | true =>
    refine pss_false fun D σ H ⟨ε, s, O, Ed, F, w, cz, ho⟩ => ?_
    simp only [wB, chk_iff, chkN_iff, hset] at w
    exact Bool.false_ne_true w.1.symm
  | false =>
    cases hsl : slotsT Γ.N sc tg with
    | none =>
      refine pss_false fun D σ H ⟨ε, s, O, Ed, F, w, cz, ho⟩ => ?_
      simp only [wB, chk_iff, chkN_iff, hsl] at w
      exact w.2
    | some sl =>
      refine pss_imp (pss_cons (ps_for C.po C.calm (pi_w C ih it) (pg_w C hsl) (ihb body) (fold0 X.env hset)) hu) fun D σ H ⟨ε, s, O, Ed, F, w, cz, ho⟩ => ?_
      simp only [wB, chk_iff, chkN_iff, hsl] at w
      refine ⟨ε, s, _, Ed, F, w.2, cz.cy, fun J xs s2 F2 H2 mm j q wk => ?_⟩
      have cz2 : Cz X.K W F2 H2 σ ε s2 Ed := cz.next mm j
      have ho2 : Hold X.K W { D with nx := u D } F2 (wThen (fun ε s => wB Γ m n sc ε s [] O Ed) O) := hold_end hn (ho.next mm.ff)
      refine ⟨fun i k σ H => k = xs.length - i ∧ i ≤ xs.length ∧ ∃ ε s F, Cz X.K W F H σ ε s Ed ∧ Ex F2 F ∧ wFor (fun x ε s k => match bindS sl x ε with
            | none => False
            | some ε2 => wB Γ m n sc ε2 s body k Ed) (xs.drop i) ε s (wThen (fun ε s => wB Γ m n sc ε s [] O Ed) O), ⟨xs.length, rfl, Nat.zero_le _, ε, s2, F2, cz2, Ex.refl F2, q⟩, ?_⟩
      rintro i k σ3 H3 ⟨rfl, hle, ε3, s3, F3, cz3, e3, w3⟩
      by_cases hi : i < xs.length
      · right
        obtain ⟨go, yld⟩ := (wk i F3 H3 e3 cz3.fm.fh).1 _ (List.getElem?_eq_getElem hi)
        rw [loop_at hi] at w3
        simp only [wFor] at w3
        refine ⟨go, fun σ4 H4 => ∃ ε s F, Cz X.K W F H4 σ4 ε s Ed ∧ Ex F2 F ∧ wFor (fun x ε s k => match bindS sl x ε with
            | none => False
            | some ε2 => wB Γ m n sc ε2 s body k Ed) (xs.drop (i + 1)) ε s (wThen (fun ε s => wB Γ m n sc ε s [] O Ed) O), fun σ4 H4 z => ⟨xs.length - (i + 1), by omega, rfl, hi, z⟩, fun v H4 hv => ?_⟩
        obtain ⟨F4, m4, rv⟩ := yld v H4 hv
        have cz4 := cz3.next m4.more (Wd.pure cz3.j m4)
        cases hb : bindS sl xs[i] ε3 with
        | none =>
          simp only [hb] at w3
        | some ε2 =>
          simp only [hb] at w3
          refine gS_put m4.fh hb rv cz4.er (slotsT_one hsl) fun σ5 e5 _ _ => ?_
          refine ⟨ε2, s3, _, Ed, F4, w3, ⟨cz4.fm, e5, cz4.j, cz.kx⟩, fun o s6 q6 => ?_⟩
          cases o with
          | nx ε6 => exact fun σ F H a b c d => ⟨ε6, s6, F, ⟨a, c, d, cz.kx⟩, (e3.trans m4.ff).trans b, q6⟩
          | ct ε6 => exact fun σ F H a b c d => ⟨ε6, s6, F, ⟨a, c, d, cz.kx⟩, (e3.trans m4.ff).trans b, q6⟩
          | bk ε6 => exact fun σ F H a b c d => (ho2.next (e3.trans m4.ff)) (.nx ε6) s6 q6 σ F H a b c d
          | rt v6 => exact ho2 (.rt v6) s6 q6
      · left
        have e : i = xs.length := by omega
        subst e
        refine ⟨(wk _ F3 H3 e3 cz3.fm.fh).2 (Nat.le_refl _), ?_⟩
        rw [List.drop_length] at w3
        exact (ho2.next e3) (.nx ε3) s3 w3 σ3 F3 H3 cz3.fm (Ex.refl F3) cz3.er cz3.j
end
end Z
set_option Elab.async false
set_option linter.all false
set_option maxRecDepth 100000
set_option maxHeartbeats 4000000
namespace Z
open PySem PySem.Spec PyProof.Rows L2 Evl
section
class FdP where
  p : Addr
variable {S : Type} [FdP]

abbrev s_law : Stmt := top 26
theorem sc_law : FnScope ["_law_script", "_law_feed_here", "_law_k", "_law_odd", "_law_signs", "_law_title", "_law_name", "_law_told", "_law_due", "_law_ending", "_law_count", "_law_j"] ["_law_script"] (defScope s_law) := ⟨rfl, rfl, rfl, by decide +kernel, rfl, by decide +kernel, by decide +kernel⟩
def sp_law_draw : Fsp S := fun ss s Q _ => ∃ n : Int, ss = [.v (.ref FdP.p), .d (.int n)] ∧ 0 < n ∧ n ≤ 1000 ∧ ∀ i : Int, 0 ≤ i → i < n → Q (.d (.int i)) s
abbrev spd_settled_probe : Fsp S := fun ss => spProbe true (ss ++ [.d (.str "probe")])
abbrev spd_reach_probe : Fsp S := fun ss => spProbe false (ss ++ [.d (.str "probe")])
abbrev spk_settled_probe : Fsp S := fun ss => spProbe true ss.reverse
abbrev spk_reach_probe : Fsp S := fun ss => spProbe false ss.reverse
abbrev sps_law_same : Fsp S := spSm 8
def sps_law_refused : Fsp S := fun ss s Q _ => ∃ k c n m wd, ss = [.d k, .d c, .d n, .d m, .d (.str wd)] ∧ Ok k ∧ Ok c ∧ Ok n ∧ Ok m ∧ badW k c n m = some wd ∧ okD 100 1 (dueD wd) = true ∧ (∀ n0 : Nat, n = .int (n0 + 1 : Nat) → n0 ≤ 70) ∧ Q (.d (.bool true)) s
def isStrS (x : Sl) : Prop := ∃ z : Str, x = .d (.str z)
def getV (x : Sl) (Q : Sl → Prop) : Prop := getE [some x] 0 Q
abbrev G_law : Gam S := ⟨["_law_script", "_law_feed_here", "_law_k", "_law_odd", "_law_signs", "_law_title", "_law_name", "_law_told", "_law_due", "_law_ending", "_law_count", "_law_j"], gl0, [("_law_draw", sp_law_draw), ("_law_same", sps_law_same), ("_law_probe", sp_law_probe), ("_law_refused", sps_law_refused), ("settled_probe", spd_settled_probe), ("reach_probe", spd_reach_probe)], fr0, [(("settled_probe", 0, ["called", "number", "code", "kind"]), spk_settled_probe), (("reach_probe", 0, ["called", "number", "code", "kind"]), spk_reach_probe)], false, false⟩
theorem f_law_b (d1 : V) (o0 : Option Sl) (o3 : Option Sl) (o4 : Option Sl) (o5 : Option Sl) (o6 : Option Sl) (o7 : Option Sl) (o8 : Option Sl) (o9 : Option Sl) (o10 : Option Sl) (o11 : Option Sl) (x : PyData) (s : S) (k : Out → S → Prop) (E : QX S) : wB G_law 30 28 (defScope s_law) [o0, some (.v d1), some (.d x), o3, o4, o5, o6, o7, o8, o9, o10, o11] s (forBody ((defBody s_law).getD 1 (.Pass ⟨0, 0, 0, 0⟩))) k E = (
isStrS (.d (.str "")) ∧
(List.length ([(.int 1), (.int 4), (.int 7), (.int 8)] : List PyData)) ≤ sizeLine ∧
sp_law_draw [(.v d1), (.d (.int 4))] s (fun y1 s2 =>
dix (.d (.list [(.int 1), (.int 4), (.int 7), (.int 8)])) y1 fun z3 =>
rangeS1 z3 fun xs4 =>
xs4.length ≤ 1000000 ∧ wMap (fun x5 s6 k7 => sp_law_draw [(.v d1), (.d (.int 26))] s6 (fun y8 s9 =>
dix (.d (.str "abcdefghijklmnopqrstuvwxyz")) y8 fun z10 =>
outD z10 fun y => k7 (some y) s9) noX) xs4 s2 fun ys11 s12 =>
djoin (.d (.str "")) (.d (.list ys11)) fun z13 =>
sp_law_draw [(.v d1), (.d (.int 3))] s12 (fun y14 s15 =>
(List.length ([(.int 2), (.int 6), (.int 60)] : List PyData)) ≤ sizeLine ∧
dix (.d (.list [(.int 2), (.int 6), (.int 60)])) (.d x) fun z16 =>
sp_law_draw [(.v d1), z16] s15 (fun y17 s18 =>
dbin .Add (.d (.int 1)) y17 fun z19 =>
(List.length ([(.str "a"), (.str "x"), (.str "zzzzzzzz"), (.str "main")] : List PyData)) ≤ sizeLine ∧
sp_law_draw [(.v d1), (.d (.int 4))] s18 (fun y20 s21 =>
dix (.d (.list [(.str "a"), (.str "x"), (.str "zzzzzzzz"), (.str "main")])) y20 fun z22 =>
getV z22 fun v23 =>
getV z13 fun v24 =>
dcmp .NotEq v23 v24 fun c25 =>
bif2 c25 (getV z22 fun v26 =>
getV v26 fun v27 =>
getV z19 fun v28 =>
getV y14 fun v29 =>
getV z13 fun v30 =>
(List.length ([] : List Sl)) = 0 ∧ (List.length ([v27, v28, v29, v30] : List Sl)) = 4 ∧ spk_settled_probe [v27, v28, v29, v30] s21 (fun y31 s32 =>
getV y31 fun v33 =>
getV z13 fun v34 =>
getV y14 fun v35 =>
getV z19 fun v36 =>
getV v26 fun v37 =>
sp_law_probe [v34, v35, v36, v37, (.d (.bool false))] s32 (fun y38 s39 =>
sps_law_same [v33, y38] s39 (fun y40 s41 =>
dtru y40 fun b42 =>
bif2 (!b42) (k (.rt (.d (.bool false))) s41) (getV v26 fun v43 =>
getV z19 fun v44 =>
getV y14 fun v45 =>
getV z13 fun v46 =>
(List.length ([] : List Sl)) = 0 ∧ (List.length ([v43, v44, v45, v46] : List Sl)) = 4 ∧ spk_reach_probe [v43, v44, v45, v46] s41 (fun y47 s48 =>
getV y47 fun v49 =>
getV z13 fun v50 =>
getV y14 fun v51 =>
getV z19 fun v52 =>
getV v26 fun v53 =>
sp_law_probe [v50, v51, v52, v53, (.d (.bool true))] s48 (fun y54 s55 =>
sps_law_same [v49, y54] s55 (fun y56 s57 =>
dtru y56 fun b58 =>
bif2 (!b58) (k (.rt (.d (.bool false))) s57) (getV z13 fun v59 =>
getV y14 fun v60 =>
getV z19 fun v61 =>
sp_law_probe [v59, v60, v61, (.d (.str "probe")), (.d (.bool false))] s57 (fun y62 s63 =>
getV z13 fun v64 =>
getV y14 fun v65 =>
getV z19 fun v66 =>
sp_law_probe [v64, v65, v66, (.d (.str "probe")), (.d (.bool true))] s63 (fun y67 s68 =>
allD [y62, y67] fun ds69 => ds69.length ≤ sizeLine ∧
getV z13 fun v70 =>
dcmp .NotEq v70 (.d (.str "probe")) fun c71 =>
bif2 c71 (getV z13 fun v72 =>
getV y14 fun v73 =>
getV z19 fun v74 =>
spd_settled_probe [v72, v73, v74] s68 (fun y75 s76 =>
getV z13 fun v77 =>
getV y14 fun v78 =>
getV z19 fun v79 =>
spd_reach_probe [v77, v78, v79] s76 (fun y80 s81 =>
allD [y75, y80] fun ds82 => ds82.length ≤ sizeLine ∧
sps_law_same [(.d (.tuple ds82)), (.d (.tuple ds69))] s81 (fun y83 s84 =>
dtru y83 fun b85 =>
bif2 (!b85) (k (.rt (.d (.bool false))) s84) (getV z13 fun v86 =>
getV y14 fun v87 =>
getV z19 fun v88 =>
getV z13 fun v89 =>
sps_law_refused [v86, v87, v88, v89, (.d (.str "called"))] s84 (fun y90 s91 =>
dtru y90 fun b92 =>
bif2 (!b92) (k (.rt (.d (.bool false))) s91) (k (.nx [o0, some (.v d1), some (.d x), o3, some (.d (.str "abcdefghijklmnopqrstuvwxyz")), some z13, some v26, some (.d (.tuple ds82)), some (.d (.tuple ds69)), some y14, some z19, o11]) s91)) E)) E) E) E) (getV z13 fun v93 =>
getV y14 fun v94 =>
getV z19 fun v95 =>
getV z13 fun v96 =>
sps_law_refused [v93, v94, v95, v96, (.d (.str "called"))] s68 (fun y97 s98 =>
dtru y97 fun b99 =>
bif2 (!b99) (k (.rt (.d (.bool false))) s98) (k (.nx [o0, some (.v d1), some (.d x), o3, some (.d (.str "abcdefghijklmnopqrstuvwxyz")), some z13, some v26, some y47, some (.d (.tuple ds69)), some y14, some z19, o11]) s98)) E)) E) E)) E) E) E)) E) E) E) (getV z13 fun v100 =>
dsl v100 none (some 1) fun z101 =>
dbin .Add z101 (.d (.str "b")) fun z102 =>
getV z102 fun v103 =>
getV z19 fun v104 =>
getV y14 fun v105 =>
getV z13 fun v106 =>
(List.length ([] : List Sl)) = 0 ∧ (List.length ([v103, v104, v105, v106] : List Sl)) = 4 ∧ spk_settled_probe [v103, v104, v105, v106] s21 (fun y107 s108 =>
getV y107 fun v109 =>
getV z13 fun v110 =>
getV y14 fun v111 =>
getV z19 fun v112 =>
getV z102 fun v113 =>
sp_law_probe [v110, v111, v112, v113, (.d (.bool false))] s108 (fun y114 s115 =>
sps_law_same [v109, y114] s115 (fun y116 s117 =>
dtru y116 fun b118 =>
bif2 (!b118) (k (.rt (.d (.bool false))) s117) (getV z102 fun v119 =>
getV z19 fun v120 =>
getV y14 fun v121 =>
getV z13 fun v122 =>
(List.length ([] : List Sl)) = 0 ∧ (List.length ([v119, v120, v121, v122] : List Sl)) = 4 ∧ spk_reach_probe [v119, v120, v121, v122] s117 (fun y123 s124 =>
getV y123 fun v125 =>
getV z13 fun v126 =>
getV y14 fun v127 =>
getV z19 fun v128 =>
getV z102 fun v129 =>
sp_law_probe [v126, v127, v128, v129, (.d (.bool true))] s124 (fun y130 s131 =>
sps_law_same [v125, y130] s131 (fun y132 s133 =>
dtru y132 fun b134 =>
bif2 (!b134) (k (.rt (.d (.bool false))) s133) (getV z13 fun v135 =>
getV y14 fun v136 =>
getV z19 fun v137 =>
sp_law_probe [v135, v136, v137, (.d (.str "probe")), (.d (.bool false))] s133 (fun y138 s139 =>
getV z13 fun v140 =>
getV y14 fun v141 =>
getV z19 fun v142 =>
sp_law_probe [v140, v141, v142, (.d (.str "probe")), (.d (.bool true))] s139 (fun y143 s144 =>
allD [y138, y143] fun ds145 => ds145.length ≤ sizeLine ∧
getV z13 fun v146 =>
dcmp .NotEq v146 (.d (.str "probe")) fun c147 =>
bif2 c147 (getV z13 fun v148 =>
getV y14 fun v149 =>
getV z19 fun v150 =>
spd_settled_probe [v148, v149, v150] s144 (fun y151 s152 =>
getV z13 fun v153 =>
getV y14 fun v154 =>
getV z19 fun v155 =>
spd_reach_probe [v153, v154, v155] s152 (fun y156 s157 =>
allD [y151, y156] fun ds158 => ds158.length ≤ sizeLine ∧
sps_law_same [(.d (.tuple ds158)), (.d (.tuple ds145))] s157 (fun y159 s160 =>
dtru y159 fun b161 =>
bif2 (!b161) (k (.rt (.d (.bool false))) s160) (getV z13 fun v162 =>
getV y14 fun v163 =>
getV z19 fun v164 =>
getV z13 fun v165 =>
sps_law_refused [v162, v163, v164, v165, (.d (.str "called"))] s160 (fun y166 s167 =>
dtru y166 fun b168 =>
bif2 (!b168) (k (.rt (.d (.bool false))) s167) (k (.nx [o0, some (.v d1), some (.d x), o3, some (.d (.str "abcdefghijklmnopqrstuvwxyz")), some z13, some z102, some (.d (.tuple ds158)), some (.d (.tuple ds145)), some y14, some z19, o11]) s167)) E)) E) E) E) (getV z13 fun v169 =>
getV y14 fun v170 =>
getV z19 fun v171 =>
getV z13 fun v172 =>
sps_law_refused [v169, v170, v171, v172, (.d (.str "called"))] s144 (fun y173 s174 =>
dtru y173 fun b175 =>
bif2 (!b175) (k (.rt (.d (.bool false))) s174) (k (.nx [o0, some (.v d1), some (.d x), o3, some (.d (.str "abcdefghijklmnopqrstuvwxyz")), some z13, some z102, some y123, some (.d (.tuple ds145)), some y14, some z19, o11]) s174)) E)) E) E)) E) E) E)) E) E) E)) E) E) E) E) := by kernel_rfl

def J_lawend_1 (Q : QS S) (E : QX S) (d1 : V) (o0 : Option Sl) (o2 : Option Sl) (o3 : Option Sl) (o4 : Option Sl) (o6 : Option Sl) (o7 : Option Sl) (o8 : Option Sl) (o11 : Option Sl) (c0 : PyData) (c1 : PyData) (c2 : PyData) (z1 : Sl) (ds2 : List PyData) (y3 : Sl) (s4 : S) (z5 : Sl) (x6 : Bool) (s7 : S) : Prop :=
bif2 x6 (Q (.d (.bool false)) s7) ((List.length ([(.int 0)] : List PyData)) ≤ sizeLine ∧
dbin .Pow (.d (.int 10)) (.d (.int 59)) fun z8 =>
allD [(.d (.int 3)), (.d (.int (-1))), (.d .none), (.d (.bool true)), (.d (.bool false)), (.d (.str "0")), (.d (.tuple [(.int 0)])), z8] fun ds9 => ds9.length ≤ sizeLine ∧
sp_law_draw [(.v d1), (.d (.int 8))] s7 (fun y10 s11 =>
dix (.d (.list ds9)) y10 fun z12 =>
getV z12 fun v13 =>
sps_law_refused [(.d c0), v13, (.d (.int 0)), (.d .none), (.d (.str "code"))] s11 (fun y14 s15 =>
dtru y14 fun b16 =>
bif2 (!b16) (Q (.d (.bool false)) s15) ((List.length ([(.int 1)] : List PyData)) ≤ sizeLine ∧
(List.length ([(.int 0), (.int (-1)), .none, (.bool true), (.str "1"), (.tuple [(.int 1)])] : List PyData)) ≤ sizeLine ∧
sp_law_draw [(.v d1), (.d (.int 6))] s15 (fun y17 s18 =>
dix (.d (.list [(.int 0), (.int (-1)), .none, (.bool true), (.str "1"), (.tuple [(.int 1)])])) y17 fun z19 =>
sps_law_refused [(.d c0), (.d c1), z19, (.d c0), (.d (.str "number"))] s18 (fun y20 s21 =>
Q y20 s21) E) E)) E) E)
theorem f_law_e (d1 : V) (o0 : Option Sl) (o2 : Option Sl) (o3 : Option Sl) (o4 : Option Sl) (o6 : Option Sl) (o7 : Option Sl) (o8 : Option Sl) (o11 : Option Sl) (c0 : PyData) (c1 : PyData) (c2 : PyData) (s : S) (Q : QS S) (E : QX S) : wB G_law 30 27 (defScope s_law) [o0, some (.v d1), o2, o3, o4, some (.d c0), o6, o7, o8, some (.d c1), some (.d c2), o11] s ((defBody s_law).drop 3) (fnO Q) E = (
dbin .Add (.d c0) (.d (.str "abcdefgh")) fun z1 =>
(List.length ([c0] : List PyData)) ≤ sizeLine ∧
(List.length ([c0] : List PyData)) ≤ sizeLine ∧
allD [(.d .none), (.d (.str "")), (.d (.str "A")), (.d (.int 0)), z1, (.d (.tuple [c0])), (.d (.str "a b")), (.d (.list [c0])), (.d (.str "0"))] fun ds2 => ds2.length ≤ sizeLine ∧
sp_law_draw [(.v d1), (.d (.int 9))] s (fun y3 s4 =>
dix (.d (.list ds2)) y3 fun z5 =>
getV z5 fun v22 =>
getV z5 fun v23 =>
sps_law_refused [v22, (.d (.int 3)), (.d (.int 0)), v23, (.d (.str "kind"))] s4 (fun y24 s25 =>
dtru y24 fun b26 =>
if (!b26) = true then (J_lawend_1 Q E d1 o0 o2 o3 o4 o6 o7 o8 o11 c0 c1 c2 z1 ds2 y3 s4 z5 (!b26) s25) else (getV z5 fun v27 =>
sps_law_refused [(.d c0), (.d c1), (.d c2), v27, (.d (.str "called"))] s25 (fun y28 s29 =>
dtru y28 fun b30 =>
J_lawend_1 Q E d1 o0 o2 o3 o4 o6 o7 o8 o11 c0 c1 c2 z1 ds2 y3 s4 z5 (!b30) s29) E)) E) E) := by kernel_rfl

end
end Z
set_option Elab.async false
set_option linter.all false
set_option maxRecDepth 100000
set_option maxHeartbeats 1000000
namespace Z
open PySem PySem.Spec PyProof.Rows L2 Evl
section
variable {S : Type} [FdP]
theorem dix_l {xs : List PyData} {i : Int} {Q : Sl → Prop} (h0 : 0 ≤ i) (h1 : i < xs.length) (q : ∀ x ∈ xs, Q (.d x)) : dix (.d (.list xs)) (.d (.int i)) Q := by
  obtain ⟨x, hx, e⟩ := atI_in h0 h1
  simp only [dix, e]
  exact q x hx
theorem gV_d {d : PyData} {Q : Sl → Prop} : getV (.d d) Q = Q (.d d) := rfl
theorem drw {n : Int} {s : S} {Q : QS S} {E : QX S} (h0 : 0 < n) (h1 : n ≤ 1000) (q : ∀ i : Int, 0 ≤ i → i < n → Q (.d (.int i)) s) : sp_law_draw [.v (.ref FdP.p), .d (.int n)] s Q E := ⟨n, rfl, h0, h1, q⟩
theorem ref_go {k c n m : PyData} {wd : Str} {s : S} {Q : QS S} {E : QX S} (hk : Ok k) (hc : Ok c) (hn : Ok n) (hm : Ok m) (hb : badW k c n m = some wd) (hd : okD 100 1 (dueD wd) = true) (h70 : ∀ n0 : Nat, n = .int (n0 + 1 : Nat) → n0 ≤ 70) (q : Q (.d (.bool true)) s) :
    sps_law_refused [.d k, .d c, .d n, .d m, .d (.str wd)] s Q E := ⟨k, c, n, m, wd, rfl, hk, hc, hn, hm, hb, hd, h70, q⟩
theorem bad_k {k c n m : PyData} (h : isNm k = false) : badW k c n m = some "kind" := by simp [badW, h]
theorem bad_m {k c n m : PyData} (h1 : isNm k = true) (h2 : inI [0, 1, 2] c = true) (h3 : isPos n = true) (h4 : isNm m = false) : badW k c n m = some "called" := by simp [badW, h1, h2, h3, h4]
theorem bad_c {k c n m : PyData} (h1 : isNm k = true) (h2 : inI [0, 1, 2] c = false) : badW k c n m = some "code" := by simp [badW, h1, h2]
theorem bad_n {k c n m : PyData} (h1 : isNm k = true) (h2 : inI [0, 1, 2] c = true) (h3 : isPos n = false) : badW k c n m = some "number" := by simp [badW, h1, h2, h3]
theorem law_end {t : Str} {c : Int} {n : Nat} (ht : isNm (.str t) = true) (ot : Ok (.str t)) (ot2 : Ok (.str (t ++ "abcdefgh"))) (h8 : isNm (.str (t ++ "abcdefgh")) = false) (hl : t.length ≤ 8) (c0 : 0 ≤ c) (c2 : c ≤ 2) (hn : n ≤ 70) {o0 o2 o3 o4 o6 o7 o8 o11 : Option Sl} {s : S} {Q : QS S} {E : QX S} (q : ∀ s2 : S, Q (.d (.bool true)) s2) :
    wB G_law 30 27 (defScope s_law) [o0, some (.v (.ref FdP.p)), o2, o3, o4, some (.d (.str t)), o6, o7, o8, some (.d (.int c)), some (.d (.int (n + 1 : Nat))), o11] s ((defBody s_law).drop 3) (fnO Q) E := by
  have oc : Ok (.int c) := rfl
  have on : Ok (.int (n + 1 : Nat)) := rfl
  have hc : inI [0, 1, 2] (.int c) = true := by
    have h : c = 0 ∨ c = 1 ∨ c = 2 := by omega
    rcases h with rfl | rfl | rfl <;> decide
  have hp : isPos (.int (n + 1 : Nat)) = true := by
    show decide (0 < ((n + 1 : Nat) : Int)) = true
    exact decide_eq_true (by omega)
  have h70 : ∀ n0 : Nat, PyData.int (n + 1 : Nat) = .int (n0 + 1 : Nat) → n0 ≤ 70 := fun n0 e => by
    have := PyData.int.inj e
    omega
  refine Eq.mpr (f_law_e (.ref FdP.p) o0 o2 o3 o4 o6 o7 o8 o11 _ _ _ s Q E) ⟨le100s (by
    have : ("abcdefgh" : Str).length = 8 := by decide +kernel
    omega), le100s (by simp), le100s (by simp), allD_i rfl ⟨le100s (by simp), drw (by omega) (by omega) fun i i0 i1 => dix_l i0 (by simpa using i1) fun x hx => ?_⟩⟩
  have hx2 : Ok x ∧ isNm x = false := by
    simp only [List.mem_cons, List.not_mem_nil, or_false] at hx
    rcases hx with rfl | rfl | rfl | rfl | rfl | rfl | rfl | rfl | rfl
    · exact ⟨rfl, rfl⟩
    · exact ⟨by decide +kernel, by decide +kernel⟩
    · exact ⟨by decide +kernel, by decide +kernel⟩
    · exact ⟨rfl, rfl⟩
    · exact ⟨ot2, h8⟩
    · exact ⟨by simpa [Ok, okD] using ot, rfl⟩
    · exact ⟨by decide +kernel, by decide +kernel⟩
    · exact ⟨by simpa [Ok, okD] using ot, rfl⟩
    · exact ⟨by decide +kernel, by decide +kernel⟩
  rw [gV_d, gV_d]
  refine ref_go hx2.1 rfl rfl hx2.1 (bad_k hx2.2) (by decide +kernel) (fun n0 e => by cases e) ?_
  rw [dT_b]
  show (if false = true then _ else _)
  refine ifF ?_
  rw [gV_d]
  refine ref_go ot oc on hx2.1 (bad_m ht hc hp hx2.2) (by decide +kernel) h70 ?_
  rw [dT_b]
  unfold J_lawend_1
  show bif2 false _ _
  rw [bF]
  refine ⟨le100s (by simp), ⟨by decide, by decide, by decide⟩, ?_⟩
  refine allD_i rfl ⟨le100s (by simp), drw (by omega) (by omega) fun i i0 i1 => dix_l i0 (by simpa using i1) fun y hy => ?_⟩
  have hy2 : Ok y ∧ inI [0, 1, 2] y = false := by
    simp only [List.mem_cons, List.not_mem_nil, or_false] at hy
    rcases hy with rfl | rfl | rfl | rfl | rfl | rfl | rfl | rfl <;> exact ⟨by decide +kernel, by decide +kernel⟩
  rw [gV_d]
  refine ref_go ot hy2.1 rfl rfl (bad_c ht hy2.2) (by decide +kernel) (fun n0 e => by cases e) ?_
  rw [dT_b]
  show bif2 false _ _
  rw [bF]
  refine ⟨le100s (by simp), le100s (by simp), drw (by omega) (by omega) fun i i0 i1 => dix_l i0 (by simpa using i1) fun z hz => ?_⟩
  have hz2 : Ok z ∧ isPos z = false := by
    simp only [List.mem_cons, List.not_mem_nil, or_false] at hz
    rcases hz with rfl | rfl | rfl | rfl | rfl | rfl <;> exact ⟨by decide +kernel, by decide +kernel⟩
  refine ref_go ot oc hz2.1 ot (bad_n ht hc hz2.2) (by decide +kernel) (fun n0 e => ?_) (q _)
  rw [e] at hz2
  have := hz2.2
  simp [isPos] at this
end
end Z
set_option Elab.async false
set_option linter.all false
set_option maxRecDepth 100000
set_option maxHeartbeats 1000000
namespace Z
open PySem PySem.Spec PyProof.Rows L2 Evl
section
variable {S : Type} [FdP]
theorem good_k {k m : Str} {c : Int} {n : Nat} (hk : isNm (.str k) = true) (c0 : 0 ≤ c) (c2 : c ≤ 2) (hm : isNm (.str m) = true) (hne : PyData.eqv (.str m) (.str k) = false) : badW (.str k) (.int c) (.int (n + 1 : Nat)) (.str m) = none := by
  have hc : inI [0, 1, 2] (.int c) = true := by
    have h : c = 0 ∨ c = 1 ∨ c = 2 := by omega
    rcases h with rfl | rfl | rfl <;> decide
  have hp : isPos (.int (n + 1 : Nat)) = true := by
    show decide (0 < ((n + 1 : Nat) : Int)) = true
    exact decide_eq_true (by omega)
  unfold badW
  rw [if_pos hk, if_pos hc, if_pos hp]
  simp [hm, hne]
theorem probe_in {b : Bool} {k m : Str} {c : Int} {n : Nat} {s : S} {Q : QS S} {E : QX S} (ok : Ok (.str k)) (om : Ok (.str m)) (hk : isNm (.str k) = true) (c0 : 0 ≤ c) (c2 : c ≤ 2) (hn : n ≤ 70) (hm : isNm (.str m) = true) (hne : PyData.eqv (.str m) (.str k) = false)
    (q : Q (.d (probeD (.str k) c n (.str m) b)) s) : spProbe b [.d (.str k), .d (.int c), .d (.int (n + 1 : Nat)), .d (.str m)] s Q E := by
  refine ⟨_, _, _, _, rfl, ok, rfl, rfl, om, fun k1 c1 m1 n1 e1 e2 e3 e4 => ?_, fun w h => ?_⟩
  · have h1 := PyData.str.inj e1
    have h2 := PyData.int.inj e2
    have h3 := PyData.str.inj e3
    have h4 := PyData.int.inj e4
    subst h1 h2 h3
    have h5 : n1 = n := by omega
    subst h5
    exact ⟨hn, fun _ => q⟩
  · rw [good_k hk c0 c2 hm hne] at h
    cases h
theorem same_go {d : PyData} {s : S} {Q : QS S} {E : QX S} (h : okD 100 7 d = true) (q : Q (.d (.bool true)) s) : sps_law_same [.d d, .d d] s Q E := ⟨d, rfl, h, q⟩
theorem okD_probe {k m : Str} {c : Int} {n : Nat} {b : Bool} (ok : okD 100 0 (.str k) = true) (om : okD 100 0 (.str m) = true) (hn : n ≤ 70) : okD 100 6 (probeD (.str k) c n (.str m) b) = true := by
  have ok' : ∀ j, okD 100 j (.str k) = true := fun j => by simpa [okD] using ok
  have om' : ∀ j, okD 100 j (.str m) = true := fun j => by simpa [okD] using om
  have so : ∀ j, okD 100 j (.str "fork") = true ∧ okD 100 j (.str "x") = true ∧ okD 100 j (.str "a") = true ∧ okD 100 j (.str "kill") = true ∧ okD 100 j (.str "wait") = true ∧ okD 100 j (.str "poll") = true ∧ okD 100 j (.str "exit") = true := by
    have h0 : okD 100 0 (.str "fork") = true ∧ okD 100 0 (.str "x") = true ∧ okD 100 0 (.str "a") = true ∧ okD 100 0 (.str "kill") = true ∧ okD 100 0 (.str "wait") = true ∧ okD 100 0 (.str "poll") = true ∧ okD 100 0 (.str "exit") = true := by decide +kernel
    intro j
    simpa [okD] using h0
  have io : ∀ j i, okD 100 j (.int i) = true := fun j i => by cases j <;> rfl
  have pB : ∀ x ∈ prB (.str k) c, okD 100 3 x = true := by
    intro x hx
    unfold prB at hx
    rcases List.mem_cons.mp hx with rfl | hx
    · have h1 := (so 0).1
      have h2 := (so 0).2.1
      have h3 := (so 0).2.2.1
      have h4 := ok
      simp only [okD, Bool.and_eq_true, decide_eq_true_eq] at h1 h2 h3 h4
      simp [okD, h1, h2, h3, h4]
    · split at hx
      · rw [List.mem_singleton.mp hx]
        decide +kernel
      · cases hx
  have pl := prB_len (k := .str k) (c := c)
  have tb := prT_b (c := c)
  have pF : okD 100 3 (prF c (prT c + n + 3)) = true := by
    have h := (so 0).2.2.1
    have h2 := (so 0).2.2.2.2.1
    simp only [okD, Bool.and_eq_true, decide_eq_true_eq] at h h2
    simp [prF, prW, okD, h, h2]
  have pO : ∀ x ∈ prO c (prT c + n + 3) n, okD 100 3 x = true := by
    intro x hx
    obtain ⟨i, _, rfl⟩ := List.mem_map.mp hx
    have h2 := (so 0).2.2.2.2.1
    simp only [okD, Bool.and_eq_true, decide_eq_true_eq] at h2
    simp [okD, h2]
  have pL : okD 100 3 (prL (prT c + n + 3) (prT c + n + 2) b) = true := by
    have h2 := (so 0).2.2.2.2.1
    have h3 := (so 0).2.2.2.2.2.1
    simp only [okD, Bool.and_eq_true, decide_eq_true_eq] at h2 h3
    cases b <;> simp [prL, okD, h2, h3]
  have pE : okD 100 3 (.tuple [.str "exit", .int 0]) = true ∧ okD 100 3 (.tuple [.str "exit", .int 1]) = true := by decide +kernel
  have all : okD 100 4 (.tuple (prB (.str k) c ++ (prF c (prT c + n + 3) :: (prO c (prT c + n + 3) n ++ [prL (prT c + n + 3) (prT c + n + 2) b, .tuple [.str "exit", .int 0], .tuple [.str "exit", .int 1]])))) = true := by
    show (decide _ && List.all _ _) = true
    rw [Bool.and_eq_true, decide_eq_true_eq, List.all_eq_true]
    refine ⟨?_, fun x hx => ?_⟩
    · rw [List.length_append, List.length_cons, List.length_append, prO_len]
      simp only [List.length_cons, List.length_nil]
      omega
    · simp only [List.mem_append, List.mem_cons, List.not_mem_nil, or_false] at hx
      rcases hx with hx | rfl | hx | rfl | rfl | rfl
      · exact pB x hx
      · exact pF
      · exact pO x hx
      · exact pL
      · exact pE.1
      · exact pE.2
  have ta : okD 100 4 (.tuple [.str "a"]) = true := by decide +kernel
  have tk : okD 100 5 (.tuple [.str m, .tuple [.str "a"], .tuple (prB (.str k) c ++ (prF c (prT c + n + 3) :: (prO c (prT c + n + 3) n ++ [prL (prT c + n + 3) (prT c + n + 2) b, .tuple [.str "exit", .int 0], .tuple [.str "exit", .int 1]])))]) = true := by
    show (decide _ && List.all _ _) = true
    rw [Bool.and_eq_true, decide_eq_true_eq, List.all_eq_true]
    refine ⟨by simp, fun x hx => ?_⟩
    simp only [List.mem_cons, List.not_mem_nil, or_false] at hx
    rcases hx with rfl | rfl | rfl
    · exact om' 4
    · exact ta
    · exact all
  unfold probeD
  show (decide _ && List.all _ _) = true
  rw [Bool.and_eq_true, decide_eq_true_eq, List.all_eq_true]
  refine ⟨by simp, fun x hx => ?_⟩
  simp only [List.mem_cons, List.not_mem_nil, or_false] at hx
  rcases hx with rfl | rfl
  · exact tk
  · exact io _ _
end
end Z
set_option Elab.async false
set_option linter.all false
set_option maxRecDepth 100000
set_option maxHeartbeats 1000000
namespace Z
open PySem PySem.Spec PyProof.Rows L2 Evl
section
variable {S : Type} [FdP]
theorem wMap_any {f : PyData → S → (Option PyData → S → Prop) → Prop} {P : PyData → Prop} : ∀ {xs : List PyData} {s : S} {Q : List PyData → S → Prop}, (∀ x ∈ xs, ∀ s k, (∀ y s2, P y → k (some y) s2) → f x s k) → (∀ ys s2, ys.length = xs.length → (∀ y ∈ ys, P y) → Q ys s2) → wMap f xs s Q
  | [], s, Q, _, q => q [] s rfl fun _ h => nomatch h
  | x :: xs, s, Q, h, q => h x List.mem_cons_self s _ fun y s2 py => wMap_any (fun z hz => h z (List.mem_cons_of_mem _ hz)) fun ys s3 hl hp => q (y :: ys) s3 (by rw [List.length_cons, List.length_cons, hl]) fun z hz => by
      rcases List.mem_cons.mp hz with rfl | hz
      · exact py
      · exact hp z hz
theorem one_app (c : Nat) (l : List Nat) : (⟨#[c]⟩ : Str) ++ ⟨l.toArray⟩ = ⟨(c :: l).toArray⟩ := PySem.Str.ext' (Array.toList_inj.mp (by rw [PySem.Str.cps_append, Array.toList_append]; rfl))
theorem join_ones : ∀ cs : List Nat, Str.join "" (cs.map fun c => (⟨#[c]⟩ : Str)) = ⟨cs.toArray⟩
  | [] => rfl
  | [c] => rfl
  | c :: d :: r => by
    show (⟨#[c]⟩ : Str) ++ "" ++ Str.join "" ((d :: r).map fun c => (⟨#[c]⟩ : Str)) = _
    rw [join_ones (d :: r)]
    have e : (⟨#[c]⟩ : Str) ++ "" = ⟨#[c]⟩ := PySem.Str.ext' (Array.toList_inj.mp (by rw [PySem.Str.cps_append, Array.toList_append]; rfl))
    rw [e, one_app]
/-- a text of so many letters -/
def Ltr (cs : List Nat) : Prop := ∀ c ∈ cs, c ∈ gLETTERS.cps.toList
theorem ltr_ok {cs : List Nat} (h : Ltr cs) : PyData.strOk ⟨cs.toArray⟩ = true := by
  have all : gLETTERS.cps.toList.all (fun c => PyData.strOk ⟨#[c]⟩) = true := by decide +kernel
  unfold PyData.strOk
  rw [List.all_toArray, List.all_eq_true]
  intro c hc
  have h1 := List.all_eq_true.mp all c (h c hc)
  unfold PyData.strOk at h1
  simpa using h1
theorem ltr_nm {cs : List Nat} (h : Ltr cs) (h1 : 1 ≤ cs.length) (h8 : cs.length ≤ 8) : isNm (.str ⟨cs.toArray⟩) = true := by
  show (decide (1 ≤ (⟨cs.toArray⟩ : Str).length) && (decide ((⟨cs.toArray⟩ : Str).length ≤ 8) && cs.toArray.toList.all fun c => decide (c ∈ gLETTERS.cps.toList))) = true
  have e : (⟨cs.toArray⟩ : Str).length = cs.length := by
    show cs.toArray.size = _
    simp
  rw [e, decide_eq_true h1, decide_eq_true h8]
  have h2 := h
  unfold Ltr at h2
  simpa using h2
theorem ones_of {ys : List PyData} (h : ∀ y ∈ ys, ∃ c : Nat, y = .str ⟨#[c]⟩ ∧ c ∈ gLETTERS.cps.toList) : ∃ cs : List Nat, ys = (cs.map fun c => (⟨#[c]⟩ : Str)).map .str ∧ Ltr cs := by
  induction ys with
  | nil => exact ⟨[], rfl, fun _ h => nomatch h⟩
  | cons y ys ih =>
    obtain ⟨cs, e, k⟩ := ih fun z hz => h z (List.mem_cons_of_mem _ hz)
    obtain ⟨c, ec, hc⟩ := h y List.mem_cons_self
    refine ⟨c :: cs, by rw [e, ec]; rfl, fun z hz => ?_⟩
    rcases List.mem_cons.mp hz with rfl | hz
    · exact hc
    · exact k z hz
end
end Z
set_option Elab.async false
set_option linter.all false
set_option maxRecDepth 100000
set_option maxHeartbeats 1000000
namespace Z
open PySem PySem.Spec PyProof.Rows L2 Evl
section
variable {S : Type} [FdP]
theorem dix_s {w : Str} {i : Int} {Q : Sl → Prop} (hw : w.length ≤ sizeLine) (h0 : 0 ≤ i) (h1 : i < w.cps.toList.length) (q : ∀ c ∈ w.cps.toList, Q (.d (.str ⟨#[c]⟩))) : dix (.d (.str w)) (.d (.int i)) Q := by
  obtain ⟨c, hc, e⟩ := atI_in h0 h1
  refine ⟨hw, ?_⟩
  rw [e]
  exact q c hc
theorem sign_len : ("abcdefghijklmnopqrstuvwxyz" : Str).cps.toList.length = 26 := by decide +kernel
theorem strsD_map : ∀ is : List Str, strsD (is.map .str) = some is
  | [] => rfl
  | z :: zs => by
    show (match strsD (zs.map .str) with
      | some ys => some (z :: ys)
      | none => none) = _
    rw [strsD_map zs]
theorem join_i {cs : List Nat} {Q : Sl → Prop} (h : cs.length ≤ 8) (q : Q (.d (.str ⟨cs.toArray⟩))) : djoin (.d (.str "")) (.d (.list ((cs.map fun c => (⟨#[c]⟩ : Str)).map .str))) Q := by
  show (match strsD _ with
    | some ys => (ys.map (·.length)).sum + ys.length * ("" : Str).length ≤ 16777216 ∧ Q (.d (.str (Txt.join "" ys)))
    | none => False)
  rw [strsD_map]
  dsimp only
  have e : Txt.join ("" : Str) (cs.map fun c => (⟨#[c]⟩ : Str)) = ⟨cs.toArray⟩ := (StrLaws.glued_eq_join _ _).trans (join_ones cs)
  have e0 : ("" : Str).length = 0 := rfl
  have e1 : ((cs.map fun c => (⟨#[c]⟩ : Str)).map (·.length)).sum = cs.length := by
    clear e q h
    induction cs with
    | nil => rfl
    | cons c cs ih =>
      simp only [List.map_cons, List.sum_cons, List.length_cons]
      rw [ih]
      have : (⟨#[c]⟩ : Str).length = 1 := rfl
      omega
  rw [e, e0, e1]
  exact ⟨by omega, q⟩
theorem spk_go {b : Bool} {k m : Str} {c : Int} {n : Nat} {s : S} {Q : QS S} {E : QX S} (ok : Ok (.str k)) (om : Ok (.str m)) (hk : isNm (.str k) = true) (c0 : 0 ≤ c) (c2 : c ≤ 2) (hn : n ≤ 70) (hm : isNm (.str m) = true) (hne : PyData.eqv (.str m) (.str k) = false)
    (q : Q (.d (probeD (.str k) c n (.str m) b)) s) : (fun ss : List Sl => spProbe b ss.reverse) [.d (.str m), .d (.int (n + 1 : Nat)), .d (.int c), .d (.str k)] s Q E := probe_in ok om hk c0 c2 hn hm hne q
theorem lp_go {k m : Str} {c : Int} {n : Nat} {b : Bool} {s : S} {Q : QS S} {E : QX S} (c0 : 0 ≤ c) (c2 : c ≤ 2) (hn : n ≤ 70) (q : Q (.d (probeD (.str k) c n (.str m) (!b))) s) : sp_law_probe [.d (.str k), .d (.int c), .d (.int (n + 1 : Nat)), .d (.str m), .d (.bool b)] s Q E := ⟨k, c, m, n, b, rfl, c0, c2, hn, q⟩
theorem str_shaped {z : Str} (h : Ok (.str z)) : SeqAt.shaped (.str z) = true := h.shaped
end
end Z
set_option Elab.async false
set_option linter.all false
set_option maxRecDepth 100000
set_option maxHeartbeats 1000000
namespace Z
open PySem PySem.Spec PyProof.Rows L2 Evl
section
variable {S : Type} [FdP]
theorem gV_i {d : PyData} {Q : Sl → Prop} (q : Q (.d d)) : getV (.d d) Q := q
theorem dT_i {b : Bool} {Q : Bool → Prop} (q : Q b) : dtru (.d (.bool b)) Q := q
theorem bifN {A B : Prop} (q : B) : bif2 (!true) A B := q
theorem law_body {j : Int} (hj : 0 ≤ j) (hj3 : j < 3) {o0 o3 o4 o5 o6 o7 o8 o9 o10 o11 : Option Sl} {s : S} {k : Out → S → Prop} {E : QX S}
    (y : ∀ (cs : List Nat) (c : Int) (n : Nat) (a3 a4 a6 a7 a8 a11 : Option Sl) (s2 : S), Ltr cs → 1 ≤ cs.length → cs.length ≤ 8 → 0 ≤ c → c ≤ 2 → n ≤ 70 →
      k (.nx [o0, some (.v (.ref FdP.p)), some (.d (.int j)), a3, a4, some (.d (.str ⟨cs.toArray⟩)), a6, a7, a8, some (.d (.int c)), some (.d (.int (n + 1 : Nat))), a11]) s2) :
    wB G_law 30 28 (defScope s_law) [o0, some (.v (.ref FdP.p)), some (.d (.int j)), o3, o4, o5, o6, o7, o8, o9, o10, o11] s (forBody ((defBody s_law).getD 1 (.Pass ⟨0, 0, 0, 0⟩))) k E := by
  refine Eq.mpr (f_law_b (.ref FdP.p) o0 o3 o4 o5 o6 o7 o8 o9 o10 o11 _ s k E) ⟨⟨_, rfl⟩, le100s (by simp), drw (by omega) (by omega) fun i i0 i1 => dix_l i0 (by simpa using i1) fun z hz => ?_⟩
  obtain ⟨m, rfl, m1, m8⟩ : ∃ m : Int, z = .int m ∧ 1 ≤ m ∧ m ≤ 8 := by
    simp only [List.mem_cons, List.not_mem_nil, or_false] at hz
    rcases hz with rfl | rfl | rfl | rfl <;> exact ⟨_, rfl, by decide, by decide⟩
  refine ⟨by omega, by omega, by rw [range_len]; omega, wMap_any (P := fun d => ∃ c : Nat, d = .str ⟨#[c]⟩ ∧ c ∈ gLETTERS.cps.toList) (fun x hx s k hk => drw (by omega) (by omega) fun u u0 u1 => dix_s (by decide +kernel) u0 (by rw [sign_len]; exact u1) fun c hc => hk _ s ⟨c, rfl, hc⟩) fun ys s5 hl hp => ?_⟩
  obtain ⟨cs, rfl, hc⟩ := ones_of hp
  rw [List.length_map, List.length_map, range_len] at hl
  have l1 : 1 ≤ cs.length := by omega
  have l8 : cs.length ≤ 8 := by omega
  refine join_i l8 (drw (by omega) (by omega) fun c c0 c3 => ⟨le100s (by simp), dix_l hj (by simpa using hj3) fun z2 hz2 => ?_⟩)
  obtain ⟨q, rfl, q1, q2⟩ : ∃ q : Int, z2 = .int q ∧ 2 ≤ q ∧ q ≤ 60 := by
    simp only [List.mem_cons, List.not_mem_nil, or_false] at hz2
    rcases hz2 with rfl | rfl | rfl <;> exact ⟨_, rfl, by decide, by decide⟩
  refine drw (by omega) (by omega) fun n n0 n1 => ?_
  rw [add_i]
  obtain ⟨nn, rfl⟩ : ∃ nn : Nat, n = nn := ⟨n.toNat, by omega⟩
  have e : (1 : Int) + nn = ((nn + 1 : Nat) : Int) := by omega
  rw [e]
  refine ⟨le100s (by simp), drw (by omega) (by omega) fun i2 i20 i21 => dix_l i20 (by simpa using i21) fun z3 hz3 => ?_⟩
  have tn := ltr_nm hc l1 l8
  have tl : (⟨cs.toArray⟩ : Str).length ≤ 8 := by
    show cs.toArray.size ≤ 8
    simpa using l8
  have to0 : okD 100 0 (.str ⟨cs.toArray⟩) = true := by simp [okD, ltr_ok hc]; omega
  have to : Ok (.str ⟨cs.toArray⟩) := by simpa [okD, Ok] using to0
  have fin : ∀ a3 a4 a6 a7 a8 a11 s2, k (.nx [o0, some (.v (.ref FdP.p)), some (.d (.int j)), a3, a4, some (.d (.str ⟨cs.toArray⟩)), a6, a7, a8, some (.d (.int c)), some (.d (.int (nn + 1 : Nat))), a11]) s2 := fun a3 a4 a6 a7 a8 a11 s2 => y cs c nn a3 a4 a6 a7 a8 a11 s2 hc l1 l8 c0 (by omega) (by omega)
  clear hp y
  generalize (⟨cs.toArray⟩ : Str) = t at *
  obtain ⟨w0, rfl, wn, wo0, x1, x2, x3, x4⟩ : ∃ w0 : Str, z3 = .str w0 ∧ isNm (.str w0) = true ∧ okD 100 0 (.str w0) = true ∧ isNm (.str ((⟨(cutG w0.cps.toList none (some 1)).toArray⟩ : Str) ++ "b")) = true ∧ okD 100 0 (.str ((⟨(cutG w0.cps.toList none (some 1)).toArray⟩ : Str) ++ "b")) = true ∧ PyData.eqv (.str ((⟨(cutG w0.cps.toList none (some 1)).toArray⟩ : Str) ++ "b")) (.str w0) = false ∧ (⟨(cutG w0.cps.toList none (some 1)).toArray⟩ : Str).length + ("b" : Str).length ≤ 100 := by
    simp only [List.mem_cons, List.not_mem_nil, or_false] at hz3
    rcases hz3 with rfl | rfl | rfl | rfl <;> exact ⟨_, rfl, by decide +kernel, by decide +kernel, by decide +kernel, by decide +kernel, by decide +kernel, by decide +kernel⟩
  rw [gV_d, gV_d]
  have wo : Ok (.str w0) := by simpa [okD, Ok] using wo0
  refine ⟨str_shaped wo, str_shaped to, ?_⟩
  have okp : ∀ m0 b, okD 100 0 (.str m0) = true → okD 100 6 (probeD (.str t) c nn (.str m0) b) = true := fun m0 b h => okD_probe to0 h (by omega)
  have up : ∀ {a : Nat} {d : PyData}, okD 100 6 d = true → okD 100 7 d = true := fun h => okD_mono (by omega) (by omega) h
  have cl : c ≤ 2 := by omega
  have nl : nn ≤ 70 := by omega
  have pr0 : okD 100 0 (.str "probe") = true := by decide +kernel
  have pro : Ok (.str "probe") := by decide +kernel
  have prn : isNm (.str "probe") = true := by decide +kernel
  have hcI : inI [0, 1, 2] (.int c) = true := by
    have h : c = 0 ∨ c = 1 ∨ c = 2 := by omega
    rcases h with rfl | rfl | rfl <;> decide
  have hpI : isPos (.int (nn + 1 : Nat)) = true := by
    show decide (0 < ((nn + 1 : Nat) : Int)) = true
    exact decide_eq_true (by omega)
  have eqt : PyData.eqv (.str t) (.str t) = true := by simp [PyData.eqv]
  have badT : badW (.str t) (.int c) (.int (nn + 1 : Nat)) (.str t) = some "called" := by
    unfold badW
    rw [if_pos tn, if_pos hcI, if_pos hpI]
    simp [eqt]
  have h70 : ∀ n0 : Nat, PyData.int (nn + 1 : Nat) = .int (n0 + 1 : Nat) → n0 ≤ 70 := fun n0 e => by
    have := PyData.int.inj e
    omega
  cases hw : PyData.eqv (.str w0) (.str t) with
  | false =>
    show bif2 true _ _
    rw [bT]
    simp only [gV_d]
    refine ⟨rfl, rfl, spk_go to wo tn c0 cl nl wn hw (gV_i (lp_go c0 cl nl (same_go (up (a := 0) (okp w0 true wo0)) (dT_i (bifN ⟨rfl, rfl, spk_go to wo tn c0 cl nl wn hw (gV_i (lp_go c0 cl nl (same_go (up (a := 0) (okp w0 false wo0)) (dT_i (bifN ?_)))))⟩)))))⟩
    refine lp_go c0 cl nl (lp_go c0 cl nl (allD_i rfl ⟨le100s (by simp), str_shaped to, by decide +kernel, ?_⟩))
    cases hp : PyData.eqv (.str t) (.str "probe") with
    | false =>
      have hp2 : PyData.eqv (.str "probe") (.str t) = false := by
        have h := hp
        simp [PyData.eqv] at h ⊢
        exact fun e => h e.symm
      have ok7 : okD 100 7 (.tuple [probeD (.str t) c nn (.str "probe") true, probeD (.str t) c nn (.str "probe") false]) = true := by
        show (decide _ && List.all _ _) = true
        rw [Bool.and_eq_true, decide_eq_true_eq, List.all_eq_true]
        refine ⟨by simp, fun x hx => ?_⟩
        simp only [List.mem_cons, List.not_mem_nil, or_false] at hx
        rcases hx with rfl | rfl <;> exact okp _ _ pr0
      show bif2 true _ _
      rw [bT]
      exact probe_in to pro tn c0 cl nl prn hp2 (probe_in to pro tn c0 cl nl prn hp2 (allD_i rfl ⟨le100s (by simp), same_go ok7 (dT_i (bifN (ref_go to rfl rfl to badT (by decide +kernel) h70 (dT_i (bifN (fin _ _ _ _ _ _ _))))))⟩))
    | true =>
      show bif2 false _ _
      rw [bF]
      exact ref_go to rfl rfl to badT (by decide +kernel) h70 (dT_i (bifN (fin _ _ _ _ _ _ _)))
  | true =>
    have tw : w0 = t := by
      have h := hw
      simp [PyData.eqv] at h
      exact h
    subst tw
    show bif2 false _ _
    rw [bF, gV_d]
    refine ⟨le100s (by omega), le100s x4, ?_⟩
    generalize (⟨(cutG w0.cps.toList none (some 1)).toArray⟩ : Str) ++ "b" = m0 at x1 x2 x3 ⊢
    have mo : Ok (.str m0) := by simpa [okD, Ok] using x2
    simp only [gV_d]
    refine ⟨rfl, rfl, spk_go to mo tn c0 cl nl x1 x3 (gV_i (lp_go c0 cl nl (same_go (up (a := 0) (okp _ true x2)) (dT_i (bifN ⟨rfl, rfl, spk_go to mo tn c0 cl nl x1 x3 (gV_i (lp_go c0 cl nl (same_go (up (a := 0) (okp _ false x2)) (dT_i (bifN ?_)))))⟩)))))⟩
    refine lp_go c0 cl nl (lp_go c0 cl nl (allD_i rfl ⟨le100s (by simp), str_shaped to, by decide +kernel, ?_⟩))
    cases hp : PyData.eqv (.str w0) (.str "probe") with
    | false =>
      have hp2 : PyData.eqv (.str "probe") (.str w0) = false := by
        have h := hp
        simp [PyData.eqv] at h ⊢
        exact fun e => h e.symm
      have ok7 : okD 100 7 (.tuple [probeD (.str w0) c nn (.str "probe") true, probeD (.str w0) c nn (.str "probe") false]) = true := by
        show (decide _ && List.all _ _) = true
        rw [Bool.and_eq_true, decide_eq_true_eq, List.all_eq_true]
        refine ⟨by simp, fun x hx => ?_⟩
        simp only [List.mem_cons, List.not_mem_nil, or_false] at hx
        rcases hx with rfl | rfl <;> exact okp _ _ pr0
      show bif2 true _ _
      rw [bT]
      exact probe_in to pro tn c0 cl nl prn hp2 (probe_in to pro tn c0 cl nl prn hp2 (allD_i rfl ⟨le100s (by simp), same_go ok7 (dT_i (bifN (ref_go to rfl rfl to badT (by decide +kernel) h70 (dT_i (bifN (fin _ _ _ _ _ _ _))))))⟩))
    | true =>
      show bif2 false _ _
      rw [bF]
      exact ref_go to rfl rfl to badT (by decide +kernel) h70 (dT_i (bifN (fin _ _ _ _ _ _ _)))
end
end Z
set_option Elab.async false
set_option linter.all false
set_option maxRecDepth 100000
set_option maxHeartbeats 1000000
namespace Z
open PySem PySem.Spec PyProof.Rows L2 Evl
section
variable {S : Type} [FdP]
abbrev for1 : Stmt := (defBody s_law).getD 1 (.Pass ⟨0, 0, 0, 0⟩)
/-- what the slots hold behind a turn -/
def Aft (ε : En) : Prop := ∃ (cs : List Nat) (c : Int) (n : Nat) (o0 o2 a3 a4 a6 a7 a8 a11 : Option Sl), Ltr cs ∧ 1 ≤ cs.length ∧ cs.length ≤ 8 ∧ 0 ≤ c ∧ c ≤ 2 ∧ n ≤ 70 ∧
  ε = [o0, some (.v (.ref FdP.p)), o2, a3, a4, some (.d (.str ⟨cs.toArray⟩)), a6, a7, a8, some (.d (.int c)), some (.d (.int (n + 1 : Nat))), a11]
def Fst (ε : En) : Prop := ∃ o0 o2 o3 o4 o5 o6 o7 o8 o9 o10 o11 : Option Sl, ε = [o0, some (.v (.ref FdP.p)), o2, o3, o4, o5, o6, o7, o8, o9, o10, o11]
theorem Aft.fst {ε : En} (h : Aft ε) : Fst ε := by
  obtain ⟨cs, c, n, o0, o2, a3, a4, a6, a7, a8, a11, _, _, _, _, _, _, rfl⟩ := h
  exact ⟨_, _, _, _, _, _, _, _, _, _, _, rfl⟩
theorem f_for (o0 o2 o3 o4 o5 o6 o7 o8 o9 o10 o11 : Option Sl) (d1 : V) (s : S) (O : Out → S → Prop) (E : QX S) : wB G_law 30 29 (defScope s_law) [o0, some (.v d1), o2, o3, o4, o5, o6, o7, o8, o9, o10, o11] s [for1] O E =
    (rangeS1 (.d (.int 3)) fun xs => wFor (loopF G_law 30 28 (defScope s_law) (false, [2]) (forBody for1) E) xs [o0, some (.v d1), o2, o3, o4, o5, o6, o7, o8, o9, o10, o11] s (wThen (fun ε s => wB G_law 30 28 (defScope s_law) ε s [] O E) O)) := by kernel_rfl
theorem law_for {ε : En} (h : Fst ε) {s : S} {O : Out → S → Prop} {E : QX S} (y : ∀ ε2 s2, Aft ε2 → O (.nx ε2) s2) : wB G_law 30 29 (defScope s_law) ε s [for1] O E := by
  obtain ⟨o0, o2, o3, o4, o5, o6, o7, o8, o9, o10, o11, rfl⟩ := h
  refine Eq.mpr (f_for o0 o2 o3 o4 o5 o6 o7 o8 o9 o10 o11 (.ref FdP.p) s O E) ⟨by decide, by decide, ?_⟩
  have turn : ∀ (j : Int), 0 ≤ j → j < 3 → ∀ (ε : En) (s : S) (k : Out → S → Prop), Fst ε → (∀ ε2 s2, Aft ε2 → k (.nx ε2) s2) → loopF G_law 30 28 (defScope s_law) (false, [2]) (forBody for1) E (.int j) ε s k := by
    rintro j j0 j3 ε s k ⟨o0, o2, o3, o4, o5, o6, o7, o8, o9, o10, o11, rfl⟩ q
    exact law_body (o0 := o0) (o3 := o3) (o4 := o4) (o5 := o5) (o6 := o6) (o7 := o7) (o8 := o8) (o9 := o9) (o10 := o10) (o11 := o11) j0 j3 fun cs c n a3 a4 a6 a7 a8 a11 s2 h1 h2 h3 h4 h5 h6 => q _ s2 ⟨cs, c, n, _, _, a3, a4, a6, a7, a8, a11, h1, h2, h3, h4, h5, h6, rfl⟩
  have e : rangeD 0 3 = [.int 0, .int 1, .int 2] := by simp [rangeD, List.range_succ]
  rw [e]
  refine turn 0 (by omega) (by omega) _ s _ ⟨_, _, _, _, _, _, _, _, _, _, _, rfl⟩ fun ε1 s1 a1 => ?_
  refine turn 1 (by omega) (by omega) _ s1 _ a1.fst fun ε2 s2 a2 => ?_
  refine turn 2 (by omega) (by omega) _ s2 _ a2.fst fun ε3 s3 a3 => ?_
  show wB G_law 30 28 (defScope s_law) ε3 s3 [] O E
  simp only [wB]
  exact y ε3 s3 a3
end
end Z
set_option Elab.async false
set_option linter.all false
set_option maxRecDepth 100000
set_option maxHeartbeats 1000000
namespace Z
open PySem PySem.Spec PyProof.Rows L2 Evl
abbrev lam3 : Expr × Scope := lamSt ((defBody s_law).getD 2 (.Pass ⟨0, 0, 0, 0⟩))
theorem f_lam3 [FdP] (o0 o1 o2 o3 o4 o5 o6 o7 o8 o9 o10 o11 : Option Sl) (Q : QS Unit) (E : QX Unit) : wE (S := Unit) G_law 30 false lam3.2 [o0, o1, o2, o3, o4, o5, o6, o7, o8, o9, o10, o11] () lam3.1 Q E = spd_settled_probe [.d (.str "probe"), .d (.int 0), .d (.int 1)] () Q E := by kernel_rfl
theorem lam3S : LamX.LamS (defScope s_law) lam3.2 := LamX.lamS_by (by decide +kernel)
def due3 : Expr := match (defBody s_law).getD 2 (.Pass ⟨0, 0, 0, 0⟩) with
  | .If (.UnaryOp .Not (.Call _ [_, e] _ _) _) _ _ _ => e
  | _ => .Constant .none 0 ⟨0, 0, 0, 0⟩
theorem f_due3 [FdP] (o0 o1 o2 o3 o4 o5 o6 o7 o8 o9 o10 o11 : Option Sl) (Q : QS Unit) (E : QX Unit) : wE (S := Unit) G_law 30 false (defScope s_law) [o0, o1, o2, o3, o4, o5, o6, o7, o8, o9, o10, o11] () due3 Q E = ((List.length ([.str "use", .str "called", .int (-1)] : List PyData)) ≤ sizeLine ∧ Q (.d (dueD "called")) ()) := by kernel_rfl
theorem bad3 : spd_settled_probe (S := Unit) [.d (.str "probe"), .d (.int 0), .d (.int 1)] () (fun _ _ => False) (fun xr _ => xr = xNU "called") :=
  probe_bad (b := true) (k := .str "probe") (c := .int 0) (n := .int 1) (m := .str "probe") (by decide +kernel) rfl rfl (by decide +kernel) (by decide +kernel) fun n0 e => by
    have := PyData.int.inj e
    omega
end Z
set_option Elab.async false
set_option linter.all false
set_option maxRecDepth 100000
set_option maxHeartbeats 1000000
namespace Z
open PySem PySem.Spec PyProof.Rows L2 Evl
/-- own lists forgotten -/
def hd1 : Option Sl → Option Sl
  | some (.own _) => none
  | x => x
def hid (ε : En) : En := ε.map hd1
theorem er_hid {S : Type} {K : PySem.W.Frag} {W : Wd S} {F H : Hp} {σ : L2.St} {ε : En} {ps : List Addr} (h : Er K W F H σ ε ps) : ∃ ps', Er K W F H σ (hid ε) ps' := by
  induction h with
  | nil => exact ⟨_, .nil⟩
  | no _ ih =>
    obtain ⟨q, r⟩ := ih
    exact ⟨q, .no r⟩
  | d hd _ ih =>
    obtain ⟨q, r⟩ := ih
    exact ⟨q, .d hd r⟩
  | v _ ih =>
    obtain ⟨q, r⟩ := ih
    exact ⟨q, .v r⟩
  | t hd _ ih =>
    obtain ⟨q, r⟩ := ih
    exact ⟨q, .t hd r⟩
  | own _ _ _ _ _ _ ih =>
    obtain ⟨q, r⟩ := ih
    exact ⟨q, .no r⟩
theorem hid_no (ε : En) : noOwn (hid ε) := by
  intro i xs h
  unfold hid at h
  rw [List.getElem?_map] at h
  obtain ⟨o, _, e⟩ := Option.map_eq_some_iff.mp h
  cases o with
  | none => cases e
  | some s => cases s <;> cases e
abbrev N_law : List Str := ["_law_script", "_law_feed_here", "_law_k", "_law_odd", "_law_signs", "_law_title", "_law_name", "_law_told", "_law_due", "_law_ending", "_law_count", "_law_j"]
theorem sc_lawN : FnScope N_law ["_law_script"] (defScope (top 26)) :=
  letI : FdP := ⟨0⟩
  sc_law
/-- a moment at which a feed lies there -/
structure Mo where
  p : Addr
  c : Addr
  ns : List Int
  len : ns.length ≤ 63
  F : Hp
  H : Hp
abbrev Mo.i (m : Mo) (T : List (Addr × Str)) (C : Addr) : KW := ⟨m.p, m.c, m.ns, T, C⟩
abbrev q_law : Str := (envOfC "law" (defScope (top 26)) 0 0 .none).qual ++ "<lambda>"
def spLaw (K : PySem.W.Frag) (T : List (Addr × Str)) : Sp := fun vs H Q _ => ∃ (a : Addr) (ns : List Int), vs = [.ref a] ∧ SqL K H a (ns.map V.int) ∧ ns.length ≤ 63 ∧ LamX.Tabs T H ∧ ∀ H', Q (.bl true) H'
/-- what stands around -/
structure AllK (P : Program) (w : World) (K : PySem.W.Frag) (mg : Str → Option Value) (base : Heap) (T : List (Addr × Str)) (C CIP CF PR PL : Addr) : Prop where
  tk : TopOk K mg
  defs : AllDefs K mg
  dS : ProbeAt K mg "settled_probe" s_settled_probe
  dR : ProbeAt K mg "reach_probe" s_reach_probe
  heard : DefAt K mg "_law_heard" s_heard ["_law_ask"]
  probe : DefAt K mg "_law_probe" (top 24) ["_law_title", "_law_ending", "_law_count", "_law_name", "_law_far"]
  refused : LamAt K mg base "_law_refused" s_ref ["_law_title", "_law_ending", "_law_count", "_law_name", "_law_word"] PR
  law : LamAt K mg base "law" (top 26) ["_law_script"] PL
  ho : HeardOk K mg C CIP CF
  mR : (PR, q_ref) ∈ T
  mL : (PL, q_law) ∈ T
  uR : ∀ p ∈ T, p.1 = PR → p.2 = q_ref
  uL : ∀ p ∈ T, p.1 = PL → p.2 = q_law
  need : ∀ (i : KW), i.C = C → FnH Unit false P w K mg base (kQ i) 3 "need" sp_need
section
variable {P : Program} {w : World} {K : PySem.W.Frag} {mg : Str → Option Value} {base : Heap} {T : List (Addr × Str)} {C CIP CF PR PL : Addr}
theorem h_law_probe (A : AllK P w K mg base T C CIP CF PR PL) {S : Type} {q : Wq S} : FnH S false P w K mg base q 1 "_law_probe" sp_law_probe :=
  fn_def (G := G_law_probe) A.tk A.probe sc_law_probe rfl rfl rfl rfl rfl (by decide +kernel) fns_nil (by
    rintro ss s Qd Ed ⟨k, c, m, n, b, rfl, _⟩
    rfl) ok_law_probe
/-- the defs that the law calls -/
theorem law_fns (A : AllK P w K mg base T C CIP CF PR PL) (m : Mo) : letI : FdP := ⟨m.p⟩; ∀ f spec, (G_law (S := Unit)).fns.lookup f = some spec → FnH Unit false P w K mg base (kQ (m.i T C)) 12 f spec := by
  letI : FdP := ⟨m.p⟩
  have mInt : mg "int" = none := A.tk.free "int" (by decide +kernel)
  have mLen : mg "len" = none := A.tk.free "len" (by decide +kernel)
  have hn := A.need (m.i T C) rfl
  have p1 := h_settled (q := kQ (m.i T C)) A.tk A.defs A.dS hn
  have p2 := h_reach (q := kQ (m.i T C)) A.tk A.defs A.dR hn
  have dw : FnH Unit false P w K mg base (kQ (m.i T C)) 1 "_law_draw" (spDraw m.p) := h_draw m.len A.defs.draw mInt mLen
  have s2 : FnH Unit false P w K mg base (kQ (m.i T C)) 3 "_law_same" (spSm 2) := h_same A.tk A.defs 2 (by omega)
  have s8 : FnH Unit false P w K mg base (kQ (m.i T C)) 9 "_law_same" (spSm 8) := h_same A.tk A.defs 8 (by omega)
  have rf := h_ref (i := m.i T C) A.tk A.refused A.heard A.ho A.mR A.uR (s2.mono (by omega)) p1 p2
  exact fns_cons (dw.mono (by omega)) (fns_cons (s8.mono (by omega)) (fns_cons ((h_law_probe A).mono (by omega)) (fns_cons (rf.mono (by omega)) (fns_cons (p1.d.mono (by omega)) (fns_cons (p2.d.mono (by omega)) fns_nil)))))
theorem law_kfs (A : AllK P w K mg base T C CIP CF PR PL) (m : Mo) : letI : FdP := ⟨m.p⟩; ∀ f n ks spec, kfOf (G_law (S := Unit)).kfn f n ks = some spec → FnKH Unit false P w K mg base (kQ (m.i T C)) 12 f n ks spec := by
  letI : FdP := ⟨m.p⟩
  have hn := A.need (m.i T C) rfl
  have p1 := h_settled (q := kQ (m.i T C)) A.tk A.defs A.dS hn
  have p2 := h_reach (q := kQ (m.i T C)) A.tk A.defs A.dR hn
  exact kfs_cons (x := ("settled_probe", 0, ["called", "number", "code", "kind"])) (p1.k0.mono (by omega)) (kfs_cons (x := ("reach_probe", 0, ["called", "number", "code", "kind"])) (p2.k0.mono (by omega)) kfs_nil)
end
end Z
set_option Elab.async false
set_option linter.all false
set_option maxRecDepth 100000
set_option maxHeartbeats 1000000
namespace Z
open PySem PySem.Spec PyProof.Rows L2 Evl
section
variable {P : Program} {w : World} {K : PySem.W.Frag} {mg : Str → Option Value} {base : Heap} {T : List (Addr × Str)} {C CIP CF PR PL : Addr}
theorem ltr8 : ("abcdefgh" : Str) = ⟨[97, 98, 99, 100, 101, 102, 103, 104].toArray⟩ := by decide +kernel
theorem ok_law {f fF : Addr} {fd fdF : FuncData} (F : FunD K "law" "law" (defArgs (top 26)) (defBody (top 26)) (defScope (top 26)) [] [] f fd)
    (FF : FunD K "_law_feed" "_law_feed" (defArgs s_feed) (defBody s_feed) (defScope s_feed) [] [] fF fdF) (mF : mg "_law_feed" = some (.ref fF)) (bF : Binds K fdF ["_law_script"] [])
    (A : AllK P w K mg base T C CIP CF PR PL) (hcd : ∀ cdv, (∃ oc od dV kV doc pm an ct osl, K.lookup f = some ⟨oc, od, .func (PySem.W.fnOf "law" "law" (defArgs (top 26)) (defBody (top 26)) (defScope (top 26)) dV kV doc pm an cdv ct), osl⟩) → ∃ c, cdv = .ref c ∧ LamX.TabB base mg c PL) :
    FnG false P w K mg base (L2.CX P w) 21 f fd ["_law_script"] (spLaw K T) := by
  have mL : mg "list" = none := A.tk.free "list" (by decide +kernel)
  have gF : FnC false P w K mg base (L2.CX P w) 1 fF fun vs H Q E => spFeed K (vs ++ []) H Q E := (ok_feed (P := P) (w := w) (base := base) mL FF).call bF .nil
  refine FunD_okL (k := 20) F sc_lawN ?_ ?_
  · rintro vs H Q E ⟨a, ns, rfl, _⟩
    rfl
  · rintro cdv hl A0 outer sh H vs Q E hr ⟨a, ns, rfl, hs, hlen, hT, hQ⟩
    obtain ⟨cc, rfl, TB⟩ := hcd cdv hl
    have key : ∀ m : Mo, letI : FdP := ⟨m.p⟩; PSs (cxOf (L2.CX P w) P w K mg base N_law "law" (defScope (top 26)) f (.ref cc) A0 outer sh H E) ((defBody (top 26)).drop 1)
        (fun D σ H1 => ∃ F1 ε, Fst ε ∧ Cz K ((kQ (m.i T C)).wd m.F m.H E) F1 H1 σ ε () (fun _ _ => False) ∧ ∀ H', D.rt (.bl true) H') := by
      intro m
      letI : FdP := ⟨m.p⟩
      have fns := law_fns A m
      have kfs := law_kfs A m
      have C0 : CxOk (cxOf (L2.CX P w) P w K mg base N_law "law" (defScope (top 26)) f (.ref cc) A0 outer sh H E) ((kQ (m.i T C)).wd m.F m.H E) G_law (defScope (top 26)) :=
        ctx_def (P := P) (w := w) (K := K) (mg := mg) (base := base) (k := 20) (qual := "law") (f := f) (cdv := .ref cc) (A := A0) (outer := outer) (sh := sh) (H := H) (E := E) (kQ (m.i T C)) G_law sc_lawN rfl (by decide +kernel) A.tk.free A.tk.glob (fun g sp h => (fns g sp h).mono (by omega)) (fun g n ks sp h => (kfs g n ks sp h).mono (by omega)) m.F m.H (fun z => by cases z) hr
      obtain ⟨a2, G2, hm2, hk2⟩ := (h_same (P := P) (w := w) (base := base) (q := kQ (m.i T C)) A.tk A.defs 2 (by omega)).ex
      obtain ⟨g, gd, FH, hmg, hbg⟩ := A.heard
      obtain ⟨oc, od, dV, kV, doc, pm, an, cdg, ct, osl, rfl, lk, hcg, _, _⟩ := FH.ex
      have lam : ∀ {params : Arguments} {body : Expr} {lsc : Scope} {p lpos pos : Pos}, (∀ env, defaultsOf params env = ([], [])) → (∀ (q : Str) (cl : List (Str × Addr)) (pm cv ctv : Value), bindArgs (PySem.W.kla_fn "<lambda>" q params body lsc cl pm cv ctv) ⟨[], []⟩ = pure []) → LamX.LamS (defScope (top 26)) lsc → okSc lsc = true →
          PE (cxOf (L2.CX P w) P w K mg base N_law "law" (defScope (top 26)) f (.ref cc) A0 outer sh H E) (.Call (.Name "_law_heard" p) [.Lambda params body lsc lpos] [] pos) (LamX.tLam T (tHeard C) (tLm K (m.i T C) G_law (body, lsc))) :=
        fun hdef hbind L okl => LamX.pe_lamcall (k := 12) (P := PL) (c := cc) rfl hmg FH.kp lk hcg hbg sc_heard rfl (.inl rfl) (heard_gives A.ho) TB rfl A.mL A.uL (hr.mono (by omega)) L (hdef _) hbind
          (fun A2 outer2 s2 H2 E2 f2 c2 hr' => pe_ex fun z => (sound G_law 30 _ _ _ (ctx_lam (kQ (m.i T C)) G_law L rfl sc_lawN.nd okl rfl A.tk.free A.tk.glob fns kfs A2 outer2 s2 H2 E2 f2 c2 z.1 z.2 hr') _).1) (by decide +kernel) (by decide +kernel) (by decide +kernel)
      have ex1 : ∀ e, PE (cxOf (L2.CX P w) P w K mg base N_law "law" (defScope (top 26)) f (.ref cc) A0 outer sh H E) e (tWE K ((kQ (m.i T C)).wd m.F m.H E) G_law 30 (defScope (top 26)) e) := fun e => (sound G_law 30 _ _ _ C0 e).1
      refine pss_imp (ps_forG (m := 30) (n := 28) C0 (soundB C0 28) (by omega) (pss_cons (ps_if (pt_not (pt_val (pe_fg G2 (fun z => by cases z) (hr.mono (by omega)) rfl hm2 hk2 passes_def (pa_cons (lam (fun _ => rfl) (fun _ _ _ _ _ => rfl) lam3S (by decide +kernel)) (pa_cons (ex1 _) pa_nil)) (by decide +kernel) rfl rfl))) pss_never pss_nil) (soundB (m := 30) C0 27 ((defBody (top 26)).drop 3)))) fun D σ H1 ⟨F1, ε, hf, cz, hq⟩ => ?_
      refine ⟨ε, (), fun o _ => ∃ ε2, o = .nx ε2 ∧ Aft ε2, fun _ _ => False, F1, law_for hf fun ε2 s2 h => ⟨ε2, rfl, h⟩, cz, ?_⟩
      rintro o s2 ⟨ε2, rfl, cs, c, n, o0, o2, a3, a4, a6, a7, a8, a11, hc, l1, l8, c0, c2, hn, rfl⟩
      intro σ3 F3 H3 fm ex er j
      obtain ⟨ps, er0⟩ := er
      obtain ⟨ps2, er2⟩ := er_hid er0
      have tl : (⟨cs.toArray⟩ : Str).length = cs.length := by
        show cs.toArray.size = _
        simp
      have to0 : okD 100 0 (.str ⟨cs.toArray⟩) = true := by simp [okD, ltr_ok hc]; omega
      have to : Ok (.str ⟨cs.toArray⟩) := by simpa [okD, Ok] using to0
      refine hear_go (i := m.i T C) (Γ := G_law) (lm := lam3) (W := (kQ (m.i T C)).wd m.F m.H E) (due := due3) (sc := defScope (top 26)) (wd := "called") rfl rfl fm.fh ⟨ps2, er2⟩ (hid_no _) j (Eq.mpr (f_lam3 _ _ _ _ _ _ _ _ _ _ _ _ _ _) bad3) (fun Q2 E2 => (f_due3 _ _ _ _ _ _ _ _ _ _ _ _ Q2 E2).trans (propext (and_iff_right (le100s (by simp))))) (by decide +kernel) fun F6 H6 m6 j6 => ⟨true, rfl, ?_⟩
      show (if false = true then _ else _)
      refine ifF ?_
      refine ⟨_, (), fnO fun sl _ => sl = .d (.bool true), fun _ _ => False, F6, law_end (o0 := o0) (o2 := o2) (o3 := a3) (o4 := a4) (o6 := a6) (o7 := a7) (o8 := a8) (o11 := a11) (ltr_nm hc l1 l8) to ?_ ?_ (by omega) c0 c2 hn fun _ => rfl, ⟨fm.trans m6, ⟨ps, er0.fm m6⟩, j6, fun _ _ _ _ _ _ _ _ _ z => z.elim⟩, ?_⟩
      · have e8 : PyData.strOk "abcdefgh" = true ∧ ("abcdefgh" : Str).length = 8 := by decide +kernel
        have e9 : ((⟨cs.toArray⟩ : Str) ++ "abcdefgh").length = cs.length + 8 := by
          show ((⟨cs.toArray⟩ : Str).cps ++ ("abcdefgh" : Str).cps).size = _
          rw [Array.size_append]
          have := e8.2
          show cs.toArray.size + ("abcdefgh" : Str).length = _
          rw [this]
          simp
        have e10 : PyData.strOk ((⟨cs.toArray⟩ : Str) ++ "abcdefgh") = true := by
          have h1 := ltr_ok hc
          have h2 := e8.1
          unfold PyData.strOk at h1 h2 ⊢
          show (((⟨cs.toArray⟩ : Str).cps ++ ("abcdefgh" : Str).cps).all _) = true
          rw [Array.all_append, h1, h2]
          rfl
        have : okD 100 0 (.str ((⟨cs.toArray⟩ : Str) ++ "abcdefgh")) = true := by simp [okD, e10, e9]; omega
        simpa [okD, Ok] using this
      · have e8 : ("abcdefgh" : Str).length = 8 := by decide +kernel
        have e9 : ((⟨cs.toArray⟩ : Str) ++ "abcdefgh").length = cs.length + 8 := by
          show ((⟨cs.toArray⟩ : Str).cps ++ ("abcdefgh" : Str).cps).size = _
          rw [Array.size_append]
          show cs.toArray.size + ("abcdefgh" : Str).length = _
          rw [e8]
          simp
        show (decide (1 ≤ ((⟨cs.toArray⟩ : Str) ++ "abcdefgh").length) && (decide (((⟨cs.toArray⟩ : Str) ++ "abcdefgh").length ≤ 8) && _)) = false
        rw [e9, decide_eq_false (by omega : ¬ cs.length + 8 ≤ 8)]
        simp
      · intro o s2 ho
        cases o with
        | rt v =>
          intro v2 F7 H7 fm7 j7 r
          have e2 : v = .d (.bool true) := ho
          subst e2
          have r2 : Rp K F7 v2 (.bool true) := r
          cases r2
          exact hq H7
        | nx ε =>
          have e2 : Sl.d .none = .d (.bool true) := ho
          cases e2
        | bk ε => exact ho.elim
        | ct ε => exact ho.elim
    refine ⟨_, pss_cons (ps_set (i := 1) sc_lawN.nd rfl (.inr rfl) (pe_fg gF (fun z => by cases z) (hr.mono (by omega)) (by rfl) mF FF.kp passes_def (pa_cons (pv 0) pa_nil) (by decide +kernel) rfl rfl)) (pss_ex fun m : Mo => key m), ?_⟩
    refine ⟨_, rfl, a, ns, rfl, hs, hlen, fun p c H2 e hp hc _ _ => ?_⟩
    have j : KJ ⟨p, c, ns, T, C⟩ (fun _ => none) H2 := ⟨⟨0, 0, 0, hp⟩, hc, hT.ext fun b o q => e b o q, fun _ _ => rfl, fun _ _ z => by cases z⟩
    refine ⟨⟨p, c, ns, hlen, fun _ => none, H2⟩, fun _ => none, [none, some (.v (.ref p)), none, none, none, none, none, none, none, none, none, none], ⟨_, _, _, _, _, _, _, _, _, _, _, rfl⟩, ⟨Fm.refl (fun _ _ z => by cases z), ⟨_, .no (.v (.no (.no (.no (.no (.no (.no (.no (.no (.no (.no .nil)))))))))))⟩, j, fun _ _ _ _ _ _ _ _ _ z => z.elim⟩, hQ⟩
end
end Z
set_option Elab.async false
set_option linter.all false
set_option maxRecDepth 100000
set_option maxHeartbeats 4000000
namespace Z
open PySem PySem.Spec PyProof.Rows L2 Evl
/-! ### an error's class, by what is seen of it -/
def exclB (K : PySem.W.Frag) (C : Addr) : Bool := match K.lookup C with
  | some ⟨.type t, _, .cls ⟨_, _, .ref C' :: bm, _, _, hd, _, _, _, _, del⟩, sl⟩ => decide (t = "type") && (decide (C' = C) && (hd && (!del && (PySem.HandSPX.refsVE bm && (match sl.toList with
    | [_, _, _, _, some (.builtin n), _] => decide (n = "ValueError.__new__")
    | _ => false)))))
  | _ => false
theorem exclB_ok {K : PySem.W.Frag} {C : Addr} (h : exclB K C = true) : ∃ nm q N bs bm sn sub ab col dd k0 k1 k2 k3 k5, K.lookup C = some (excClassObj nm q C N bs bm true sn sub ab col dd k0 k1 k2 k3 k5 "ValueError.__new__") ∧ PySem.HandSPX.refsVE bm = true := by
  unfold exclB at h
  split at h
  · rename_i t dd nm bs C' bm N q hd sn sub ab col del sl e
    obtain ⟨h1, r1⟩ := He.ba h
    obtain ⟨h2, r2⟩ := He.ba r1
    obtain ⟨h3, r3⟩ := He.ba r2
    obtain ⟨h4, r4⟩ := He.ba r3
    obtain ⟨h5, r5⟩ := He.ba r4
    clear h r1 r2 r3 r4
    have e1 := of_decide_eq_true h1
    have e2 := of_decide_eq_true h2
    subst e1 e2 h3
    have e4 : del = false := by
      cases del
      · rfl
      · cases h4
    subst e4
    split at r5
    · rename_i k0 k1 k2 k3 n k5 es
      have e6 := of_decide_eq_true r5
      subst e6
      have hsl : sl = #[k0, k1, k2, k3, some (.builtin "ValueError.__new__"), k5] := by
        obtain ⟨l⟩ := sl
        simp only at es
        rw [es]
      subst hsl
      exact ⟨nm, q, N, bs, bm, sn, sub, ab, col, dd, k0, k1, k2, k3, k5, e, h5⟩
    · cases r5
  · cases h
/-- of the error's class x, its fields f and g -/
def errB (K : PySem.W.Frag) (C fI : Addr) (f g : Str) : Bool := exclB K C && (decide (PySem.W.findIn K (.ref C) "__setattr__" = some (some (.builtin "object.__setattr__"))) && (decide (PySem.W.subIn K (.ref C) (.type "BaseException") = some true) && (decide (PySem.W.typeIn K (.ref C) = some (.type "type")) && (PySem.W.keepIn K (.ref C) &&
  (xfB K C && (decide (PySem.W.findIn K (.ref C) "__init__" = some (some (.ref fI))) && (decide (PySem.W.typeIn K (.ref fI) = some (.type "function")) && (decide (PySem.W.findIn K (.ref C) f = some none) && decide (PySem.W.findIn K (.ref C) g = some none)))))))))
theorem errB_ok {K : PySem.W.Frag} {mg : Str → Option Value} {x : Str} {C fI : Addr} (h : errB K C fI "word" "at" = true) (hm : mg x = some (.ref C)) : Er2 K mg x C fI := by
  unfold errB at h
  obtain ⟨h1, h⟩ := He.ba h
  obtain ⟨h2, h⟩ := He.ba h
  obtain ⟨h3, h⟩ := He.ba h
  obtain ⟨h4, h⟩ := He.ba h
  obtain ⟨h5, h⟩ := He.ba h
  obtain ⟨h6, h⟩ := He.ba h
  obtain ⟨h7, h⟩ := He.ba h
  obtain ⟨h8, h⟩ := He.ba h
  obtain ⟨h9, h10⟩ := He.ba h
  exact ⟨hm, ⟨exclB_ok h1, of_decide_eq_true h2, of_decide_eq_true h3, of_decide_eq_true h4, h5⟩, xfB_ok h6, of_decide_eq_true h7, of_decide_eq_true h8, of_decide_eq_true h9, of_decide_eq_true h10⟩
def xiB (K : PySem.W.Frag) (C : Addr) : Bool := decide (PySem.W.findIn K (.ref C) "__class__" = some (some (.builtin "object.__class__"))) && (decide (PySem.W.specialIn K (.builtin "object.__class__") "__get__" = some (some (.builtin "getset_descriptor.__get__"))) && (decide (PySem.W.takesIn K (.builtin "object.__class__") = some true) &&
  (decide (PySem.W.mroIn K C (.type "object") = some true) && (PySem.W.clsIn K C).isSome)))
theorem xiB_ok {K : PySem.W.Frag} {C : Addr} (h : xiB K C = true) : XiC K C := by
  unfold xiB at h
  obtain ⟨h1, h⟩ := He.ba h
  obtain ⟨h2, h⟩ := He.ba h
  obtain ⟨h3, h⟩ := He.ba h
  obtain ⟨h4, h5⟩ := He.ba h
  exact ⟨of_decide_eq_true h1, of_decide_eq_true h2, of_decide_eq_true h3, of_decide_eq_true h4, h5⟩
end Z
set_option Elab.async false
set_option linter.all false
set_option maxRecDepth 100000
set_option maxHeartbeats 0
namespace Z
open PySem PySem.Spec PyProof.Rows L2 Evl
def dd (x : Str) (i : Nat) : He.DefD := ⟨(x, none), x, x, defArgs (top i), defBody (top i), defScope (top i), [], []⟩
def ddk (x : Str) (i : Nat) (ds : List He.Dv) (ks : List (Str × He.Dv)) : He.DefD := ⟨(x, none), x, x, defArgs (top i), defBody (top i), defScope (top i), ds, ks⟩
def ddm (c : Str) (i j : Nat) (m qn : Str) : He.DefD := ⟨(c, some m), m, qn, defArgs (inClass (top i) j), defBody (inClass (top i) j), defScope (inClass (top i) j), [], []⟩
def hfn0 : List He.DefD := [dd "is_integer" 8, dd "is_number" 9, dd "is_name" 10, dd "is_one_of" 11, dd "need" 13, ddk "settled_probe" 15 [] [("called", .str "probe")], ddk "reach_probe" 16 [] [("called", .str "probe")], dd "check_probe" 17, dd "probe_of" 18, dd "_law_feed" 20, dd "_law_draw" 21, dd "_law_same" 22]
def hfn1 : List He.DefD := [dd "_law_heard" 23, dd "_law_probe" 24, dd "_law_refused" 25, dd "law" 26, ddm "InvalidPaper" 4 0 "__init__" "InvalidPaper.__init__", ddm "NotUsable" 5 0 "__init__" "NotUsable.__init__"]
def hfn : List He.DefD := hfn0 ++ hfn1
def hfa0 : List He.Fa := [.glo "is_integer", .glo "is_number", .glo "is_name", .glo "is_one_of", .glo "need", .glo "settled_probe", .glo "reach_probe", .glo "check_probe", .glo "probe_of", .glo "_law_feed", .glo "_law_draw", .glo "_law_same"]
def hfa1 : List He.Fa := [.glo "_law_heard", .glo "_law_probe", .glo "_law_refused", .glo "law", .glo "ForkError", .glo "PaperError", .glo "KindError", .glo "InvalidPaper", .glo "NotUsable", .str "LETTERS" "abcdefghijklmnopqrstuvwxyz", .free "isinstance", .free "len"]
def hfa2 : List He.Fa := [.free "all", .free "int", .free "bool", .free "str", .free "tuple", .free "list", .free "range", .free "sorted", .free "set"]
def hfa : List He.Fa := hfa0 ++ hfa1 ++ hfa2
def hlo0 : List Str := ["ForkError", "PaperError", "KindError", "InvalidPaper", "NotUsable", "LETTERS", "is_integer", "is_number", "is_name", "is_one_of", "need", "settled_probe"]
def hlo1 : List Str := ["reach_probe", "check_probe", "probe_of", "_law_feed", "_law_draw", "_law_same", "_law_heard", "_law_probe", "_law_refused"]
def hlo : List Str := hlo0 ++ hlo1
def htf : List He.Defn := [("_law_refused", none), ("law", none)]
def hexT (K : PySem.W.Frag) : Bool := true
def hexM (K : PySem.W.Frag) : Bool := errB K (He.ga K "NotUsable") (He.ma K (He.ga K "NotUsable") "__init__") "word" "at" && (xiB K (He.ga K "NotUsable") && (decide (PySem.W.exmOne K (.ref (He.ga K "NotUsable")) (.ref (He.ga K "ForkError")) = some true) && (decide (PySem.W.kitOne K (.ref (He.ga K "NotUsable")) (.ref (He.ga K "InvalidPaper")) = some false) && (decide (PySem.W.kitOne K (.ref (He.ga K "NotUsable")) (.ref (He.ga K "NotUsable")) = some true) && decide ((He.cT K ("_law_refused", none)).2 ≠ (He.cT K ("law", none)).2)))))
def hex (K : PySem.W.Frag) : Bool := hexT K && hexM K
abbrev hR : PySem.W.OpenRow := PySem.W.OpenLaw.row PySem.Challenge.rw_forkyields_k42_probes_told
abbrev hk : PySem.W.Hook := He.hookX 5 hfa hfn [] htf hex
def hob (s : PySem.W.SharedT) : He.AlX := He.obsX 5 hfa hfn [] htf hex (HandSHeadRun.getT s)
theorem hob_eq (s : PySem.W.SharedT) : hob s = hk.obs s.abs := He.obsX_eq (HandSHeadRun.getT_eq s)
theorem hrun (w : World) : HandSHeadRun.RunEq hR (PySem.W.view hR.prog [26]) hk hob 4000 hlo w := by
  intro os
  kernel_rfl
end Z
set_option Elab.async false
set_option linter.all false
set_option maxRecDepth 100000
set_option maxHeartbeats 4000000
namespace Z
open PySem PySem.Spec PyProof.Rows L2 Evl
section
variable {K : PySem.W.Frag} {mg : Str → Option Value} {h : Heap} (X : K.In h) (G : h.Ns mainGlobals mg) (c : He.SaysD hfa hfn K)
include X G c
theorem at1 {x y0 : Str} {n i j : Nat} (hd : hfn[i]? = some (dd x n)) (hf : hfa[j]? = some (.glo x))
    (hb : ∀ (kV doc pm : Value) (an : Option Addr) (cdv ct u0 : Value), bindArgs (PySem.W.fnOf x x (defArgs (top n)) (defBody (top n)) (defScope (top n)) .none kV doc pm an cdv ct) ⟨[u0], []⟩ = pure [(y0, u0)]) : DefAt K mg x (top n) [y0] := by
  obtain ⟨fd, F⟩ := c.def_ i hd
  refine ⟨_, fd, F, He.glo_ok X G (c.fact j hf), F.bindsN fun a1 a2 a3 a4 a5 a6 us hl => ?_⟩
  match us, hl with
  | [u0], _ => exact hb a1 a2 a3 a4 a5 a6 u0
theorem at2 {x y0 y1 : Str} {n i j : Nat} (hd : hfn[i]? = some (dd x n)) (hf : hfa[j]? = some (.glo x))
    (hb : ∀ (kV doc pm : Value) (an : Option Addr) (cdv ct u0 u1 : Value), bindArgs (PySem.W.fnOf x x (defArgs (top n)) (defBody (top n)) (defScope (top n)) .none kV doc pm an cdv ct) ⟨[u0, u1], []⟩ = pure [(y0, u0), (y1, u1)]) : DefAt K mg x (top n) [y0, y1] := by
  obtain ⟨fd, F⟩ := c.def_ i hd
  refine ⟨_, fd, F, He.glo_ok X G (c.fact j hf), F.bindsN fun a1 a2 a3 a4 a5 a6 us hl => ?_⟩
  match us, hl with
  | [u0, u1], _ => exact hb a1 a2 a3 a4 a5 a6 u0 u1
theorem at4 {x y0 y1 y2 y3 : Str} {n i j : Nat} (hd : hfn[i]? = some (dd x n)) (hf : hfa[j]? = some (.glo x))
    (hb : ∀ (kV doc pm : Value) (an : Option Addr) (cdv ct u0 u1 u2 u3 : Value), bindArgs (PySem.W.fnOf x x (defArgs (top n)) (defBody (top n)) (defScope (top n)) .none kV doc pm an cdv ct) ⟨[u0, u1, u2, u3], []⟩ = pure [(y0, u0), (y1, u1), (y2, u2), (y3, u3)]) : DefAt K mg x (top n) [y0, y1, y2, y3] := by
  obtain ⟨fd, F⟩ := c.def_ i hd
  refine ⟨_, fd, F, He.glo_ok X G (c.fact j hf), F.bindsN fun a1 a2 a3 a4 a5 a6 us hl => ?_⟩
  match us, hl with
  | [u0, u1, u2, u3], _ => exact hb a1 a2 a3 a4 a5 a6 u0 u1 u2 u3
theorem at5 {x y0 y1 y2 y3 y4 : Str} {n i j : Nat} (hd : hfn[i]? = some (dd x n)) (hf : hfa[j]? = some (.glo x))
    (hb : ∀ (kV doc pm : Value) (an : Option Addr) (cdv ct u0 u1 u2 u3 u4 : Value), bindArgs (PySem.W.fnOf x x (defArgs (top n)) (defBody (top n)) (defScope (top n)) .none kV doc pm an cdv ct) ⟨[u0, u1, u2, u3, u4], []⟩ = pure [(y0, u0), (y1, u1), (y2, u2), (y3, u3), (y4, u4)]) : DefAt K mg x (top n) [y0, y1, y2, y3, y4] := by
  obtain ⟨fd, F⟩ := c.def_ i hd
  refine ⟨_, fd, F, He.glo_ok X G (c.fact j hf), F.bindsN fun a1 a2 a3 a4 a5 a6 us hl => ?_⟩
  match us, hl with
  | [u0, u1, u2, u3, u4], _ => exact hb a1 a2 a3 a4 a5 a6 u0 u1 u2 u3 u4
theorem a_is_integer : DefAt K mg "is_integer" (top 8) ["thing"] := at1 X G c (i := 0) (j := 0) rfl rfl fun _ _ _ _ _ _ _ => rfl
theorem a_is_number : DefAt K mg "is_number" (top 9) ["thing"] := at1 X G c (i := 1) (j := 1) rfl rfl fun _ _ _ _ _ _ _ => rfl
theorem a_is_name : DefAt K mg "is_name" (top 10) ["thing"] := at1 X G c (i := 2) (j := 2) rfl rfl fun _ _ _ _ _ _ _ => rfl
theorem a_is_one_of : DefAt K mg "is_one_of" (top 11) ["thing", "numbers"] := at2 X G c (i := 3) (j := 3) rfl rfl fun _ _ _ _ _ _ _ _ => rfl
theorem a_need : DefAt K mg "need" (top 13) ["condition", "word"] := at2 X G c (i := 4) (j := 4) rfl rfl fun _ _ _ _ _ _ _ _ => rfl
theorem a_check_probe : DefAt K mg "check_probe" (top 17) ["kind", "code", "number", "called"] := at4 X G c (i := 7) (j := 7) rfl rfl fun _ _ _ _ _ _ _ _ _ _ => rfl
theorem a_probe_of : DefAt K mg "probe_of" (top 18) ["kind", "code", "number", "called", "looking"] := at5 X G c (i := 8) (j := 8) rfl rfl fun _ _ _ _ _ _ _ _ _ _ _ => rfl
theorem a_law_feed : DefAt K mg "_law_feed" (top 20) ["_law_script"] := at1 X G c (i := 9) (j := 9) rfl rfl fun _ _ _ _ _ _ _ => rfl
theorem a_law_draw : DefAt K mg "_law_draw" (top 21) ["_law_feed_here", "_law_many"] := at2 X G c (i := 10) (j := 10) rfl rfl fun _ _ _ _ _ _ _ _ => rfl
theorem a_law_same : DefAt K mg "_law_same" (top 22) ["_law_told", "_law_due"] := at2 X G c (i := 11) (j := 11) rfl rfl fun _ _ _ _ _ _ _ _ => rfl
theorem a_law_heard : DefAt K mg "_law_heard" (top 23) ["_law_ask"] := at1 X G c (i := 12) (j := 12) rfl rfl fun _ _ _ _ _ _ _ => rfl
theorem a_law_probe : DefAt K mg "_law_probe" (top 24) ["_law_title", "_law_ending", "_law_count", "_law_name", "_law_far"] := at5 X G c (i := 13) (j := 13) rfl rfl fun _ _ _ _ _ _ _ _ _ _ _ => rfl
theorem a_law_refused : DefAt K mg "_law_refused" (top 25) ["_law_title", "_law_ending", "_law_count", "_law_name", "_law_word"] := at5 X G c (i := 14) (j := 14) rfl rfl fun _ _ _ _ _ _ _ _ _ _ _ => rfl
theorem a_law : DefAt K mg "law" (top 26) ["_law_script"] := at1 X G c (i := 15) (j := 15) rfl rfl fun _ _ _ _ _ _ _ => rfl
theorem all_defs : AllDefs K mg := {is_integer := a_is_integer X G c, is_number := a_is_number X G c, is_name := a_is_name X G c, is_one_of := a_is_one_of X G c, need := a_need X G c, check_probe := a_check_probe X G c, probe_of := a_probe_of X G c, same := a_law_same X G c, draw := a_law_draw X G c}
theorem top_free : ∀ x, fr0.contains x = true → mg x = none := by
  intro x hx
  have hm : x ∈ fr0 := List.contains_iff_mem.mp hx
  simp only [fr0, List.mem_cons, List.not_mem_nil, or_false] at hm
  rcases hm with rfl | rfl | rfl | rfl | rfl | rfl | rfl | rfl | rfl | rfl | rfl
  · exact He.free_ok X G (c.fact 22 (f := .free "isinstance") rfl)
  · exact He.free_ok X G (c.fact 23 (f := .free "len") rfl)
  · exact He.free_ok X G (c.fact 24 (f := .free "all") rfl)
  · exact He.free_ok X G (c.fact 25 (f := .free "int") rfl)
  · exact He.free_ok X G (c.fact 26 (f := .free "bool") rfl)
  · exact He.free_ok X G (c.fact 27 (f := .free "str") rfl)
  · exact He.free_ok X G (c.fact 28 (f := .free "tuple") rfl)
  · exact He.free_ok X G (c.fact 29 (f := .free "list") rfl)
  · exact He.free_ok X G (c.fact 30 (f := .free "range") rfl)
  · exact He.free_ok X G (c.fact 31 (f := .free "sorted") rfl)
  · exact He.free_ok X G (c.fact 32 (f := .free "set") rfl)
end
theorem rp_tupStrs {K : PySem.W.Frag} {F : Hp} {a : Addr} {zs : List Str} (h : SqT K F a (zs.map V.str)) : Rp K F (.ref a) (.tuple (zs.map PyData.str)) := by
  refine .tup h ?_
  clear h
  induction zs with
  | nil => exact .nil
  | cons z zs ih => exact .cons (.str z) ih
theorem top_ok {K : PySem.W.Frag} {mg : Str → Option Value} {h : Heap} (X : K.In h) (G : h.Ns mainGlobals mg) (c : He.SaysD hfa hfn K) (hm : hexT K = true) : TopOk K mg := by
  refine ⟨top_free X G c, ?_⟩
  intro x sl hl
  by_cases h1 : x = "LETTERS"
  · subst h1
    cases hl
    obtain ⟨t, e⟩ := He.str_ok X G (c.fact 21 (f := .str "LETTERS" "abcdefghijklmnopqrstuvwxyz") rfl)
    exact ⟨.str gLETTERS, _, e, ⟨t, rfl⟩, fun F => .str _⟩
  exfalso
  have e : gl0.lookup x = none := by
    unfold gl0
    rw [List.lookup_cons, beq_eq_false_iff_ne.mpr h1]
    rfl
  rw [e] at hl
  cases hl
end Z
set_option Elab.async false
set_option linter.all false
set_option maxRecDepth 100000
set_option maxHeartbeats 4000000
namespace Z
open PySem PySem.Spec PyProof.Rows L2 Evl
theorem lam_at {K : PySem.W.Frag} {mg : Str → Option Value} {base : Heap} {x : Str} {st : Stmt} {ps : List Str} (D : DefAt K mg x st ps) (hg : mg x = some (.ref (He.ga K x))) (TB : LamX.TabB base mg (He.cT K (x, none)).1 (He.cT K (x, none)).2) : LamAt K mg base x st ps (He.cT K (x, none)).2 := by
  obtain ⟨f, fd, F, hm, hb⟩ := D
  have e : f = He.ga K x := by
    rw [hm] at hg
    cases hg
    rfl
  subst e
  refine ⟨_, fd, F, hm, hb, fun cdv ⟨oc, od, dV, kV, doc, pm, an, ct, osl, lk⟩ => ?_⟩
  obtain ⟨oc', od', dV', kV', doc', pm', an', cdv', ct', osl', rfl, lk', hcd, _, _⟩ := F.ex
  have e2 := lk.symm.trans lk'
  simp only [Option.some.injEq, Obj.mk.injEq, Data.func.injEq] at e2
  have e3 : cdv = cdv' := by
    have := congrArg FuncData.code e2.2.2.1
    exact this
  subst e3
  obtain ⟨c, rfl⟩ := He.codeIn_ref hcd
  have e4 : He.codeOf K (x, none) = c := He.codeOf_eq (p := (x, none)) lk rfl
  have TB2 : LamX.TabB base mg (He.codeOf K (x, none)) (He.tabOf K (He.codeOf K (x, none))) := TB
  refine ⟨c, rfl, ?_⟩
  show LamX.TabB base mg c (He.tabOf K (He.codeOf K (x, none)))
  rw [e4] at TB2 ⊢
  exact TB2
section
variable {P : Program} {w : World} {K : PySem.W.Frag} {mg : Str → Option Value} {base : Heap} {h : Heap} (X : K.In h) (G : h.Ns mainGlobals mg) (c : He.SaysD hfa hfn K)
include X G c
theorem probe_at {x : Str} {n i j : Nat} (hd : hfn[i]? = some (ddk x n [] [("called", .str "probe")])) (hf : hfa[j]? = some (.glo x))
    (h1 : ∀ (D : Addr) (doc pm : Value) (an : Option Addr) (cdv ct u0 u1 u2 k0 : Value), KwChain D [("called", k0)] (bindArgs (PySem.W.fnOf x x (defArgs (top n)) (defBody (top n)) (defScope (top n)) .none (.ref D) doc pm an cdv ct) ⟨[u0, u1, u2], []⟩) [("kind", u0), ("code", u1), ("number", u2), ("called", k0)])
    (h2 : ∀ (kV doc pm : Value) (an : Option Addr) (cdv ct u0 u1 u2 k0 : Value), bindArgs (PySem.W.fnOf x x (defArgs (top n)) (defBody (top n)) (defScope (top n)) .none kV doc pm an cdv ct) ⟨[u0, u1, u2], [("called", k0)]⟩ = pure ([("kind", u0), ("code", u1), ("number", u2), ("called", k0)] : List (Str × Value)))
    (h3 : ∀ (kV doc pm : Value) (an : Option Addr) (cdv ct u0 u1 u2 k0 : Value), bindArgs (PySem.W.fnOf x x (defArgs (top n)) (defBody (top n)) (defScope (top n)) .none kV doc pm an cdv ct) ⟨[], [("called", k0), ("number", u2), ("code", u1), ("kind", u0)]⟩ = pure ([("kind", u0), ("code", u1), ("number", u2), ("called", k0)] : List (Str × Value))) : ProbeAt K mg x (top n) := by
  obtain ⟨fd, F⟩ := c.def_ i hd
  have F2 : FunD K x x (defArgs (top n)) (defBody (top n)) (defScope (top n)) [] [("called", .str "probe")] (He.ga K x) fd := F
  refine ⟨⟨_, fd, F2, He.glo_ok X G (c.fact j hf), ?_, ?_, ?_⟩⟩
  · refine F2.binds0 3 (by simp) rfl fun D doc pm an cdv ct us ks l1 l2 => ?_
    match us, l1, ks, l2 with
    | [u0, u1, u2], _, [k0], _ => exact h1 D doc pm an cdv ct u0 u1 u2 k0
  · obtain ⟨oc, od, dV, kV, doc, pm, an, cdv, ct, osl, rfl, lk, hcd, hD, hK⟩ := F2.ex
    rcases hD with ⟨_, rfl⟩ | ⟨e, _⟩
    · refine ⟨fun s us ws _ l1 l2 => ?_, fun r1 r2 => r1.append r2⟩
      match us, l1, ws, l2 with
      | [u0, u1, u2], _, [k0], _ => exact .of_eq (h2 kV doc pm an cdv ct u0 u1 u2 k0)
    · exact absurd rfl e
  · obtain ⟨oc, od, dV, kV, doc, pm, an, cdv, ct, osl, rfl, lk, hcd, hD, hK⟩ := F2.ex
    rcases hD with ⟨_, rfl⟩ | ⟨e, _⟩
    · refine ⟨fun s us ws _ l1 l2 => ?_, fun r1 r2 => r2.reverse⟩
      match us, l1, ws, l2 with
      | [], _, [k0, u2, u1, u0], _ => exact .of_eq (h3 kV doc pm an cdv ct u0 u1 u2 k0)
    · exact absurd rfl e
theorem p_settled : ProbeAt K mg "settled_probe" (top 15) := probe_at X G c (i := 5) (j := 5) rfl rfl (fun _ _ _ _ _ _ _ _ _ _ => ⟨_, _, _, _, _, _, rfl, rfl, rfl⟩) (fun _ _ _ _ _ _ _ _ _ _ => rfl) fun _ _ _ _ _ _ _ _ _ _ => rfl
theorem p_reach : ProbeAt K mg "reach_probe" (top 16) := probe_at X G c (i := 6) (j := 6) rfl rfl (fun _ _ _ _ _ _ _ _ _ _ => ⟨_, _, _, _, _, _, rfl, rfl, rfl⟩) (fun _ _ _ _ _ _ _ _ _ _ => rfl) fun _ _ _ _ _ _ _ _ _ _ => rfl
end
end Z
set_option Elab.async false
set_option linter.all false
set_option maxRecDepth 100000
set_option maxHeartbeats 4000000
namespace Z
open PySem PySem.Spec PyProof.Rows L2 Evl
abbrev rwP : Program := (PySem.Challenge.rw_forkyields_k42_probes_told).prog
abbrev tR (K : PySem.W.Frag) : Addr × Addr := He.cT K ("_law_refused", none)
abbrev tL (K : PySem.W.Frag) : Addr × Addr := He.cT K ("law", none)
abbrev tT (K : PySem.W.Frag) : List (Addr × Str) := [((tR K).2, q_ref), ((tL K).2, q_law)]
theorem row_end {w : World} {mg : Str → Option Value} {fa : Addr} {h : Heap} {K : PySem.W.Frag} (X : K.In h) (G : h.Ns mainGlobals mg) (hlaw : mg ("law" : Str) = some (.ref fa)) (c : He.SaysX hfa hfn [] htf hex w h K) :
    ∃ fd : FuncData, (∀ (s : Shared) (u : Value), BindsTo s fd ⟨[u], []⟩ [("_law_script", u)]) ∧
      ∀ base : Heap, K.In base → base.Ns mainGlobals mg → (∀ p ∈ [tR K, tL K], LamX.TabB base mg p.1 p.2) → FnOk rwP w K mg base (L2.CX rwP w) 21 fa fd ["_law_script"] (spLaw K (tT K)) := by
  have c1 : He.SaysD hfa hfn K := c.t.d
  obtain ⟨m1, m2⟩ := He.ba (show (hexT K && hexM K) = true from c.more)
  unfold hexM at m2
  obtain ⟨e1, m2⟩ := He.ba m2
  obtain ⟨e2, m2⟩ := He.ba m2
  obtain ⟨e3, m2⟩ := He.ba m2
  obtain ⟨e4, m2⟩ := He.ba m2
  obtain ⟨e5, e6⟩ := He.ba m2
  have gNU : mg "NotUsable" = some (.ref (He.ga K "NotUsable")) := He.glo_ok X G (c1.fact 20 (f := .glo "NotUsable") rfl)
  have gIP : mg "InvalidPaper" = some (.ref (He.ga K "InvalidPaper")) := He.glo_ok X G (c1.fact 19 (f := .glo "InvalidPaper") rfl)
  have gF : mg "ForkError" = some (.ref (He.ga K "ForkError")) := He.glo_ok X G (c1.fact 16 (f := .glo "ForkError") rfl)
  have er2 : Er2 K mg "NotUsable" (He.ga K "NotUsable") (He.ma K (He.ga K "NotUsable") "__init__") := errB_ok e1 gNU
  obtain ⟨fdI, FI⟩ := c1.def_ 17 (d := ddm "NotUsable" 5 0 "__init__" "NotUsable.__init__") rfl
  have FI2 : FunD K "__init__" "NotUsable.__init__" (defArgs s_init) (defBody s_init) (defScope s_init) [] [] (He.ma K (He.ga K "NotUsable") "__init__") fdI := FI
  have bI : Binds K fdI ["self", "word", "at"] [] := FI2.bindsN fun a1 a2 a3 a4 a5 a6 us hl => by
    match us, hl with
    | [u0, u1, u2], _ => rfl
  have T := top_ok X G c1 m1
  have D := all_defs X G c1
  have ho : HeardOk K mg (He.ga K "NotUsable") (He.ga K "InvalidPaper") (He.ga K "ForkError") := ⟨gNU, gIP, gF, er2.xf, xiB_ok e2, er2.nW, er2.nA, of_decide_eq_true e3, of_decide_eq_true e4, of_decide_eq_true e5, T.free "isinstance" (by decide +kernel)⟩
  obtain ⟨fd, F⟩ := c1.def_ 15 (d := dd "law" 26) rfl
  obtain ⟨fF, fdF, FF, mF, bF⟩ := a_law_feed X G c1
  have gL := He.glo_ok X G (c1.fact 15 (f := .glo "law") rfl)
  have gR := He.glo_ok X G (c1.fact 14 (f := .glo "_law_refused") rfl)
  have e := hlaw.symm.trans gL
  cases e
  have b := FunD.bindsA (ps := ["_law_script"]) F fun _ _ _ _ _ _ us hl => match us, hl with | [_], _ => rfl
  have ne : (tR K).2 ≠ (tL K).2 := of_decide_eq_true e6
  refine ⟨fd, fun s u => b s [u] rfl, fun base _ _ TB => ?_⟩
  have LR := lam_at (a_law_refused X G c1) gR (TB (tR K) (by simp))
  have LL := lam_at (a_law X G c1) gL (TB (tL K) (by simp))
  have A : AllK rwP w K mg base (tT K) (He.ga K "NotUsable") (He.ga K "InvalidPaper") (He.ga K "ForkError") (tR K).2 (tL K).2 :=
    { tk := T, defs := D, dS := p_settled X G c1, dR := p_reach X G c1, heard := a_law_heard X G c1, probe := a_law_probe X G c1, refused := LR, law := LL, ho := ho, mR := by simp, mL := by simp,
      uR := fun p hp e => by
        rcases List.mem_cons.mp hp with rfl | hp
        · rfl
        · rw [List.mem_singleton.mp hp] at e
          exact (ne e.symm).elim
      uL := fun p hp e => by
        rcases List.mem_cons.mp hp with rfl | hp
        · exact (ne e).elim
        · rw [List.mem_singleton.mp hp]
      need := fun i hi => h_need D.need er2 FI2 bI (by
        show (if ("NotUsable" : Str) = "NotUsable" then some i.C else none) = _
        rw [if_pos rfl, hi]) }
  obtain ⟨f2, fd2, F2, hm2, hb2, hcd⟩ := LL.ex
  have e7 : f2 = He.ga K "law" := by
    rw [hm2] at gL
    cases gL
    rfl
  subst e7
  exact (ok_law F FF mF bF A hcd).ok
end Z
open PySem PySem.W PySem.Calls PyProof.Rows
theorem PySem.Challenge.cw_forkyields_k42_probes_told_holds : PySem.Challenge.rw_forkyields_k42_probes_told.Holds := by
  w_on; o_law
  refine HandSHeadRun.head_any (r := OpenLaw.row PySem.Challenge.rw_forkyields_k42_probes_told) (q := view (OpenLaw.row PySem.Challenge.rw_forkyields_k42_probes_told).prog [26]) (H := Z.hk) (ob := Z.hob) (M := 4000) (loose := Z.hlo) (d := HandSHeadRun.topDef (OpenLaw.row PySem.Challenge.rw_forkyields_k42_probes_told).prog 26) (kwd := []) Z.hob_eq
    (by kernel_rfl) (fun s => by kernel_rfl) Z.hrun (by kernel_rfl) (by kernel_rfl) (by kernel_rfl) (by rfl) (by first | assumption | decide +kernel) (by decide +kernel) ⟨rfl, rfl, rfl, rfl, rfl, by decide +kernel⟩ ?hw ?hc
  case hw => w_witness2
  case hc =>
    refine Att.attach_call (n := 63) rfl (by kernel_rfl) fun w s0 sh mg mb fa o pm cd doc a us ns Gr Y _ _ _ hmg0 ha hi hlen hge => ?_
    obtain ⟨K, KX, c⟩ := Y
    have hmg : mg ("law" : PySem.Str) = some (.ref fa) := by
      have e : (HandSHeadRun.topDef (OpenLaw.row PySem.Challenge.rw_forkyields_k42_probes_told).prog 26).name = ("law" : PySem.Str) := by kernel_rfl
      rw [← e]
      exact hmg0
    obtain ⟨fd, hb, hF⟩ := Z.row_end (w := w) KX Gr.T.g hmg c
    have mem : ∀ p ∈ [Z.tR K, Z.tL K], ∃ q ∈ Z.htf, p = He.cT K q := fun p hp => by
      rcases List.mem_cons.mp hp with rfl | hp
      · exact ⟨_, by simp [Z.htf], rfl⟩
      · exact ⟨_, by simp [Z.htf], List.mem_singleton.mp hp⟩
    refine LamX.law_callTs (cs := [Z.tR K, Z.tL K]) KX Gr.T.g Gr.T.b Gr.T.builtins Gr.T.nolimit hge (fun p hp => ?_) (fun p hp => ?_) (fun p hp => ?_) Gr.T.bmain ha hi (Nat.le_trans hlen (by decide)) ⟨rfl, by decide, by decide⟩ hF hb (fun H hT hS => ⟨a, ns, rfl, hS, hlen, fun p hp => ?_, fun _ => rfl⟩) fun H e s' ⟨_, _, _, _, _, _, _, _, _, _, _, _, z⟩ => z.elim
    · obtain ⟨q, hq, rfl⟩ := mem p hp
      exact c.empty q hq
    · obtain ⟨q, hq, rfl⟩ := mem p hp
      exact c.out q hq
    · obtain ⟨q, hq, rfl⟩ := mem p hp
      exact PySem.W.codeHd_of_K KX (c.hd q hq)
    · rcases List.mem_cons.mp hp with rfl | hp
      · exact LamX.TabS.nil (hT (Z.tR K) (by simp))
      · rw [List.mem_singleton.mp hp]
        exact LamX.TabS.nil (hT (Z.tL K) (by simp))
