import PyProof.Rows.All
import Wide.All
import OpenK.AllK
import Wide.FinOn
import HandS.ForMost
import HandS.Conv
import HandS.Codes
import HandS.Exc
import HandS.ExcOwn
import HandS.CallSlots
import HandS.TryMany
import HandS.More
import HandS.Wide
import HandS.Lambda
import HandS.WideBits
import HandS.Gcd
import HandS.Deep
import HandS.RaiseMore
import HandS.List
import HandS.Defaults
import HandS.Iter
import HandS.ExcInit
import HandS.ExcField
import HandS.Comp
import KE.KExcInit
import PyProof.ExcBaseAll.IndexError
import PyProof.ExcBaseAll.ArithmeticError
import PyProof.ExcBaseAll.LookupError
import PyProof.ExcBaseAll.OverflowError
import PyProof.ExcBaseAll.RuntimeError
import HandS.IsInst
import HandS.EndTab
import HandS.HeadHook4
import PyProof.InstStoreFacts
import KE.BitLaws
import HandS.Text
import HandS.FStr
import PyProof.ListStr
import KE.GoesMore
import KE.IntTextText
import PyProof.Rows.SortStrRead
import PyProof.Rows.StrIntSpec
import HandS.Head0
import HandS.Head1
import HandS.Head2
import HandS.Head3
import HandS.HeadEnd
import HandS.HeadHook1
import HandS.HeadHook2
import PySem.Challenge.RW_sumstead_k01_whole_texts_of_worths
set_option Elab.async false
set_option linter.all false
set_option maxRecDepth 100000
set_option maxHeartbeats 1000000
namespace Sm
open PySem PySem.Spec PyProof.Rows L2

/-! ### plain values -/
inductive PV where
  | non | bl (b : Bool) | int (i : Int) | str (x : Str) | ty (n : String)
  | tup (l : List PV) | lst (l : List PV) | hd (n : Nat) | adr (a : Addr)
  /-- a caught exception at a, its dict at d, its one field -/
  | exc (a d : Addr) (f : Str) (v : PV)

/-- a list that may be read: tracked or frozen and no handle, or written -/
def LsR (K : PySem.W.Frag) (m : List Addr) (H : Hp) (a : Addr) (xs : List V) : Prop :=
  (Rd H a (.lst xs) ∧ a ∉ m) ∨
    ∃ (o : Obj) (its : Array Value) (n : Nat), K.lookup a = some o ∧ o.cls = .type "list" ∧ o.dict = none ∧ o.data = .seq its n ∧ its.size ≤ sizeLine ∧ Vals xs its.toList
mutual
inductive RV (K : PySem.W.Frag) (m : List Addr) (H : Hp) : V → PV → Prop
  | non : RV K m H .non .non
  | bl (b : Bool) : RV K m H (.bl b) (.bl b)
  | int (i : Int) : RV K m H (.int i) (.int i)
  | str (x : Str) : RV K m H (.str x) (.str x)
  | ty (n : String) : RV K m H (.ty n) (.ty n)
  | tup {a : Addr} {xs : List V} {l : List PV} : SqT K H a xs → RVs K m H xs l → RV K m H (.ref a) (.tup l)
  | lst {a : Addr} {xs : List V} {l : List PV} : LsR K m H a xs → RVs K m H xs l → RV K m H (.ref a) (.lst l)
  | hd {a : Addr} {n : Nat} : m[n]? = some a → RV K m H (.ref a) (.hd n)
  | adr (a : Addr) : RV K m H (.ref a) (.adr a)
  | exc {a d : Addr} {f : Str} {x : V} {v : PV} : H d = some (.xd [(f, x)]) → RV K m H x v → RV K m H (.ref a) (.exc a d f v)
inductive RVs (K : PySem.W.Frag) (m : List Addr) (H : Hp) : List V → List PV → Prop
  | nil : RVs K m H [] []
  | cons {v : V} {vs : List V} {d : PV} {ds : List PV} : RV K m H v d → RVs K m H vs ds → RVs K m H (v :: vs) (d :: ds)
end

inductive Ob where
  | lst (l : List PV)
abbrev Store := List Ob
def ObR (K : PySem.W.Frag) (m : List Addr) (H : Hp) (a : Addr) : Ob → Prop
  | .lst l => ∃ xs, H a = some (.lst xs) ∧ RVs K m H xs l
structure Rel (K : PySem.W.Frag) (T : List (Addr × Str)) (m : List Addr) (st : Store) (H : Hp) : Prop where
  len : m.length = st.length
  nd : m.Nodup
  ob : ∀ (n : Nat) (a : Addr) (o : Ob), m[n]? = some a → st[n]? = some o → ObR K m H a o
  tab : LamX.Tabs T H
/-- no table of codes -/
def NT (o : HO) : Prop := ∀ ps, o ≠ .tbl ps
structure Grow (m : List Addr) (H : Hp) (m' : List Addr) (H' : Hp) : Prop where
  pre : ∃ e, m' = m ++ e ∧ ∀ a ∈ e, ∀ o, H a = some o → ¬ NT o
  keep : ∀ a o, H a = some o → a ∉ m → NT o → H' a = some o
  there : ∀ a o, H a = some o → NT o → ∃ o', H' a = some o' ∧ NT o'

section
variable {K : PySem.W.Frag} {T : List (Addr × Str)} {m m' m1 m2 : List Addr} {H H' H1 H2 : Hp} {st st' st1 st2 : Store} {a : Addr} {o : HO} {x : V} {v : PV}
theorem Grow.refl : Grow m H m H := ⟨⟨[], by simp, by simp⟩, fun _ _ h _ _ => h, fun _ o h n => ⟨o, h, n⟩⟩
theorem Grow.notin (g : Grow m H m' H') (h : H a = some o) (n : a ∉ m) (nt : NT o) : a ∉ m' := by
  obtain ⟨e, rfl, he⟩ := g.pre
  intro hm
  rcases List.mem_append.mp hm with q | q
  · exact n q
  · exact he a q o h nt
theorem Grow.trans (g : Grow m H m1 H1) (g' : Grow m1 H1 m2 H2) : Grow m H m2 H2 := by
  refine ⟨?_, fun a o h n nt => g'.keep a o (g.keep a o h n nt) (g.notin h n nt) nt, fun a o h nt => ?_⟩
  · obtain ⟨e, rfl, he⟩ := g.pre
    obtain ⟨e', rfl, he'⟩ := g'.pre
    refine ⟨e ++ e', by simp, fun a ha o h nt => ?_⟩
    rcases List.mem_append.mp ha with q | q
    · exact he a q o h nt
    · obtain ⟨o', h', nt'⟩ := g.there a o h nt
      exact he' a q o' h' nt'
  · obtain ⟨o', h', nt'⟩ := g.there a o h nt
    exact g'.there a o' h' nt'
theorem Rel.at_ (r : Rel K T m st H) (h : a ∈ m) : ∃ xs, H a = some (.lst xs) := by
  obtain ⟨n, hn⟩ := List.getElem?_of_mem h
  have hl : n < st.length := by rw [← r.len]; exact (List.getElem?_eq_some_iff.mp hn).1
  have q := r.ob n a st[n] hn (by simp [hl])
  revert q
  cases st[n] with
  | lst l => rintro ⟨xs, h, _⟩; exact ⟨xs, h⟩
theorem Rel.notin (r : Rel K T m st H) (h : H a = some o) (ne : ∀ xs, o ≠ .lst xs) : a ∉ m := fun q => by
  obtain ⟨xs, e⟩ := r.at_ q
  rw [h] at e
  exact ne xs (Option.some.inj e)
theorem sqt_grow {xs : List V} (r : Rel K T m st H) (g : Grow m H m' H') (h : SqT K H a xs) : SqT K H' a xs := by
  rcases h with (h | ⟨o, h⟩) | h
  · exact .inl (.inl (g.keep _ _ h (r.notin h fun _ z => by cases z) fun _ z => by cases z))
  · exact .inl (.inr ⟨o, g.keep _ _ h (r.notin h fun _ z => by cases z) fun _ z => by cases z⟩)
  · exact .inr h
theorem lsr_grow {xs : List V} (r : Rel K T m st H) (g : Grow m H m' H') (h : LsR K m H a xs) : LsR K m' H' a xs := by
  rcases h with ⟨h | ⟨o, h⟩, n⟩ | h
  · exact .inl ⟨.inl (g.keep _ _ h n fun _ z => by cases z), g.notin h n fun _ z => by cases z⟩
  · exact .inl ⟨.inr ⟨o, g.keep _ _ h n fun _ z => by cases z⟩, g.notin h n fun _ z => by cases z⟩
  · exact .inr h
theorem get_grow {n : Nat} (g : Grow m H m' H') (h : m[n]? = some a) : m'[n]? = some a := by
  obtain ⟨e, rfl, _⟩ := g.pre
  rw [List.getElem?_append_left (List.getElem?_eq_some_iff.mp h).1]
  exact h
mutual
theorem RV.grow (r : Rel K T m st H) (g : Grow m H m' H') : ∀ {x : V} {v : PV}, RV K m H x v → RV K m' H' x v
  | _, _, .non => .non
  | _, _, .bl b => .bl b
  | _, _, .int i => .int i
  | _, _, .str s => .str s
  | _, _, .ty n => .ty n
  | _, _, .tup h hs => .tup (sqt_grow r g h) (RVs.grow r g hs)
  | _, _, .lst h hs => .lst (lsr_grow r g h) (RVs.grow r g hs)
  | _, _, .hd h => .hd (get_grow g h)
  | _, _, .adr a => .adr a
  | _, _, .exc h hv => .exc (g.keep _ _ h (r.notin h fun _ z => by cases z) fun _ z => by cases z) (RV.grow r g hv)
theorem RVs.grow (r : Rel K T m st H) (g : Grow m H m' H') : ∀ {xs : List V} {vs : List PV}, RVs K m H xs vs → RVs K m' H' xs vs
  | _, _, .nil => .nil
  | _, _, .cons h hs => .cons (RV.grow r g h) (RVs.grow r g hs)
end
theorem RVs.length : ∀ {xs : List V} {vs : List PV}, RVs K m H xs vs → xs.length = vs.length
  | _, _, .nil => rfl
  | _, _, .cons _ h => by simp [RVs.length h]
theorem RVs.get : ∀ {xs : List V} {vs : List PV} {i : Nat} {v : PV}, RVs K m H xs vs → vs[i]? = some v → ∃ x, xs[i]? = some x ∧ RV K m H x v
  | _, _, _, _, .nil, e => by simp at e
  | _, _, 0, _, .cons r _, e => by simp at e; subst e; exact ⟨_, rfl, r⟩
  | _, _, i + 1, v, .cons _ t, e => by
    obtain ⟨u, h1, h2⟩ := RVs.get (i := i) (v := v) t (by simpa using e)
    exact ⟨u, by simpa using h1, h2⟩
theorem RVs.set {w : PV} {y : V} (r : RV K m H y w) : ∀ {xs : List V} {vs : List PV} (i : Nat), RVs K m H xs vs → RVs K m H (xs.set i y) (vs.set i w)
  | _, _, _, .nil => .nil
  | _, _, 0, .cons _ t => .cons r t
  | _, _, i + 1, .cons q t => .cons q (RVs.set r i t)
theorem RVs.append : ∀ {xs ys : List V} {vs ws : List PV}, RVs K m H xs vs → RVs K m H ys ws → RVs K m H (xs ++ ys) (vs ++ ws)
  | _, _, _, _, .nil, s => s
  | _, _, _, _, .cons r t, s => .cons r (RVs.append t s)
/-- a new object that is no handle -/
theorem Grow.new {p : Addr} (h : H p = none) : Grow m H m (upd H p o) :=
  ⟨⟨[], by simp, by simp⟩, fun a u e _ _ => by rw [upd_ne (ne_of_none e h)]; exact e, fun a u e nt => ⟨u, by rw [upd_ne (ne_of_none e h)]; exact e, nt⟩⟩
theorem Rel.new {p : Addr} (r : Rel K T m st H) (h : H p = none) : Rel K T m st (upd H p o) := by
  have g : Grow m H m (upd H p o) := Grow.new h
  refine ⟨r.len, r.nd, fun n a ob h1 h2 => ?_, r.tab.ext fun b u e => by rw [upd_ne (ne_of_none e h)]; exact e⟩
  have q := r.ob n a ob h1 h2
  cases ob with
  | lst l =>
    obtain ⟨xs, e, rs⟩ := q
    exact ⟨xs, by rw [upd_ne (ne_of_none e h)]; exact e, rs.grow r g⟩
theorem Rel.mem_ne {p : Addr} (r : Rel K T m st H) (h : H p = none) : p ∉ m := fun q => by
  obtain ⟨xs, e⟩ := r.at_ q
  rw [h] at e; cases e
end

/-! ### the names' values -/
abbrev Env := List (Option PV)
structure RS (K : PySem.W.Frag) (m : List Addr) (H : Hp) (σ : L2.St) (ρ : Env) : Prop where
  len : σ.length = ρ.length
  val : ∀ (i : Nat) (v : PV), ρ[i]? = some (some v) → ∃ x, σ[i]? = some (some x) ∧ RV K m H x v
section
variable {K : PySem.W.Frag} {T : List (Addr × Str)} {m m' : List Addr} {H H' : Hp} {st : Store} {σ : L2.St} {ρ : Env} {x : V} {v : PV}
theorem RS.grow (r : Rel K T m st H) (g : Grow m H m' H') (s : RS K m H σ ρ) : RS K m' H' σ ρ := ⟨s.len, fun i v e => by
  obtain ⟨x, e1, e2⟩ := s.val i v e
  exact ⟨x, e1, e2.grow r g⟩⟩
theorem RS.set (s : RS K m H σ ρ) (i : Nat) (r : RV K m H x v) : RS K m H (σ.set i (some x)) (ρ.set i (some v)) := by
  refine ⟨by simp [s.len], fun j w e => ?_⟩
  by_cases hj : i = j
  · subst hj
    have hl : i < ρ.length := by
      have := (List.getElem?_eq_some_iff.mp e).1
      simpa using this
    rw [List.getElem?_set_self hl] at e
    cases e
    exact ⟨x, List.getElem?_set_self (by rw [s.len]; exact hl), r⟩
  · rw [List.getElem?_set_ne hj] at e ⊢
    exact s.val j w e
theorem RS.clear (s : RS K m H σ ρ) (i : Nat) (o : Option V) : RS K m H (σ.set i o) (ρ.set i none) := by
  refine ⟨by simp [s.len], fun j w e => ?_⟩
  by_cases hj : i = j
  · subst hj
    have hl : i < ρ.length := by
      have := (List.getElem?_eq_some_iff.mp e).1
      simpa using this
    rw [List.getElem?_set_self hl] at e
    cases e
  · rw [List.getElem?_set_ne hj] at e ⊢
    exact s.val j w e
end

/-! ### meanings -/
structure Exn where
  cls : Addr
  fld : Str
  val : PV
abbrev PK := PV → Store → Prop
abbrev XP := Exn → Store → Prop
abbrev Sem := Env → Store → PK → XP → Prop
abbrev SemT := Env → Store → (Bool → Store → Prop) → XP → Prop
abbrev SemA := Env → Store → (List PV → Store → Prop) → XP → Prop
def ExR (K : PySem.W.Frag) (m : List Addr) (H : Hp) (cls : Value) (d : Option Addr) (e : Exn) : Prop :=
  cls = .ref e.cls ∧ ∃ dd x, d = some dd ∧ H dd = some (.xd [(e.fld, x)]) ∧ RV K m H x e.val
/-- every end that P tells does for Q -/
def Fin (K : PySem.W.Frag) (T : List (Addr × Str)) (m : List Addr) (H : Hp) (P : PK) (Q : VK) : Prop := ∀ v st', P v st' → ∀ x m' H', Grow m H m' H' → Rel K T m' st' H' → RV K m' H' x v → Q x H'
def FinT (K : PySem.W.Frag) (T : List (Addr × Str)) (m : List Addr) (H : Hp) (P : Bool → Store → Prop) (Q : Bool → Hp → Prop) : Prop := ∀ b st', P b st' → ∀ m' H', Grow m H m' H' → Rel K T m' st' H' → Q b H'
def FinA (K : PySem.W.Frag) (T : List (Addr × Str)) (m : List Addr) (H : Hp) (P : List PV → Store → Prop) (Q : List V → Hp → Prop) : Prop := ∀ vs st', P vs st' → ∀ xs m' H', Grow m H m' H' → Rel K T m' st' H' → RVs K m' H' xs vs → Q xs H'
def FinX (K : PySem.W.Frag) (T : List (Addr × Str)) (m : List Addr) (H : Hp) (P : XP) (W : XK) : Prop := ∀ e st', P e st' → ∀ cls d m' H', Grow m H m' H' → Rel K T m' st' H' → ExR K m' H' cls d e → W cls d H'
section
variable {K : PySem.W.Frag} {T : List (Addr × Str)} {m m' : List Addr} {H H' : Hp} {st : Store} {σ : L2.St} {ρ : Env} {x : V} {v : PV}
theorem Fin.step {P : PK} {Q : VK} (g : Grow m H m' H') (f : Fin K T m H P Q) : Fin K T m' H' P Q := fun v st' p x m1 H1 g1 => f v st' p x m1 H1 (g.trans g1)
theorem FinT.step {P : Bool → Store → Prop} {Q : Bool → Hp → Prop} (g : Grow m H m' H') (f : FinT K T m H P Q) : FinT K T m' H' P Q := fun v st' p m1 H1 g1 => f v st' p m1 H1 (g.trans g1)
theorem FinA.step {P : List PV → Store → Prop} {Q : List V → Hp → Prop} (g : Grow m H m' H') (f : FinA K T m H P Q) : FinA K T m' H' P Q := fun v st' p x m1 H1 g1 => f v st' p x m1 H1 (g.trans g1)
theorem FinX.step {P : XP} {W : XK} (g : Grow m H m' H') (f : FinX K T m H P W) : FinX K T m' H' P W := fun e st' p cls d m1 H1 g1 => f e st' p cls d m1 H1 (g.trans g1)
end
def tE (K : PySem.W.Frag) (T : List (Addr × Str)) (W : WX) (f : Sem) : TE := fun σ H Q => ∃ ρ st m P PX, RS K m H σ ρ ∧ Rel K T m st H ∧ f ρ st P PX ∧ Fin K T m H P Q ∧ FinX K T m H PX (fun c d H' => W c d σ H')
def tT (K : PySem.W.Frag) (T : List (Addr × Str)) (W : WX) (f : SemT) : TT := fun σ H Q => ∃ ρ st m P PX, RS K m H σ ρ ∧ Rel K T m st H ∧ f ρ st P PX ∧ FinT K T m H P Q ∧ FinX K T m H PX (fun c d H' => W c d σ H')
def tA (K : PySem.W.Frag) (T : List (Addr × Str)) (W : WX) (f : SemA) : TA := fun σ H Q => ∃ ρ st m P PX, RS K m H σ ρ ∧ Rel K T m st H ∧ f ρ st P PX ∧ FinA K T m H P Q ∧ FinX K T m H PX (fun c d H' => W c d σ H')
abbrev JE (X : Cx) (T : List (Addr × Str)) (W : WX) (e : Expr) (f : Sem) : Prop := PE X e (tE X.K T W f)
abbrev JT (X : Cx) (T : List (Addr × Str)) (W : WX) (e : Expr) (f : SemT) : Prop := PT X e (tT X.K T W f)
abbrev JW (X : Cx) (T : List (Addr × Str)) (W : WX) (e : Expr) (f : SemT) : Prop := L2.PW X e (tT X.K T W f)
abbrev JA (X : Cx) (T : List (Addr × Str)) (W : WX) (es : List Expr) (f : SemA) : Prop := PA X es (tA X.K T W f)
theorem PE.imp {X : Cx} {e : Expr} {t t' : TE} (h : PE X e t) (i : ∀ σ H Q, t' σ H Q → t σ H Q) : PE X e t' := ⟨fun pins s σ H Q I q => h.run pins s σ H Q I (i σ H Q q)⟩
theorem PT.imp {X : Cx} {e : Expr} {t t' : TT} (h : PT X e t) (i : ∀ σ H Q, t' σ H Q → t σ H Q) : PT X e t' := ⟨fun pins s σ H Q I q => h.run pins s σ H Q I (i σ H Q q)⟩
theorem PW.imp {X : Cx} {e : Expr} {t t' : TT} (h : L2.PW X e t) (i : ∀ σ H Q, t' σ H Q → t σ H Q) : L2.PW X e t' := ⟨fun wh pins s σ H Q I q => h.run wh pins s σ H Q I (i σ H Q q)⟩
theorem PA.imp {X : Cx} {e : List Expr} {t t' : TA} (h : PA X e t) (i : ∀ σ H Q, t' σ H Q → t σ H Q) : PA X e t' := ⟨fun pos pins s σ H Q I q => h.run pos pins s σ H Q I (i σ H Q q)⟩
end Sm
set_option Elab.async false
set_option linter.all false
set_option maxRecDepth 100000
set_option maxHeartbeats 1000000
namespace Sm
open PySem PySem.Spec PyProof.Rows L2

/-! ### names, constants -/
def sVar (i : Nat) : Sem := fun ρ st P _ => match ρ[i]? with
  | some (some v) => P v st
  | _ => False
def sC (v : PV) : Sem := fun _ st P _ => P v st
section
variable {X : Cx} {T : List (Addr × Str)} {W : WX} {pos : Pos}
theorem w_var (i : Nat) {x : Str} (hN : X.N[i]? = some x := by rfl) (hv : Vis X.env.scope x := by first | exact Or.inl rfl | exact Or.inr (Or.inl rfl) | exact Or.inr (Or.inr rfl)) (hd : (x == ("__debug__" : Str)) = false := by decide)
    (hcd : (x == ("__classdict__" : Str)) = false := by decide) : JE X T W (.Name x pos) (sVar i) :=
  PE.imp (pe_var hN hv hd hcd) fun σ H Q h => by
    obtain ⟨ρ, st, m, P, PX, rs, rel, hf, fin, _⟩ := h
    unfold sVar at hf
    revert hf
    cases e : ρ[i]? with
    | none => exact False.elim
    | some o =>
      cases o with
      | none => exact False.elim
      | some v =>
        intro hf
        obtain ⟨x', e1, r⟩ := rs.val i v e
        exact ⟨x', e1, fin v st hf x' m H Grow.refl rel r⟩
theorem w_const {e : Expr} {x : V} {v : PV} (h : PE X e (tC x)) (r : ∀ m H, RV X.K m H x v) : JE X T W e (sC v) :=
  PE.imp h fun σ H Q h => by
    obtain ⟨ρ, st, m, P, PX, rs, rel, hf, fin, _⟩ := h
    exact fin v st hf x m H Grow.refl rel (r m H)
theorem w_int {i : Int} {j : Nat} : JE X T W (.Constant (.int i) j pos) (sC (.int i)) := w_const pe_int fun _ _ => .int i
theorem w_bl {b : Bool} {j : Nat} : JE X T W (.Constant (.bool b) j pos) (sC (.bl b)) := w_const pe_bl fun _ _ => .bl b
theorem w_non {j : Nat} : JE X T W (.Constant .none j pos) (sC .non) := w_const pe_non fun _ _ => .non
theorem w_str {x : Str} {j : Nat} : JE X T W (.Constant (.str x) j pos) (sC (.str x)) := w_const pe_str fun _ _ => .str x
theorem w_glob {x : Str} {y : V} {u : Value} {v : PV} (hg : Gl X x) (hm : X.mg x = some u) (r : RelV y u) (rv : ∀ m H, RV X.K m H y v) (hd : (x == ("__debug__" : Str)) = false := by decide) : JE X T W (.Name x pos) (sC v) := w_const (pe_glob hg hm r hd) rv
theorem w_type {x : Str} {n : String} (hg : Gl X x) (hm : X.mg x = none) (hv : bootBuiltins x = some (.type n)) (hn : x ≠ "__name__" := by decide) (hd : (x == ("__debug__" : Str)) = false := by decide) : JE X T W (.Name x pos) (sC (.ty n)) :=
  w_const (pe_bltn (v := .ty n) hg hm hv rfl hn hd) fun _ _ => .ty n
end

/-! ### two operands -/
abbrev SOp := PV → PV → Store → PK → Prop
def sOp (o : SOp) (f g : Sem) : Sem := fun ρ st P PX => f ρ st (fun x st1 => g ρ st1 (fun y st2 => o x y st2 P) PX) PX
def OpS (K : PySem.W.Frag) (T : List (Addr × Str)) (r : R2) (o : SOp) : Prop := ∀ (x y : V) (v w : PV) (m : List Addr) (H : Hp) (st : Store) (P : PK) (Q : VK), Rel K T m st H → RV K m H x v → RV K m H y w → o v w st P → Fin K T m H P Q → r x y H Q
theorem tOp_of {K : PySem.W.Frag} {T : List (Addr × Str)} {W : WX} {r : R2} {o : SOp} {f g : Sem} (hs : OpS K T r o) {σ : L2.St} {H : Hp} {Q : VK} (h : tE K T W (sOp o f g) σ H Q) : tOp r (tE K T W f) (tE K T W g) σ H Q := by
  obtain ⟨ρ, st, m, P, PX, rs, rel, hf, fin, finx⟩ := h
  exact ⟨ρ, st, m, _, PX, rs, rel, hf, fun v st1 hg x m1 H1 g1 rel1 rv1 => ⟨ρ, st1, m1, _, PX, rs.grow rel g1, rel1, hg, fun w st2 ho y m2 H2 g2 rel2 rv2 => hs x y v w m2 H2 st2 P Q rel2 (rv1.grow rel1 g2) rv2 ho ((fin.step g1).step g2), finx.step g1⟩, finx⟩
section
variable {X : Cx} {T : List (Addr × Str)} {W : WX} {pos : Pos} {a b : Expr} {f g : Sem}
theorem w_op {op : Operator} {r : R2} {o : SOp} (ho : OpR X (binaryOp op) r) (hs : OpS X.K T r o) (ha : JE X T W a f) (hb : JE X T W b g) : JE X T W (.BinOp a op b pos) (sOp o f g) :=
  PE.imp (pe_op ho ha hb) fun _ _ _ h => tOp_of hs h
theorem w_cmp {op : CmpOp} {r : R2} {o : SOp} (ho : OpR X (compareOp op) r) (hs : OpS X.K T r o) (ha : JE X T W a f) (hb : JE X T W b g) (hm : behindInMarks op b = false) : JE X T W (.Compare a [op] [b] pos) (sOp o f g) :=
  PE.imp (pe_cmpR ho ha hb hm) fun _ _ _ h => tOp_of hs h
end

/-! ints -/
def oI (C : Int → Int → Prop) (k : Int → Int → PV) : SOp := fun x y st P => match x, y with
  | .int i, .int j => C i j ∧ P (k i j) st
  | _, _ => False
def oI0 (k : Int → Int → PV) : SOp := fun x y st P => match x, y with
  | .int i, .int j => P (k i j) st
  | _, _ => False
section
variable {K : PySem.W.Frag} {T : List (Addr × Str)}
theorem os_I {C : Int → Int → Prop} {g : Int → Int → Int} : OpS K T (rI C fun i j => .int (g i j)) (oI C fun i j => .int (g i j)) := fun x y v w m H st P Q rel rx ry h fin => by
  cases rx <;> cases ry <;> first | exact h.elim | skip
  obtain ⟨h1, h2⟩ := h
  exact ⟨_, _, rfl, rfl, h1, fin _ st h2 _ m H Grow.refl rel (.int _)⟩
theorem os_I0 {g : Int → Int → Int} : OpS K T (rI0 fun i j => .int (g i j)) (oI0 fun i j => .int (g i j)) := fun x y v w m H st P Q rel rx ry h fin => by
  cases rx <;> cases ry <;> first | exact h.elim | skip
  exact ⟨_, _, rfl, rfl, fin _ st h _ m H Grow.refl rel (.int _)⟩
theorem os_B0 {g : Int → Int → Bool} : OpS K T (rI0 fun i j => .bl (g i j)) (oI0 fun i j => .bl (g i j)) := fun x y v w m H st P Q rel rx ry h fin => by
  cases rx <;> cases ry <;> first | exact h.elim | skip
  exact ⟨_, _, rfl, rfl, fin _ st h _ m H Grow.refl rel (.bl _)⟩
end
/-- + of ints, of texts -/
def oAdd : SOp := fun x y st P => match x, y with
  | .int i, .int j => P (.int (i + j)) st
  | .str i, .str j => i.length + j.length ≤ sizeLine ∧ P (.str (i ++ j)) st
  | _, _ => False
theorem os_add {K : PySem.W.Frag} {T : List (Addr × Str)} : OpS K T (fun x y H Q => (rI0 fun i j => .int (i + j)) x y H Q ∨ (∃ i j, x = .str i ∧ y = .str j ∧ i.length + j.length ≤ sizeLine ∧ Q (.str (i ++ j)) H)) oAdd := fun x y v w m H st P Q rel rx ry h fin => by
  cases rx <;> cases ry <;> first | exact h.elim | skip
  · exact .inl ⟨_, _, rfl, rfl, fin _ st h _ m H Grow.refl rel (.int _)⟩
  · exact .inr ⟨_, _, rfl, rfl, h.1, fin _ st h.2 _ m H Grow.refl rel (.str _)⟩
def CDivG (i j : Int) : Prop := j ≠ 0 ∧ Builtin.divisionGoesByPylong i j = false
def CMod (_ j : Int) : Prop := j ≠ 0
def CPowG (i j : Int) : Prop := 0 < j ∧ 2 ≤ i ∧ (Builtin.Int.intBits i : Int) * j ≤ 134217728
section
variable {X : Cx} {T : List (Addr × Str)} {W : WX} {pos : Pos} {a b : Expr} {f g : Sem}
theorem op_fdivG : OpR X (binaryOp .FloorDiv) (rI CDivG fun i j => .int (i.fdiv j)) := opI fun _ _ _ _ _ _ _ hc q => floordiv_int hc.1 q (.inl hc.2)
theorem op_powG : OpR X (binaryOp .Pow) (rI CPowG fun i j => .int (i ^ j.toNat)) := opI fun _ _ _ _ _ _ _ hc q => by
  obtain ⟨h1, h2, h3⟩ := hc
  refine PySem.AutoIntOps.pow_4 (by omega) (by simp; omega) (by simp; omega) (by simp; omega) ?_ q
  have e : bitsLine = 134217728 := by decide
  unfold Builtin.Int.intTooBig
  rw [e]
  simp
  omega
abbrev oSub : SOp := oI0 fun i j => .int (i - j)
abbrev oMul : SOp := oI CMulX fun i j => .int (i * j)
abbrev oDiv : SOp := oI CDivG fun i j => .int (i.fdiv j)
abbrev oMod : SOp := oI CMod fun i j => .int (i.fmod j)
abbrev oPow : SOp := oI CPowG fun i j => .int (i ^ j.toNat)
abbrev oShr : SOp := oI (fun _ j => 0 ≤ j) fun i j => .int (i / 2 ^ j.toNat)
abbrev oAnd : SOp := oI0 fun i j => .int (Builtin.bitAnd i j)
theorem w_add (ha : JE X T W a f) (hb : JE X T W b g) : JE X T W (.BinOp a .Add b pos) (sOp oAdd f g) := w_op (OpR.or op_add op_add_str) os_add ha hb
theorem w_sub (ha : JE X T W a f) (hb : JE X T W b g) : JE X T W (.BinOp a .Sub b pos) (sOp oSub f g) := w_op op_sub os_I0 ha hb
theorem w_mul (ha : JE X T W a f) (hb : JE X T W b g) : JE X T W (.BinOp a .Mult b pos) (sOp oMul f g) := w_op op_mulX os_I ha hb
theorem w_div (ha : JE X T W a f) (hb : JE X T W b g) : JE X T W (.BinOp a .FloorDiv b pos) (sOp oDiv f g) := w_op op_fdivG os_I ha hb
theorem w_mod (ha : JE X T W a f) (hb : JE X T W b g) : JE X T W (.BinOp a .Mod b pos) (sOp oMod f g) := w_op op_modN os_I ha hb
theorem w_pow (ha : JE X T W a f) (hb : JE X T W b g) : JE X T W (.BinOp a .Pow b pos) (sOp oPow f g) := w_op op_powG os_I ha hb
theorem w_shr (ha : JE X T W a f) (hb : JE X T W b g) : JE X T W (.BinOp a .RShift b pos) (sOp oShr f g) := w_op op_shr os_I ha hb
theorem w_and (ha : JE X T W a f) (hb : JE X T W b g) : JE X T W (.BinOp a .BitAnd b pos) (sOp oAnd f g) := w_op op_and os_I0 ha hb
abbrev oLt : SOp := oI0 fun i j => .bl (decide (i < j))
abbrev oLe : SOp := oI0 fun i j => .bl (decide (i ≤ j))
abbrev oGt : SOp := oI0 fun i j => .bl (decide (j < i))
abbrev oGe : SOp := oI0 fun i j => .bl (decide (j ≤ i))
theorem w_lt (ha : JE X T W a f) (hb : JE X T W b g) : JE X T W (.Compare a [.Lt] [b] pos) (sOp oLt f g) := w_cmp op_lt os_B0 ha hb (nomark _)
theorem w_le (ha : JE X T W a f) (hb : JE X T W b g) : JE X T W (.Compare a [.LtE] [b] pos) (sOp oLe f g) := w_cmp op_le os_B0 ha hb (nomark _)
theorem w_gt (ha : JE X T W a f) (hb : JE X T W b g) : JE X T W (.Compare a [.Gt] [b] pos) (sOp oGt f g) := w_cmp op_gt os_B0 ha hb (nomark _)
theorem w_ge (ha : JE X T W a f) (hb : JE X T W b g) : JE X T W (.Compare a [.GtE] [b] pos) (sOp oGe f g) := w_cmp op_ge os_B0 ha hb (nomark _)
end

/-! ### data -/
mutual
def dat0 : PV → Option PyData
  | .non => some .none
  | .bl b => some (.bool b)
  | .int i => some (.int i)
  | .str x => some (.str x)
  | .tup l => (dats0 l).map .tuple
  | .lst l => (dats0 l).map .list
  | _ => none
def dats0 : List PV → Option (List PyData)
  | [] => some []
  | v :: vs => match dat0 v, dats0 vs with
    | some d, some ds => some (d :: ds)
    | _, _ => none
end
def dat (st : Store) : PV → Option PyData
  | .hd n => match st[n]? with
    | some (.lst l) => (dats0 l).map .list
    | none => none
  | v => dat0 v
section
variable {K : PySem.W.Frag} {T : List (Addr × Str)} {m : List Addr} {H : Hp} {st : Store}
theorem LsR.sq {a : Addr} {xs : List V} (h : LsR K m H a xs) : SqL K H a xs := by
  rcases h with ⟨h, _⟩ | h
  · exact .inl h
  · exact .inr h
mutual
theorem dp_of0 : ∀ {x : V} {v : PV} {d : PyData}, RV K m H x v → dat0 v = some d → Dp K H x d
  | _, _, d, .non, e => by simp only [dat0, Option.some.injEq] at e; subst e; exact .non
  | _, _, d, .bl b, e => by simp only [dat0, Option.some.injEq] at e; subst e; exact .bl b
  | _, _, d, .int i, e => by simp only [dat0, Option.some.injEq] at e; subst e; exact .int i
  | _, _, d, .str x, e => by simp only [dat0, Option.some.injEq] at e; subst e; exact .str x
  | _, _, d, .ty n, e => by simp only [dat0] at e; cases e
  | _, _, d, .tup (l := l) h hs, e => by
    simp only [dat0] at e
    cases q : dats0 l with
    | none => rw [q] at e; cases e
    | some ds => rw [q] at e; simp only [Option.map_some, Option.some.injEq] at e; subst e; exact .tup h (dps_of0 hs q)
  | _, _, d, .lst (l := l) h hs, e => by
    simp only [dat0] at e
    cases q : dats0 l with
    | none => rw [q] at e; cases e
    | some ds => rw [q] at e; simp only [Option.map_some, Option.some.injEq] at e; subst e; exact .lst h.sq (dps_of0 hs q)
  | _, _, d, .hd h, e => by simp only [dat0] at e; cases e
  | _, _, d, .adr a, e => by simp only [dat0] at e; cases e
  | _, _, d, .exc h hv, e => by simp only [dat0] at e; cases e
theorem dps_of0 : ∀ {xs : List V} {vs : List PV} {ds : List PyData}, RVs K m H xs vs → dats0 vs = some ds → DpAll K H xs ds
  | _, _, ds, .nil, e => by simp only [dats0, Option.some.injEq] at e; subst e; exact .nil
  | _, _, ds, .cons (d := v) (ds := vs) h hs, e => by
    simp only [dats0] at e
    cases q1 : dat0 v with
    | none => rw [q1] at e; cases e
    | some d1 =>
      cases q2 : dats0 vs with
      | none => rw [q1, q2] at e; cases e
      | some d2 => rw [q1, q2] at e; simp only [Option.some.injEq] at e; subst e; exact .cons (dp_of0 h q1) (dps_of0 hs q2)
end
theorem dp_of {x : V} {v : PV} {d : PyData} (rel : Rel K T m st H) (r : RV K m H x v) (e : dat st v = some d) : Dp K H x d := by
  cases r with
  | @hd a n h =>
    simp only [dat] at e
    cases q : st[n]? with
    | none => rw [q] at e; cases e
    | some o =>
      rw [q] at e
      obtain ⟨l⟩ := o
      obtain ⟨xs, h1, h2⟩ := rel.ob n a _ h q
      simp only at e
      cases q2 : dats0 l with
      | none => rw [q2] at e; cases e
      | some ds => rw [q2] at e; simp only [Option.map_some, Option.some.injEq] at e; subst e; exact .lst (SqL.of h1) (dps_of0 h2 q2)
  | non => exact dp_of0 (m := m) .non e
  | bl b => exact dp_of0 (m := m) (.bl b) e
  | int b => exact dp_of0 (m := m) (.int b) e
  | str b => exact dp_of0 (m := m) (.str b) e
  | ty b => exact dp_of0 (m := m) (.ty b) e
  | tup h hs => exact dp_of0 (m := m) (.tup h hs) e
  | lst h hs => exact dp_of0 (m := m) (.lst h hs) e
  | adr a => exact dp_of0 (m := m) (.adr a) e
  | exc h hv => exact dp_of0 (m := m) (.exc h hv) e
end
/-- == of data: D tells what the two are -/
def oEq : SOp := fun x y st P => match dat st x, dat st y with
  | some d, some e => SeqAt.shaped d = true ∧ SeqAt.shaped e = true ∧ P (.bl (PyData.eqv d e)) st
  | _, _ => False
def oNe : SOp := fun x y st P => match dat st x, dat st y with
  | some d, some e => SeqAt.shaped d = true ∧ SeqAt.shaped e = true ∧ P (.bl (!PyData.eqv d e)) st
  | _, _ => False
theorem os_eq {K : PySem.W.Frag} {T : List (Addr × Str)} : OpS K T (rEqD K) oEq := fun x y v w m H st P Q rel rx ry h fin => by
  unfold oEq at h
  cases e1 : dat st v with
  | none => rw [e1] at h; exact h.elim
  | some d =>
    cases e2 : dat st w with
    | none => rw [e1, e2] at h; exact h.elim
    | some e =>
      rw [e1, e2] at h
      exact ⟨d, e, dp_of rel rx e1, dp_of rel ry e2, h.1, h.2.1, fin _ st h.2.2 _ m H Grow.refl rel (.bl _)⟩
theorem os_ne {K : PySem.W.Frag} {T : List (Addr × Str)} : OpS K T (rNeD K) oNe := fun x y v w m H st P Q rel rx ry h fin => by
  unfold oNe at h
  cases e1 : dat st v with
  | none => rw [e1] at h; exact h.elim
  | some d =>
    cases e2 : dat st w with
    | none => rw [e1, e2] at h; exact h.elim
    | some e =>
      rw [e1, e2] at h
      exact ⟨d, e, dp_of rel rx e1, dp_of rel ry e2, h.1, h.2.1, fin _ st h.2.2 _ m H Grow.refl rel (.bl _)⟩
/-- in, not in of a list or tuple of data -/
def oIn (neg : Bool) : SOp := fun x y st P => match dat st x, dat st y with
  | some d, some (.list ds) => SeqAt.shaped d = true ∧ SeqAt.shaped (.list ds) = true ∧ P (.bl (if neg then !(ds.any fun z => PyData.eqv z d) else ds.any fun z => PyData.eqv z d)) st
  | _, _ => False
def oInS (neg : Bool) : SOp := fun x y st P => match x, y with
  | .str s, .str z => ∃ c, s = ⟨#[c]⟩ ∧ P (.bl (if neg then !decide (c ∈ z.cps.toList) else decide (c ∈ z.cps.toList))) st
  | _, _ => False
theorem os_inS {K : PySem.W.Frag} {T : List (Addr × Str)} : OpS K T (fun x y H Q => ∃ (c : Nat) (z : Str), x = .str ⟨#[c]⟩ ∧ y = .str z ∧ Q (.bl (decide (c ∈ z.cps.toList))) H) (oInS false) := fun x y v w m H st P Q rel rx ry h fin => by
  unfold oInS at h
  split at h
  · cases rx
    cases ry
    obtain ⟨c, rfl, h⟩ := h
    exact ⟨_, _, rfl, rfl, fin _ st h _ m H Grow.refl rel (.bl _)⟩
  · exact h.elim
theorem os_niS {K : PySem.W.Frag} {T : List (Addr × Str)} : OpS K T (fun x y H Q => ∃ (c : Nat) (z : Str), x = .str ⟨#[c]⟩ ∧ y = .str z ∧ Q (.bl (!decide (c ∈ z.cps.toList))) H) (oInS true) := fun x y v w m H st P Q rel rx ry h fin => by
  unfold oInS at h
  split at h
  · cases rx
    cases ry
    obtain ⟨c, rfl, h⟩ := h
    exact ⟨_, _, rfl, rfl, fin _ st h _ m H Grow.refl rel (.bl _)⟩
  · exact h.elim
/-- is None, is T -/
def isNon : PV → Bool
  | .non => true
  | _ => false
def oIs (neg : Bool) : SOp := fun x y st P => match y with
  | .non => P (.bl (if neg then !isNon x else isNon x)) st
  | .ty n => match x with
    | .ty k => P (.bl (if neg then !decide (k = n) else decide (k = n))) st
    | _ => False
  | _ => False
theorem isNon_eq {K : PySem.W.Frag} {m : List Addr} {H : Hp} {x : V} {v : PV} (r : RV K m H x v) : decide (x = .non) = isNon v := by
  cases r <;> first | rfl | (simp [isNon])
theorem os_is {K : PySem.W.Frag} {T : List (Addr × Str)} : OpS K T (fun x y H Q => (y = .non ∧ Q (.bl (decide (x = .non))) H) ∨ (∃ a b, x = .ty a ∧ y = .ty b ∧ Q (.bl (decide (a = b))) H)) (oIs false) := fun x y v w m H st P Q rel rx ry h fin => by
  unfold oIs at h
  split at h
  · cases ry
    have e := isNon_eq rx
    refine .inl ⟨rfl, ?_⟩
    rw [e]
    exact fin _ st h _ m H Grow.refl rel (.bl _)
  · split at h
    · cases ry
      cases rx
      exact .inr ⟨_, _, rfl, rfl, fin _ st h _ m H Grow.refl rel (.bl _)⟩
    · exact h.elim
  · exact h.elim
theorem os_isnot {K : PySem.W.Frag} {T : List (Addr × Str)} : OpS K T (fun x y H Q => (y = .non ∧ Q (.bl (!decide (x = .non))) H) ∨ rNT x y H Q) (oIs true) := fun x y v w m H st P Q rel rx ry h fin => by
  unfold oIs at h
  split at h
  · cases ry
    have e := isNon_eq rx
    refine .inl ⟨rfl, ?_⟩
    rw [e]
    exact fin _ st h _ m H Grow.refl rel (.bl _)
  · split at h
    · cases ry
      cases rx
      exact .inr ⟨_, _, rfl, rfl, fin _ st h _ m H Grow.refl rel (.bl _)⟩
    · exact h.elim
  · exact h.elim
section
variable {X : Cx} {T : List (Addr × Str)} {W : WX} {pos : Pos} {a b : Expr} {f g : Sem}
theorem w_eq (hu : X.A.units + 64 < cLine) (ha : JE X T W a f) (hb : JE X T W b g) : JE X T W (.Compare a [.Eq] [b] pos) (sOp oEq f g) := w_cmp (op_eqD hu) os_eq ha hb (nomark _)
theorem w_ne (hu : X.A.units + 64 < cLine) (ha : JE X T W a f) (hb : JE X T W b g) : JE X T W (.Compare a [.NotEq] [b] pos) (sOp oNe f g) := w_cmp (op_neD hu) os_ne ha hb (nomark _)
theorem w_is (ha : JE X T W a f) (hb : JE X T W b g) : JE X T W (.Compare a [.Is] [b] pos) (sOp (oIs false) f g) := w_cmp (OpR.or op_isN op_isTyB) os_is ha hb (nomark _)
theorem w_isnot (ha : JE X T W a f) (hb : JE X T W b g) : JE X T W (.Compare a [.IsNot] [b] pos) (sOp (oIs true) f g) := w_cmp (OpR.or op_notN op_notTyB) os_isnot ha hb (nomark _)
theorem w_inS (ha : JE X T W a f) (hb : JE X T W b g) (hm : behindInMarks .In b = false := by rfl) : JE X T W (.Compare a [.In] [b] pos) (sOp (oInS false) f g) := w_cmp op_in_sign os_inS ha hb hm
theorem w_niS (ha : JE X T W a f) (hb : JE X T W b g) (hm : behindInMarks .NotIn b = false := by rfl) : JE X T W (.Compare a [.NotIn] [b] pos) (sOp (oInS true) f g) := w_cmp op_notIn_sign os_niS ha hb hm
/-- a <= b <= c -/
def sChain (o o' : SOp) (f g h : Sem) : Sem := fun ρ st P PX => f ρ st (fun x st1 => g ρ st1 (fun y st2 => o x y st2 fun z st3 => match z with
  | .bl true => h ρ st3 (fun u st4 => o' y u st4 P) PX
  | .bl false => P (.bl false) st3
  | _ => False) PX) PX
theorem w_chain {c : Expr} {h : Sem} {op op' : CmpOp} {r r' : R2} {o o' : SOp} (ho : OpR X (compareOp op) r) (ho' : OpR X (compareOp op') r') (hs : OpS X.K T r o) (hs' : OpS X.K T r' o') (ha : JE X T W a f) (hb : JE X T W b g) (hc : JE X T W c h)
    (hm : lastMarks [op, op'] [b, c] = false := by with_unfolding_all rfl) : JE X T W (.Compare a [op, op'] [b, c] pos) (sChain o o' f g h) :=
  PE.imp (pe_chain ho ho' ha hb hc hm) fun σ H Q hh => by
    obtain ⟨ρ, st, m, P, PX, rs, rel, hf, fin, finx⟩ := hh
    refine ⟨ρ, st, m, _, PX, rs, rel, hf, fun v st1 hg x m1 H1 g1 rel1 rv1 => ⟨ρ, st1, m1, _, PX, rs.grow rel g1, rel1, hg, fun w st2 hh2 y m2 H2 g2 rel2 rv2 => ?_, finx.step g1⟩, finx⟩
    refine hs x y v w m2 H2 st2 _ _ rel2 (rv1.grow rel1 g2) rv2 hh2 fun z st3 hz zz m3 H3 g3 rel3 rv3 => ?_
    split at hz
    · cases rv3
      refine ⟨true, rfl, ?_⟩
      rw [if_pos rfl]
      exact ⟨ρ, st3, m3, _, PX, ((rs.grow rel g1).grow rel1 g2).grow rel2 g3, rel3, hz, fun u st4 hu yu m4 H4 g4 rel4 rv4 => hs' y yu w u m4 H4 st4 P Q rel4 ((rv2.grow rel2 g3).grow rel3 g4) rv4 hu ((((fin.step g1).step g2).step g3).step g4), ((finx.step g1).step g2).step g3⟩
    · cases rv3
      refine ⟨false, rfl, ?_⟩
      rw [if_neg Bool.false_ne_true]
      exact fin _ st3 hz _ m3 H3 (((g1.trans g2).trans g3)) rel3 (.bl _)
    · exact hz.elim
end

/-! ### one operand, truth -/
def sNeg (f : Sem) : Sem := fun ρ st P PX => f ρ st (fun x st1 => match x with
  | .int i => P (.int (-i)) st1
  | _ => False) PX
/-- a value that is True or False, as a test -/
def sTest (f : Sem) : SemT := fun ρ st P PX => f ρ st (fun x st1 => match x with
  | .bl b => P b st1
  | _ => False) PX
def sNotT (f : SemT) : SemT := fun ρ st P PX => f ρ st (fun b st1 => P (!b) st1) PX
def sAndT (f g : SemT) : SemT := fun ρ st P PX => f ρ st (fun b st1 => match b with
  | true => g ρ st1 P PX
  | false => P false st1) PX
def sOrT (f g : SemT) : SemT := fun ρ st P PX => f ρ st (fun b st1 => match b with
  | false => g ρ st1 P PX
  | true => P true st1) PX
def sNot (f : Sem) : Sem := fun ρ st P PX => f ρ st (fun x st1 => match x with
  | .bl b => P (.bl (!b)) st1
  | _ => False) PX
def sAnd (f g : Sem) : Sem := fun ρ st P PX => f ρ st (fun x st1 => match x with
  | .bl true => g ρ st1 P PX
  | .bl false => P (.bl false) st1
  | _ => False) PX
def sOr (f g : Sem) : Sem := fun ρ st P PX => f ρ st (fun x st1 => match x with
  | .bl false => g ρ st1 P PX
  | .bl true => P (.bl true) st1
  | _ => False) PX
def sIf (c : SemT) (f g : Sem) : Sem := fun ρ st P PX => c ρ st (fun b st1 => match b with
  | true => f ρ st1 P PX
  | false => g ρ st1 P PX) PX
section
variable {X : Cx} {T : List (Addr × Str)} {W : WX} {pos : Pos} {a b : Expr} {f g : Sem} {rest : List Expr} {t u : SemT}
theorem w_neg (ha : JE X T W a f) : JE X T W (.UnaryOp .USub a pos) (sNeg f) :=
  PE.imp (pe_un un_neg ha) fun σ H Q h => by
    obtain ⟨ρ, st, m, P, PX, rs, rel, hf, fin, finx⟩ := h
    refine ⟨ρ, st, m, _, PX, rs, rel, hf, fun v st1 hv x m1 H1 g1 rel1 rv1 => ?_, finx⟩
    cases rv1 <;> first | exact hv.elim | skip
    exact ⟨_, rfl, fin _ st1 hv _ m1 H1 g1 rel1 (.int _)⟩
theorem tB_of {K : PySem.W.Frag} {T : List (Addr × Str)} {σ : L2.St} {H : Hp} {Q : Bool → Hp → Prop} (h : tT K T W (sTest f) σ H Q) : tB (tE K T W f) σ H Q := by
  obtain ⟨ρ, st, m, P, PX, rs, rel, hf, fin, finx⟩ := h
  refine ⟨ρ, st, m, _, PX, rs, rel, hf, fun v st1 hv x m1 H1 g1 rel1 rv1 => ?_, finx⟩
  cases rv1 <;> first | exact hv.elim | skip
  exact ⟨_, rfl, fin _ st1 hv m1 H1 g1 rel1⟩
theorem t_val {e : Expr} (h : JE X T W e f) (he : ∀ whole, isTrue e X.env whole = (do let v ← whole; standAt e.pos; holding [v] (truthy v)) := by intro _; rfl) : JT X T W e (sTest f) :=
  PT.imp (pt_val h he) fun _ _ _ h => tB_of h
/-- a comparison as a test -/
theorem t_cmp {op : CmpOp} {r : R2} {o : SOp} (ho : OpR X (compareOp op) r) (hs : OpS X.K T r o) (ha : JE X T W a f) (hb : JE X T W b g) (hm : behindInMarks op b = false) : JT X T W (.Compare a [op] [b] pos) (sTest (sOp o f g)) :=
  PT.imp (pt_cmpR ho ha hb hm) fun σ H Q h => by
    obtain ⟨ρ, st, m, P, PX, rs, rel, hf, fin, finx⟩ := h
    refine tOp_of hs ⟨ρ, st, m, _, PX, rs, rel, hf, fun v st1 hv x m1 H1 g1 rel1 rv1 => ?_, finx⟩
    cases rv1 <;> first | exact hv.elim | skip
    exact ⟨_, rfl, fin _ st1 hv m1 H1 g1 rel1⟩
theorem t_chain {c : Expr} {h : Sem} {op op' : CmpOp} {r r' : R2} {o o' : SOp} (ho : OpR X (compareOp op) r) (ho' : OpR X (compareOp op') r') (hs : OpS X.K T r o) (hs' : OpS X.K T r' o') (ha : JE X T W a f) (hb : JE X T W b g) (hc : JE X T W c h)
    (hm : lastMarks [op, op'] [b, c] = false := by with_unfolding_all rfl) : JT X T W (.Compare a [op, op'] [b, c] pos) (sTest (sChain o o' f g h)) :=
  PT.imp (pt_chain ho ho' ha hb hc hm) fun σ H Q hh => by
    obtain ⟨ρ, st, m, P, PX, rs, rel, hf, fin, finx⟩ := hh
    refine ⟨ρ, st, m, _, PX, rs, rel, hf, fun v st1 hg x m1 H1 g1 rel1 rv1 => ⟨ρ, st1, m1, _, PX, rs.grow rel g1, rel1, hg, fun w st2 hh2 y m2 H2 g2 rel2 rv2 => ?_, finx.step g1⟩, finx⟩
    refine hs x y v w m2 H2 st2 _ _ rel2 (rv1.grow rel1 g2) rv2 hh2 fun z st3 hz zz m3 H3 g3 rel3 rv3 => ?_
    split at hz
    · cases rv3
      refine ⟨true, rfl, ?_⟩
      rw [if_pos rfl]
      refine ⟨ρ, st3, m3, _, PX, ((rs.grow rel g1).grow rel1 g2).grow rel2 g3, rel3, hz, fun u st4 hu yu m4 H4 g4 rel4 rv4 => hs' y yu w u m4 H4 st4 _ _ rel4 ((rv2.grow rel2 g3).grow rel3 g4) rv4 hu fun v5 st5 h5 x5 m5 H5 g5 rel5 rv5 => ?_, ((finx.step g1).step g2).step g3⟩
      cases rv5 <;> first | exact h5.elim | skip
      exact ⟨_, rfl, fin _ st5 h5 m5 H5 ((((g1.trans g2).trans g3).trans g4).trans g5) rel5⟩
    · cases rv3
      refine ⟨false, rfl, ?_⟩
      rw [if_neg Bool.false_ne_true]
      exact ⟨_, rfl, fin _ st3 hz m3 H3 (((g1.trans g2).trans g3)) rel3⟩
    · exact hz.elim
theorem t_not (ha : JT X T W a t) : JT X T W (.UnaryOp .Not a pos) (sNotT t) :=
  PT.imp (pt_not ha) fun σ H Q h => by
    obtain ⟨ρ, st, m, P, PX, rs, rel, hf, fin, finx⟩ := h
    exact ⟨ρ, st, m, _, PX, rs, rel, hf, fun b st1 hb m1 H1 g1 rel1 => fin _ st1 hb m1 H1 g1 rel1, finx⟩
theorem t_and1 (ha : JT X T W a t) : JW X T W (.BoolOp .And [a] pos) t := pw_and1 ha
theorem t_or1 (ha : JT X T W a t) : JW X T W (.BoolOp .Or [a] pos) t := pw_or1 ha
theorem t_and (ha : JT X T W a t) (hb : JW X T W (.BoolOp .And (b :: rest) pos) u) : JW X T W (.BoolOp .And (a :: b :: rest) pos) (sAndT t u) :=
  PW.imp (pw_and ha hb) fun σ H Q h => by
    obtain ⟨ρ, st, m, P, PX, rs, rel, hf, fin, finx⟩ := h
    refine ⟨ρ, st, m, _, PX, rs, rel, hf, fun c st1 hc m1 H1 g1 rel1 => ?_, finx⟩
    cases c with
    | true => exact ⟨ρ, st1, m1, P, PX, rs.grow rel g1, rel1, hc, fin.step g1, finx.step g1⟩
    | false => exact fin _ st1 hc m1 H1 g1 rel1
theorem t_or (ha : JT X T W a t) (hb : JW X T W (.BoolOp .Or (b :: rest) pos) u) : JW X T W (.BoolOp .Or (a :: b :: rest) pos) (sOrT t u) :=
  PW.imp (pw_or ha hb) fun σ H Q h => by
    obtain ⟨ρ, st, m, P, PX, rs, rel, hf, fin, finx⟩ := h
    refine ⟨ρ, st, m, _, PX, rs, rel, hf, fun c st1 hc m1 H1 g1 rel1 => ?_, finx⟩
    cases c with
    | false => exact ⟨ρ, st1, m1, P, PX, rs.grow rel g1, rel1, hc, fin.step g1, finx.step g1⟩
    | true => exact fin _ st1 hc m1 H1 g1 rel1
theorem t_w (h : JW X T W a t) : JT X T W a t := h.pt
theorem w_not (ha : JE X T W a f) : JE X T W (.UnaryOp .Not a pos) (sNot f) :=
  PE.imp (pe_not ha) fun σ H Q h => by
    obtain ⟨ρ, st, m, P, PX, rs, rel, hf, fin, finx⟩ := h
    refine ⟨ρ, st, m, _, PX, rs, rel, hf, fun v st1 hv x m1 H1 g1 rel1 rv1 => ?_, finx⟩
    cases rv1 <;> first | exact hv.elim | skip
    exact ⟨_, rfl, fin _ st1 hv _ m1 H1 g1 rel1 (.bl _)⟩
theorem w_and1 (ha : JE X T W a f) : JE X T W (.BoolOp .And [a] pos) f := pe_one ha
theorem w_or1 (ha : JE X T W a f) : JE X T W (.BoolOp .Or [a] pos) f := pe_one ha
theorem w_andV (ha : JE X T W a f) (hb : JE X T W (.BoolOp .And (b :: rest) pos) g) : JE X T W (.BoolOp .And (a :: b :: rest) pos) (sAnd f g) :=
  PE.imp (pe_and ha hb) fun σ H Q h => by
    obtain ⟨ρ, st, m, P, PX, rs, rel, hf, fin, finx⟩ := h
    refine ⟨ρ, st, m, _, PX, rs, rel, hf, fun v st1 hv x m1 H1 g1 rel1 rv1 => ?_, finx⟩
    dsimp only at hv
    split at hv
    · cases rv1
      refine ⟨_, rfl, ?_⟩
      rw [if_pos rfl]
      exact ⟨ρ, st1, m1, P, PX, rs.grow rel g1, rel1, hv, fin.step g1, finx.step g1⟩
    · cases rv1
      refine ⟨_, rfl, ?_⟩
      rw [if_neg Bool.false_ne_true]
      exact fin _ st1 hv _ m1 H1 g1 rel1 (.bl _)
    · exact hv.elim
theorem w_orV (ha : JE X T W a f) (hb : JE X T W (.BoolOp .Or (b :: rest) pos) g) : JE X T W (.BoolOp .Or (a :: b :: rest) pos) (sOr f g) :=
  PE.imp (pe_or ha hb) fun σ H Q h => by
    obtain ⟨ρ, st, m, P, PX, rs, rel, hf, fin, finx⟩ := h
    refine ⟨ρ, st, m, _, PX, rs, rel, hf, fun v st1 hv x m1 H1 g1 rel1 rv1 => ?_, finx⟩
    dsimp only at hv
    split at hv
    · cases rv1
      refine ⟨_, rfl, ?_⟩
      rw [if_neg Bool.false_ne_true]
      exact ⟨ρ, st1, m1, P, PX, rs.grow rel g1, rel1, hv, fin.step g1, finx.step g1⟩
    · cases rv1
      refine ⟨_, rfl, ?_⟩
      rw [if_pos rfl]
      exact fin _ st1 hv _ m1 H1 g1 rel1 (.bl _)
    · exact hv.elim
theorem w_if {c : Expr} (hc : JT X T W c t) (ha : JE X T W a f) (hb : JE X T W b g) : JE X T W (.IfExp c a b pos) (sIf t f g) :=
  PE.imp (pe_ifExp hc ha hb) fun σ H Q h => by
    obtain ⟨ρ, st, m, P, PX, rs, rel, hf, fin, finx⟩ := h
    refine ⟨ρ, st, m, _, PX, rs, rel, hf, fun c st1 hc m1 H1 g1 rel1 => ?_, finx⟩
    cases c with
    | true =>
      rw [if_pos rfl]
      exact ⟨ρ, st1, m1, P, PX, rs.grow rel g1, rel1, hc, fin.step g1, finx.step g1⟩
    | false =>
      rw [if_neg Bool.false_ne_true]
      exact ⟨ρ, st1, m1, P, PX, rs.grow rel g1, rel1, hc, fin.step g1, finx.step g1⟩
end
end Sm
set_option Elab.async false
set_option linter.all false
set_option maxRecDepth 100000
set_option maxHeartbeats 1000000
namespace Sm
open PySem PySem.Spec PyProof.Rows L2

/-! ### argument lists, displays -/
def sNil : SemA := fun _ st P _ => P [] st
def sCons (f : Sem) (g : SemA) : SemA := fun ρ st P PX => f ρ st (fun x st1 => g ρ st1 (fun xs st2 => P (x :: xs) st2) PX) PX
def sTup (f : SemA) : Sem := fun ρ st P PX => f ρ st (fun xs st1 => xs.length ≤ 1000 ∧ P (.tup xs) st1) PX
def sLst (f : SemA) : Sem := fun ρ st P PX => f ρ st (fun xs st1 => xs.length ≤ 1000 ∧ P (.lst xs) st1) PX
/-- a list that is a handle -/
def sNew (f : SemA) : Sem := fun ρ st P PX => f ρ st (fun xs st1 => xs.length ≤ 1000 ∧ P (.hd st1.length) (st1 ++ [.lst xs])) PX
theorem sz1000 {n : Nat} (h : n ≤ 1000) : n ≤ sizeLine := Nat.le_trans h (by decide)
section
variable {K : PySem.W.Frag} {T : List (Addr × Str)} {m : List Addr} {H : Hp} {st : Store} {p : Addr}
theorem Grow.hand {xs : List V} (r : Rel K T m st H) (h : H p = none) : Grow m H (m ++ [p]) (upd H p (.lst xs)) :=
  ⟨⟨[p], rfl, fun a ha o e => by rw [List.mem_singleton.mp ha, h] at e; cases e⟩, fun a u e _ _ => by rw [upd_ne (ne_of_none e h)]; exact e, fun a u e nt => ⟨u, by rw [upd_ne (ne_of_none e h)]; exact e, nt⟩⟩
theorem Rel.hand {xs : List V} {l : List PV} (r : Rel K T m st H) (h : H p = none) (rs : RVs K m H xs l) : Rel K T (m ++ [p]) (st ++ [.lst l]) (upd H p (.lst xs)) := by
  have g : Grow m H (m ++ [p]) (upd H p (.lst xs)) := Grow.hand r h
  have np := r.mem_ne h
  refine ⟨by simp [r.len], ?_, fun n a ob h1 h2 => ?_, r.tab.ext fun b u e => by rw [upd_ne (ne_of_none e h)]; exact e⟩
  · rw [List.nodup_append]
    refine ⟨r.nd, by simp, fun a ha b hb => ?_⟩
    rw [List.mem_singleton.mp hb]
    exact fun z => np (z ▸ ha)
  · by_cases hn : n < m.length
    · rw [List.getElem?_append_left hn] at h1
      rw [List.getElem?_append_left (by rw [← r.len]; exact hn)] at h2
      have q := r.ob n a ob h1 h2
      obtain ⟨l'⟩ := ob
      obtain ⟨xs', e, rs'⟩ := q
      exact ⟨xs', by rw [upd_ne (ne_of_none e h)]; exact e, rs'.grow r g⟩
    · have e : n = m.length := by
        have := (List.getElem?_eq_some_iff.mp h1).1
        simp at this
        omega
      subst e
      rw [List.getElem?_append_right (Nat.le_refl _)] at h1
      rw [List.getElem?_append_right (by rw [r.len]; exact Nat.le_refl _)] at h2
      simp [r.len] at h1 h2
      subst h1 h2
      exact ⟨xs, upd_same, rs.grow r g⟩
theorem get_hand (r : Rel K T m st H) : (m ++ [p])[st.length]? = some p := by
  rw [← r.len]
  simp
end
section
variable {X : Cx} {T : List (Addr × Str)} {W : WX} {pos : Pos} {e : Expr} {es : List Expr} {f : Sem} {g : SemA}
theorem a_nil : JA X T W [] sNil := PA.imp pa_nil fun σ H Q h => by
  obtain ⟨ρ, st, m, P, PX, rs, rel, hf, fin, finx⟩ := h
  exact fin [] st hf [] m H Grow.refl rel .nil
theorem a_cons (ha : JE X T W e f) (hb : JA X T W es g) (hs : starEach (e :: es) X.env = (false, eval e X.env) :: starEach es X.env := by rfl) : JA X T W (e :: es) (sCons f g) := PA.imp (pa_cons ha hb hs) fun σ H Q h => by
  obtain ⟨ρ, st, m, P, PX, rs, rel, hf, fin, finx⟩ := h
  exact ⟨ρ, st, m, _, PX, rs, rel, hf, fun v st1 hg x m1 H1 g1 rel1 rv1 => ⟨ρ, st1, m1, _, PX, rs.grow rel g1, rel1, hg, fun vs st2 hv xs m2 H2 g2 rel2 rv2 => fin _ st2 hv _ m2 H2 (g1.trans g2) rel2 (.cons (rv1.grow rel1 g2) rv2), finx.step g1⟩, finx⟩
theorem w_tup {k : Nat} (h : JA X T W es g) : JE X T W (.Tuple es k pos) (sTup g) := PE.imp (pe_tup h) fun σ H Q h => by
  obtain ⟨ρ, st, m, P, PX, rs, rel, hf, fin, finx⟩ := h
  refine ⟨ρ, st, m, _, PX, rs, rel, hf, fun vs st1 hv xs m1 H1 g1 rel1 rv1 => ⟨by rw [rv1.length]; exact sz1000 hv.1, fun p hp => ?_⟩, finx⟩
  exact fin _ st1 hv.2 _ m1 _ (g1.trans (Grow.new hp)) (rel1.new hp) (.tup (SqT.of upd_same) (rv1.grow rel1 (Grow.new hp)))
theorem w_lst (h : JA X T W es g) : JE X T W (.List es pos) (sLst g) := PE.imp (pe_lst h) fun σ H Q h => by
  obtain ⟨ρ, st, m, P, PX, rs, rel, hf, fin, finx⟩ := h
  refine ⟨ρ, st, m, _, PX, rs, rel, hf, fun vs st1 hv xs m1 H1 g1 rel1 rv1 => ⟨by rw [rv1.length]; exact sz1000 hv.1, fun p hp => ?_⟩, finx⟩
  exact fin _ st1 hv.2 _ m1 _ (g1.trans (Grow.new hp)) (rel1.new hp) (.lst (.inl ⟨.inl upd_same, rel1.mem_ne hp⟩) (rv1.grow rel1 (Grow.new hp)))
theorem w_new (h : JA X T W es g) : JE X T W (.List es pos) (sNew g) := PE.imp (pe_lst h) fun σ H Q h => by
  obtain ⟨ρ, st, m, P, PX, rs, rel, hf, fin, finx⟩ := h
  refine ⟨ρ, st, m, _, PX, rs, rel, hf, fun vs st1 hv xs m1 H1 g1 rel1 rv1 => ⟨by rw [rv1.length]; exact sz1000 hv.1, fun p hp => ?_⟩, finx⟩
  exact fin _ _ hv.2 _ (m1 ++ [p]) _ (g1.trans (Grow.hand rel1 hp)) (rel1.hand hp rv1) (.hd (get_hand rel1))
end

/-! ### subscripts -/
def oIx : SOp := fun x y st P => match x, y with
  | .tup l, .int i => match atI l i with
    | some v => P v st
    | none => False
  | .lst l, .int i => match atI l i with
    | some v => P v st
    | none => False
  | .hd n, .int i => match st[n]? with
    | some (.lst l) => match atI l i with
      | some v => P v st
      | none => False
    | none => False
  | .str z, .int i => z.length ≤ 100000 ∧ match atI z.cps.toList i with
    | some c => P (.str ⟨#[c]⟩) st
    | none => False
  | _, _ => False
theorem RVs.at_ {K : PySem.W.Frag} {m : List Addr} {H : Hp} {xs : List V} {vs : List PV} {i : Int} {v : PV} (r : RVs K m H xs vs) (h : atI vs i = some v) : ∃ x, atI xs i = some x ∧ RV K m H x v := by
  unfold atI at h ⊢
  rw [r.length]
  cases e : ixN vs.length i with
  | none => rw [e] at h; cases h
  | some j =>
    rw [e] at h
    exact r.get h
theorem sz_str {n : Nat} (h : n ≤ 100000) : n ≤ sizeLine := Nat.le_trans h (by decide)
theorem os_ix {K : PySem.W.Frag} {T : List (Addr × Str)} : OpS K T (rIx K) oIx := fun x y v w m H st P Q rel rx ry h fin => by
  unfold oIx at h
  split at h
  · split at h
    · rename_i hv
      cases rx with
      | tup hq hs =>
        cases ry
        obtain ⟨x', e1, r1⟩ := hs.at_ hv
        exact .inr (.inl ⟨_, _, _, _, rfl, rfl, hq, e1, fin _ st h _ m H Grow.refl rel r1⟩)
    · exact h.elim
  · split at h
    · rename_i hv
      cases rx with
      | lst hq hs =>
        cases ry
        obtain ⟨x', e1, r1⟩ := hs.at_ hv
        exact .inl ⟨_, _, _, _, rfl, rfl, hq.sq, e1, fin _ st h _ m H Grow.refl rel r1⟩
    · exact h.elim
  · split at h
    · rename_i hst
      split at h
      · rename_i hv
        cases rx with
        | hd hn =>
          cases ry
          obtain ⟨xs, hq, hs⟩ := rel.ob _ _ _ hn hst
          obtain ⟨x', e1, r1⟩ := hs.at_ hv
          exact .inl ⟨_, _, _, _, rfl, rfl, SqL.of hq, e1, fin _ st h _ m H Grow.refl rel r1⟩
      · exact h.elim
    · exact h.elim
  · obtain ⟨hz, h⟩ := h
    split at h
    · rename_i hv
      cases rx
      cases ry
      exact .inr (.inr ⟨_, _, _, rfl, rfl, sz_str hz, hv, fin _ st h _ m H Grow.refl rel (.str _)⟩)
    · exact h.elim
  · exact h.elim
/-- a call of a builtin, by values -/
abbrev SCall := List PV → Store → PK → Prop
def CallS (K : PySem.W.Frag) (T : List (Addr × Str)) (r : List V → Hp → VK → Prop) (o : SCall) : Prop := ∀ (xs : List V) (vs : List PV) (m : List Addr) (H : Hp) (st : Store) (P : PK) (Q : VK), Rel K T m st H → RVs K m H xs vs → o vs st P → Fin K T m H P Q → r xs H Q
def sCB (o : SCall) (g : SemA) : Sem := fun ρ st P PX => g ρ st (fun vs st1 => o vs st1 P) PX
theorem tCB_of {K : PySem.W.Frag} {T : List (Addr × Str)} {W : WX} {r : List V → Hp → VK → Prop} {o : SCall} {g : SemA} (hs : CallS K T r o) {σ : L2.St} {H : Hp} {Q : VK} (h : tE K T W (sCB o g) σ H Q) : tCB r (tA K T W g) σ H Q := by
  obtain ⟨ρ, st, m, P, PX, rs, rel, hf, fin, finx⟩ := h
  exact ⟨ρ, st, m, _, PX, rs, rel, hf, fun vs st1 hv xs m1 H1 g1 rel1 rv1 => hs xs vs m1 H1 st1 P Q rel1 rv1 hv (fin.step g1), finx⟩
section
variable {X : Cx} {T : List (Addr × Str)} {W : WX} {p pos : Pos} {x : Str} {e : Expr} {es : List Expr} {f : Sem} {g : SemA} {id Ty : String} {r : List V → Hp → VK → Prop} {o : SCall}
theorem w_callB (hc : CallR X (.builtin id) r) (hs : CallS X.K T r o) (hg : Gl X x) (hm : X.mg x = none) (hv : bootBuiltins x = some (.builtin id)) (ha : JA X T W (e :: es) g) (hn : x ≠ "__name__" := by decide) (hdb : (x == ("__debug__" : Str)) = false := by decide)
    (he : starEach (e :: es) X.env = (false, eval e X.env) :: starEach es X.env := by rfl) (hpl : (backTo pos (starEach es X.env)).any (·.1) = false := by rfl) : JE X T W (.Call (.Name x p) (e :: es) [] pos) (sCB o g) :=
  PE.imp (pe_callB hc hg hm hv ha hn hdb he hpl) fun _ _ _ h => tCB_of hs h
theorem w_callTy (hc : CallR X (.type Ty) r) (hs : CallS X.K T r o) (hg : Gl X x) (hm : X.mg x = none) (hv : bootBuiltins x = some (.type Ty)) (ha : JA X T W (e :: es) g) (hn : x ≠ "__name__" := by decide) (hdb : (x == ("__debug__" : Str)) = false := by decide)
    (he : starEach (e :: es) X.env = (false, eval e X.env) :: starEach es X.env := by rfl) (hpl : (backTo pos (starEach es X.env)).any (·.1) = false := by rfl) : JE X T W (.Call (.Name x p) (e :: es) [] pos) (sCB o g) :=
  PE.imp (pe_callTy hc hg hm hv ha hn hdb he hpl) fun _ _ _ h => tCB_of hs h
theorem w_callBf (hc : CallR X (.builtin id) r) (hs : CallS X.K T r o) (hg : Gl X x) (hm : X.mg x = some (.builtin id)) (ha : JA X T W (e :: es) g) (hdb : (x == ("__debug__" : Str)) = false := by decide)
    (he : starEach (e :: es) X.env = (false, eval e X.env) :: starEach es X.env := by rfl) (hpl : (backTo pos (starEach es X.env)).any (·.1) = false := by rfl) : JE X T W (.Call (.Name x p) (e :: es) [] pos) (sCB o g) :=
  PE.imp (pe_callBfun hc hg hm ha hdb he hpl) fun _ _ _ h => tCB_of hs h
end
/-- len -/
def oLen : SCall := fun vs st P => match vs with
  | [.tup l] => P (.int l.length) st
  | [.lst l] => P (.int l.length) st
  | [.hd n] => match st[n]? with
    | some (.lst l) => P (.int l.length) st
    | none => False
  | [.str z] => z.length ≤ 100000 ∧ P (.int z.length) st
  | _ => False
theorem CallR.or {X : Cx} {f : Value} {r r' : List V → Hp → VK → Prop} (h : CallR X f r) (h' : CallR X f r') : CallR X f (fun xs H Q => r xs H Q ∨ r' xs H Q) := by
  intro pins s σ H xs us Q I rx q
  rcases q with q | q
  · exact h pins s σ H xs us Q I rx q
  · exact h' pins s σ H xs us Q I rx q
theorem RVs.one {K : PySem.W.Frag} {m : List Addr} {H : Hp} {xs : List V} {v : PV} (r : RVs K m H xs [v]) : ∃ x, xs = [x] ∧ RV K m H x v := by
  cases r with
  | cons a b => cases b; exact ⟨_, rfl, a⟩
theorem RVs.two {K : PySem.W.Frag} {m : List Addr} {H : Hp} {xs : List V} {v w : PV} (r : RVs K m H xs [v, w]) : ∃ x y, xs = [x, y] ∧ RV K m H x v ∧ RV K m H y w := by
  cases r with
  | cons a b =>
    obtain ⟨y, rfl, q⟩ := b.one
    exact ⟨_, y, rfl, a, q⟩
theorem cs_len {K : PySem.W.Frag} {T : List (Addr × Str)} : CallS K T (fun xs H Q => (∃ p ys, xs = [.ref p] ∧ (SqL K H p ys ∨ SqT K H p ys) ∧ Q (.int ys.length) H) ∨ (∃ z, xs = [.str z] ∧ z.length ≤ sizeLine ∧ Q (.int z.length) H)) oLen := fun xs vs m H st P Q rel rv h fin => by
  unfold oLen at h
  split at h
  · obtain ⟨x, rfl, r⟩ := rv.one
    cases r with
    | tup hq hs => exact .inl ⟨_, _, rfl, .inr hq, fin _ st h _ m H Grow.refl rel (by rw [hs.length]; exact .int _)⟩
  · obtain ⟨x, rfl, r⟩ := rv.one
    cases r with
    | lst hq hs => exact .inl ⟨_, _, rfl, .inl hq.sq, fin _ st h _ m H Grow.refl rel (by rw [hs.length]; exact .int _)⟩
  · split at h
    · rename_i hst
      obtain ⟨x, rfl, r⟩ := rv.one
      cases r with
      | hd hn =>
        obtain ⟨xs, hq, hs⟩ := rel.ob _ _ _ hn hst
        exact .inl ⟨_, _, rfl, .inl (SqL.of hq), fin _ st h _ m H Grow.refl rel (by rw [hs.length]; exact .int _)⟩
    · exact h.elim
  · obtain ⟨x, rfl, r⟩ := rv.one
    cases r
    exact .inr ⟨_, rfl, sz_str h.1, fin _ st h.2 _ m H Grow.refl rel (.int _)⟩
  · exact h.elim
def oAbs : SCall := fun vs st P => match vs with
  | [.int i] => P (.int (if i < 0 then -i else i)) st
  | _ => False
theorem cs_abs {K : PySem.W.Frag} {T : List (Addr × Str)} : CallS K T (fun xs H Q => ∃ i, xs = [.int i] ∧ Q (.int (if i < 0 then -i else i)) H) oAbs := fun xs vs m H st P Q rel rv h fin => by
  unfold oAbs at h
  split at h
  · obtain ⟨x, rfl, r⟩ := rv.one
    cases r
    exact ⟨_, rfl, fin _ st h _ m H Grow.refl rel (.int _)⟩
  · exact h.elim
def oInt : SCall := fun vs st P => match vs with
  | [.int i] => P (.int i) st
  | [.bl b] => P (.int (if b then 1 else 0)) st
  | _ => False
theorem cs_int {K : PySem.W.Frag} {T : List (Addr × Str)} : CallS K T (fun xs H Q => (∃ i, xs = [.int i] ∧ Q (.int i) H) ∨ ∃ k, xs = [.bl k] ∧ Q (.int (if k then 1 else 0)) H) oInt := fun xs vs m H st P Q rel rv h fin => by
  unfold oInt at h
  split at h
  · obtain ⟨x, rfl, r⟩ := rv.one
    cases r
    exact .inl ⟨_, rfl, fin _ st h _ m H Grow.refl rel (.int _)⟩
  · obtain ⟨x, rfl, r⟩ := rv.one
    cases r
    exact .inr ⟨_, rfl, fin _ st h _ m H Grow.refl rel (.int _)⟩
  · exact h.elim
def oGcd : SCall := fun vs st P => match vs with
  | [.int i, .int j] => P (.int ((Nat.gcd i.natAbs j.natAbs : Nat) : Int)) st
  | _ => False
theorem cs_gcd {K : PySem.W.Frag} {T : List (Addr × Str)} : CallS K T rGcd oGcd := fun xs vs m H st P Q rel rv h fin => by
  unfold oGcd at h
  split at h
  · obtain ⟨x, y, rfl, r1, r2⟩ := rv.two
    cases r1
    cases r2
    exact ⟨_, _, rfl, fin _ st h _ m H Grow.refl rel (.int _)⟩
  · exact h.elim
/-- type(x) -/
def tyName : PV → Option String
  | .non => some "NoneType"
  | .bl _ => some "bool"
  | .int _ => some "int"
  | .str _ => some "str"
  | .tup _ => some "tuple"
  | .lst _ => some "list"
  | .hd _ => some "list"
  | _ => none
def oType : SCall := fun vs st P => match vs with
  | [v] => match tyName v with
    | some n => P (.ty n) st
    | none => False
  | _ => False
theorem tyB_of {K : PySem.W.Frag} {T : List (Addr × Str)} {m : List Addr} {H : Hp} {st : Store} {x : V} {v : PV} {n : String} (rel : Rel K T m st H) (r : RV K m H x v) (e : tyName v = some n) : TyB K H x n := by
  cases r with
  | non => cases e; exact .non
  | bl b => cases e; exact .bl b
  | int b => cases e; exact .int b
  | str b => cases e; exact .str b
  | ty b => cases e
  | tup h hs => cases e; exact .tup h
  | lst h hs => cases e; exact .lst h.sq
  | @hd a k h =>
    cases e
    obtain ⟨xs, q⟩ := rel.at_ (List.mem_of_getElem? h)
    exact .lst (SqL.of q)
  | adr a => cases e
  | exc h hv => cases e
theorem cs_type {K : PySem.W.Frag} {T : List (Addr × Str)} : CallS K T (rTyp K) oType := fun xs vs m H st P Q rel rv h fin => by
  unfold oType at h
  split at h
  · split at h
    · rename_i hn
      obtain ⟨x, rfl, r⟩ := rv.one
      exact ⟨_, _, rfl, tyB_of rel r hn, fin _ st h _ m H Grow.refl rel (.ty _)⟩
    · exact h.elim
  · exact h.elim
/-- all of a list of truths -/
def allB : List PV → Option Bool
  | [] => some true
  | .bl b :: r => (allB r).map (b && ·)
  | _ => none
def oAll : SCall := fun vs st P => match vs with
  | [.lst l] => match allB l with
    | some b => P (.bl b) st
    | none => False
  | _ => False
theorem allB_of {K : PySem.W.Frag} {m : List Addr} {H : Hp} : ∀ {xs : List V} {l : List PV} {b : Bool}, RVs K m H xs l → allB l = some b → ∃ bs : List Bool, xs = bs.map V.bl ∧ bs.all id = b
  | _, _, b, .nil, e => by cases e; exact ⟨[], rfl, rfl⟩
  | _, _, b, .cons (d := v) (ds := ds) r rs, e => by
    cases r with
    | bl c =>
      simp only [allB] at e
      cases q : allB ds with
      | none => rw [q] at e; cases e
      | some b2 =>
        rw [q] at e
        simp only [Option.map_some, Option.some.injEq] at e
        obtain ⟨bs, e1, e2⟩ := allB_of rs q
        exact ⟨c :: bs, by rw [e1]; rfl, by rw [List.all_cons, e2, ← e]; rfl⟩
    | _ => cases e
theorem cs_all {K : PySem.W.Frag} {T : List (Addr × Str)} : CallS K T (rAll K) oAll := fun xs vs m H st P Q rel rv h fin => by
  unfold oAll at h
  split at h
  · split at h
    · rename_i hn
      obtain ⟨x, rfl, r⟩ := rv.one
      cases r with
      | lst hq hs =>
        obtain ⟨bs, rfl, rfl⟩ := allB_of hs hn
        exact ⟨_, bs, rfl, hq.sq, fin _ st h _ m H Grow.refl rel (.bl _)⟩
    · exact h.elim
  · exact h.elim
def oMax : SCall := fun vs st P => match vs with
  | [.int i, .int j] => P (.int (if j > i then j else i)) st
  | _ => False
def oMin : SCall := fun vs st P => match vs with
  | [.int i, .int j] => P (.int (if j < i then j else i)) st
  | _ => False
theorem cs_max {K : PySem.W.Frag} {T : List (Addr × Str)} : CallS K T (fun xs H Q => ∃ i j, xs = [.int i, .int j] ∧ Q (.int (if j > i then j else i)) H) oMax := fun xs vs m H st P Q rel rv h fin => by
  unfold oMax at h
  split at h
  · obtain ⟨x, y, rfl, r1, r2⟩ := rv.two
    cases r1
    cases r2
    exact ⟨_, _, rfl, fin _ st h _ m H Grow.refl rel (.int _)⟩
  · exact h.elim
theorem cs_min {K : PySem.W.Frag} {T : List (Addr × Str)} : CallS K T (fun xs H Q => ∃ i j, xs = [.int i, .int j] ∧ Q (.int (if j < i then j else i)) H) oMin := fun xs vs m H st P Q rel rv h fin => by
  unfold oMin at h
  split at h
  · obtain ⟨x, y, rfl, r1, r2⟩ := rv.two
    cases r1
    cases r2
    exact ⟨_, _, rfl, fin _ st h _ m H Grow.refl rel (.int _)⟩
  · exact h.elim
/-- isinstance(x, T) told by the name of x's type -/
def oIsi : SCall := fun vs st P => match vs with
  | [v, .ty t] => match v with
    | .tup _ => t = "tuple" ∧ P (.bl true) st
    | .lst _ => t = "tuple" ∧ P (.bl false) st
    | _ => False
  | _ => False
/-- tuple(xs) -/
def oTuple : SCall := fun vs st P => match vs with
  | [.lst l] => P (.tup l) st
  | [.tup l] => P (.tup l) st
  | [.hd n] => match st[n]? with
    | some (.lst l) => P (.tup l) st
    | none => False
  | _ => False
theorem cs_tuple {K : PySem.W.Frag} {T : List (Addr × Str)} : CallS K T (fun xs H Q => ∃ p ys, xs = [.ref p] ∧ ((SqL K H p ys ∧ ∀ l, H l = none → Q (.ref l) (upd H l (.tup ys))) ∨ (SqT K H p ys ∧ Q (.ref p) H))) oTuple := fun xs vs m H st P Q rel rv h fin => by
  unfold oTuple at h
  split at h
  · obtain ⟨x, rfl, r⟩ := rv.one
    cases r with
    | lst hq hs => exact ⟨_, _, rfl, .inl ⟨hq.sq, fun l hl => fin _ st h _ m _ (Grow.new hl) (rel.new hl) (.tup (SqT.of upd_same) (hs.grow rel (Grow.new hl)))⟩⟩
  · obtain ⟨x, rfl, r⟩ := rv.one
    cases r with
    | tup hq hs => exact ⟨_, _, rfl, .inr ⟨hq, fin _ st h _ m H Grow.refl rel (.tup hq hs)⟩⟩
  · split at h
    · rename_i hst
      obtain ⟨x, rfl, r⟩ := rv.one
      cases r with
      | hd hn =>
        obtain ⟨xs, hq, hs⟩ := rel.ob _ _ _ hn hst
        exact ⟨_, _, rfl, .inl ⟨SqL.of hq, fun l hl => fin _ st h _ m _ (Grow.new hl) (rel.new hl) (.tup (SqT.of upd_same) (hs.grow rel (Grow.new hl)))⟩⟩
    · exact h.elim
  · exact h.elim
section
variable {X : Cx} {T : List (Addr × Str)} {W : WX} {p pos : Pos} {a b e : Expr} {es : List Expr} {f g' : Sem} {g : SemA}
theorem w_ix (ha : JE X T W a f) (hb : JE X T W b g') (hpl : PlainIx b := by exact fun _ _ => rfl) : JE X T W (.Subscript a b pos) (sOp oIx f g') := PE.imp (pe_ix ix_seq ha hb hpl) fun _ _ _ h => tOp_of os_ix h
end
end Sm
set_option Elab.async false
set_option linter.all false
set_option maxRecDepth 100000
set_option maxHeartbeats 1000000
namespace Sm
open PySem PySem.Spec PyProof.Rows L2

/-! ### defs -/
abbrev SpecF := List PV → Store → PK → XP → Prop
def spOf (K : PySem.W.Frag) (T : List (Addr × Str)) (S : SpecF) : Sp := fun vs H Q E => ∃ pvs st m P PX, RVs K m H vs pvs ∧ Rel K T m st H ∧ S pvs st P PX ∧ Fin K T m H P Q ∧ FinX K T m H PX E
/-- nothing is under way of being shown, where that is asked for -/
def Gu (gd : Bool) (A : Around) : Prop := gd = true → A.guards = some []
theorem Gu.no {A : Around} : Gu false A := nofun
theorem Gu.le {gd gd' : Bool} {A : Around} (h : Gu gd' A) (i : gd = true → gd' = true) : Gu gd A := fun e => h (i e)
structure FnG (P : Program) (w : World) (K : PySem.W.Frag) (T : List (Addr × Str)) (mg : Str → Option Value) (base : Heap) (gd : Bool) (k : Nat) (f : Addr) (fd : FuncData) (ps : List Str) (S : SpecF) : Prop where
  len : ∀ pvs st Q PX, S pvs st Q PX → pvs.length = ps.length
  run : ∀ (A : Around) (outer : List PySem.Env) (s : Shared) (H : Hp) (args : Args) (us : List Value) (vs : List V) (Q : VK) (E : XK), Room k A → Gu gd A → Env0 P w K mg base A outer s H →
    BindsTo s fd args (ps.zip us) → Vals vs us → spOf K T S vs H Q E → codeAny (model P w) A (.call (.ref f) args) (CR (L2.CX P w) outer P w H s Q E) s
theorem FnG.mono {P : Program} {w : World} {K : PySem.W.Frag} {T : List (Addr × Str)} {mg : Str → Option Value} {base : Heap} {gd : Bool} {j k : Nat} {f : Addr} {fd : FuncData} {ps : List Str} {S : SpecF} (F : FnG P w K T mg base gd j f fd ps S) (h : j ≤ k) : FnG P w K T mg base gd k f fd ps S :=
  ⟨F.len, fun A o s H a u v Q E hr => F.run A o s H a u v Q E (hr.mono h)⟩
theorem RVs.len2 {K : PySem.W.Frag} {m : List Addr} {H : Hp} {xs : List V} {vs : List PV} {us : List Value} (r : RVs K m H xs vs) (q : Vals xs us) : us.length = vs.length := by rw [← q.length, r.length]
def sCall (S : SpecF) (dv : List PV) (g : SemA) : Sem := fun ρ st P PX => g ρ st (fun vs st1 => S (vs ++ dv) st1 P PX) PX
section
variable {X : Cx} {T : List (Addr × Str)} {W : WX} {gd : Bool} {k : Nat} {f : Addr} {fd : FuncData} {ps : List Str} {S : SpecF} {dvs : List V} {ds : List Value} {dv : List PV} {x : Str} {p pos : Pos} {e : Expr} {es : List Expr} {g : SemA}
theorem run_g {pins : List (Addr × Obj)} {σ : L2.St} {H : Hp} {s : Shared} {Q : VK} {us : List Value} {vs : List V} (F : FnG X.prog X.w X.K T X.mg X.base gd k f fd ps S) (hr : Room k X.A) (hgd : Gu gd X.A) (hb : Binds X.K fd ps ds) (hd : Vals dvs ds)
    (tk : Takes X W) (I : Inv X pins σ H s) (r : Vals vs us) (h : spOf X.K T S (vs ++ dvs) H Q (fun c d H' => W c d σ H')) : wpAny (model X.prog X.w) X.A (call (.ref f) us) (EP X pins σ Q) X.xe s := by
  have r2 := r.append hd
  have hl : (us ++ ds).length = ps.length := by
    obtain ⟨pvs, st, m, P, PX, rv, _, hS, _⟩ := id h
    rw [rv.len2 r2, F.len _ _ _ _ hS]
  have c := F.run X.A X.stack s H ⟨us, []⟩ (us ++ ds) (vs ++ dvs) Q _ hr hgd I.env0 (hb s us I.kIn hl) r2 h
  refine wpAny_call (codeAny_mono c fun res s' hq => ?_)
  cases res with
  | error ex => exact passAt tk σ pins H s ex s' I hq
  | ok fl =>
    cases fl with
    | ret u => exact I.after hq
    | _ => exact False.elim hq
theorem w_call (F : FnG X.prog X.w X.K T X.mg X.base gd k f fd ps S) (hr : Room k X.A) (hgd : Gu gd X.A) (hg : Gl X x) (hm : X.mg x = some (.ref f)) (hk : PySem.W.keepIn X.K (.ref f) = true) (hb : Binds X.K fd ps ds) (hd : Vals dvs ds)
    (hdv : ∀ m H, RVs X.K m H dvs dv) (tk : Takes X W) (ha : JA X T W (e :: es) g) (hdb : (x == ("__debug__" : Str)) = false := by decide) (he : starEach (e :: es) X.env = (false, eval e X.env) :: starEach es X.env := by rfl)
    (hpl : (backTo pos (starEach es X.env)).any (·.1) = false := by rfl) : JE X T W (.Call (.Name x p) (e :: es) [] pos) (sCall S dv g) := by
  refine ⟨fun pins s σ H Q I h => ?_⟩
  obtain ⟨ρ, st, m, P, PX, rs, rel, hf, fin, finx⟩ := h
  refine wpAny_Call_Name_kw (ld_glob I hg hm ?_ hdb)
  have h1 : tA X.K T W g σ H (fun xs H1 => spOf X.K T S (xs ++ dvs) H1 Q (fun c d H' => W c d σ H')) :=
    ⟨ρ, st, m, _, PX, rs, rel, hf, fun vs st1 hv xs m1 H1 g1 rel1 rv1 => ⟨vs ++ dv, st1, m1, P, PX, rv1.append (hdv m1 H1), rel1, hv, fin.step g1, finx.step g1⟩, finx⟩
  exact PySem.W.callWith_K (h₀ := X.base) I.ok.mod.kin hk (thn (ha.run pos pins s σ H _ I h1) fun us s1 ⟨vs, H1, I1, r, q⟩ => ⟨I1.kIn, run_g F hr hgd hb hd tk I1 r q⟩) he hpl
end

/-! ### statements -/
structure EndP where
  nx : Env → Store → Prop
  rt : PV → Store → Prop
  bk : Env → Store → Prop
  ct : Env → Store → Prop
  ex : Exn → Env → Store → Prop
abbrev SemS := EndP → Env → Store → Prop
def FinE (K : PySem.W.Frag) (T : List (Addr × Str)) (m : List Addr) (H : Hp) (P : Env → Store → Prop) (Q : L2.St → Hp → Prop) : Prop := ∀ ρ st', P ρ st' → ∀ σ m' H', Grow m H m' H' → Rel K T m' st' H' → RS K m' H' σ ρ → Q σ H'
structure FinS (K : PySem.W.Frag) (T : List (Addr × Str)) (W : WX) (m : List Addr) (H : Hp) (D : EndP) (D' : Ends) : Prop where
  nx : FinE K T m H D.nx D'.nx
  rt : Fin K T m H D.rt D'.rt
  bk : FinE K T m H D.bk D'.bk
  ct : FinE K T m H D.ct D'.ct
  ex : ∀ e ρ st', D.ex e ρ st' → ∀ cls d σ m' H', Grow m H m' H' → Rel K T m' st' H' → RS K m' H' σ ρ → ExR K m' H' cls d e → W cls d σ H'
theorem FinE.step {K : PySem.W.Frag} {T : List (Addr × Str)} {m m' : List Addr} {H H' : Hp} {P : Env → Store → Prop} {Q : L2.St → Hp → Prop} (g : Grow m H m' H') (f : FinE K T m H P Q) : FinE K T m' H' P Q := fun ρ st' p σ m1 H1 g1 => f ρ st' p σ m1 H1 (g.trans g1)
theorem FinS.step {K : PySem.W.Frag} {T : List (Addr × Str)} {W : WX} {m m' : List Addr} {H H' : Hp} {D : EndP} {D' : Ends} (g : Grow m H m' H') (f : FinS K T W m H D D') : FinS K T W m' H' D D' :=
  ⟨f.nx.step g, f.rt.step g, f.bk.step g, f.ct.step g, fun e ρ st' p cls d σ m1 H1 g1 => f.ex e ρ st' p cls d σ m1 H1 (g.trans g1)⟩
theorem FinS.finx {K : PySem.W.Frag} {T : List (Addr × Str)} {W : WX} {m : List Addr} {H : Hp} {D : EndP} {D' : Ends} {σ : L2.St} {ρ : Env} {st : Store} (f : FinS K T W m H D D') (rel : Rel K T m st H) (rs : RS K m H σ ρ) : FinX K T m H (fun e st' => D.ex e ρ st') (fun c d H' => W c d σ H') :=
  fun e st' p cls d m' H' g rel' ex => f.ex e ρ st' p cls d σ m' H' g rel' (rs.grow rel g) ex
def tS (K : PySem.W.Frag) (T : List (Addr × Str)) (W : WX) (f : SemS) : TS := fun D' σ H => ∃ ρ st m D, RS K m H σ ρ ∧ Rel K T m st H ∧ f D ρ st ∧ FinS K T W m H D D'
abbrev JS (X : Cx) (T : List (Addr × Str)) (W : WX) (s : Stmt) (f : SemS) : Prop := L2.PS X s (tS X.K T W f)
abbrev JSs (X : Cx) (T : List (Addr × Str)) (W : WX) (s : List Stmt) (f : SemS) : Prop := PSs X s (tS X.K T W f)
theorem PS.imp {X : Cx} {e : Stmt} {t t' : TS} (h : L2.PS X e t) (i : ∀ D σ H, t' D σ H → t D σ H) : L2.PS X e t' := ⟨fun pins s σ H D I q => h.run pins s σ H D I (i D σ H q)⟩
theorem PSs.imp {X : Cx} {e : List Stmt} {t t' : TS} (h : PSs X e t) (i : ∀ D σ H, t' D σ H → t D σ H) : PSs X e t' := ⟨fun pins s σ H D I q => h.run pins s σ H D I (i D σ H q)⟩
def sSkip : SemS := fun D ρ st => D.nx ρ st
def sSeq (f g : SemS) : SemS := fun D ρ st => f { D with nx := g D } ρ st
def sAsg (f : Sem) (i : Nat) : SemS := fun D ρ st => f ρ st (fun v st1 => D.nx (ρ.set i (some v)) st1) (fun e st1 => D.ex e ρ st1)
def sDrop (f : Sem) : SemS := fun D ρ st => f ρ st (fun _ st1 => D.nx ρ st1) (fun e st1 => D.ex e ρ st1)
def sRet (f : Sem) : SemS := fun D ρ st => f ρ st D.rt (fun e st1 => D.ex e ρ st1)
def sRetN : SemS := fun D _ st => D.rt .non st
def sIfS (c : SemT) (f g : SemS) : SemS := fun D ρ st => c ρ st (fun b st1 => match b with
  | true => f D ρ st1
  | false => g D ρ st1) (fun e st1 => D.ex e ρ st1)
section
variable {X : Cx} {T : List (Addr × Str)} {W : WX} {pos : Pos} {s : Stmt} {ss : List Stmt} {e c : Expr} {f : Sem} {t u : SemS} {tc : SemT} {a b : List Stmt}
theorem z_nil : JSs X T W [] sSkip := PSs.imp pss_nil fun D σ H h => by
  obtain ⟨ρ, st, m, D', rs, rel, hf, fin⟩ := h
  exact fin.nx ρ st hf σ m H Grow.refl rel rs
theorem z_cons (h1 : JS X T W s t) (h2 : JSs X T W ss u) : JSs X T W (s :: ss) (sSeq t u) := PSs.imp (pss_cons h1 h2) fun D σ H h => by
  obtain ⟨ρ, st, m, D', rs, rel, hf, fin⟩ := h
  exact ⟨ρ, st, m, _, rs, rel, hf, ⟨fun ρ1 st1 h1 σ1 m1 H1 g1 rel1 rs1 => ⟨ρ1, st1, m1, D', rs1, rel1, h1, fin.step g1⟩, fin.rt, fin.bk, fin.ct, fin.ex⟩⟩
theorem z_one (h1 : JS X T W s t) : JSs X T W [s] t := pss_one h1
theorem s_asg {i : Nat} {x : Str} {pos' : Pos} (hN : X.N.Nodup) (hi : X.N[i]? = some x) (hx : Loc X.env.scope x) (he : JE X T W e f) (hs : swapsWith e (some (.Name x pos')) pos.line X.env = pure false := by rfl)
    (hf : X.fn x = true ∨ X.env.scope.names.lookup x = some .local := by first | exact .inl rfl | exact .inr rfl | assumption) : JS X T W (.Assign [.Name x pos'] e pos) (sAsg f i) := PS.imp (ps_set hN hi hx he hs hf) fun D σ H h => by
  obtain ⟨ρ, st, m, D', rs, rel, hf, fin⟩ := h
  exact ⟨ρ, st, m, _, _, rs, rel, hf, fun v st1 hv y m1 H1 g1 rel1 rv1 => fin.nx _ st1 hv _ m1 H1 g1 rel1 ((rs.grow rel g1).set i rv1), fin.finx rel rs⟩
theorem s_drop (he : JE X T W e f) (hs : swapsWith e none pos.line X.env = pure false := by rfl) : JS X T W (.Expr e pos) (sDrop f) := PS.imp (ps_expr he hs) fun D σ H h => by
  obtain ⟨ρ, st, m, D', rs, rel, hf, fin⟩ := h
  exact ⟨ρ, st, m, _, _, rs, rel, hf, fun v st1 hv y m1 H1 g1 rel1 rv1 => fin.nx _ st1 hv _ m1 H1 g1 rel1 (rs.grow rel g1), fin.finx rel rs⟩
theorem s_ret (he : JE X T W e f) : JS X T W (.Return (some e) pos) (sRet f) := PS.imp (ps_ret he) fun D σ H h => by
  obtain ⟨ρ, st, m, D', rs, rel, hf, fin⟩ := h
  exact ⟨ρ, st, m, _, _, rs, rel, hf, fin.rt, fin.finx rel rs⟩
theorem s_retN : JS X T W (.Return none pos) sRetN := PS.imp ps_retN fun D σ H h => by
  obtain ⟨ρ, st, m, D', rs, rel, hf, fin⟩ := h
  exact fin.rt _ st hf _ m H Grow.refl rel .non
theorem s_pass : JS X T W (.Pass pos) sSkip := PS.imp ps_pass fun D σ H h => by
  obtain ⟨ρ, st, m, D', rs, rel, hf, fin⟩ := h
  exact fin.nx ρ st hf σ m H Grow.refl rel rs
theorem s_if (hc : JT X T W c tc) (ha : JSs X T W a t) (hb : JSs X T W b u) : JS X T W (.If c a b pos) (sIfS tc t u) := PS.imp (ps_if hc ha hb) fun D σ H h => by
  obtain ⟨ρ, st, m, D', rs, rel, hf, fin⟩ := h
  refine ⟨ρ, st, m, _, _, rs, rel, hf, fun v st1 hv m1 H1 g1 rel1 => ?_, fin.finx rel rs⟩
  cases v with
  | true =>
    rw [if_pos rfl]
    exact ⟨ρ, st1, m1, D', rs.grow rel g1, rel1, hv, fin.step g1⟩
  | false =>
    rw [if_neg Bool.false_ne_true]
    exact ⟨ρ, st1, m1, D', rs.grow rel g1, rel1, hv, fin.step g1⟩
def sBrk : SemS := fun D ρ st => D.bk ρ st
def sCont : SemS := fun D ρ st => D.ct ρ st
theorem s_brk : JS X T W (.Break pos) sBrk := PS.imp ps_break fun D σ H h => by
  obtain ⟨ρ, st, m, D', rs, rel, hf, fin⟩ := h
  exact fin.bk ρ st hf σ m H Grow.refl rel rs
theorem s_cont : JS X T W (.Continue pos) sCont := PS.imp ps_continue fun D σ H h => by
  obtain ⟨ρ, st, m, D', rs, rel, hf, fin⟩ := h
  exact fin.ct ρ st hf σ m H Grow.refl rel rs
/-- a, b = x, y -/
def sPar (i j : Nat) (f g : Sem) : SemS := fun D ρ st => f ρ st (fun v st1 => g ρ st1 (fun w st2 => D.nx ((ρ.set i (some v)).set j (some w)) st2) (fun e st2 => D.ex e ρ st2)) (fun e st1 => D.ex e ρ st1)
theorem s_par {i j : Nat} {x y : Str} {a b : Expr} {f g : Sem} {px py pt : Pos} {kt k2 : Nat} {pt2 : Pos} (hc : X.calm = true) (hN : X.N.Nodup) (hi : X.N[i]? = some x) (hj : X.N[j]? = some y) (hij : i ≠ j)
    (hx : X.env.scope.names.lookup x = some .local) (hy : X.env.scope.names.lookup y = some .local) (ha : JE X T W a f) (hb : JE X T W b g)
    (hw : swappedStores [.Tuple [.Name x px, .Name y py] kt pt] (.Tuple [a, b] k2 pt2) X.env = pure (some [x, y]) := by rfl)
    (hs : swapsWithSole [.Tuple [.Name x px, .Name y py] kt pt] (.Tuple [a, b] k2 pt2) pos.line X.env = pure false := by rfl)
    (h1 : starEach [a, b] X.env = (false, eval a X.env) :: starEach [b] X.env := by rfl) (h2 : starEach [b] X.env = (false, eval b X.env) :: starEach [] X.env := by rfl) :
    JS X T W (.Assign [.Tuple [.Name x px, .Name y py] kt pt] (.Tuple [a, b] k2 pt2) pos) (sPar i j f g) := PS.imp (ps_par hc hN hi hj hij hx hy (pa_cons ha (pa_cons hb pa_nil h2) h1) hw hs) fun D σ H h => by
  obtain ⟨ρ, st, m, D', rs, rel, hf, fin⟩ := h
  refine ⟨ρ, st, m, _, _, rs, rel, hf, fun v st1 hv xv m1 H1 g1 rel1 rv1 => ?_, fin.finx rel rs⟩
  refine ⟨ρ, st1, m1, _, _, rs.grow rel g1, rel1, hv, fun w st2 hw yv m2 H2 g2 rel2 rv2 => ?_, (fin.finx rel rs).step g1⟩
  exact ⟨xv, yv, rfl, fin.nx _ st2 hw _ m2 H2 (g1.trans g2) rel2 ((((rs.grow rel g1).grow rel1 g2).set i (rv1.grow rel1 g2)).set j rv2)⟩
/-- x += e -/
def sAug (i : Nat) (o : SOp) (f : Sem) : SemS := fun D ρ st => match ρ[i]? with
  | some (some v) => f ρ st (fun w st1 => o v w st1 fun z st2 => D.nx (ρ.set i (some z)) st2) (fun e st1 => D.ex e ρ st1)
  | _ => False
theorem s_aug {i : Nat} {x : Str} {op : Operator} {ti : TIp} {o : SOp} {pos' : Pos} (ho : PIp X op ti) (hs : OpS X.K T ti o) (hN : X.N.Nodup) (hi : X.N[i]? = some x) (hx : Loc X.env.scope x) (he : JE X T W e f)
    (hf : X.fn x = true ∨ X.env.scope.names.lookup x = some .local := by first | exact .inl rfl | exact .inr rfl | assumption) : JS X T W (.AugAssign (.Name x pos') op e pos) (sAug i o f) := PS.imp (ps_aug hN hi hx he ho hf) fun D σ H h => by
  obtain ⟨ρ, st, m, D', rs, rel, hf, fin⟩ := h
  unfold sAug at hf
  split at hf
  · rename_i v hv
    obtain ⟨xv, e1, r1⟩ := rs.val i v hv
    exact ⟨xv, e1, ρ, st, m, _, _, rs, rel, hf, fun w st1 hw y m1 H1 g1 rel1 rv1 => hs xv y v w m1 H1 st1 _ _ rel1 (r1.grow rel g1) rv1 hw fun z st2 hz zv m2 H2 g2 rel2 rv2 => fin.nx _ st2 hz _ m2 H2 (g1.trans g2) rel2 (((rs.grow rel g1).grow rel1 g2).set i rv2), fin.finx rel rs⟩
  · exact hf.elim
theorem os_ipI {K : PySem.W.Frag} {T : List (Addr × Str)} {g : Int → Int → Int} : OpS K T (ipI g) (oI0 fun i j => .int (g i j)) := fun x y v w m H st P Q rel rx ry h fin => by
  cases rx <;> cases ry <;> first | exact h.elim | skip
  exact ⟨_, _, rfl, rfl, fin _ st h _ m H Grow.refl rel (.int _)⟩
theorem s_augAdd {i : Nat} {x : Str} {pos' : Pos} (hN : X.N.Nodup) (hi : X.N[i]? = some x) (hx : Loc X.env.scope x) (he : JE X T W e f) (hf : X.fn x = true ∨ X.env.scope.names.lookup x = some .local := by first | exact .inl rfl | exact .inr rfl | assumption) :
    JS X T W (.AugAssign (.Name x pos') .Add e pos) (sAug i (oI0 fun i j => .int (i + j)) f) := s_aug ip_add os_ipI hN hi hx he hf
/-- while -/
def sWhile (c : SemT) (t : SemS) : SemS := fun D ρ st => ∃ Wv : Nat → Env → Store → Prop, (∃ n, Wv n ρ st) ∧ ∀ n ρ st, Wv n ρ st →
  c ρ st (fun b st1 => match b with
    | true => t { D with nx := fun ρ' st' => ∃ n', n' < n ∧ Wv n' ρ' st', ct := fun ρ' st' => ∃ n', n' < n ∧ Wv n' ρ' st', bk := D.nx } ρ st1
    | false => D.nx ρ st1) (fun e st1 => D.ex e ρ st1)
theorem s_while (hp : PassesOwn (model X.prog X.w) X.A X.env X.xe) (hc : JT X T W c tc) (hb : JSs X T W a t) : JS X T W (.While c a [] pos) (sWhile tc t) := PS.imp (ps_while hp hc hb) fun D σ H h => by
  obtain ⟨ρ, st, m, D', rs, rel, ⟨Wv, ⟨n0, w0⟩, turn⟩, fin⟩ := h
  refine ⟨fun n σ1 H1 => ∃ ρ1 st1 m1, RS X.K m1 H1 σ1 ρ1 ∧ Rel X.K T m1 st1 H1 ∧ Wv n ρ1 st1 ∧ Grow m H m1 H1, ⟨n0, ρ, st, m, rs, rel, w0, Grow.refl⟩, fun n σ1 H1 hw => ?_⟩
  obtain ⟨ρ1, st1, m1, rs1, rel1, w1, g1⟩ := hw
  refine ⟨ρ1, st1, m1, _, _, rs1, rel1, turn n ρ1 st1 w1, fun b st2 hb m2 H2 g2 rel2 => ?_, (fin.step g1).finx rel1 rs1⟩
  cases b with
  | false =>
    rw [if_neg Bool.false_ne_true]
    exact fin.nx ρ1 st2 hb σ1 m2 H2 (g1.trans g2) rel2 (rs1.grow rel1 g2)
  | true =>
    rw [if_pos rfl]
    have f2 := fin.step (g1.trans g2)
    have again : FinE X.K T m2 H2 (fun ρ' st' => ∃ n', n' < n ∧ Wv n' ρ' st') (fun σ' H' => ∃ n', n' < n ∧ ∃ ρ3 st3 m3, RS X.K m3 H' σ' ρ3 ∧ Rel X.K T m3 st3 H' ∧ Wv n' ρ3 st3 ∧ Grow m H m3 H') := fun ρ3 st3 ⟨n', hn, w3⟩ σ3 m3 H3 g3 rel3 rs3 =>
      ⟨n', hn, ρ3, st3, m3, rs3, rel3, w3, (g1.trans g2).trans g3⟩
    exact ⟨_, fun _ _ q => q, ρ1, st2, m2, _, rs1.grow rel1 g2, rel2, hb, ⟨again, f2.rt, f2.nx, again, f2.ex⟩⟩
end

/-! ### targets, loops over values -/
abbrev SemG := PV → Env → Store → (Env → Store → Prop) → Prop
def tG (K : PySem.W.Frag) (T : List (Addr × Str)) (g : SemG) : TG := fun x σ H Q => ∃ v ρ st m P, RV K m H x v ∧ RS K m H σ ρ ∧ Rel K T m st H ∧ g v ρ st P ∧ FinE K T m H P Q
abbrev JG (X : Cx) (T : List (Addr × Str)) (e : Expr) (g : SemG) : Prop := PG X e (tG X.K T g)
def kName (i : Nat) : SemG := fun v ρ st P => P (ρ.set i (some v)) st
def kTup2 (i j : Nat) : SemG := fun v ρ st P => match v with
  | .tup [a, b] => P ((ρ.set i (some a)).set j (some b)) st
  | _ => False
theorem PG.imp {X : Cx} {e : Expr} {t t' : TG} (h : PG X e t) (i : ∀ x σ H Q, t' x σ H Q → t x σ H Q) : PG X e t' := ⟨fun pins s σ H v u Q I r q => h.run pins s σ H v u Q I r (i v σ H Q q)⟩
section
variable {X : Cx} {T : List (Addr × Str)} {W : WX} {pos : Pos}
theorem g_name {i : Nat} {x : Str} (hN : X.N.Nodup) (hi : X.N[i]? = some x) (hx : Loc X.env.scope x) (hf : X.fn x = true ∨ X.env.scope.names.lookup x = some .local := by first | exact .inl rfl | exact .inr rfl | assumption) : JG X T (.Name x pos) (kName i) :=
  PG.imp (pg_name hN hi hx hf) fun xv σ H Q h => by
    obtain ⟨v, ρ, st, m, P, rv, rs, rel, hg, fin⟩ := h
    exact fin _ st hg _ m H Grow.refl rel (rs.set i rv)
theorem g_tup2 {i j : Nat} {x y : Str} {p1 p2 : Pos} {k : Nat} (hc : X.calm = true) (hN : X.N.Nodup) (hi : X.N[i]? = some x) (hx : Loc X.env.scope x) (hj : X.N[j]? = some y) (hy : Loc X.env.scope y)
    (hfx : X.fn x = true ∨ X.env.scope.names.lookup x = some .local := by first | exact .inl rfl | exact .inr rfl | assumption) (hfy : X.fn y = true ∨ X.env.scope.names.lookup y = some .local := by first | exact .inl rfl | exact .inr rfl | assumption) :
    JG X T (.Tuple [.Name x p1, .Name y p2] k pos) (kTup2 i j) :=
  PG.imp (pg_tup hc (pgs_cons (pg_name hN hi hx hfx) (pgs_cons (pg_name hN hj hy hfy) pgs_nil))) fun xv σ H Q h => by
    obtain ⟨v, ρ, st, m, P, rv, rs, rel, hg, fin⟩ := h
    unfold kTup2 at hg
    split at hg
    · cases rv with
      | tup hq hs =>
        obtain ⟨a1, b1, rfl, r1, r2⟩ := hs.two
        exact ⟨_, _, rfl, hq, rfl, a1, [b1], rfl, b1, [], rfl, rfl, fin _ st hg _ m H Grow.refl rel ((rs.set i r1).set j r2)⟩
    · exact hg.elim
/-- target = e -/
def sAsgG (f : Sem) (g : SemG) : SemS := fun D ρ st => f ρ st (fun v st1 => g v ρ st1 D.nx) (fun e st1 => D.ex e ρ st1)
theorem s_asgG {tg e : Expr} {f : Sem} {g : SemG} (he : JE X T W e f) (hg : JG X T tg g) (hs : swapsWithSole [tg] e pos.line X.env = pure false := by rfl) (hw : swappedStores [tg] e X.env = pure none := by rfl)
    (h1 : (assignEach [tg] X.env).map (·.2) = [assign tg X.env] := by rfl) : JS X T W (.Assign [tg] e pos) (sAsgG f g) := PS.imp (ps_asg he hg hs hw h1) fun D σ H h => by
  obtain ⟨ρ, st, m, D', rs, rel, hf, fin⟩ := h
  exact ⟨ρ, st, m, _, _, rs, rel, hf, fun v st1 hv x m1 H1 g1 rel1 rv1 => ⟨v, ρ, st1, m1, _, rv1, rs.grow rel g1, rel1, hv, fin.nx.step g1⟩, fin.finx rel rs⟩
/-- the turns -/
def loopL (g : SemG) (t : SemS) (D : EndP) : List PV → Env → Store → Prop
  | [], ρ, st => D.nx ρ st
  | x :: r, ρ, st => g x ρ st fun ρ1 st1 => t { D with nx := loopL g t D r, ct := loopL g t D r, bk := D.nx } ρ1 st1
def sForV (f : Sem) (g : SemG) (t : SemS) : SemS := fun D ρ st => f ρ st (fun v st1 => match v with
  | .lst l => loopL g t D l ρ st1
  | _ => False) (fun e st1 => D.ex e ρ st1)
def sForT (f : Sem) (g : SemG) (t : SemS) : SemS := fun D ρ st => f ρ st (fun v st1 => match v with
  | .tup l => loopL g t D l ρ st1
  | _ => False) (fun e st1 => D.ex e ρ st1)
theorem RVs.drop {K : PySem.W.Frag} {m : List Addr} {H : Hp} : ∀ {xs : List V} {vs : List PV} (i : Nat), RVs K m H xs vs → RVs K m H (xs.drop i) (vs.drop i)
  | _, _, 0, r => r
  | _, _, _ + 1, .nil => .nil
  | _, _, i + 1, .cons _ r => RVs.drop i r
theorem s_forV {tg e : Expr} {f : Sem} {g : SemG} {t : SemS} {body : List Stmt} (hp : PassesOwn (model X.prog X.w) X.A X.env X.xe) (hc : X.calm = true) (he : JE X T W e f) (hg : JG X T tg g) (hb : JSs X T W body t)
    (hs : ∀ x, foldedSetIterable e X.env x = pure x := by intro _; rfl) : JS X T W (.For tg e body [] pos) (sForV f g t) := PS.imp (ps_for hp hc (pi_list he) hg hb hs) fun D σ H h => by
  obtain ⟨ρ, st, m, D', rs, rel, hf, fin⟩ := h
  refine ⟨ρ, st, m, _, _, rs, rel, hf, fun v st1 hv x m1 H1 g1 rel1 rv1 => ?_, fin.finx rel rs⟩
  dsimp only at hv
  split at hv
  · rename_i l
    cases rv1 with
    | @lst a xs _ hq hs =>
      refine ⟨a, rfl, ⟨xs, hq.sq⟩, ?_⟩
      refine for_list (xs := xs) (fun i σ2 H2 => ∃ ρ2 st2 m2, RS X.K m2 H2 σ2 ρ2 ∧ Rel X.K T m2 st2 H2 ∧ loopL g t D' (l.drop i) ρ2 st2 ∧ Grow m1 H1 m2 H2) ⟨ρ, st1, m1, rs.grow rel g1, rel1, hv, Grow.refl⟩ (fun i σ2 H2 _ hw => ?_) (fun i y σ2 H2 hy hw => ?_) (fun σ2 H2 hw => ?_)
      · obtain ⟨_, _, _, _, _, _, g2⟩ := hw
        exact (lsr_grow rel1 g2 hq).sq
      · obtain ⟨ρ2, st2, m2, rs2, rel2, hl, g2⟩ := hw
        have hlt : i < l.length := by
          rw [← hs.length]
          exact (List.getElem?_eq_some_iff.mp hy).1
        rw [List.drop_eq_getElem_cons hlt] at hl
        obtain ⟨y', e1, ry⟩ := (hs.grow rel1 g2).get (i := i) (v := l[i]) (by simp [hlt])
        rw [hy] at e1
        cases e1
        have f2 := fin.step (g1.trans g2)
        refine ⟨l[i], ρ2, st2, m2, _, ry, rs2, rel2, hl, fun ρ3 st3 h3 σ3 m3 H3 g3 rel3 rs3 => ?_⟩
        have again : FinE X.K T m3 H3 (loopL g t D' (l.drop (i + 1))) (fun σ' H' => ∃ ρ2 st2 m2, RS X.K m2 H' σ' ρ2 ∧ Rel X.K T m2 st2 H' ∧ loopL g t D' (l.drop (i + 1)) ρ2 st2 ∧ Grow m1 H1 m2 H') := fun ρ4 st4 h4 σ4 m4 H4 g4 rel4 rs4 =>
          ⟨ρ4, st4, m4, rs4, rel4, h4, (g2.trans g3).trans g4⟩
        exact ⟨ρ3, st3, m3, _, rs3, rel3, h3, ⟨again, (f2.step g3).rt, (f2.step g3).nx, again, (f2.step g3).ex⟩⟩
      · obtain ⟨ρ2, st2, m2, rs2, rel2, hl, g2⟩ := hw
        rw [hs.length, List.drop_eq_nil_of_le (Nat.le_refl _)] at hl
        exact fin.nx ρ2 st2 hl σ2 m2 H2 (g1.trans g2) rel2 rs2
  · exact hv.elim
theorem s_forT {tg e : Expr} {f : Sem} {g : SemG} {t : SemS} {body : List Stmt} (hp : PassesOwn (model X.prog X.w) X.A X.env X.xe) (hc : X.calm = true) (he : JE X T W e f) (hg : JG X T tg g) (hb : JSs X T W body t)
    (hs : ∀ x, foldedSetIterable e X.env x = pure x := by intro _; rfl) : JS X T W (.For tg e body [] pos) (sForT f g t) := PS.imp (ps_for hp hc (pi_tup he) hg hb hs) fun D σ H h => by
  obtain ⟨ρ, st, m, D', rs, rel, hf, fin⟩ := h
  refine ⟨ρ, st, m, _, _, rs, rel, hf, fun v st1 hv x m1 H1 g1 rel1 rv1 => ?_, fin.finx rel rs⟩
  dsimp only at hv
  split at hv
  · rename_i l
    cases rv1 with
    | @tup a xs _ hq hs =>
      refine ⟨a, rfl, ⟨xs, hq⟩, ?_⟩
      refine for_tup (xs := xs) (fun i σ2 H2 => ∃ ρ2 st2 m2, RS X.K m2 H2 σ2 ρ2 ∧ Rel X.K T m2 st2 H2 ∧ loopL g t D' (l.drop i) ρ2 st2 ∧ Grow m1 H1 m2 H2) ⟨ρ, st1, m1, rs.grow rel g1, rel1, hv, Grow.refl⟩ (fun i σ2 H2 _ hw => ?_) (fun i y σ2 H2 hy hw => ?_) (fun σ2 H2 hw => ?_)
      · obtain ⟨_, _, _, _, _, _, g2⟩ := hw
        exact sqt_grow rel1 g2 hq
      · obtain ⟨ρ2, st2, m2, rs2, rel2, hl, g2⟩ := hw
        have hlt : i < l.length := by
          rw [← hs.length]
          exact (List.getElem?_eq_some_iff.mp hy).1
        rw [List.drop_eq_getElem_cons hlt] at hl
        obtain ⟨y', e1, ry⟩ := (hs.grow rel1 g2).get (i := i) (v := l[i]) (by simp [hlt])
        rw [hy] at e1
        cases e1
        have f2 := fin.step (g1.trans g2)
        refine ⟨l[i], ρ2, st2, m2, _, ry, rs2, rel2, hl, fun ρ3 st3 h3 σ3 m3 H3 g3 rel3 rs3 => ?_⟩
        have again : FinE X.K T m3 H3 (loopL g t D' (l.drop (i + 1))) (fun σ' H' => ∃ ρ2 st2 m2, RS X.K m2 H' σ' ρ2 ∧ Rel X.K T m2 st2 H' ∧ loopL g t D' (l.drop (i + 1)) ρ2 st2 ∧ Grow m1 H1 m2 H') := fun ρ4 st4 h4 σ4 m4 H4 g4 rel4 rs4 =>
          ⟨ρ4, st4, m4, rs4, rel4, h4, (g2.trans g3).trans g4⟩
        exact ⟨ρ3, st3, m3, _, rs3, rel3, h3, ⟨again, (f2.step g3).rt, (f2.step g3).nx, again, (f2.step g3).ex⟩⟩
      · obtain ⟨ρ2, st2, m2, rs2, rel2, hl, g2⟩ := hw
        rw [hs.length, List.drop_eq_nil_of_le (Nat.le_refl _)] at hl
        exact fin.nx ρ2 st2 hl σ2 m2 H2 (g1.trans g2) rel2 rs2
  · exact hv.elim
/-- for x in range(n), range(a, b) -/
def upto (lo : Int) : Nat → List PV
  | 0 => []
  | n + 1 => .int lo :: upto (lo + 1) n
theorem upto_drop (lo : Int) : ∀ (n i : Nat), i < n → (upto lo n).drop i = .int (lo + i) :: (upto lo n).drop (i + 1)
  | 0, i, h => absurd h (Nat.not_lt_zero _)
  | n + 1, 0, _ => by simp [upto]
  | n + 1, i + 1, h => by
    have e := upto_drop (lo + 1) n i (by omega)
    show (upto (lo + 1) n).drop i = _ :: (upto (lo + 1) n).drop (i + 1)
    rw [e]
    congr 2
    push_cast
    omega
theorem upto_len (lo : Int) : ∀ n : Nat, (upto lo n).length = n
  | 0 => rfl
  | n + 1 => by simp [upto, upto_len (lo + 1) n]
def sForR1 (f : Sem) (g : SemG) (t : SemS) : SemS := fun D ρ st => f ρ st (fun v st1 => match v with
  | .int n => n < 2 ^ 62 ∧ -(2 ^ 62) ≤ n ∧ loopL g t D (upto 0 n.toNat) ρ st1
  | _ => False) (fun e st1 => D.ex e ρ st1)
theorem s_forR1 {tg e : Expr} {f : Sem} {g : SemG} {t : SemS} {body : List Stmt} {p pos' : Pos} (hp : PassesOwn (model X.prog X.w) X.A X.env X.xe) (hc : X.calm = true) (hgl : Gl X "range") (hm : X.mg "range" = none) (he : JE X T W e f) (hg : JG X T tg g) (hb : JSs X T W body t)
    (h1 : starEach [e] X.env = (false, eval e X.env) :: starEach [] X.env := by rfl) (h2 : starEach [e] X.env = [(false, eval e X.env)] := by rfl) (hs : ∀ x, foldedSetIterable (.Call (.Name "range" p) [e] [] pos') X.env x = pure x := by intro _; rfl) :
    JS X T W (.For tg (.Call (.Name "range" p) [e] [] pos') body [] pos) (sForR1 f g t) := PS.imp (ps_for hp hc (pi_range1 hgl hm (pa_cons he pa_nil h1) h2) hg hb hs) fun D σ H h => by
  obtain ⟨ρ, st, m, D', rs, rel, hf, fin⟩ := h
  refine ⟨ρ, st, m, _, _, rs, rel, hf, fun v st1 hv x m1 H1 g1 rel1 rv1 => ?_, fin.finx rel rs⟩
  dsimp only at hv
  split at hv
  · rename_i n
    cases rv1
    obtain ⟨h1, h2, hv⟩ := hv
    refine ⟨n, rfl, h2, h1, ?_⟩
    refine for_range (lo := 0) (n := n.toNat) (fun i σ2 H2 => ∃ ρ2 st2 m2, RS X.K m2 H2 σ2 ρ2 ∧ Rel X.K T m2 st2 H2 ∧ loopL g t D' ((upto 0 n.toNat).drop i) ρ2 st2 ∧ Grow m1 H1 m2 H2) ⟨ρ, st1, m1, rs.grow rel g1, rel1, hv, Grow.refl⟩ (fun i σ2 H2 hi hw => ?_) (fun σ2 H2 hw => ?_)
    · obtain ⟨ρ2, st2, m2, rs2, rel2, hl, g2⟩ := hw
      rw [upto_drop 0 n.toNat i hi] at hl
      have f2 := fin.step (g1.trans g2)
      refine ⟨.int (0 + i), ρ2, st2, m2, _, .int _, rs2, rel2, hl, fun ρ3 st3 h3 σ3 m3 H3 g3 rel3 rs3 => ?_⟩
      have again : FinE X.K T m3 H3 (loopL g t D' ((upto 0 n.toNat).drop (i + 1))) (fun σ' H' => ∃ ρ2 st2 m2, RS X.K m2 H' σ' ρ2 ∧ Rel X.K T m2 st2 H' ∧ loopL g t D' ((upto 0 n.toNat).drop (i + 1)) ρ2 st2 ∧ Grow m1 H1 m2 H') := fun ρ4 st4 h4 σ4 m4 H4 g4 rel4 rs4 =>
        ⟨ρ4, st4, m4, rs4, rel4, h4, (g2.trans g3).trans g4⟩
      exact ⟨ρ3, st3, m3, _, rs3, rel3, h3, ⟨again, (f2.step g3).rt, (f2.step g3).nx, again, (f2.step g3).ex⟩⟩
    · obtain ⟨ρ2, st2, m2, rs2, rel2, hl, g2⟩ := hw
      rw [List.drop_eq_nil_of_le (by rw [upto_len]; exact Nat.le_refl _)] at hl
      exact fin.nx ρ2 st2 hl σ2 m2 H2 (g1.trans g2) rel2 rs2
  · exact hv.elim
end
end Sm
set_option Elab.async false
set_option linter.all false
set_option maxRecDepth 100000
set_option maxHeartbeats 1000000
namespace Sm
open PySem PySem.Spec PyProof.Rows L2

/-! ### THE RULE for a def -/
def ini (N : List Str) (vs : List PV) : Env := vs.map some ++ List.replicate (N.length - vs.length) none
def endOf (P : PK) (PX : XP) : EndP := ⟨fun _ st' => P .non st', P, fun _ _ => False, fun _ _ => False, fun e _ st' => PX e st'⟩
theorem rs_ini {K : PySem.W.Frag} {m : List Addr} {H : Hp} {N : List Str} {vs : List V} {pvs : List PV} (r : RVs K m H vs pvs) : RS K m H (L2.start N vs) (ini N pvs) := by
  have hl := r.length
  refine ⟨by simp [L2.start, ini, hl], fun i v e => ?_⟩
  unfold ini at e
  by_cases hi : i < pvs.length
  · rw [List.getElem?_append_left (by simpa using hi), List.getElem?_map] at e
    cases q : pvs[i]? with
    | none => rw [q] at e; cases e
    | some w =>
      rw [q] at e
      cases e
      obtain ⟨x, e1, r1⟩ := r.get q
      refine ⟨x, ?_, r1⟩
      unfold L2.start
      rw [List.getElem?_append_left (by simpa [hl] using hi), List.getElem?_map, e1]
      rfl
  · rw [List.getElem?_append_right (by simpa using hi), List.getElem?_replicate] at e
    split at e <;> cases e
section
variable {P : Program} {w : World} {K : PySem.W.Frag} {T : List (Addr × Str)} {mg : Str → Option Value} {base : Heap} {x qual : Str} {params : Arguments} {body : List Stmt} {scope : Scope} {dvs : List V} {kws : List (Str × V)} {f : Addr} {fd : FuncData}
theorem g_of {N ps : List Str} {gd : Bool} {k : Nat} {S : SpecF} (F : FunD K x qual params body scope dvs kws f fd) (Sc : FnScope N ps scope) (len : ∀ pvs st Q PX, S pvs st Q PX → pvs.length = ps.length)
    (hbody : ∀ (cdv : Value) (A : Around) (outer : List PySem.Env) (s : Shared) (H : Hp) (E : XK), Room k (A.deeper (envOfC qual scope s.heap.objs.size f cdv)) → Gu gd (A.deeper (envOfC qual scope s.heap.objs.size f cdv)) →
      ∃ t : SemS, JSs (cxOf (L2.CX P w) P w K mg base N qual scope f cdv A outer s H E) T (fun cls d _ H' => E cls d H') body t ∧ ∀ pvs st Q PX, S pvs st Q PX → t (endOf Q PX) (ini N pvs) st) :
    FnG P w K T mg base gd (k + 1) f fd ps S := by
  obtain ⟨oc, od, dV, kV, doc, pm, an, cdv, ct, osl, rfl, lk, hcd, _, _⟩ := F.ex
  refine ⟨len, fun A outer s H args us vs Q E hr hgd e0 hb r hsp => ?_⟩
  obtain ⟨pvs, st, m, PQ, PX, rv, rel, hS, fin, finx⟩ := hsp
  have hl := len _ _ _ _ hS
  have hlv : vs.length = ps.length := rv.length.trans hl
  have KX : K.In s.heap := e0.mod.kin.keeps fun b o e => (e0.bs b o e).1
  have lim : s.heap.NoLimit := e0.mod.nolimit.keeps fun b o e => (e0.bs b o e).1
  have kinds : ∀ y ∈ ps.zip us, scope.names.lookup y.1 = some .local ∨ (scope.names.lookup y.1 = some .cell ∧ ((cellsFrom (s.heap.objs.size + 1) scope.names []).lookup y.1).isSome = true) := by
    intro ⟨n, v⟩ hy
    have hp := Sc.par n (List.of_mem_zip hy).1
    exact hp.imp id fun q => ⟨q, PySem.W.cellsFrom_some _ _ _ (.inl q)⟩
  have hr2 : Room k (A.deeper (envOfC qual scope s.heap.objs.size f cdv)) := hr.deeper _
  refine codeAny_call_function hr.depth (KX _ _ lk) rfl Sc.co Sc.gen rfl (PySem.W.codeRec_of KX hcd) (hb _ _ _ _ ?_)
  refine wpAny_newFunctionEnv_cells Sc.kind kinds fun env he s1 xx => ?_
  subst he
  refine ⟨lim.keeps xx.toInCall.keep, codeAny_func ?_⟩
  obtain ⟨t, ht, hq⟩ := hbody cdv A outer s H E hr2 hgd
  have I := inv_start (CX := L2.CX P w) (E := E) (f := f) (cd := cdv) (qual := qual) Sc hr.hd e0 hlv r xx
  have goal : tS K T (fun cls d _ H' => E cls d H') t { nx := fun _ H' => Q .non H', rt := Q } (L2.start N vs) H :=
    ⟨ini N pvs, st, m, _, rs_ini rv, rel, hq pvs st PQ PX hS, ⟨fun ρ st' p σ m' H' g r' _ => fin .non st' p .non m' H' g r' .non, fin, fun _ _ p => p.elim, fun _ _ p => p.elim, fun e ρ st' p cls d σ m' H' g r' _ ex => finx e st' p cls d m' H' g r' ex⟩⟩
  refine wpAny_mono (ht.run [] s1 (L2.start N vs) H _ I goal) (fun fl s' hs => ?_) fun e s' hs => hs
  cases fl with
  | ret u =>
    obtain ⟨v, σ', H', J, rr, q⟩ := hs
    exact ⟨v, H', J.os, J.bare, J.base, J.hok, rr, q⟩
  | next =>
    obtain ⟨σ', H', J, q⟩ := hs
    exact ⟨V.non, H', J.os, J.bare, J.base, J.hok, rfl, q⟩
  | brk =>
    obtain ⟨_, _, _, q⟩ := hs
    exact q.elim
  | cont =>
    obtain ⟨_, _, _, q⟩ := hs
    exact q.elim
end

theorem nodup_get {α : Type} : ∀ {l : List α} {i j : Nat} {a : α}, l.Nodup → l[i]? = some a → l[j]? = some a → i = j
  | [], _, _, _, _, h, _ => by simp at h
  | x :: l, 0, 0, _, _, _, _ => rfl
  | x :: l, 0, j + 1, a, nd, h1, h2 => by
    simp at h1 h2
    subst h1
    exact absurd (List.mem_of_getElem? h2) (List.nodup_cons.mp nd).1
  | x :: l, i + 1, 0, a, nd, h1, h2 => by
    simp at h1 h2
    subst h2
    exact absurd (List.mem_of_getElem? h1) (List.nodup_cons.mp nd).1
  | x :: l, i + 1, j + 1, a, nd, h1, h2 => by
    simp at h1 h2
    rw [nodup_get (List.nodup_cons.mp nd).2 h1 h2]
/-! ### what a def leaves behind: its own handles go -/
mutual
def cl (n : Nat) : PV → Bool
  | .hd k => decide (k < n)
  | .tup l => cls n l
  | .lst l => cls n l
  | .exc _ _ _ v => cl n v
  | _ => true
def cls (n : Nat) : List PV → Bool
  | [] => true
  | v :: vs => cl n v && cls n vs
end
def clO (n : Nat) : Ob → Bool
  | .lst l => cls n l
/-- v, st': what stands at the end; w, st: what is handed on -/
def Drop (n0 : Nat) (st' : Store) (v : PV) (st : Store) (w : PV) : Prop :=
  n0 ≤ st.length ∧ st = st'.take st.length ∧ (st.all (clO st.length)) = true ∧ ((w = v ∧ cl st.length v = true) ∨ ∃ k l, v = .hd k ∧ st.length ≤ k ∧ st'[k]? = some (.lst l) ∧ w = .lst l ∧ cls st.length l = true)
section
variable {K : PySem.W.Frag} {T : List (Addr × Str)} {m : List Addr} {H : Hp} {st : Store}
mutual
theorem RV.low (n : Nat) : ∀ {x : V} {v : PV}, RV K m H x v → cl n v = true → RV K (m.take n) H x v
  | _, _, .non, _ => .non
  | _, _, .bl b, _ => .bl b
  | _, _, .int i, _ => .int i
  | _, _, .str s, _ => .str s
  | _, _, .ty t, _ => .ty t
  | _, _, .tup h hs, e => .tup h (RVs.low n hs (by simpa [cl] using e))
  | _, _, .lst h hs, e => .lst (by
      rcases h with ⟨h, q⟩ | h
      · exact .inl ⟨h, fun z => q (List.mem_of_mem_take z)⟩
      · exact .inr h) (RVs.low n hs (by simpa [cl] using e))
  | _, _, .hd (n := k) h, e => .hd (by
      have hk : k < n := by simpa [cl] using e
      rw [List.getElem?_take_of_lt hk]
      exact h)
  | _, _, .adr a, _ => .adr a
  | _, _, .exc h hv, e => .exc h (RV.low n hv (by simpa [cl] using e))
theorem RVs.low (n : Nat) : ∀ {xs : List V} {vs : List PV}, RVs K m H xs vs → cls n vs = true → RVs K (m.take n) H xs vs
  | _, _, .nil, _ => .nil
  | _, _, .cons h hs, e => by
    simp only [cls, Bool.and_eq_true] at e
    exact .cons (RV.low n h e.1) (RVs.low n hs e.2)
end
theorem Rel.low (r : Rel K T m st H) (n : Nat) (h : (st.take n).all (clO n) = true) : Rel K T (m.take n) (st.take n) H := by
  refine ⟨by simp [r.len], r.nd.sublist (List.take_sublist _ _), fun k a o h1 h2 => ?_, r.tab⟩
  have hk : k < n := by
    have := (List.getElem?_eq_some_iff.mp h1).1
    simp at this
    omega
  have h3 := List.all_eq_true.mp h o (List.mem_of_getElem? h2)
  rw [List.getElem?_take_of_lt hk] at h1 h2
  have q := r.ob k a o h1 h2
  obtain ⟨l⟩ := o
  obtain ⟨xs, e, rs⟩ := q
  exact ⟨xs, e, rs.low n h3⟩
theorem low_grow {m0 : List Addr} {H0 : Hp} (g : Grow m0 H0 m H) (n : Nat) (h : m0.length ≤ n) : Grow m0 H0 (m.take n) H := by
  obtain ⟨e, rfl, he⟩ := g.pre
  refine ⟨⟨e.take (n - m0.length), ?_, fun a ha => he a (List.mem_of_mem_take ha)⟩, g.keep, g.there⟩
  rw [List.take_append, List.take_of_length_le h]
end
def dropQ (n0 : Nat) (P : PK) : PK := fun v st' => P v st' ∨ ∃ w st, Drop n0 st' v st w ∧ P w st
def dropX (n0 : Nat) (PX : XP) : XP := fun e st' => PX e st' ∨ ∃ st : Store, n0 ≤ st.length ∧ st = st'.take st.length ∧ (st.all (clO st.length)) = true ∧ cl st.length e.val = true ∧ PX e st
theorem FnG.low {P : Program} {w : World} {K : PySem.W.Frag} {T : List (Addr × Str)} {mg : Str → Option Value} {base : Heap} {gd : Bool} {k : Nat} {f : Addr} {fd : FuncData} {ps : List Str} {S S' : SpecF} (F : FnG P w K T mg base gd k f fd ps S')
    (h : ∀ pvs st Q PX, S pvs st Q PX → S' pvs st (dropQ st.length Q) (dropX st.length PX)) : FnG P w K T mg base gd k f fd ps S := by
  refine ⟨fun pvs st Q PX q => F.len _ _ _ _ (h _ _ _ _ q), fun A outer s H args us vs Q E hr hg e0 hb r hsp => F.run A outer s H args us vs Q E hr hg e0 hb r ?_⟩
  obtain ⟨pvs, st, m, PQ, PX, rv, rel, hS, fin, finx⟩ := hsp
  refine ⟨pvs, st, m, _, _, rv, rel, h _ _ _ _ hS, fun v st' hv x m' H' g r' rx => ?_, fun e st' he cls d m' H' g r' ex => ?_⟩
  · rcases hv with hv | ⟨w, st2, ⟨h1, h2, h3, h4⟩, hv⟩
    · exact fin v st' hv x m' H' g r' rx
    · have g2 := low_grow g st2.length (by rw [rel.len]; exact h1)
      have r2 := r'.low st2.length (by rw [← h2]; exact h3)
      rw [← h2] at r2
      refine fin w st2 hv x (m'.take st2.length) H' g2 r2 ?_
      rcases h4 with ⟨rfl, h4⟩ | ⟨k, l, rfl, hk, hl, rfl, h4⟩
      · exact rx.low _ h4
      · cases rx with
        | @hd a _ hm =>
          obtain ⟨xs, e, rs⟩ := r'.ob k a _ hm hl
          refine .lst (.inl ⟨.inl e, fun z => ?_⟩) (rs.low _ h4)
          obtain ⟨j, hj⟩ := List.getElem?_of_mem z
          have hjl : j < st2.length := by
            have := (List.getElem?_eq_some_iff.mp hj).1
            simp at this
            omega
          rw [List.getElem?_take_of_lt hjl] at hj
          have hkl := (List.getElem?_eq_some_iff.mp hm).1
          have := nodup_get r'.nd hj hm
          omega
  · rcases he with he | ⟨st2, h1, h2, h3, h4, he⟩
    · exact finx e st' he cls d m' H' g r' ex
    · have g2 := low_grow g st2.length (by rw [rel.len]; exact h1)
      have r2 := r'.low st2.length (by rw [← h2]; exact h3)
      rw [← h2] at r2
      obtain ⟨e1, dd, y, e2, e3, e4⟩ := ex
      exact finx e st2 he cls d (m'.take st2.length) H' g2 r2 ⟨e1, dd, y, e2, e3, e4.low _ h4⟩

/-! ### stores to handles -/
section
variable {K : PySem.W.Frag} {T : List (Addr × Str)} {m : List Addr} {H : Hp} {st : Store} {a : Addr} {n : Nat}
theorem Grow.upd (h : m[n]? = some a) {o : HO} (ho : NT o := by intro _ z; cases z) : Grow m H m (L2.upd H a o) := by
  refine ⟨⟨[], by simp, by simp⟩, fun b u e nb _ => ?_, fun b u e nt => ?_⟩
  · rw [upd_ne (fun z => nb (by rw [z]; exact List.mem_of_getElem? h))]
    exact e
  · by_cases z : b = a
    · rw [z]
      exact ⟨o, upd_same, ho⟩
    · exact ⟨u, by rw [upd_ne z]; exact e, nt⟩
theorem tabs_upd {T : List (Addr × Str)} {o : HO} (t : LamX.Tabs T H) (h : ∃ xs, H a = some (.lst xs)) : LamX.Tabs T (L2.upd H a o) := fun p hp => by
  obtain ⟨xs, ha⟩ := h
  obtain ⟨ps, h1, h2, h3⟩ := t p hp
  refine ⟨ps, by rw [upd_ne (ne_of h1 ha (by intro z; cases z))]; exact h1, h2, fun pos cv hc => ?_⟩
  obtain ⟨c, e1, e2⟩ := h3 pos cv hc
  refine ⟨c, e1, ?_⟩
  rw [upd_ne (ne_of e2 ha (by unfold LamX.CodeO; intro z; cases z))]
  exact e2
theorem Rel.upd {xs : List V} {l : List PV} (r : Rel K T m st H) (h : m[n]? = some a) (rs : RVs K m H xs l) : Rel K T m (st.set n (.lst l)) (L2.upd H a (.lst xs)) := by
  have g : Grow m H m (L2.upd H a (.lst xs)) := Grow.upd h
  refine ⟨by simp [r.len], r.nd, fun k b o h1 h2 => ?_, tabs_upd r.tab (r.at_ (List.mem_of_getElem? h)) ⟩
  by_cases hk : n = k
  · subst hk
    rw [h] at h1
    cases h1
    have hl : n < st.length := by rw [← r.len]; exact (List.getElem?_eq_some_iff.mp h).1
    rw [List.getElem?_set_self hl] at h2
    cases h2
    exact ⟨xs, upd_same, rs.grow r g⟩
  · rw [List.getElem?_set_ne hk] at h2
    have hb : b ≠ a := fun z => by
      subst z
      exact hk (nodup_get r.nd h h1)
    have q := r.ob k b o h1 h2
    obtain ⟨l'⟩ := o
    obtain ⟨xs', e, rs'⟩ := q
    exact ⟨xs', by rw [upd_ne hb]; exact e, rs'.grow r g⟩
end
/-- o[i] = e, o a handle -/
def sSetIx (f fo fi : Sem) : SemS := fun D ρ st => f ρ st (fun v st1 => fo ρ st1 (fun o st2 => fi ρ st2 (fun i st3 => match o, i with
  | .hd n, .int k => match st3[n]? with
    | some (.lst l) => match ixN l.length k with
      | some j => D.nx ρ (st3.set n (.lst (l.set j v)))
      | none => False
    | none => False
  | _, _ => False) (fun e st3 => D.ex e ρ st3)) (fun e st2 => D.ex e ρ st2)) (fun e st1 => D.ex e ρ st1)
section
variable {X : Cx} {T : List (Addr × Str)} {W : WX} {pos p2 : Pos} {e o i : Expr} {f fo fi : Sem}
theorem s_setIx (he : JE X T W e f) (ho : JE X T W o fo) (hi : JE X T W i fi)
    (ha : ∀ v, assign (.Subscript o i p2) X.env v = (do
      let ov ← holding [v] (eval o X.env)
      let iv ← holding [v, ov] (eval i X.env)
      standAt p2
      holding [v, ov, iv] (setItem ov iv v)
      release [v, ov, iv] []) := by intro _; rfl) (hs : swapsWithSole [.Subscript o i p2] e pos.line X.env = pure false := by rfl) (hw : swappedStores [.Subscript o i p2] e X.env = pure none := by rfl)
    (h1 : (assignEach [.Subscript o i p2] X.env).map (·.2) = [assign (.Subscript o i p2) X.env] := by rfl) : JS X T W (.Assign [.Subscript o i p2] e pos) (sSetIx f fo fi) := PS.imp (ps_asg he (pg_sub ho hi set_list ha) hs hw h1) fun D σ H h => by
  obtain ⟨ρ, st, m, D', rs, rel, hf, fin⟩ := h
  refine ⟨ρ, st, m, _, _, rs, rel, hf, fun v st1 hv x m1 H1 g1 rel1 rv1 => ?_, fin.finx rel rs⟩
  refine ⟨ρ, st1, m1, _, _, rs.grow rel g1, rel1, hv, fun vo st2 hvo xo m2 H2 g2 rel2 rvo => ?_, (fin.finx rel rs).step g1⟩
  refine ⟨ρ, st2, m2, _, _, (rs.grow rel g1).grow rel1 g2, rel2, hvo, fun vi st3 hvi xi m3 H3 g3 rel3 rvi => ?_, ((fin.finx rel rs).step g1).step g2⟩
  dsimp only at hvi
  split at hvi
  · split at hvi
    · rename_i l hl
      split at hvi
      · rename_i j hj
        cases rvi
        cases rvo.grow rel2 g3 with
        | @hd a n hn =>
          obtain ⟨xs, hq, hxs⟩ := rel3.ob _ _ _ hn hl
          have rx := (rv1.grow rel1 g2).grow rel2 g3
          have rel4 := rel3.upd hn (RVs.set rx j hxs)
          have g4 : Grow m3 H3 m3 (L2.upd H3 a (.lst (xs.set j x))) := Grow.upd hn
          exact ⟨a, xs, _, j, rfl, rfl, hq, by rw [hxs.length]; exact hj, fin.nx _ _ hvi σ m3 _ (((g1.trans g2).trans g3).trans g4) rel4 ((((rs.grow rel g1).grow rel1 g2).grow rel2 g3).grow rel3 g4)⟩
      · exact hvi.elim
    · exact hvi.elim
  · exact hvi.elim
/-- xs.append(e), xs a handle -/
def sApp (fo : Sem) (g : SemA) : Sem := fun ρ st P PX => fo ρ st (fun o st1 => match o with
  | .hd n => g ρ st1 (fun vs st2 => match vs with
    | [v] => match st2[n]? with
      | some (.lst l) => l.length < 100000 ∧ P .non (st2.set n (.lst (l ++ [v])))
      | none => False
    | _ => False) PX
  | _ => False) PX
theorem w_app {apos cpos : Pos} {es : List Expr} {g : SemA} (ho : JE X T W o fo) (ha : JA X T W (e :: es) g)
    (hbase : attributeBase o "append" X.env (eval o X.env) = eval o X.env := by rfl)
    (hfew : ((backTo cpos (starEach (e :: es) X.env)).all (fun x => !x.1) && (backToKw cpos (keywordEach [] X.env)).all (fun x => x.1.isSome)
      && decide ((e :: es).length + ([] : List Keyword).length + (if ([] : List Keyword).isEmpty then 0 else 1) < 30)) = true := by rfl)
    (hline : (apos.endLine == cpos.line) = true := by rfl) (hs : starEach (e :: es) X.env = (false, eval e X.env) :: starEach es X.env := by rfl) (hplain : (backTo cpos (starEach es X.env)).any (·.1) = false := by rfl) :
    JE X T W (.Call (.Attribute o "append" apos) (e :: es) [] cpos) (sApp fo g) :=
  PE.imp (pe_bm PySem.F.plainAttrs_list PySem.F.slot_list_append PySem.F.type_list_append mt_append ho ha hbase hfew hline hs hplain) fun σ H Q h => by
    obtain ⟨ρ, st, m, P, PX, rs, rel, hf, fin, finx⟩ := h
    refine ⟨ρ, st, m, _, PX, rs, rel, hf, fun v st1 hv x m1 H1 g1 rel1 rv1 => ?_, finx⟩
    dsimp only at hv
    split at hv
    · rename_i n
      cases rv1 with
      | @hd a _ hn =>
        obtain ⟨zs, hz0⟩ := rel1.at_ (List.mem_of_getElem? hn)
        refine ⟨.inl ⟨rfl, _, SqL.of hz0⟩, ρ, st1, m1, _, PX, rs.grow rel g1, rel1, hv, fun vs st2 hvs xs m2 H2 g2 rel2 rvs => ?_, finx.step g1⟩
        dsimp only at hvs
        split at hvs
        · split at hvs
          · rename_i l hl
            obtain ⟨hz, hvs⟩ := hvs
            obtain ⟨y, rfl, ry⟩ := rvs.one
            have hn2 := get_grow g2 hn
            obtain ⟨ys, hq, hys⟩ := rel2.ob _ _ _ hn2 hl
            have rel3 := rel2.upd hn2 (hys.append (.cons ry .nil))
            have g3 : Grow m2 H2 m2 (L2.upd H2 a (.lst (ys ++ [y]))) := Grow.upd hn2
            exact ⟨a, ys, y, rfl, rfl, hq, Nat.lt_of_lt_of_le (by rw [hys.length]; exact hz) (by decide), fin _ _ hvs _ m2 _ ((g1.trans g2).trans g3) rel3 .non⟩
          · exact hvs.elim
        · exact hvs.elim
    · exact hv.elim
end
end Sm
set_option Elab.async false
set_option linter.all false
set_option maxRecDepth 100000
set_option maxHeartbeats 1000000
namespace PySem
namespace SxO
open PySem.W PySem.Calls PyProof.Rows PySem.HandSPX
section
open Builtin Builtin.ObjectAttr
variable {prog : Program} {w : World} {A : Around} {R : Result → Shared → Prop} {hp : Heap} {g : Array GenState} {d : Drawn} {t : Nat} {os : OsState} {B : String} {bmB : List Value}
/-- a first field of an exception whose class stands over the built-in B -/
theorem osa_first {K : W.Frag} {name : Str} {tk : Tok} {v : Value} {x C : Addr} {fv : Array Value} {cd : ClassData} (SF : StoreFacts B bmB "object.__setattr__" "object")
    (X : K.In hp) (hx : hp.get? x = some { cls := .ref C, data := .fields fv }) (hcd : W.clsIn K C = some cd) (hm : excTail bmB cd.mro = true) (ne : cd.mro.isEmpty = false) (hh : cd.hasDict = true) (ha : W.findIn K (.ref C) name = some none)
    (hq : ∀ h' tk' dx, (∀ b o, b ≠ x → hp.get? b = some o → h'.get? b = some o) → hp.objs.size ≤ dx → dx ≠ x → h'.get? x = some { cls := .ref C, dict := some dx, data := .fields fv } →
      h'.Ns1 dx (fun y => if y = name then some v else none) → R (.ok (.ret .none)) ⟨h', g, d, tk', os⟩) :
    codeAny (model prog w) A (.call (.builtin "object.__setattr__") ⟨[.ref x, .str name tk, v], []⟩) R ⟨hp, g, d, t, os⟩ := by
  have inst : W.InstAt hp x { cls := .ref C, data := .fields fv } C none := ⟨hx, rfl, rfl, trivial⟩
  have obj : cd.mro.contains (.type "object") = true := (excTail_contains "object" _ hm).trans SF.hasOwner
  have apart : hp.objs.size ≠ x := Nat.ne_of_gt (Heap.lt_size hx)
  have isObj : W.Looks (model prog w) hp (isInstance (.ref x) (.type "object")) true :=
    inst.type.andThen (W.looks_mroIn X (by unfold W.mroIn; rw [hcd, Option.bind_some, if_neg (by rw [ne]; decide), obj]))
  refine codeAny_call_builtin SF.slot.plain SF.entry ?_
  refine @W.check_slot (model prog w) _ _ ⟨hp, g, d, t, os⟩ "object.__setattr__" "object" "__setattr__" (.ref x) [.str name tk, v] [] _ SF.kind SF.split isObj (SF.args (.ref x) (.str name tk) v) ?_
  have lm : W.Looks (model prog w) hp (mroOf (.ref C)) cd.mro := (W.looks_clsIn X hcd).andThen .now
  have lt : W.Looks (model prog w) hp (storeTaker? none) none := .now
  have lc : W.Looks (model prog w) hp (classData C) cd := W.looks_clsIn X hcd
  have la := W.looks_findIn (M := model prog w) X ha
  have lp := excTail_pass (.ref x) (SF.passes _) _ hm
  rw [W.osa_eq, refuse_eq]
  refine wpAny_bind (wpAny_bind (inst.type.at (wpAny_bind (lm.at ?_))))
  rw [lp]
  refine wpAny_pure (wpAny_bind (inst.type.at ?_))
  refine wpAny_bind (la.at (wpAny_bind (lt.at ?_)))
  show wpAny _ _ (storeInOwnDict (.ref x) (.ref C) (.str name tk) name v false) _ _ _
  cases cd with
  | mk nm bs mro ns qn hd sn sb ab col del =>
    have hh' : hd = true := hh
    subst hh'
    unfold storeInOwnDict ownDictForStores
    repeat (first | with_reducible refine store_in_new ?_ ?_ | with_reducible refine wpAny_loadPart_at hx ?_ | with_reducible refine lc.at ?_ | wp_step)
    · exact ⟨_, #[], _, (Heap.get?_update_ne _ _ _ _ apart).trans (Heap.get?_push_at rfl rfl), rfl, fun e he => absurd he (by simp), fun _ => rfl⟩
    · intro h' tk' hn' same
      have there : (hp.push { cls := .type "dict", data := .dict #[] }).get? x = some { cls := .ref C, data := .fields fv } := Heap.get?_push_of_some _ hx
      have atx := (same.2 x apart.symm).trans (Heap.get?_update_self _ there rfl)
      exact hq h' tk' hp.objs.size (fun b o hb ho => (same.2 b (Nat.ne_of_lt (Heap.lt_size ho))).trans ((Heap.get?_update_ne _ _ _ _ hb).trans (Heap.get?_push_of_some _ ho))) (Nat.le_refl _) apart atx hn'
end
/-! ### an own error with one field, over any built-in -/
def xArgs (f : String) (p1 p2 : Pos) : Arguments := { posonlyargs := [], args := [{ arg := "self", annotation := none, pos := p1 }, { arg := f, annotation := none, pos := p2 }], vararg := none, kwonlyargs := [], kw_defaults := [], kwarg := none, defaults := [] }
def xBody (f : String) (q1 q2 q3 q4 : Pos) : List Stmt := [.Assign [.Attribute (.Name "self" q1) f q2] (.Name f q3) q4]
def xScope (f : String) : Scope := { kind := .function, names := [(PySem.Str.ofString "self", .local), (PySem.Str.ofString f, .local)], isGenerator := false, isCoroutine := false, more := [] }
structure ExT (K : Frag) (B newId initId : String) (bmB : List Value) (C fI : Addr) (f qi : String) : Prop where
  FB : ExcBaseFacts B newId initId bmB
  SF : StoreFacts B bmB "object.__setattr__" "object"
  cls : ∃ nm q N bs bm sn sub ab col dd k0 k1 k2 k3 k5, K.lookup C = some (excClassObj nm q C N bs bm true sn sub ab col dd k0 k1 k2 k3 k5 newId) ∧ excTail bmB bm = true
  sa : findIn K (.ref C) "__setattr__" = some (some (.builtin "object.__setattr__"))
  ga : findIn K (.ref C) "__getattribute__" = some (some (.builtin "BaseException.__getattribute__"))
  gg : findIn K (.ref C) "__getattr__" = some none
  noN : findIn K (.ref C) (f : Str) = some none
  iC : findIn K (.ref C) "__init__" = some (some (.ref fI))
  tI : typeIn K (.ref fI) = some (.type "function")
  kC : keepIn K (.ref C) = true
  exC : subIn K (.ref C) (.type "BaseException") = some true
  tyC : typeIn K (.ref C) = some (.type "type")
  hdC : hasDictIn K C = true
  fn : ∃ (oc : Value) (od : Option Addr) (doc pm : Value) (an : Option Addr) (cdv ct : Value) (osl : Array (Option Value)) (p1 p2 q1 q2 q3 q4 : Pos),
    K.lookup fI = some ⟨oc, od, .func (fnOf "__init__" qi (xArgs f p1 p2) (xBody f q1 q2 q3 q4) (xScope f) .none .none doc pm an cdv ct), osl⟩ ∧ codeIn K cdv qi = true
theorem ld_own {M : Model} {s : Shared} {name : Str} {scope : Scope} {L a : Addr} {cd : Value} {m : Str → Option Value} {x : Str} {pos : Pos} {v : Value} {Q : Value → Shared → Prop} {A : Around} {E : Value → Shared → Prop}
    (hn : s.heap.Ns L m) (hv : m x = some v) (h : Q v s) (hk : scope.kind = .function) (hl : (envOfC name scope L a cd).kindOf x = some .local) (hd : (x == ("__debug__" : Str)) = false) :
    wpAny M A (eval (.Name x pos) (envOfC name scope L a cd)) Q E s := wpAny_Name (wpAny_loadName_local hk hl hn hv h) hd
/-- what __init__ leaves of the fresh exception at x -/
structure Laid (h h' : Heap) (x C dx t1 : Addr) (f : Str) (v : Value) : Prop where
  keep : ∀ b o, b ≠ x → h.get? b = some o → h'.get? b = some o
  obj : h'.get? x = some { cls := .ref C, dict := some dx, data := .fields #[.ref t1, .none, .none, .none, .bool false, .none] }
  dbig : h.objs.size ≤ dx
  dne : dx ≠ x
  ns : h'.Ns1 dx (fun y => if y = f then some v else none)
structure Made (h h' : Heap) (e C d : Addr) (f : Str) (v : Value) : Prop where
  keep : ∀ b o, h.get? b = some o → h'.get? b = some o
  new : h.objs.size ≤ e
  obj : ∃ oe vs, h'.get? e = some oe ∧ oe.cls = .ref C ∧ oe.dict = some d ∧ oe.data = .fields vs ∧ vs[1]? = some .none
  dbig : h.objs.size ≤ d
  dne : d ≠ e
  ns : h'.Ns1 d (fun y => if y = f then some v else none)
/-- what __init__ binds -/
def xBinds (f : String) (x v : Value) : List (Str × Value) := [(("self" : Str), x), ((f : Str), v)]
/-- what must be true of the field's name: it is no other name of __init__ -/
structure FldOk (f : String) : Prop where
  loc : ∀ (q : Str) (L a : Addr) (cd : Value), (envOfC q (xScope f) L a cd).kindOf (f : Str) = some .local
  slf : ∀ (q : Str) (L a : Addr) (cd : Value), (envOfC q (xScope f) L a cd).kindOf ("self" : Str) = some .local
  dbg : ((f : Str) == ("__debug__" : Str)) = false
  bind : ∀ (qi : Str) (p1 p2 q1 q2 q3 q4 : Pos) (doc pm cdv ct x v : Value) (an : Option Addr), bindArgs (fnOf "__init__" qi (xArgs f p1 p2) (xBody f q1 q2 q3 q4) (xScope f) .none .none doc pm an cdv ct) ⟨[x, v], []⟩ = pure (xBinds f x v)
  m1 : ∀ (q : Str) (L a : Addr) (cd x v : Value), bindL (envOfC q (xScope f) L a cd).kindOf (xBinds f x v) (fun _ => none) (f : Str) = some v
  m2 : ∀ (q : Str) (L a : Addr) (cd x v : Value), bindL (envOfC q (xScope f) L a cd).kindOf (xBinds f x v) (fun _ => none) ("self" : Str) = some x
  kinds : ∀ x v : Value, ((xBinds f x v).all fun y => (xScope f).names.lookup y.1 == some .local || (xScope f).names.lookup y.1 == some .cell) = true
section
variable {prog : Program} {w : World} {A : Around} {E : Value → Shared → Prop} {R : Result → Shared → Prop} {s : Shared} {K : Frag} {B newId initId : String} {bmB : List Value} {C fI : Addr} {f qi : String}
theorem init_runs (T : ExT K B newId initId bmB C fI f qi) (FO : FldOk f) {x t0 : Addr} {v : Value} (X : K.In s.heap) (hlim : s.heap.NoLimit) (hx : s.heap.get? x = some (excO C t0)) (hroom : A.depth < recursionLimit)
    (hq : ∀ h' tk dx, Laid s.heap h' x C dx t0 f v → R (.ok (.ret .none)) { s with heap := h', toks := tk }) : codeAny (model prog w) A (.call (.ref fI) ⟨[.ref x, v], []⟩) R s := by
  obtain ⟨oc, od, doc, pm, an, cdv, ct, osl, p1, p2, q1, q2, q3, q4, ho, hcd⟩ := T.fn
  obtain ⟨nm, q, N, bs, bm, sn, sub, ab, col, dd, k0, k1, k2, k3, k5, hC, hbm⟩ := T.cls
  have hcl : clsIn K C = some { name := nm, bases := bs, mro := .ref C :: bm, ns := N, qualname := q, hasDict := true, slotNames := sn, subclasses := sub, abstract := ab, collection := col, hasDel := false } := by
    unfold clsIn
    rw [hC] <;> rfl
  refine Att.call_fn (binds := xBinds f (.ref x) v) X hlim ho hcd hroom (BindsTo.of_eq (FO.bind _ _ _ _ _ _ _ _ _ _ _ _ _ _)) (FO.kinds _ _) (fun s₁ IC => ?_) rfl rfl rfl
  obtain ⟨h₁, tk₁, rfl⟩ := IC.toInCall.same
  have k : ∀ b o, s.heap.get? b = some o → h₁.get? b = some o := IC.toInCall.keep
  have hn := IC.toInCall.ns
  have X₁ : K.In h₁ := X.keeps k
  have hx₁ := k _ _ hx
  show wpAny _ _ (execs _ _) _ _ _
  refine wpAny_execs_cons (plainObj_wpAny_Assign_Attribute ?_)
  refine ld_own (v := v) hn (FO.m1 _ _ _ _ _ _) ?_ rfl (FO.loc _ _ _ _) FO.dbg
  refine ld_own (v := .ref x) hn (FO.m2 _ _ _ _ _ _) ?_ rfl (FO.slf _ _ _ _) (by decide)
  refine set_plain X₁ (ox := excO C t0) (od := none) ⟨hx₁, rfl, rfl, trivial⟩ T.sa ?_
  refine osa_first T.SF X₁ hx₁ hcl (show excTail bmB (.ref C :: bm) = true from hbm) rfl rfl T.noN (fun h₃ tk₃ dx k₃ dn dne hx₃ hn₃ => ?_)
  show wpAny _ _ (execs _ _) _ _ _
  have z : s.heap.objs.size < h₁.objs.size := hn.lt
  exact wpAny_execs_nil (hq h₃ tk₃ dx ⟨fun b o hb e => k₃ b o hb (k b o e), hx₃, Nat.le_of_lt (Nat.lt_of_lt_of_le z dn), dne, hn₃⟩)
theorem made (T : ExT K B newId initId bmB C fI f qi) (FO : FldOk f) {v : Value} (X : K.In s.heap) (hlim : s.heap.NoLimit) (hroom : A.depth + 1 < recursionLimit)
    (hq : ∀ h' tk e d, Made s.heap h' e C d f v → R (.ok (.ret (.ref e))) { s with heap := h', toks := tk }) : codeAny (model prog w) A (.call (.ref C) ⟨[v], []⟩) R s := by
  obtain ⟨nm, q, N, bs, bm, sn, sub, ab, col, dd, k0, k1, k2, k3, k5, hC, hbm⟩ := T.cls
  obtain ⟨hp, g, dr, tk, os⟩ := s
  have k : ∀ b o, hp.get? b = some o → ((hp.push (kdv_tup [v])).push (excO C hp.objs.size)).get? b = some o := fun b o e => Heap.get?_push_of_some _ (Heap.get?_push_of_some _ e)
  have hget : ((hp.push (kdv_tup [v])).push (excO C hp.objs.size)).get? (hp.objs.size + 1) = some (excO C hp.objs.size) := by heap_get
  have one : [v].length ≤ sizeLine := by
    rw [sizeLine_eq]
    exact (by decide : 1 ≤ 16777216)
  refine call_own T.FB (fun X => excTail_contains X bm hbm) (X _ _ hC) (looks_findIn X T.iC) (fun self => bind_fn X self T.tI) one ?_
  refine init_runs (s := ⟨(hp.push (kdv_tup [v])).push (excO C hp.objs.size), g, dr, tk, os⟩) T FO (X.keeps k) (hlim.keeps k) hget ?_ fun h' tk' dx ⟨k', hx, dn, dne, hns⟩ => ?_
  · show A.depth + 1 < recursionLimit
    exact hroom
  · have old : ∀ b o, hp.get? b = some o → h'.get? b = some o := fun b o e => k' b o (Nat.ne_of_lt (Nat.lt_succ_of_lt (Heap.lt_size e))) (k b o e)
    have z : hp.objs.size + 1 + 1 ≤ dx := by
      have q := dn
      rw [Heap.size_push, Heap.size_push] at q
      exact q
    exact ⟨rfl, hq h' tk' (hp.objs.size + 1) dx ⟨old, Nat.le_succ _, ⟨_, _, hx, rfl, rfl, rfl, rfl⟩, Nat.le_trans (Nat.le_trans (Nat.le_succ _) (Nat.le_succ _)) z, dne, hns⟩⟩
end
theorem fld_given : FldOk "given" := ⟨fun _ _ _ _ => rfl, fun _ _ _ _ => rfl, by decide +kernel, fun _ _ _ _ _ _ _ _ _ _ _ _ _ _ => rfl, fun _ _ _ _ _ _ => rfl, fun _ _ _ _ _ _ => rfl, fun _ _ => rfl⟩
theorem fld_reason : FldOk "reason" := ⟨fun _ _ _ _ => rfl, fun _ _ _ _ => rfl, by decide +kernel, fun _ _ _ _ _ _ _ _ _ _ _ _ _ _ => rfl, fun _ _ _ _ _ _ => rfl, fun _ _ _ _ _ _ => rfl, fun _ _ => rfl⟩
theorem fld_message : FldOk "message" := ⟨fun _ _ _ _ => rfl, fun _ _ _ _ => rfl, by decide +kernel, fun _ _ _ _ _ _ _ _ _ _ _ _ _ _ => rfl, fun _ _ _ _ _ _ => rfl, fun _ _ _ _ _ _ => rfl, fun _ _ => rfl⟩
theorem fld_spot : FldOk "spot" := ⟨fun _ _ _ _ => rfl, fun _ _ _ _ => rfl, by decide +kernel, fun _ _ _ _ _ _ _ _ _ _ _ _ _ _ => rfl, fun _ _ _ _ _ _ => rfl, fun _ _ _ _ _ _ => rfl, fun _ _ => rfl⟩
end SxO
end PySem
set_option Elab.async false
set_option linter.all false
set_option maxRecDepth 100000
set_option maxHeartbeats 1000000
namespace Sm
open PySem PySem.Spec PyProof.Rows L2

/-! ### raise C(e) -/
def tMkX (C : Addr) (f : Str) (ta : TA) : L2.St → Hp → XK → Prop := fun σ H Q => ta σ H fun vs H1 => ∃ v, vs = [v] ∧ ∀ d, H1 d = none → Q (.ref C) (some d) (upd H1 d (.xd [(f, v)]))
theorem relO_fld {f : Str} {v : V} {u : Value} (r : RelV v u) (g : Str) : RelO (List.lookup g [(f, v)]) (if g = f then some u else none) := by
  by_cases e : g = f
  · subst e
    rw [if_pos rfl]
    simp only [List.lookup, beq_self_eq_true]
    exact r
  · have e' : (g == f) = false := by simpa using e
    rw [if_neg e]
    simp only [List.lookup, e']
    trivial
section
variable {X : Cx} {T : List (Addr × Str)} {W : WX} {B newId initId : String} {bmB : List Value} {C fI : Addr} {f qi : String} {a : Expr} {g : SemA} {x : Str} {p pos pos2 : Pos} {k : Nat}
theorem pmk_x {ta : TA} (ET : SxO.ExT X.K B newId initId bmB C fI f qi) (FO : SxO.FldOk f) (hr : Room k X.A) (hm : X.mg x = some (.ref C)) (ha : PA X [a] ta) (hg : Gl X x) (hdb : (x == ("__debug__" : Str)) = false := by decide)
    (he : starEach (a :: []) X.env = (false, eval a X.env) :: starEach [] X.env := by rfl) (hpl : (backTo pos (starEach [] X.env)).any (·.1) = false := by rfl) : PMk X (.Call (.Name x p) [a] [] pos) (tMkX C f ta) := by
  intro pins s σ H Q I h
  refine wpAny_Call_Name_kw (ld_glob I hg hm ?_ hdb)
  refine PySem.W.callWith_K (h₀ := X.base) I.ok.mod.kin ET.kC (thn (ha.run pos pins s σ H _ I h) fun us s1 hh => ?_) he hpl
  obtain ⟨vs, H1, I1, r1, v, rfl, q1⟩ := hh
  refine ⟨I1.kIn, ?_⟩
  obtain ⟨v', rfl, rv⟩ := Vals.one r1
  show wpAny _ _ (call (.ref C) [v']) _ _ _
  have lim := I1.nolimit
  have dep := hr.dp
  cases s1 with
  | mk hp gs dr tk os =>
    refine wpAny_call (SxO.made ET FO I1.kIn lim (by omega) fun h' tk' e d M => ?_)
    show MkP X pins σ Q (.ref e) ⟨h', gs, dr, tk', os⟩
    obtain ⟨oe, fv, hoe, hc, hd, hdat, h1⟩ := M.obj
    obtain ⟨G, gk, gn⟩ := restrict h' fun b => decide (b ≠ e)
    have same : ∀ b, b ≠ e → G.get? b = h'.get? b := fun b hb => gk b (decide_eq_true hb)
    have gone : G.get? e = none := gn e (by simp)
    have older : ∀ b o, hp.get? b = some o → G.get? b = some o := fun b o q => (same b (Nat.ne_of_lt (Nat.lt_of_lt_of_le (Heap.lt_size q) M.new))).trans (M.keep b o q)
    have told : ObjOk X.prog X.w (upd H1 d (.xd [((f : Str), v)])) G d (.xd [((f : Str), v)]) := ⟨_, M.ns.at (fun o q => (same d M.dne).trans q), fun n => relO_fld rv n⟩
    have J : Inv X pins σ (upd H1 d (.xd [((f : Str), v)])) ⟨G, gs, dr, tk', os⟩ := I1.laid (t' := tk') older M.dbig told
    have none_e : (upd H1 d (.xd [((f : Str), v)])) e = none := by
      rw [upd_ne (Ne.symm M.dne)]
      exact I1.hok.fresh M.new
    have sub : ∀ b o, G.get? b = some o → h'.get? b = some o := fun b o q => by
      by_cases hb : b = e
      · rw [hb, gone] at q
        cases q
      · exact (same b hb).symm.trans q
    exact ⟨e, oe, fv, ⟨G, gs, dr, tk', os⟩, _, .ref C, some d, rfl, J, sub, gone, hoe, ⟨hc, hd⟩, hdat, h1, none_e, rfl, I1.bare, raises_own ET.exC ET.tyC, q1 d (I1.hok.fresh M.dbig)⟩
def sRaise (C : Addr) (f : Str) (g : SemA) : SemS := fun D ρ st => g ρ st (fun vs st1 => match vs with
  | [v] => D.ex ⟨C, f, v⟩ ρ st1
  | _ => False) (fun e st1 => D.ex e ρ st1)
theorem s_raise (hc : X.calm = true) (tk : Takes X W) (ET : SxO.ExT X.K B newId initId bmB C fI f qi) (FO : SxO.FldOk f) (hr : Room k X.A) (hm : X.mg x = some (.ref C)) (ha : JA X T W [a] g) (hg : Gl X x) (hdb : (x == ("__debug__" : Str)) = false := by decide)
    (he : starEach (a :: []) X.env = (false, eval a X.env) :: starEach [] X.env := by rfl) (hpl : (backTo pos (starEach [] X.env)).any (·.1) = false := by rfl) :
    JS X T W (.Raise (some (.Call (.Name x p) [a] [] pos)) none pos2) (sRaise C f g) := PS.imp (ps_raise hc tk (pmk_x ET FO hr hm ha hg hdb he hpl)) fun D σ H h => by
  obtain ⟨ρ, st, m, D', rs, rel, hf, fin⟩ := h
  refine ⟨ρ, st, m, _, _, rs, rel, hf, fun vs st1 hv xs m1 H1 g1 rel1 rv => ?_, fin.finx rel rs⟩
  dsimp only at hv
  split at hv
  · obtain ⟨y, rfl, ry⟩ := rv.one
    refine ⟨y, rfl, fun d hd => ?_⟩
    have g2 : Grow m1 H1 m1 (upd H1 d (.xd [((f : Str), y)])) := Grow.new hd
    exact fin.ex _ ρ st1 hv _ _ σ m1 _ (g1.trans g2) (rel1.new hd) ((rs.grow rel g1).grow rel1 g2) ⟨rfl, d, y, rfl, upd_same, ry.grow rel1 g2⟩
  · exact hv.elim
end

/-! ### try with any clauses -/
def clrE (i : Nat) (D : Ends) : Ends := { nx := fun σ H => D.nx (σ.set i none) H, rt := D.rt, bk := fun σ H => D.bk (σ.set i none) H, ct := fun σ H => D.ct (σ.set i none) H }
abbrev HdL := Value × Option Nat × (Addr → Value → Option Addr → TS)
def wGen (K : PySem.W.Frag) (Wout : WX) (D : Ends) : List HdL → WX
  | [] => Wout
  | (c, o, ts) :: r => fun cls d σ H => ∃ b, PySem.W.exmOne K cls c = some b ∧ (b = true → ∀ a, H a = none → match o with
      | none => ts a cls d D σ H
      | some i => ts a cls d (clrE i D) (σ.set i (some (.ref a))) H) ∧ (b = false → wGen K Wout D r cls d σ H)
inductive HdG (X : Cx) : List ExceptHandler → List HdL → Prop
  | nil : HdG X [] []
  | cons {x : Str} {c : Value} {ts : Addr → Value → Option Addr → TS} {b₀ : Stmt} {suite : List Stmt} {np p' : Pos} {hds : List ExceptHandler} {l : List HdL} (hc : Names X x c)
      (hsu : ∀ (a : Addr) (oe : Obj) (cls : Value) (d : Option Addr) (pn : List (Addr × Obj)), Zc cls d oe → (∃ vs, oe.data = .fields vs) → PSs (X.suite a ((a, oe) :: pn)) (b₀ :: suite) (ts a cls d)) (r : HdG X hds l) :
      HdG X (.ExceptHandler (some (.Name x np)) none (b₀ :: suite) p' :: hds) ((c, none, ts) :: l)
  | named {x n : Str} {i : Nat} {c : Value} {ts : Addr → Value → Option Addr → TS} {b₀ : Stmt} {suite : List Stmt} {np p' : Pos} {hds : List ExceptHandler} {l : List HdL} (hc : Names X x c) (hN : X.N.Nodup) (hi : X.N[i]? = some n) (hln : X.env.kindOf n = some .local)
      (hsu : ∀ (a : Addr) (oe : Obj) (cls : Value) (d : Option Addr) (pn : List (Addr × Obj)), Zc cls d oe → (∃ vs, oe.data = .fields vs) → PSs (X.suite a ((a, oe) :: pn)) (b₀ :: suite) (ts a cls d)) (r : HdG X hds l) :
      HdG X (.ExceptHandler (some (.Name x np)) (some n) (b₀ :: suite) p' :: hds) ((c, some i, ts) :: l)
section
variable {X : Cx} {body : List Stmt} {h₀ : ExceptHandler} {hds : List ExceptHandler} {l : List HdL} {pos : Pos} {tb : WX → TS} {Wout : WX}
theorem ps_tryG (hs : X.stack = X.env :: X.outer) (hf : X.env.frame = some X.env.locals) (tk : Takes X Wout)
    (hb : ∀ (W : WX) (pn : List (Addr × Obj)) (xe : Value → Shared → Prop), Takes (X.tr pn xe) W → PassesOwn (model X.prog X.w) X.A X.env xe → PSs (X.tr pn xe) body (tb W)) (hh : HdG X (h₀ :: hds) l) :
    L2.PS X (.Try body (h₀ :: hds) [] [] pos) (fun D σ H => tb (wGen X.K Wout D l) D σ H) := by
  refine ⟨fun pins s σ H D I h => ?_⟩
  have ok := I.ok
  have frm : X.A.frames = some (X.env :: X.outer) := by rw [ok.frames, hs]
  let caught : Value → Shared → Prop := fun e s₁ => wpAny (model X.prog X.w) X.A (noteFrame e X.env) (fun _ s₂ =>
    wpAny (model X.prog X.w) X.A (setFlight e none) (fun _ s₃ => wpAny (model X.prog X.w) X.A (handleBy e X.env (h₀ :: hds)) (SP X pins D) X.xe s₃) X.xe s₂) X.xe s₁
  have runs := hb (wGen X.K Wout D l) (X.pn ++ pins) caught
  refine wpAny_Try_except (wpAny_mono ((runs (fun u s' xx => ?_) PassesOwn.looking).run [] s σ H D (I.toTry _) h) (fun f s1 hsp => ?_) fun _ _ he => he)
  · obtain ⟨a, Bh, sI, pins', σ', H', cls, d, rfl, J', nb, up, sky, na, os, ag, w⟩ := xx
    have J : Inv X pins σ' H' sI := J'.ofTry ok
    rw [hs] at sky
    show wpAny (model X.prog X.w) X.A (noteFrame (.ref a) X.env) _ _ _
    refine Sky.land Zc.steady frm hf sky fun h3 fl3 up3 => ?_
    have up13 := up.trans up3
    have J3 : Inv X pins σ' H' { s' with heap := h3 } := J.landed nb fl3.1 up13 os ag
    obtain ⟨oe3, vs3, he3, hz3, hd3⟩ := fl3.there
    have noFrame : a ∉ frs (X.env :: X.outer) := fun hm => by
      obtain ⟨_, o', e', hnf⟩ := fl3.2.2.1.mem hm
      rw [he3] at e'
      cases e'
      exact hnf _ hd3
    have nL : a ≠ X.env.locals := fun z => noFrame (List.mem_filterMap.mpr ⟨X.env, List.mem_cons_self, by rw [hf, z]⟩)
    have nF : a ∉ X.fs := fun hm => by
      obtain ⟨e, he, q⟩ := List.mem_filterMap.mp hm
      exact noFrame (List.mem_filterMap.mpr ⟨e, List.mem_cons_of_mem _ he, q⟩)
    have inSuite : ∀ {oe : Obj} {vs : Array Value} {h4 : Heap}, h4.get? a = some oe → oe.data = .fields vs → Inv X pins σ' H' { s' with heap := h4 } → Inv (X.suite a ((a, oe) :: (X.pn ++ pins))) [] σ' H' { s' with heap := h4 } := fun e dd Jx => Jx.suite e dd na nL nF
    have S3 := inSuite he3 hd3 J3
    have typ : PySem.W.Looks (model X.prog X.w) h3 (typeOf (.ref a)) cls := fun A Q E s k q => wpAny_typeOf_ref (k _ _ he3) (by rw [hz3.1]; exact q)
    have named : ∀ {x : Str} {c : Value} {np : Pos} {Q : Value → Shared → Prop} {E : Value → Shared → Prop}, Names X x c → Q c { s' with heap := h3 } → wpAny (model X.prog X.w) (X.A.mark (some (.ref a))) (eval (.Name x np) X.env) Q E { s' with heap := h3 } := fun hc q => by
      obtain ⟨hg, hdbg, hm | ⟨hm, hv, hnn⟩⟩ := hc
      · exact ld_glob (X := X.suite a ((a, oe3) :: (X.pn ++ pins))) S3 hg hm q hdbg
      · exact ld_blt (X := X.suite a ((a, oe3) :: (X.pn ++ pins))) S3 hg hm hv q hnn hdbg
    have go : ∀ {hs' : List ExceptHandler} {l' : List HdL}, HdG X hs' l' → wGen X.K Wout D l' cls d σ' H' → wpAny (model X.prog X.w) X.A (handleBy (.ref a) X.env hs') (SP X pins D) X.xe { s' with heap := h3 } := by
      intro hs' l' hk
      induction hk with
      | nil =>
        intro w
        refine wpAny_handleBy_nil ?_
        obtain ⟨k1, k2, k3, oe, vs, T, oT, ts', he, hz, hd, h1, hr⟩ := id fl3
        unfold PySem.passOn
        refine wpAny_bind (wpAny_field he hd h1 ?_)
        rw [if_neg (show ¬ ((Value.ref T == Value.none) = true) from by simp)]
        have out : wpAny (model X.prog X.w) X.A (setFlight (.ref a) X.env.frame) (fun _ s4 => wpAny (model X.prog X.w) X.A (throw (.ref a) : PySem.Sem Flow) (SP X pins D) X.xe s4) X.xe { s' with heap := h3 } := by
          rw [hf]
          refine HandSPX.setFlight_upZ fl3 fun h4 hh4 up4 => wpAny_throw (tk _ _ ⟨a, Bh, sI, pins, σ', H', cls, d, rfl, J, nb, up13.trans up4, .inr (.inr (by rw [hs]; exact hh4)), na, os, ag, w⟩)
        first
          | exact wpAny_bind (wpAny_pure (wpAny_bind out))
          | exact wpAny_bind out
      | @cons x c ts b₀ suite np p' hds2 l2 hc hsu r ih =>
        intro w
        obtain ⟨b, hb1, hyes, hno⟩ := w
        refine wpAny_handleBy_cons (codeAny_handlers_test (named hc ((PySem.W.exm_one J3.kIn typ hb1).here ?_))) (by intro q; cases q)
        cases b with
        | true =>
          refine codeAny_handlers_suite (HandSPX.lands_againZ fl3 fun h4 fl4 up4 => ?_)
          obtain ⟨oe4, vs4, he4, hz4, hd4⟩ := fl4.there
          have S4 := inSuite he4 hd4 (J.landed nb fl4.1 (up13.trans up4) os ag)
          refine wpAny_mono ((hsu a oe4 cls d (X.pn ++ pins) hz4 ⟨_, hd4⟩).run [] _ _ H' _ S4 (hyes rfl a na)) (fun f s6 hsp => ?_) (fun _ _ z => z.elim)
          cases f with
          | ret u =>
            obtain ⟨v6, σ6, H6, S6, r6, q6⟩ := hsp
            exact ⟨_, _, _, S6.unsuite ok, r6, q6⟩
          | next =>
            obtain ⟨σ6, H6, S6, q6⟩ := hsp
            exact ⟨_, _, S6.unsuite ok, q6⟩
          | brk =>
            obtain ⟨σ6, H6, S6, q6⟩ := hsp
            exact ⟨_, _, S6.unsuite ok, q6⟩
          | cont =>
            obtain ⟨σ6, H6, S6, q6⟩ := hsp
            exact ⟨_, _, S6.unsuite ok, q6⟩
        | false =>
          show wpAny _ X.A (handleBy (.ref a) X.env hds2) _ _ _
          exact ih (hno rfl)
      | @named x n i c ts b₀ suite np p' hds2 l2 hc hN hi hln hsu r ih =>
        intro w
        obtain ⟨b, hb1, hyes, hno⟩ := w
        refine wpAny_handleBy_cons (codeAny_handlers_test (named hc ((PySem.W.exm_one J3.kIn typ hb1).here ?_))) (by intro q; cases q)
        cases b with
        | true =>
          refine codeAny_handlers_suite_as (HandSPX.lands_againZ fl3 fun h4 fl4 up4 => ?_)
          obtain ⟨oe4, vs4, he4, hz4, hd4⟩ := fl4.there
          have S4 := inSuite he4 hd4 (J.landed nb fl4.1 (up13.trans up4) os ag)
          refine store_ok (X := X.suite a ((a, oe4) :: (X.pn ++ pins))) (v := .ref a) S4 hN hi (.inl hln) rfl (fun s5 S5 => ?_) (.inr hln)
          refine wpAny_mono ((hsu a oe4 cls d (X.pn ++ pins) hz4 ⟨_, hd4⟩).run [] s5 _ H' _ S5 (hyes rfl a na)) (fun f s6 hsp => ?_) (fun _ _ z => z.elim)
          have leave : ∀ {σ6 : L2.St} {H6 : Hp} {Q : Shared → Prop}, Inv (X.suite a ((a, oe4) :: (X.pn ++ pins))) [] σ6 H6 s6 → (∀ s7, Inv X pins (σ6.set i none) H6 s7 → Q s7) →
              wpAny (model X.prog X.w) X.A (do bindName X.env n .none; unbindBehindTheSuite X.env n p') (fun _ s7 => Q s7) X.xe s6 := fun S6 hq => gone_ok (S6.unsuite ok) hN hi hln hq
          cases f with
          | ret u =>
            obtain ⟨v6, σ6, H6, S6, r6, q6⟩ := hsp
            exact leave S6 fun s7 J7 => ⟨_, _, _, J7, r6, q6⟩
          | next =>
            obtain ⟨σ6, H6, S6, q6⟩ := hsp
            exact leave S6 fun s7 J7 => ⟨_, _, J7, q6⟩
          | brk =>
            obtain ⟨σ6, H6, S6, q6⟩ := hsp
            exact leave S6 fun s7 J7 => ⟨_, _, J7, q6⟩
          | cont =>
            obtain ⟨σ6, H6, S6, q6⟩ := hsp
            exact leave S6 fun s7 J7 => ⟨_, _, J7, q6⟩
        | false =>
          show wpAny _ X.A (handleBy (.ref a) X.env hds2) _ _ _
          exact ih (hno rfl)
    exact go hh w
  · cases f with
    | ret u =>
      obtain ⟨v, σ', H', J', r, q⟩ := hsp
      exact ⟨v, σ', H', J'.ofTry ok, r, q⟩
    | next =>
      obtain ⟨σ', H', J', q⟩ := hsp
      exact wpAny_execs_nil ⟨σ', H', J'.ofTry ok, q⟩
    | brk =>
      obtain ⟨σ', H', J', q⟩ := hsp
      exact ⟨σ', H', J'.ofTry ok, q⟩
    | cont =>
      obtain ⟨σ', H', J', q⟩ := hsp
      exact ⟨σ', H', J'.ofTry ok, q⟩
end
end Sm
set_option Elab.async false
set_option linter.all false
set_option maxRecDepth 100000
set_option maxHeartbeats 1000000
namespace Sm
open PySem PySem.Spec PyProof.Rows L2

/-! ### try -/
abbrev SHd := Value × Option Nat × (Addr → Value → Option Addr → SemS)
def noEx (D : EndP) : EndP := { D with ex := fun _ _ _ => False }
def clrP (i : Nat) (D : EndP) : EndP := { nx := fun ρ st => D.nx (ρ.set i none) st, rt := D.rt, bk := fun ρ st => D.bk (ρ.set i none) st, ct := fun ρ st => D.ct (ρ.set i none) st, ex := fun _ _ _ => False }
def hnd (K : PySem.W.Frag) (D : EndP) : List SHd → Exn → Env → Store → Prop
  | [], e, ρ, st => D.ex e ρ st
  | (c, o, f) :: r, e, ρ, st => ∃ b, PySem.W.exmOne K (.ref e.cls) c = some b ∧ (b = true → ∀ a d, match o with
      | none => f a (.ref e.cls) (some d) (noEx D) ρ st
      | some i => f a (.ref e.cls) (some d) (clrP i D) (ρ.set i (some (.exc a d e.fld e.val))) st) ∧ (b = false → hnd K D r e ρ st)
def sTry (K : PySem.W.Frag) (t : SemS) (l : List SHd) : SemS := fun D ρ st => t { D with ex := hnd K D l } ρ st
abbrev W0 : WX := fun _ _ _ _ => False
inductive JHd (X : Cx) (T : List (Addr × Str)) : List ExceptHandler → List SHd → Prop
  | nil : JHd X T [] []
  | cons {x : Str} {c : Value} {f : Addr → Value → Option Addr → SemS} {b₀ : Stmt} {suite : List Stmt} {np p' : Pos} {hds : List ExceptHandler} {l : List SHd} (hc : Names X x c)
      (hsu : ∀ (a : Addr) (oe : Obj) (cls : Value) (d : Option Addr) (pn : List (Addr × Obj)), Zc cls d oe → (∃ vs, oe.data = .fields vs) → JSs (X.suite a ((a, oe) :: pn)) T W0 (b₀ :: suite) (f a cls d)) (r : JHd X T hds l) :
      JHd X T (.ExceptHandler (some (.Name x np)) none (b₀ :: suite) p' :: hds) ((c, none, f) :: l)
  | named {x n : Str} {i : Nat} {c : Value} {f : Addr → Value → Option Addr → SemS} {b₀ : Stmt} {suite : List Stmt} {np p' : Pos} {hds : List ExceptHandler} {l : List SHd} (hc : Names X x c) (hN : X.N.Nodup) (hi : X.N[i]? = some n) (hln : X.env.kindOf n = some .local)
      (hsu : ∀ (a : Addr) (oe : Obj) (cls : Value) (d : Option Addr) (pn : List (Addr × Obj)), Zc cls d oe → (∃ vs, oe.data = .fields vs) → JSs (X.suite a ((a, oe) :: pn)) T W0 (b₀ :: suite) (f a cls d)) (r : JHd X T hds l) :
      JHd X T (.ExceptHandler (some (.Name x np)) (some n) (b₀ :: suite) p' :: hds) ((c, some i, f) :: l)
def hdT (K : PySem.W.Frag) (T : List (Addr × Str)) : List SHd → List HdL
  | [] => []
  | (c, o, f) :: r => (c, o, fun a cls d => tS K T W0 (f a cls d)) :: hdT K T r
theorem JHd.hd {X : Cx} {T : List (Addr × Str)} {hds : List ExceptHandler} {l : List SHd} (h : JHd X T hds l) : HdG X hds (hdT X.K T l) := by
  induction h with
  | nil => exact .nil
  | @cons x c f b₀ suite np p' hds l hc hsu r ih => exact HdG.cons (ts := fun a cls d => tS X.K T W0 (f a cls d)) hc hsu ih
  | @named x n i c f b₀ suite np p' hds l hc hN hi hln hsu r ih => exact HdG.named (ts := fun a cls d => tS X.K T W0 (f a cls d)) hc hN hi hln hsu ih
section
variable {X : Cx} {T : List (Addr × Str)} {body : List Stmt} {h₀ : ExceptHandler} {hds : List ExceptHandler} {l : List SHd} {pos : Pos} {t : SemS} {W : WX}
theorem hnd_ok {K : PySem.W.Frag} {D : EndP} {D' : Ends} {m : List Addr} {H : Hp} (fin : FinS K T W m H D D') : ∀ (l : List SHd) (e : Exn) (ρ : Env) (st : Store), hnd K D l e ρ st → ∀ cls d σ m' H', Grow m H m' H' → Rel K T m' st H' → RS K m' H' σ ρ → ExR K m' H' cls d e →
    wGen K W D' (hdT K T l) cls d σ H'
  | [], e, ρ, st, h, cls, d, σ, m', H', g, r, rs, ex => fin.ex e ρ st h cls d σ m' H' g r rs ex
  | (c, o, f) :: r, e, ρ, st, h, cls, d, σ, m', H', g, rl, rs, ex => by
    obtain ⟨b, h1, h2, h3⟩ := h
    obtain ⟨rfl, dd, x, rfl, hd, rv⟩ := id ex
    refine ⟨b, h1, fun hb a ha => ?_, fun hb => hnd_ok fin r e ρ st (h3 hb) _ _ σ m' H' g rl rs ex⟩
    have f2 := fin.step g
    have hq := h2 hb a dd
    cases o with
    | none => exact ⟨ρ, st, m', _, rs, rl, hq, ⟨f2.nx, f2.rt, f2.bk, f2.ct, fun _ _ _ p => p.elim⟩⟩
    | some i =>
      refine ⟨_, st, m', _, rs.set i (.exc hd rv), rl, hq, ⟨?_, f2.rt, ?_, ?_, fun _ _ _ p => p.elim⟩⟩
      · exact fun ρ1 st1 p σ1 m1 H1 g1 r1 s1 => f2.nx _ st1 p _ m1 H1 g1 r1 (s1.clear i none)
      · exact fun ρ1 st1 p σ1 m1 H1 g1 r1 s1 => f2.bk _ st1 p _ m1 H1 g1 r1 (s1.clear i none)
      · exact fun ρ1 st1 p σ1 m1 H1 g1 r1 s1 => f2.ct _ st1 p _ m1 H1 g1 r1 (s1.clear i none)
theorem s_try (hs : X.stack = X.env :: X.outer) (hf : X.env.frame = some X.env.locals) (tk : Takes X W)
    (hb : ∀ (W' : WX) (pn : List (Addr × Obj)) (xe : Value → Shared → Prop), Takes (X.tr pn xe) W' → PassesOwn (model X.prog X.w) X.A X.env xe → JSs (X.tr pn xe) T W' body t) (hh : JHd X T (h₀ :: hds) l) :
    JS X T W (.Try body (h₀ :: hds) [] [] pos) (sTry X.K t l) := PS.imp (ps_tryG (tb := fun W' => tS X.K T W' t) hs hf tk hb hh.hd) fun D σ H h => by
  obtain ⟨ρ, st, m, D', rs, rel, hq, fin⟩ := h
  exact ⟨ρ, st, m, _, rs, rel, hq, ⟨fin.nx, fin.rt, fin.bk, fin.ct, fun e ρ1 st1 p cls d σ1 m1 H1 g1 r1 s1 ex => hnd_ok fin l e ρ1 st1 p cls d σ1 m1 H1 g1 r1 s1 ex⟩⟩
end
/-- e.f of the caught exception -/
def sXf (a : Addr) (cls : Value) (d : Option Addr) (C : Addr) (n : Str) (f : Sem) : Sem := fun ρ st P PX => f ρ st (fun x st1 => match x with
  | .exc a' d' n' v => a' = a ∧ d = some d' ∧ n' = n ∧ cls = .ref C ∧ P v st1
  | _ => False) PX
theorem w_xf {X : Cx} {T : List (Addr × Str)} {a C : Addr} {oe : Obj} {cls : Value} {d : Option Addr} {pn : List (Addr × Obj)} {e : Expr} {f : Sem} {pos : Pos} {n : Str} (XT : XfC X.K C) (hno : PySem.W.findIn X.K (.ref C) n = some none)
    (hz : Zc cls d oe) (hf : ∃ vs, oe.data = .fields vs) (he : JE (X.suite a ((a, oe) :: pn)) T W0 e f) (hb : attributeBase e n X.env (eval e X.env) = eval e X.env := by rfl) :
    JE (X.suite a ((a, oe) :: pn)) T W0 (.Attribute e n pos) (sXf a cls d C n f) := PE.imp (pe_xf XT hno hz hf he hb) fun σ H Q h => by
  obtain ⟨ρ, st, m, P, PX, rs, rel, hq, fin, finx⟩ := h
  refine ⟨ρ, st, m, _, PX, rs, rel, hq, fun v st1 hv x m1 H1 g1 rel1 rv1 => ?_, finx⟩
  dsimp only at hv
  split at hv
  · obtain ⟨rfl, rfl, rfl, rfl, hv⟩ := hv
    cases rv1 with
    | @exc _ _ _ y _ h1 h2 => exact ⟨rfl, rfl, _, _, y, rfl, h1, by simp [List.lookup], fin _ st1 hv _ m1 H1 g1 rel1 h2⟩
  · exact hv.elim

/-! ### further expressions -/
def sBits (f : Sem) : Sem := fun ρ st P PX => f ρ st (fun x st1 => match x with
  | .int i => P (.int (Builtin.Int.intBits i : Nat)) st1
  | _ => False) PX
theorem w_bits {X : Cx} {T : List (Addr × Str)} {W : WX} {o : Expr} {f : Sem} {apos pos : Pos} (ho : JE X T W o f) (hbase : attributeBase o "bit_length" X.env (eval o X.env) = eval o X.env := by rfl) (hline : (apos.endLine == pos.line) = true := by rfl) :
    JE X T W (.Call (.Attribute o "bit_length" apos) [] [] pos) (sBits f) := PE.imp (pe_bits ho hbase hline) fun σ H Q h => by
  obtain ⟨ρ, st, m, P, PX, rs, rel, hq, fin, finx⟩ := h
  refine ⟨ρ, st, m, _, PX, rs, rel, hq, fun v st1 hv x m1 H1 g1 rel1 rv1 => ?_, finx⟩
  cases rv1 <;> first | exact hv.elim | skip
  exact ⟨_, rfl, fin _ st1 hv _ m1 H1 g1 rel1 (.int _)⟩
/-- in, not in of a list, a tuple: data of any depth -/
def datS (st : Store) (v : PV) : Option (List PyData) := match dat st v with
  | some (.list ds) => some ds
  | some (.tuple ds) => some ds
  | _ => none
/-- xs * n of a list -/
def oRep : SOp := fun x y st P => match x, y with
  | .lst l, .int k => 0 ≤ k ∧ l.length * k.toNat ≤ 1000 ∧ k ≤ 1000 ∧ P (.lst (List.replicate k.toNat l).flatten) st
  | _, _ => False
theorem RVs.rep {K : PySem.W.Frag} {m : List Addr} {H : Hp} {xs : List V} {vs : List PV} (r : RVs K m H xs vs) : ∀ k : Nat, RVs K m H (List.replicate k xs).flatten (List.replicate k vs).flatten
  | 0 => .nil
  | k + 1 => by
    rw [List.replicate_succ, List.replicate_succ, List.flatten_cons, List.flatten_cons]
    exact r.append (RVs.rep r k)
end Sm
set_option Elab.async false
set_option linter.all false
set_option maxRecDepth 100000
set_option maxHeartbeats 1000000
namespace Sm
open PySem PySem.Spec PyProof.Rows L2

/-! ### repr of data -/
def rRepr (K : PySem.W.Frag) : List V → Hp → VK → Prop := fun xs H Q => ∃ v d, xs = [v] ∧ Dp K H v d ∧ d.showable = true ∧ d.hasDict = false ∧ d.depth ≤ 10 ∧ d.shown.length ≤ sizeLine ∧ Q (.str d.shown) H
theorem call_reprD {X : Cx} (hg : X.A.guards = some []) (hu : X.A.units + 64 < cLine) : CallR X (.builtin "repr") (rRepr X.K) := by
  intro pins s σ H xs us Q I r h
  obtain ⟨v, d, rfl, hd, h1, h2, h3, h4, q⟩ := h
  obtain ⟨u, rfl, rv⟩ := Vals.one r
  obtain ⟨as, rd⟩ := Dp.reads I d v u hd rv
  cases hd with
  | non =>
    cases rv
    rw [PyData.shown_none] at q
    exact PySem.P.repr_of_none ⟨.str _, H, I.tok _, ⟨_, rfl⟩, q⟩
  | bl b =>
    cases rv
    rw [PyData.shown_bool] at q
    exact PySem.P.repr_of_bool ⟨.str _, H, I.tok _, ⟨_, rfl⟩, by cases b <;> exact q⟩
  | int i =>
    obtain ⟨t, rfl⟩ := rv
    rw [PyData.shown_int] at q
    refine PySem.P.repr_of_int ?_ ⟨.str _, H, I.tok _, ⟨_, rfl⟩, q⟩
    simpa [PyData.showable] using h1
  | str x =>
    obtain ⟨t, rfl⟩ := rv
    rw [PyData.shown_str] at q h4
    exact PySem.P.repr_of_str ⟨.str _, H, I.tok _, ⟨_, rfl⟩, q⟩ h4
  | lst hs ha =>
    cases rv
    exact PySem.repr_of_reads' rd h1 (fun z => by rw [h2] at z; cases z) hg (by omega) (fun _ _ e => e) (fun h' u tk k => ⟨.str _, H, I.kept (t' := tk) k, ⟨_, rfl⟩, q⟩) h4
  | tup hs ha =>
    cases rv
    exact PySem.repr_of_reads' rd h1 (fun z => by rw [h2] at z; cases z) hg (by omega) (fun _ _ e => e) (fun h' u tk k => ⟨.str _, H, I.kept (t' := tk) k, ⟨_, rfl⟩, q⟩) h4
def oRepr : SCall := fun vs st P => match vs with
  | [v] => match dat st v with
    | some d => d.showable = true ∧ d.hasDict = false ∧ d.depth ≤ 10 ∧ d.shown.length ≤ sizeLine ∧ P (.str d.shown) st
    | none => False
  | _ => False
theorem cs_repr {K : PySem.W.Frag} {T : List (Addr × Str)} : CallS K T (rRepr K) oRepr := fun xs vs m H st P Q rel rv h fin => by
  unfold oRepr at h
  split at h
  · split at h
    · rename_i d hd
      obtain ⟨x, rfl, r⟩ := rv.one
      obtain ⟨h1, h2, h3, h4, h5⟩ := h
      exact ⟨x, d, rfl, dp_of rel r hd, h1, h2, h3, h4, fin _ st h5 _ m H Grow.refl rel (.str _)⟩
    · exact h.elim
  · exact h.elim
/-- str(n) -/
def oStr : SCall := fun vs st P => match vs with
  | [.int i] => i.natAbs.log2 < 1920 ∧ P (.str (toString i)) st
  | _ => False
theorem cs_str {K : PySem.W.Frag} {T : List (Addr × Str)} : CallS K T (fun xs H Q => ∃ i, xs = [.int i] ∧ i.natAbs.log2 < 1920 ∧ Q (.str (toString i)) H) oStr := fun xs vs m H st P Q rel rv h fin => by
  unfold oStr at h
  split at h
  · obtain ⟨x, rfl, r⟩ := rv.one
    cases r
    exact ⟨_, rfl, h.1, fin _ st h.2 _ m H Grow.refl rel (.str _)⟩
  · exact h.elim

/-! ### in, of data: the right side a list or a tuple -/
def rInU (K : PySem.W.Frag) (neg : Bool) : R2 := fun x y H Q => ∃ (d : PyData) (ds : List PyData), Dp K H x d ∧ (Dp K H y (.list ds) ∨ Dp K H y (.tuple ds)) ∧ SeqAt.shaped d = true ∧ SeqAt.shaped (.list ds) = true ∧
  Q (.bl (if neg then !(ds.any fun z => PyData.eqv z d) else ds.any fun z => PyData.eqv z d)) H
theorem roomU {A : Around} {d : PyData} {ds : List PyData} (sd : SeqAt.shaped d = true) (hu : A.units + 66 < cLine) : A.units + 1 + min (PyData.depthAll ds) d.depth < cLine := by
  have h1 := SeqAt.depth_of_shaped sd
  have h2 : min (PyData.depthAll ds) d.depth ≤ d.depth := Nat.min_le_right _ _
  omega
theorem op_inU {X : Cx} (hu : X.A.units + 66 < cLine) : OpR X (compareOp .In) (rInU X.K false) := by
  intro pins s σ H x y v u Q I rx ry h
  obtain ⟨d, ds, hd, he, sd, se, q⟩ := h
  obtain ⟨bs, r1⟩ := Dp.reads I d x v hd rx
  have cs : PyData.canLayAll0 ds = true := SeqAt.canLay_of_shaped se
  rcases he with he | he
  · obtain ⟨as, r2⟩ := Dp.reads I (.list ds) y u he ry
    exact SeqAt.in_list_reads r2 r1 cs (SeqAt.canLay_of_shaped sd) (roomU sd hu) ⟨.bl _, H, I, rfl, q⟩
  · obtain ⟨as, r2⟩ := Dp.reads I (.tuple ds) y u he ry
    exact SeqAt.in_tuple_reads r2 r1 cs (SeqAt.canLay_of_shaped sd) (roomU sd hu) ⟨.bl _, H, I, rfl, q⟩
theorem op_niU {X : Cx} (hu : X.A.units + 66 < cLine) : OpR X (compareOp .NotIn) (rInU X.K true) := by
  intro pins s σ H x y v u Q I rx ry h
  obtain ⟨d, ds, hd, he, sd, se, q⟩ := h
  obtain ⟨bs, r1⟩ := Dp.reads I d x v hd rx
  have cs : PyData.canLayAll0 ds = true := SeqAt.canLay_of_shaped se
  rcases he with he | he
  · obtain ⟨as, r2⟩ := Dp.reads I (.list ds) y u he ry
    exact SeqAt.notIn_list_reads r2 r1 cs (SeqAt.canLay_of_shaped sd) (roomU sd hu) ⟨.bl _, H, I, rfl, q⟩
  · obtain ⟨as, r2⟩ := Dp.reads I (.tuple ds) y u he ry
    exact SeqAt.notIn_tuple_reads r2 r1 cs (SeqAt.canLay_of_shaped sd) (roomU sd hu) ⟨.bl _, H, I, rfl, q⟩
def oInU (neg : Bool) : SOp := fun x y st P => match dat st x, dat st y with
  | some d, some (.list ds) => SeqAt.shaped d = true ∧ SeqAt.shaped (.list ds) = true ∧ P (.bl (if neg then !(ds.any fun z => PyData.eqv z d) else ds.any fun z => PyData.eqv z d)) st
  | some d, some (.tuple ds) => SeqAt.shaped d = true ∧ SeqAt.shaped (.list ds) = true ∧ P (.bl (if neg then !(ds.any fun z => PyData.eqv z d) else ds.any fun z => PyData.eqv z d)) st
  | _, _ => False
theorem os_inU {K : PySem.W.Frag} {T : List (Addr × Str)} {neg : Bool} : OpS K T (rInU K neg) (oInU neg) := fun x y v w m H st P Q rel rx ry h fin => by
  unfold oInU at h
  split at h
  · rename_i d ds e1 e2
    exact ⟨d, ds, dp_of rel rx e1, .inl (dp_of rel ry e2), h.1, h.2.1, fin _ st h.2.2 _ m H Grow.refl rel (.bl _)⟩
  · rename_i d ds e1 e2
    exact ⟨d, ds, dp_of rel rx e1, .inr (dp_of rel ry e2), h.1, h.2.1, fin _ st h.2.2 _ m H Grow.refl rel (.bl _)⟩
  · exact h.elim
section
variable {X : Cx} {T : List (Addr × Str)} {W : WX} {pos : Pos} {a b : Expr} {f g : Sem}
theorem w_inU (hu : X.A.units + 66 < cLine) (ha : JE X T W a f) (hb : JE X T W b g) (hm : behindInMarks .In b = false := by rfl) : JE X T W (.Compare a [.In] [b] pos) (sOp (oInU false) f g) := w_cmp (op_inU hu) os_inU ha hb hm
theorem w_niU (hu : X.A.units + 66 < cLine) (ha : JE X T W a f) (hb : JE X T W b g) (hm : behindInMarks .NotIn b = false := by rfl) : JE X T W (.Compare a [.NotIn] [b] pos) (sOp (oInU true) f g) := w_cmp (op_niU hu) os_inU ha hb hm
/-! ### list times int -/
def oRepH : SOp := fun x y st P => match x, y with
  | .hd n, .int k => match st[n]? with
    | some (.lst l) => 0 ≤ k ∧ k ≤ 1000 ∧ l.length * k.toNat ≤ 1000 ∧ P (.lst (List.replicate k.toNat l).flatten) st
    | none => False
  | _, _ => False
theorem os_rep {K : PySem.W.Frag} {T : List (Addr × Str)} : OpS K T rRep oRepH := fun x y v w m H st P Q rel rx ry h fin => by
  unfold oRepH at h
  split at h
  · split at h
    · rename_i l hl
      cases rx with
      | @hd a n hn =>
        cases ry
        obtain ⟨xs, hq, hs⟩ := rel.ob _ _ _ hn hl
        obtain ⟨h1, h2, h3, h4⟩ := h
        refine ⟨a, _, xs, rfl, rfl, hq, by omega, by omega, by rw [hs.length]; exact sz1000 h3, fun p hp => ?_⟩
        exact fin _ st h4 _ m _ (Grow.new hp) (rel.new hp) (.lst (.inl ⟨.inl upd_same, rel.mem_ne hp⟩) ((hs.rep _).grow rel (Grow.new hp)))
    · exact h.elim
  · exact h.elim
theorem w_rep (ha : JE X T W a f) (hb : JE X T W b g) : JE X T W (.BinOp a .Mult b pos) (sOp oRepH f g) := w_op op_rep os_rep ha hb
end

/-! ### comprehensions: one for, perhaps an if, nothing raised -/
def wipeE (ρ : Env) : List Nat → Env
  | [] => ρ
  | v :: vs => (wipeE ρ vs).set v none
theorem wipe_rs {K : PySem.W.Frag} {m : List Addr} {H : Hp} {σ : L2.St} {ρ : Env} (r : RS K m H σ ρ) : ∀ vs : List Nat, RS K m H (wipe σ vs) (wipeE ρ vs)
  | [] => r
  | v :: vs => (wipe_rs r vs).clear v none
/-- the items one behind the other; c: the test; the new list is the handle n -/
def compL (i n : Nat) (c : SemT) (f : Sem) (P : PK) : List PV → Env → Store → Prop
  | [], _, st => P (.hd n) st
  | x :: r, ρ, st => c (ρ.set i (some x)) st (fun b st1 => match b with
      | true => f (ρ.set i (some x)) st1 (fun v st2 => match st2[n]? with
        | some (.lst acc) => acc.length < 100000 ∧ compL i n c f P r ρ (st2.set n (.lst (acc ++ [v])))
        | none => False) (fun _ _ => False)
      | false => compL i n c f P r ρ st1) (fun _ _ => False)
def sYes : SemT := fun _ st P _ => P true st
/-- what a value yields when it is walked -/
def itemsL : PV → Option (List PV)
  | .lst l => some l
  | _ => none
def itemsT : PV → Option (List PV)
  | .tup l => some l
  | _ => none
def signsOf (x : Str) : List PV := x.cps.toList.map fun c => .str ⟨#[c]⟩
def itemsS : PV → Option (List PV)
  | .str x => some (signsOf x)
  | _ => none
def itemsR : PV → Option (List PV)
  | .int n => if -(2 ^ 62) ≤ n ∧ n < 2 ^ 62 then some (upto 0 n.toNat) else none
  | _ => none
def sLc (it : PV → Option (List PV)) (fi : Sem) (i : Nat) (c : SemT) (f : Sem) : Sem := fun ρ st P PX => fi ρ st (fun v st1 => match it v with
  | some l => compL i st1.length c f P l (wipeE ρ [i]) (st1 ++ [.lst []])
  | none => False) PX
section
variable {K : PySem.W.Frag} {T : List (Addr × Str)} {W : WX}
/-- one turn -/
theorem comp_turn {i n : Nat} {c : SemT} {f : Sem} {P : PK} {x : PV} {xv : V} {r : List PV} {ρ : Env} {σ : L2.St} {m : List Addr} {H : Hp} {st : Store} {D : Addr} {Nx : Hp → Prop} (rs : RS K m H σ ρ) (rel : Rel K T m st H) (rx : RV K m H xv x) (hD : m[n]? = some D)
    (h : compL i n c f P (x :: r) ρ st) (hn : ∀ st' m' H', Grow m H m' H' → Rel K T m' st' H' → m'[n]? = some D → compL i n c f P r ρ st' → Nx H') :
    tT K T W0 c (σ.set i (some xv)) H fun b H3 => if b = true then tE K T W0 f (σ.set i (some xv)) H3 fun y H4 => ∃ acc, H4 D = some (.lst acc) ∧ acc.length < sizeLine ∧ Nx (upd H4 D (.lst (acc ++ [y]))) else Nx H3 := by
  refine ⟨_, st, m, _, _, rs.set i rx, rel, h, fun b st1 hb m1 H1 g1 rel1 => ?_, fun _ _ p => p.elim⟩
  cases b with
  | true =>
    rw [if_pos rfl]
    refine ⟨_, st1, m1, _, _, (rs.set i rx).grow rel g1, rel1, hb, fun v st2 hv y m2 H2 g2 rel2 ry => ?_, fun _ _ p => p.elim⟩
    dsimp only at hv
    split at hv
    · rename_i acc hacc
      have hD2 := get_grow g2 (get_grow g1 hD)
      obtain ⟨ys, hq, hys⟩ := rel2.ob _ _ _ hD2 hacc
      have g3 : Grow m2 H2 m2 (L2.upd H2 D (.lst (ys ++ [y]))) := Grow.upd hD2
      exact ⟨ys, hq, Nat.lt_of_lt_of_le (by rw [hys.length]; exact hv.1) (by decide), hn _ m2 _ ((g1.trans g2).trans g3) (rel2.upd hD2 (hys.append (.cons ry .nil))) hD2 hv.2⟩
    · exact hv.elim
  | false =>
    rw [if_neg Bool.false_ne_true]
    exact hn st1 m1 H1 g1 rel1 (get_grow g1 hD) hb
theorem wipe_one (σ : L2.St) (i : Nat) (x : Option V) : wipe ((wipe σ [i]).set i x) [i] = wipe σ [i] := by
  simp [wipe]
end
section
variable {X : Cx} {T : List (Addr × Str)} {W : WX} {elt iter : Expr} {ifs : List Expr} {scope : Scope} {x : Str} {i : Nat} {p pos : Pos} {fi f : Sem} {c : SemT}
abbrev BlkE (X : Cx) (T : List (Addr × Str)) (scope : Scope) (e : Expr) (f : Sem) : Prop := ∀ (s : Shared) (H : Hp) (C : Addr) (cl : List (Str × Addr)) (fp : List Addr), JE (X.blk s H scope (compEnvC scope cl C X.env) fp) T W0 e f
abbrev BlkT (X : Cx) (T : List (Addr × Str)) (scope : Scope) (ifs : List Expr) (c : SemT) : Prop := ∀ (s : Shared) (H : Hp) (C : Addr) (cl : List (Str × Addr)) (fp : List Addr), PTs (X.blk s H scope (compEnvC scope cl C X.env) fp) ifs (tT X.K T W0 c)
abbrev BlkG (X : Cx) (scope : Scope) (tg : Expr) (i : Nat) : Prop := ∀ (s : Shared) (H : Hp) (C : Addr) (cl : List (Str × Addr)) (fp : List Addr), PG (X.blk s H scope (compEnvC scope cl C X.env) fp) tg (gName i)
theorem PTs.imp {X : Cx} {e : List Expr} {t t' : TT} (h : PTs X e t) (j : ∀ σ H Q, t' σ H Q → t σ H Q) : PTs X e t' := ⟨fun pins s σ H Q I q => h.run pins s σ H Q I (j σ H Q q)⟩
theorem blk_yes : BlkT X T scope [] sYes := fun s H C cl fp => PTs.imp pts_nil fun σ H Q h => by
  obtain ⟨ρ, st, m, P, PX, rs, rel, hq, fin, finx⟩ := h
  exact fin true st hq m H Grow.refl rel
theorem blk_if {e : Expr} (h : ∀ (s : Shared) (H : Hp) (C : Addr) (cl : List (Str × Addr)) (fp : List Addr), JT (X.blk s H scope (compEnvC scope cl C X.env) fp) T W0 e c) : BlkT X T scope [e] c := fun s H C cl fp => pts_one (h s H C cl fp)
/-- the start of the block's list, as a handle -/
theorem comp_start {m1 : List Addr} {H1 : Hp} {st1 : Store} {D : Addr} (rel1 : Rel X.K T m1 st1 H1) (hD : H1 D = none) : Grow m1 H1 (m1 ++ [D]) (upd H1 D (.lst [])) ∧ Rel X.K T (m1 ++ [D]) (st1 ++ [.lst []]) (upd H1 D (.lst [])) ∧ (m1 ++ [D])[st1.length]? = some D :=
  ⟨Grow.hand rel1 hD, rel1.hand hD .nil, get_hand rel1⟩
theorem w_lcL (hc : X.calm = true) (hN : X.N.Nodup) (he : JE X T W iter fi) (ok : BlkOk X.N X.env.scope scope [(x, i)]) (hg : BlkG X scope (.Name x p) i) (ht : BlkT X T scope ifs c) (hel : BlkE X T scope elt f)
    (hs : ∀ y, foldedSetIterable iter X.env y = pure y := by intro _; rfl) : JE X T W (.ListComp elt [⟨.Name x p, iter, ifs, 0⟩] scope pos) (sLc itemsL fi i c f) := PE.imp (pe_lc hc hN (pi_list he) ok hg ht hel hs) fun σ H Q h => by
  obtain ⟨ρ, st, m, P, PX, rs, rel, hq, fin, finx⟩ := h
  refine ⟨ρ, st, m, _, PX, rs, rel, hq, fun v st1 hv xv m1 H1 g1 rel1 rv1 => ?_, finx⟩
  cases rv1 <;> first | exact hv.elim | skip
  rename_i a ys l hl hys
  refine ⟨a, rfl, ⟨ys, hl.sq⟩, fun D hD => ?_⟩
  obtain ⟨gs, rels, hDs⟩ := comp_start rel1 hD
  have hw := wipe_rs ((rs.grow rel g1).grow rel1 gs) [i]
  refine lc_list (xs := ys) (fun k H2 => ∃ st2 m2, Rel X.K T m2 st2 H2 ∧ Grow (m1 ++ [D]) (upd H1 D (.lst [])) m2 H2 ∧ m2[st1.length]? = some D ∧ compL i st1.length c f P (l.drop k) (wipeE ρ [i]) st2) ⟨_, _, rels, Grow.refl, hDs, hv⟩ (fun k H2 _ hp => ?_) (fun k y H2 hy hp => ?_) (fun H2 hp => ?_)
  · obtain ⟨st2, m2, rel2, g2, _, _⟩ := hp
    exact (lsr_grow rel1 (gs.trans g2) hl).sq
  · obtain ⟨st2, m2, rel2, g2, hD2, hcl⟩ := hp
    have hlt : k < l.length := by
      rw [← hys.length]
      exact (List.getElem?_eq_some_iff.mp hy).1
    rw [List.drop_eq_getElem_cons hlt] at hcl
    obtain ⟨y', e1, ry⟩ := (hys.grow rel1 (gs.trans g2)).get (i := k) (v := l[k]) (by simp [hlt])
    rw [hy] at e1
    cases e1
    exact ⟨wipe_one σ i _, comp_turn (hw.grow rels g2) rel2 ry hD2 hcl fun st3 m3 H3 g3 rel3 hD3 h3 => ⟨st3, m3, rel3, g2.trans g3, hD3, h3⟩⟩
  · obtain ⟨st2, m2, rel2, g2, hD2, hcl⟩ := hp
    rw [hys.length, List.drop_eq_nil_of_le (Nat.le_refl _)] at hcl
    exact fin _ st2 hcl _ m2 H2 ((g1.trans gs).trans g2) rel2 (.hd hD2)
theorem w_lcT (hc : X.calm = true) (hN : X.N.Nodup) (he : JE X T W iter fi) (ok : BlkOk X.N X.env.scope scope [(x, i)]) (hg : BlkG X scope (.Name x p) i) (ht : BlkT X T scope ifs c) (hel : BlkE X T scope elt f)
    (hs : ∀ y, foldedSetIterable iter X.env y = pure y := by intro _; rfl) : JE X T W (.ListComp elt [⟨.Name x p, iter, ifs, 0⟩] scope pos) (sLc itemsT fi i c f) := PE.imp (pe_lc hc hN (pi_tup he) ok hg ht hel hs) fun σ H Q h => by
  obtain ⟨ρ, st, m, P, PX, rs, rel, hq, fin, finx⟩ := h
  refine ⟨ρ, st, m, _, PX, rs, rel, hq, fun v st1 hv xv m1 H1 g1 rel1 rv1 => ?_, finx⟩
  cases rv1 <;> first | exact hv.elim | skip
  rename_i a ys l hl hys
  refine ⟨a, rfl, ⟨ys, hl⟩, fun D hD => ?_⟩
  obtain ⟨gs, rels, hDs⟩ := comp_start rel1 hD
  have hw := wipe_rs ((rs.grow rel g1).grow rel1 gs) [i]
  refine lc_tup (xs := ys) (fun k H2 => ∃ st2 m2, Rel X.K T m2 st2 H2 ∧ Grow (m1 ++ [D]) (upd H1 D (.lst [])) m2 H2 ∧ m2[st1.length]? = some D ∧ compL i st1.length c f P (l.drop k) (wipeE ρ [i]) st2) ⟨_, _, rels, Grow.refl, hDs, hv⟩ (fun k H2 _ hp => ?_) (fun k y H2 hy hp => ?_) (fun H2 hp => ?_)
  · obtain ⟨st2, m2, rel2, g2, _, _⟩ := hp
    exact sqt_grow rel1 (gs.trans g2) hl
  · obtain ⟨st2, m2, rel2, g2, hD2, hcl⟩ := hp
    have hlt : k < l.length := by
      rw [← hys.length]
      exact (List.getElem?_eq_some_iff.mp hy).1
    rw [List.drop_eq_getElem_cons hlt] at hcl
    obtain ⟨y', e1, ry⟩ := (hys.grow rel1 (gs.trans g2)).get (i := k) (v := l[k]) (by simp [hlt])
    rw [hy] at e1
    cases e1
    exact ⟨wipe_one σ i _, comp_turn (hw.grow rels g2) rel2 ry hD2 hcl fun st3 m3 H3 g3 rel3 hD3 h3 => ⟨st3, m3, rel3, g2.trans g3, hD3, h3⟩⟩
  · obtain ⟨st2, m2, rel2, g2, hD2, hcl⟩ := hp
    rw [hys.length, List.drop_eq_nil_of_le (Nat.le_refl _)] at hcl
    exact fin _ st2 hcl _ m2 H2 ((g1.trans gs).trans g2) rel2 (.hd hD2)
theorem sign_drop (z : Str) (k : Nat) (h : k < z.cps.size) : (signsOf z).drop k = .str ⟨#[z.cps[k]]⟩ :: (signsOf z).drop (k + 1) := by
  have hl : k < (signsOf z).length := by simpa [signsOf] using h
  rw [List.drop_eq_getElem_cons hl]
  congr 1
  simp [signsOf]
theorem w_lcS (hc : X.calm = true) (hN : X.N.Nodup) (he : JE X T W iter fi) (ok : BlkOk X.N X.env.scope scope [(x, i)]) (hg : BlkG X scope (.Name x p) i) (ht : BlkT X T scope ifs c) (hel : BlkE X T scope elt f)
    (hs : ∀ y, foldedSetIterable iter X.env y = pure y := by intro _; rfl) : JE X T W (.ListComp elt [⟨.Name x p, iter, ifs, 0⟩] scope pos) (sLc itemsS fi i c f) := PE.imp (pe_lc hc hN (pi_str he) ok hg ht hel hs) fun σ H Q h => by
  obtain ⟨ρ, st, m, P, PX, rs, rel, hq, fin, finx⟩ := h
  refine ⟨ρ, st, m, _, PX, rs, rel, hq, fun v st1 hv xv m1 H1 g1 rel1 rv1 => ?_, finx⟩
  cases rv1 <;> first | exact hv.elim | skip
  rename_i z
  refine ⟨z, rfl, fun D hD => ?_⟩
  obtain ⟨gs, rels, hDs⟩ := comp_start rel1 hD
  have hw := wipe_rs ((rs.grow rel g1).grow rel1 gs) [i]
  refine ⟨fun k mm H2 => mm = z.cps.size - k ∧ k ≤ z.cps.size ∧ ∃ st2 m2, Rel X.K T m2 st2 H2 ∧ Grow (m1 ++ [D]) (upd H1 D (.lst [])) m2 H2 ∧ m2[st1.length]? = some D ∧ compL i st1.length c f P ((signsOf z).drop k) (wipeE ρ [i]) st2, ⟨_, rfl, Nat.zero_le _, _, _, rels, Grow.refl, hDs, hv⟩, ?_⟩
  rintro k mm H2 ⟨rfl, hk, st2, m2, rel2, g2, hD2, hcl⟩
  by_cases hlt : k < z.cps.size
  · refine .inr ⟨hlt, fun H3 => ∃ st2 m2, Rel X.K T m2 st2 H3 ∧ Grow (m1 ++ [D]) (upd H1 D (.lst [])) m2 H3 ∧ m2[st1.length]? = some D ∧ compL i st1.length c f P ((signsOf z).drop (k + 1)) (wipeE ρ [i]) st2, fun H3 h3 => ⟨_, by omega, rfl, hlt, h3⟩, fun y H3 hy => ?_⟩
    obtain ⟨rfl, cc, hcc, rfl⟩ := hy
    rw [sign_drop z k hlt] at hcl
    have e : cc = z.cps[k] := by
      rw [Array.getElem?_eq_getElem hlt] at hcc
      exact (Option.some.inj hcc).symm
    subst e
    exact ⟨wipe_one σ i _, comp_turn (hw.grow rels g2) rel2 (.str _) hD2 hcl fun st3 m3 H3 g3 rel3 hD3 h3 => ⟨st3, m3, rel3, g2.trans g3, hD3, h3⟩⟩
  · refine .inl ⟨by show z.cps.size ≤ k; omega, ?_⟩
    rw [List.drop_eq_nil_of_le (by simp [signsOf]; omega)] at hcl
    exact fin _ st2 hcl _ m2 H2 ((g1.trans gs).trans g2) rel2 (.hd hD2)
end
end Sm
set_option Elab.async false
set_option linter.all false
set_option maxRecDepth 100000
set_option maxHeartbeats 1000000
namespace Sm
open PySem PySem.Spec PyProof.Rows L2

/-! ### all of a handle, isinstance(x, tuple) -/
def oAllH : SCall := fun vs st P => match vs with
  | [.hd n] => match st[n]? with
    | some (.lst l) => match allB l with
      | some b => P (.bl b) st
      | none => False
    | none => False
  | _ => False
theorem cs_allH {K : PySem.W.Frag} {T : List (Addr × Str)} : CallS K T (rAll K) oAllH := fun xs vs m H st P Q rel rv h fin => by
  unfold oAllH at h
  split at h
  · split at h
    · rename_i hst
      split at h
      · rename_i hn
        obtain ⟨x, rfl, r⟩ := rv.one
        cases r with
        | hd ha =>
          obtain ⟨ys, hq, hs⟩ := rel.ob _ _ _ ha hst
          obtain ⟨bs, rfl, rfl⟩ := allB_of hs hn
          exact ⟨_, bs, rfl, SqL.of hq, fin _ st h _ m H Grow.refl rel (.bl _)⟩
      · exact h.elim
    · exact h.elim
  · exact h.elim
def oIsTup : SCall := fun vs st P => match vs with
  | [.tup _, .ty t] => t = "tuple" ∧ P (.bl true) st
  | [.hd _, .ty t] => t = "tuple" ∧ P (.bl false) st
  | _ => False
theorem kit_tt {K : PySem.W.Frag} : PySem.W.kitOne K (.type "tuple") (.type "tuple") = some true := kit_ty (by decide +kernel)
theorem kit_lt {K : PySem.W.Frag} : PySem.W.kitOne K (.type "list") (.type "tuple") = some false := kit_ty (by decide +kernel)
theorem cs_isTup {K : PySem.W.Frag} {T : List (Addr × Str)} : CallS K T (rIsi K) oIsTup := fun xs vs m H st P Q rel rv h fin => by
  unfold oIsTup at h
  split at h
  · obtain ⟨x, y, rfl, r1, r2⟩ := rv.two
    obtain ⟨rfl, h⟩ := h
    cases r2
    cases r1 with
    | tup hq hs =>
      rename_i aa _
      have hx : TyX K H (.ref aa) (.type "tuple") := by
        rcases hq with (q | ⟨o, q⟩) | q
        · exact .base (.tup q)
        · exact .fTuple q
        · obtain ⟨o, its, n, q1, q2, _⟩ := q
          exact .kTuple q1 q2
      exact ⟨_, _, _, _, _, rfl, .ty _, hx, kit_tt, fin _ st h _ m H Grow.refl rel (.bl _)⟩
  · obtain ⟨x, y, rfl, r1, r2⟩ := rv.two
    obtain ⟨rfl, h⟩ := h
    cases r2
    cases r1 with
    | @hd a k ha =>
      obtain ⟨ys, hq⟩ := rel.at_ (List.mem_of_getElem? ha)
      exact ⟨_, _, _, _, _, rfl, .ty _, .base (.lst hq), kit_lt, fin _ st h _ m H Grow.refl rel (.bl _)⟩
  · exact h.elim

/-! ### a def by its global name -/
structure Gd (P : Program) (w : World) (K : PySem.W.Frag) (T : List (Addr × Str)) (mg : Str → Option Value) (base : Heap) (gd : Bool) (k : Nat) (x : Str) (ps : List Str) (dv : List PV) (S : SpecF) : Prop where
  ex : ∃ (f : Addr) (fd : FuncData) (ds : List Value) (dvs : List V), mg x = some (.ref f) ∧ PySem.W.keepIn K (.ref f) = true ∧ Binds K fd ps ds ∧ Vals dvs ds ∧ (∀ m H, RVs K m H dvs dv) ∧ FnG P w K T mg base gd k f fd ps S
section
variable {X : Cx} {T : List (Addr × Str)} {W : WX} {gd gd' : Bool} {k j : Nat} {ps : List Str} {S : SpecF} {dv : List PV} {x : Str} {p pos : Pos} {e : Expr} {es : List Expr} {g : SemA}
theorem w_cg (G : Gd X.prog X.w X.K T X.mg X.base gd k x ps dv S) (hr : Room j X.A) (hkj : k ≤ j) (hgd : Gu gd X.A) (tk : Takes X W) (ha : JA X T W (e :: es) g) (hg : Gl X x := by rfl) (hdb : (x == ("__debug__" : Str)) = false := by decide) (he : starEach (e :: es) X.env = (false, eval e X.env) :: starEach es X.env := by rfl)
    (hpl : (backTo pos (starEach es X.env)).any (·.1) = false := by rfl) : JE X T W (.Call (.Name x p) (e :: es) [] pos) (sCall S dv g) := by
  obtain ⟨f, fd, ds, dvs, h1, h2, h3, h4, h5, F⟩ := G.ex
  exact w_call F (hr.mono hkj) hgd hg h1 h2 h3 h4 h5 tk ha hdb he hpl
end
/-- what the head tells of a def -/
def Fc (K : PySem.W.Frag) (mg : Str → Option Value) (x : Str) (s : List Stmt × Arguments × Scope) (dvs : List V) : Prop := ∃ f fd, FunD K x x s.2.1 s.1 s.2.2 dvs [] f fd ∧ mg x = some (.ref f)
section
variable {P : Program} {w : World} {K : PySem.W.Frag} {T : List (Addr × Str)} {mg : Str → Option Value} {base : Heap} {x : Str} {s : List Stmt × Arguments × Scope} {N ps : List Str} {gd : Bool} {k : Nat} {S : SpecF}
theorem g_def (F : Fc K mg x s []) (Sc : FnScope N ps s.2.2) (bnd : ∀ (kV doc pm : Value) (an : Option Addr) (cdv ct : Value) (us : List Value), us.length = ps.length → bindArgs (PySem.W.fnOf x x s.2.1 s.1 s.2.2 .none kV doc pm an cdv ct) ⟨us, []⟩ = pure (ps.zip us))
    (len : ∀ pvs st Q PX, S pvs st Q PX → pvs.length = ps.length)
    (hbody : ∀ (f : Addr) (cdv : Value) (A : Around) (outer : List PySem.Env) (sh : Shared) (H : Hp) (E : XK), Room k (A.deeper (envOfC x s.2.2 sh.heap.objs.size f cdv)) → Gu gd (A.deeper (envOfC x s.2.2 sh.heap.objs.size f cdv)) →
      ∃ t : SemS, JSs (cxOf (L2.CX P w) P w K mg base N x s.2.2 f cdv A outer sh H E) T (fun cls d _ H' => E cls d H') s.1 t ∧ ∀ pvs st Q PX, S pvs st Q PX → t (endOf Q PX) (ini N pvs) st) :
    Gd P w K T mg base gd (k + 1) x ps [] S := by
  obtain ⟨f, fd, F, hm⟩ := F
  exact ⟨f, fd, [], [], hm, F.kp, F.bindsN bnd, .nil, fun _ _ => .nil, g_of F Sc len fun cdv A outer sh H E => hbody f cdv A outer sh H E⟩
end
theorem hu_of {k : Nat} {A : Around} (hr : Room k A) : A.units + 66 < cLine := by
  have := hr.un
  omega
theorem hu_of4 {k : Nat} {A : Around} (hr : Room k A) : A.units + 64 < cLine := by
  have := hr.un
  omega
end Sm
set_option Elab.async false
set_option linter.all false
set_option maxRecDepth 100000
set_option maxHeartbeats 1000000
namespace Sm
open PySem PySem.Spec PyProof.Rows L2

/-! ### a lambda without parameters, handed to a def that calls it in a try -/
theorem Grow.ext {m : List Addr} {H H1 : Hp} (e : LamX.ExtN H H1) : Grow m H m H1 := ⟨⟨[], by simp, by simp⟩, fun a o h _ nt => e a o h nt, fun a o h nt => ⟨o, e a o h nt, nt⟩⟩
theorem Rel.ext {K : PySem.W.Frag} {T : List (Addr × Str)} {m : List Addr} {st : Store} {H H1 : Hp} (r : Rel K T m st H) (e : LamX.ExtN H H1) (t : LamX.Tabs T H1) : Rel K T m st H1 :=
  ⟨r.len, r.nd, fun n a ob h1 h2 => by
    have q := r.ob n a ob h1 h2
    obtain ⟨l⟩ := ob
    obtain ⟨xs, e1, rs⟩ := q
    exact ⟨xs, e a _ e1 (fun _ z => by cases z), rs.grow r (Grow.ext e)⟩, t⟩
theorem takes_len {X : Cx} {W : WX} (tk : Takes X W) : Takes X (fun c d σ H => σ.length = X.N.length → W c d σ H) := fun u s' ⟨a, B, sI, pins, σ, H, cls, d, e, I, nb, up, sky, na, os, ag, w⟩ =>
  tk u s' ⟨a, B, sI, pins, σ, H, cls, d, e, I, nb, up, sky, na, os, ag, w I.len⟩
theorem rs_none {K : PySem.W.Frag} {m : List Addr} {H : Hp} {σ : L2.St} {n : Nat} (h : σ.length = n) : RS K m H σ (List.replicate n none) := ⟨by simp [h], fun i v e => by
  rw [List.getElem?_replicate] at e
  split at e <;> cases e⟩
/-- behind the handlers -/
def metEnd (fine : Str) (P : PK) : EndP := ⟨fun _ st => P (.str fine) st, P, fun _ _ => False, fun _ _ => False, fun _ _ _ => False⟩
def metT (K : PySem.W.Frag) (T : List (Addr × Str)) (l : List SHd) (fine : Str) (n : Nat) : (XK → Hp → VK → Prop) → Hp → VK → Prop := fun tl H Q =>
  ∃ Ech : XK, (∀ cls d (σ : L2.St) H', σ.length = n → Ech cls d H' → wGen K W0 ⟨fun _ H' => Q (.str fine) H', Q, fun _ _ => False, fun _ _ => False⟩ (hdT K T l) cls d σ H') ∧ tl Ech H (fun _ H' => Q (.str fine) H')
def sMet (K : PySem.W.Frag) (l : List SHd) (fine : Str) (n : Nat) (f : Sem) : Sem := fun ρ st P PX => f ρ st (fun _ st' => P (.str fine) st') (fun e st' => hnd K (metEnd fine P) l e (List.replicate n none) st')
section
variable {X : Cx} {T : List (Addr × Str)} {W : WX}
theorem met_gives {Ng : List Str} {x a q fine : Str} {sg : Scope} {g : Addr} {cdg : Value} {h₀ : ExceptHandler} {hds : List ExceptHandler} {l : List SHd} {j : Nat} {p1 p2 p3 p5 p6 p8 : Pos}
    (h0 : ∀ f : Addr, (L2.start Ng [V.ref f])[0]? = some (some (V.ref f)))
    (hsw : ∀ (s : Shared) (H : Hp), swapsWith (.Call (.Name a p1) [] [] p2) none p3.line (cxOf C8.CX0 X.prog X.w X.K X.mg X.base Ng x sg g cdg X.A X.stack s H C8.E0).env = pure false)
    (hh : ∀ (s : Shared) (H : Hp), JHd (cxOf C8.CX0 X.prog X.w X.K X.mg X.base Ng x sg g cdg X.A X.stack s H C8.E0).nox T (h₀ :: hds) l) :
    LamX.GivesTo X Ng x sg g cdg [.Try [.Expr (.Call (.Name a p1) [] [] p2) p3] (h₀ :: hds) [] [] p8, .Return (some (.Constant (.str fine) j p5)) p6] a q (metT X.K T l fine Ng.length) := by
  intro f c' s H Q tl act hc h
  obtain ⟨Ech, hE, ht⟩ := h
  refine ⟨_, pss_cons (ps_tryG (X := (cxOf C8.CX0 X.prog X.w X.K X.mg X.base Ng x sg g cdg X.A X.stack s H C8.E0).nox) (Wout := W0) (tb := fun W' D σ H => ∃ Ech : XK, (∀ cls d (σ' : L2.St) H', σ'.length = Ng.length → Ech cls d H' → W' cls d σ' H') ∧ σ[0]? = some (some (.ref f)) ∧ H c' = some (LamX.CodeO c' q) ∧ tl Ech H (fun _ H' => D.nx σ H'))
    rfl rfl LamX.takes0 (fun W' pn xe tk _ => ?_) (hh s H).hd) (pss_one (ps_ret pe_str)), ?_⟩
  · refine ⟨fun pins s' σ H' D I h' => ?_⟩
    obtain ⟨Ech, hW, h1, h2, h3⟩ := h'
    have hp := act (fun c d σ H => σ.length = Ng.length → W' c d σ H) pn xe Ech p1 p2 (takes_len tk) (fun cls d σ' H' he hl => hW cls d σ' H' hl he)
    exact (pss_one (ps_expr hp (hsw s H))).run pins s' σ H' D I ⟨h1, h2, h3⟩
  · exact ⟨Ech, fun cls d σ' H' hl he => hE cls d σ' H' hl he, h0 f, hc, ht⟩
/-- x(lambda: body) -/
theorem w_met {Ng : List Str} {x a fine : Str} {sg : Scope} {pg : Arguments} {c P : Addr} {k : Nat} {h₀ : ExceptHandler} {hds : List ExceptHandler} {l : List SHd} {j : Nat} {p1 p2 p3 p5 p6 p8 p lpos pos : Pos} {params : Arguments} {body : Expr} {scope : Scope} {f : Sem}
    (F : Fc X.K X.mg x ([.Try [.Expr (.Call (.Name a p1) [] [] p2) p3] (h₀ :: hds) [] [] p8, .Return (some (.Constant (.str fine) j p5)) p6], pg, sg) []) (Sg : FnScope Ng [a] sg)
    (bnd : ∀ (kV doc pm : Value) (an : Option Addr) (cdv ct : Value) (us : List Value), us.length = 1 → bindArgs (PySem.W.fnOf x x pg [.Try [.Expr (.Call (.Name a p1) [] [] p2) p3] (h₀ :: hds) [] [] p8, .Return (some (.Constant (.str fine) j p5)) p6] sg .none kV doc pm an cdv ct) ⟨us, []⟩ = pure ([a].zip us))
    (hN0 : Ng[0]? = some a) (hva : Vis sg a)
    (hsw : ∀ (g : Addr) (cdg : Value) (s : Shared) (H : Hp), swapsWith (.Call (.Name a p1) [] [] p2) none p3.line (cxOf C8.CX0 X.prog X.w X.K X.mg X.base Ng x sg g cdg X.A X.stack s H C8.E0).env = pure false)
    (hh : ∀ (g : Addr) (cdg : Value) (s : Shared) (H : Hp), JHd (cxOf C8.CX0 X.prog X.w X.K X.mg X.base Ng x sg g cdg X.A X.stack s H C8.E0).nox T (h₀ :: hds) l)
    (TB : LamX.TabB X.base X.mg c P) (hcode : X.env.code = .ref c) (hmT : (P, X.env.qual ++ "<lambda>") ∈ T) (hu : ∀ p ∈ T, p.1 = P → p.2 = X.env.qual ++ "<lambda>") (hr : Room (k + 2) X.A) (L : LamX.LamS X.env.scope scope) (hdef : defaultsOf params X.env = ([], []))
    (hbind : ∀ (q : Str) (cl : List (Str × Addr)) (pm cv ctv : Value), bindArgs (PySem.W.kla_fn "<lambda>" q params body scope cl pm cv ctv) ⟨[], []⟩ = pure [])
    (hbody : ∀ (A : Around) (outer : List PySem.Env) (s : Shared) (H : Hp) (E : XK) (fl c' : Addr), Room k (A.deeper (LamX.lamEnv X scope s.heap.objs.size fl c')) → JE (LamX.lamCx X A outer s H E scope fl c') T (fun cls d _ H' => E cls d H') body f)
    (hg : Gl X x := by rfl) (hdb : (x == ("__debug__" : Str)) = false := by decide) (hd : (a == ("__debug__" : Str)) = false := by decide) (hcd : (a == ("__classdict__" : Str)) = false := by decide) :
    JE X T W (.Call (.Name x p) [.Lambda params body scope lpos] [] pos) (sMet X.K l fine Ng.length f) := by
  obtain ⟨g, fd, F, hm⟩ := F
  have hb : Binds X.K fd [a] [] := F.bindsN fun kV doc pm an cdv ct us hl => bnd kV doc pm an cdv ct us hl
  have kp := F.kp
  obtain ⟨oc, od, dV, kV, doc, pm, an, cdv, ct, osl, rfl, lk, hcd', _, _⟩ := F.ex
  refine PE.imp (LamX.pe_lamcall (T := T) (TT := metT X.K T l fine Ng.length) (t := fun E => tE X.K T (fun cls d _ H' => E cls d H') f) hg hm kp lk hcd' hb Sg hN0 hva (met_gives (fun f => ?_) (hsw g cdv) (hh g cdv)) TB hcode hmT hu hr L hdef hbind (fun A outer s H E fl c' hr => hbody A outer s H E fl c' hr) hdb hd hcd) fun σ H Q hq => ?_
  · have hl : 0 < Ng.length := (List.getElem?_eq_some_iff.mp hN0).1
    unfold L2.start
    rfl
  · obtain ⟨ρ, st, m, PQ, PX, rs, rel, hf, fin, finx⟩ := hq
    refine ⟨rel.tab, fun H1 eN t1 => ?_⟩
    have g1 : Grow m H m H1 := Grow.ext eN
    have rel1 := rel.ext eN t1
    refine ⟨fun cls d H' => ∃ e st' m', hnd X.K (metEnd fine PQ) l e (List.replicate Ng.length none) st' ∧ Grow m H m' H' ∧ Rel X.K T m' st' H' ∧ ExR X.K m' H' cls d e, fun cls d σ' H' hl ⟨e, st', m', h1, h2, h3, h4⟩ => ?_, ρ, st, m, _, _, rs.grow rel g1, rel1, hf, fun v st' hv xv m' H' g2 r2 rx => ?_, fun e st' he cls d m' H' g2 r2 ex => ⟨e, st', m', he, g1.trans g2, r2, ex⟩⟩
    · refine hnd_ok (W := W0) (m := m) (H := H) (D := metEnd fine PQ) (D' := ⟨fun _ H' => Q (.str fine) H', Q, fun _ _ => False, fun _ _ => False⟩) ⟨fun ρ1 st1 p1 σ1 m1 H1 g1 r1 _ => fin _ st1 p1 _ m1 H1 g1 r1 (.str _), fin, fun _ _ p => p.elim, fun _ _ p => p.elim, fun _ _ _ p => p.elim⟩ l e _ st' h1 cls d σ' m' H' h2 h3 (rs_none hl) h4
    · exact fin _ st' hv _ m' H' (g1.trans g2) r2 (.str _)
end
end Sm
set_option Elab.async false
set_option linter.all false
set_option maxRecDepth 100000
set_option maxHeartbeats 1000000
namespace Sm
open PySem PySem.Spec PyProof.Rows L2

/-! ### defs as values -/
def ad (mg : Str → Option Value) (x : Str) : Addr := match mg x with
  | some (.ref f) => f
  | _ => 0
/-- the slot i holds one of the defs named in L -/
def sCallV (mg : Str → Option Value) (i : Nat) (L : List (Str × SpecF)) (g : SemA) : Sem := fun ρ st P PX => ∃ x S, ρ[i]? = some (some (.adr (ad mg x))) ∧ (x, S) ∈ L ∧ g ρ st (fun vs st1 => S vs st1 P PX) PX
section
variable {X : Cx} {T : List (Addr × Str)} {W : WX} {gd : Bool} {k j : Nat} {ps : List Str} {S : SpecF} {dv : List PV} {x : Str} {p pos : Pos} {e : Expr} {es : List Expr} {g : SemA}
theorem w_gf (G : Gd X.prog X.w X.K T X.mg X.base gd k x ps dv S) (hg : Gl X x := by rfl) (hdb : (x == ("__debug__" : Str)) = false := by decide) : JE X T W (.Name x pos) (sC (.adr (ad X.mg x))) := by
  obtain ⟨f, fd, ds, dvs, h1, _⟩ := G.ex
  have e : ad X.mg x = f := by unfold ad; rw [h1]
  rw [e]
  exact w_glob (y := .ref f) hg h1 rfl (fun _ _ => .adr f) hdb
theorem w_cv {L : List (Str × SpecF)} (i : Nat) (G : ∀ q ∈ L, ∃ ps, Gd X.prog X.w X.K T X.mg X.base gd k q.1 ps [] q.2) (hr : Room j X.A) (hkj : k ≤ j) (hgd : Gu gd X.A) (tk : Takes X W) (ha : JA X T W (e :: es) g) (hN : X.N[i]? = some x := by rfl)
    (hv : Vis X.env.scope x := by first | exact Or.inl rfl | exact Or.inr (Or.inl rfl) | exact Or.inr (Or.inr rfl)) (hdb : (x == ("__debug__" : Str)) = false := by decide) (hcd : (x == ("__classdict__" : Str)) = false := by decide)
    (he : starEach (e :: es) X.env = (false, eval e X.env) :: starEach es X.env := by rfl) (hpl : (backTo pos (starEach es X.env)).any (·.1) = false := by rfl) : JE X T W (.Call (.Name x p) (e :: es) [] pos) (sCallV X.mg i L g) := by
  refine ⟨fun pins s σ H Q I h => ?_⟩
  obtain ⟨ρ, st, m, P, PX, rs, rel, ⟨y, S, hi, hL, hf⟩, fin, finx⟩ := h
  obtain ⟨ps, G1⟩ := G _ hL
  obtain ⟨f, fd, ds, dvs, h1, h2, h3, h4, h5, F⟩ := G1.ex
  have ef : ad X.mg y = f := by
    have h1' : X.mg y = some (.ref f) := h1
    unfold ad
    rw [h1']
  rw [ef] at hi
  obtain ⟨xv, e1, r1⟩ := rs.val i _ hi
  have exv : xv = .ref f := by cases r1; rfl
  subst exv
  have hdv : ∀ m H, RVs X.K m H dvs [] := h5
  have dv0 : dvs = [] := by
    cases hdv [] H
    rfl
  subst dv0
  refine wpAny_Call_Name_kw (thn ((pe_var (pos := p) hN hv hdb hcd).run pins s σ H (fun v H1 => v = .ref f ∧ H1 = H) I ⟨.ref f, e1, rfl, rfl⟩) fun u s1 ⟨v, H1, I1, rr, q1⟩ => ?_)
  obtain ⟨rfl, rfl⟩ := q1
  cases rr
  have hq : tA X.K T W g σ H1 (fun xs H2 => spOf X.K T S (xs ++ []) H2 Q (fun c d H' => W c d σ H')) :=
    ⟨ρ, st, m, _, PX, rs, rel, hf, fun vs st1 hv xs m1 H2 g1 rel1 rv1 => ⟨vs, st1, m1, P, PX, by rw [List.append_nil]; exact rv1, rel1, hv, fin.step g1, finx.step g1⟩, finx⟩
  exact PySem.W.callWith_K (h₀ := X.base) I1.ok.mod.kin h2 (thn (ha.run pos pins s1 σ H1 _ I1 hq) fun us s2 ⟨vs, H2, I2, r, q⟩ => ⟨I2.kIn, run_g F (hr.mono hkj) hgd h3 h4 tk I2 r q⟩) he hpl
end
end Sm
set_option Elab.async false
set_option linter.all false
set_option maxRecDepth 100000
set_option maxHeartbeats 1000000
namespace Sm
open PySem PySem.Spec PyProof.Rows L2

/-! ### names of the module's values -/
/-- a tuple of ints of the written part -/
def KTup (K : PySem.W.Frag) (mg : Str → Option Value) (x : Str) (l : List Int) : Prop := ∃ a o its n, mg x = some (.ref a) ∧ K.lookup a = some o ∧ o.cls = .type "tuple" ∧ o.data = .seq its n ∧ its.size ≤ sizeLine ∧ Vals (l.map V.int) its.toList
theorem rvs_ints {K : PySem.W.Frag} {m : List Addr} {H : Hp} : ∀ l : List Int, RVs K m H (l.map V.int) (l.map PV.int)
  | [] => .nil
  | i :: l => .cons (.int i) (rvs_ints l)
section
variable {X : Cx} {T : List (Addr × Str)} {W : WX} {p pos : Pos} {x : Str} {e : Expr} {es : List Expr} {g : SemA}
theorem w_gi {i : Int} (h : ∃ t, X.mg x = some (.int i t)) (hg : Gl X x := by rfl) (hd : (x == ("__debug__" : Str)) = false := by decide) : JE X T W (.Name x pos) (sC (.int i)) := by
  obtain ⟨t, h⟩ := h
  exact w_glob (y := .int i) hg h ⟨t, rfl⟩ (fun _ _ => .int i) hd
theorem w_gs {z : Str} (h : ∃ t, X.mg x = some (.str z t)) (hg : Gl X x := by rfl) (hd : (x == ("__debug__" : Str)) = false := by decide) : JE X T W (.Name x pos) (sC (.str z)) := by
  obtain ⟨t, h⟩ := h
  exact w_glob (y := .str z) hg h ⟨t, rfl⟩ (fun _ _ => .str z) hd
theorem w_gt' {l : List Int} (h : KTup X.K X.mg x l) (hg : Gl X x := by rfl) (hd : (x == ("__debug__" : Str)) = false := by decide) : JE X T W (.Name x pos) (sC (.tup (l.map .int))) := by
  obtain ⟨a, o, its, n, h1, h2, h3, h4, h5, h6⟩ := h
  exact w_glob (y := .ref a) hg h1 rfl (fun _ _ => .tup (.inr ⟨o, its, n, h2, h3, h4, h5, h6⟩) (rvs_ints l)) hd
end
/-- the names that stand for built-in things -/
def Fr (mg : Str → Option Value) (l : List Str) : Prop := ∀ x ∈ l, mg x = none
theorem bt_type : bootBuiltins "type" = some (.type "type") := by decide +kernel
theorem bt_int : bootBuiltins "int" = some (.type "int") := by decide +kernel
theorem bt_str : bootBuiltins "str" = some (.type "str") := by decide +kernel
theorem bt_tuple : bootBuiltins "tuple" = some (.type "tuple") := by decide +kernel
theorem bt_list : bootBuiltins "list" = some (.type "list") := by decide +kernel
theorem bt_bool : bootBuiltins "bool" = some (.type "bool") := by decide +kernel
theorem bt_len : bootBuiltins "len" = some (.builtin "len") := by decide +kernel
theorem bt_abs : bootBuiltins "abs" = some (.builtin "abs") := by decide +kernel
theorem bt_all : bootBuiltins "all" = some (.builtin "all") := by decide +kernel
theorem bt_any : bootBuiltins "any" = some (.builtin "any") := by decide +kernel
theorem bt_max : bootBuiltins "max" = some (.builtin "max") := by decide +kernel
theorem bt_min : bootBuiltins "min" = some (.builtin "min") := by decide +kernel
theorem bt_repr : bootBuiltins "repr" = some (.builtin "repr") := by decide +kernel
theorem bt_isinstance : bootBuiltins "isinstance" = some (.builtin "isinstance") := by decide +kernel
section
variable {X : Cx} {T : List (Addr × Str)} {W : WX} {p pos : Pos} {e : Expr} {es : List Expr} {g : SemA}
theorem c_len (hm : X.mg "len" = none) (ha : JA X T W (e :: es) g) (hg : Gl X "len" := by rfl) (he : starEach (e :: es) X.env = (false, eval e X.env) :: starEach es X.env := by rfl) (hpl : (backTo pos (starEach es X.env)).any (·.1) = false := by rfl) :
    JE X T W (.Call (.Name "len" p) (e :: es) [] pos) (sCB oLen g) := w_callB (CallR.or call_len_seq call_len_str) cs_len hg hm bt_len ha (by decide) (by decide) he hpl
theorem c_abs (hm : X.mg "abs" = none) (ha : JA X T W (e :: es) g) (hg : Gl X "abs" := by rfl) (he : starEach (e :: es) X.env = (false, eval e X.env) :: starEach es X.env := by rfl) (hpl : (backTo pos (starEach es X.env)).any (·.1) = false := by rfl) :
    JE X T W (.Call (.Name "abs" p) (e :: es) [] pos) (sCB oAbs g) := w_callB call_abs cs_abs hg hm bt_abs ha (by decide) (by decide) he hpl
theorem c_int (hm : X.mg "int" = none) (ha : JA X T W (e :: es) g) (hg : Gl X "int" := by rfl) (he : starEach (e :: es) X.env = (false, eval e X.env) :: starEach es X.env := by rfl) (hpl : (backTo pos (starEach es X.env)).any (·.1) = false := by rfl) :
    JE X T W (.Call (.Name "int" p) (e :: es) [] pos) (sCB oInt g) := w_callTy call_int1 cs_int hg hm bt_int ha (by decide) (by decide) he hpl
theorem c_type (hm : X.mg "type" = none) (ha : JA X T W (e :: es) g) (hg : Gl X "type" := by rfl) (he : starEach (e :: es) X.env = (false, eval e X.env) :: starEach es X.env := by rfl) (hpl : (backTo pos (starEach es X.env)).any (·.1) = false := by rfl) :
    JE X T W (.Call (.Name "type" p) (e :: es) [] pos) (sCB oType g) := w_callTy call_type1 cs_type hg hm bt_type ha (by decide) (by decide) he hpl
theorem c_tuple (hm : X.mg "tuple" = none) (ha : JA X T W (e :: es) g) (hg : Gl X "tuple" := by rfl) (he : starEach (e :: es) X.env = (false, eval e X.env) :: starEach es X.env := by rfl) (hpl : (backTo pos (starEach es X.env)).any (·.1) = false := by rfl) :
    JE X T W (.Call (.Name "tuple" p) (e :: es) [] pos) (sCB oTuple g) := w_callTy call_tuple_of cs_tuple hg hm bt_tuple ha (by decide) (by decide) he hpl
theorem c_str (hm : X.mg "str" = none) (ha : JA X T W (e :: es) g) (hg : Gl X "str" := by rfl) (he : starEach (e :: es) X.env = (false, eval e X.env) :: starEach es X.env := by rfl) (hpl : (backTo pos (starEach es X.env)).any (·.1) = false := by rfl) :
    JE X T W (.Call (.Name "str" p) (e :: es) [] pos) (sCB oStr g) := w_callTy call_str_int cs_str hg hm bt_str ha (by decide) (by decide) he hpl
theorem c_all (hc : X.calm = true) (hm : X.mg "all" = none) (ha : JA X T W (e :: es) g) (hg : Gl X "all" := by rfl) (he : starEach (e :: es) X.env = (false, eval e X.env) :: starEach es X.env := by rfl) (hpl : (backTo pos (starEach es X.env)).any (·.1) = false := by rfl) :
    JE X T W (.Call (.Name "all" p) (e :: es) [] pos) (sCB oAllH g) := w_callB (cr_all hc) cs_allH hg hm bt_all ha (by decide) (by decide) he hpl
theorem c_max (hc : X.calm = true) (hm : X.mg "max" = none) (ha : JA X T W (e :: es) g) (hg : Gl X "max" := by rfl) (he : starEach (e :: es) X.env = (false, eval e X.env) :: starEach es X.env := by rfl) (hpl : (backTo pos (starEach es X.env)).any (·.1) = false := by rfl) :
    JE X T W (.Call (.Name "max" p) (e :: es) [] pos) (sCB oMax g) := w_callB (call_max2 hc) cs_max hg hm bt_max ha (by decide) (by decide) he hpl
theorem c_min (hc : X.calm = true) (hm : X.mg "min" = none) (ha : JA X T W (e :: es) g) (hg : Gl X "min" := by rfl) (he : starEach (e :: es) X.env = (false, eval e X.env) :: starEach es X.env := by rfl) (hpl : (backTo pos (starEach es X.env)).any (·.1) = false := by rfl) :
    JE X T W (.Call (.Name "min" p) (e :: es) [] pos) (sCB oMin g) := w_callB (call_min2 hc) cs_min hg hm bt_min ha (by decide) (by decide) he hpl
theorem c_repr (hgu : X.A.guards = some []) (hu : X.A.units + 64 < cLine) (hm : X.mg "repr" = none) (ha : JA X T W (e :: es) g) (hg : Gl X "repr" := by rfl) (he : starEach (e :: es) X.env = (false, eval e X.env) :: starEach es X.env := by rfl) (hpl : (backTo pos (starEach es X.env)).any (·.1) = false := by rfl) :
    JE X T W (.Call (.Name "repr" p) (e :: es) [] pos) (sCB oRepr g) := w_callB (call_reprD hgu hu) cs_repr hg hm bt_repr ha (by decide) (by decide) he hpl
theorem c_isinstance (hm : X.mg "isinstance" = none) (ha : JA X T W (e :: es) g) (hg : Gl X "isinstance" := by rfl) (he : starEach (e :: es) X.env = (false, eval e X.env) :: starEach es X.env := by rfl) (hpl : (backTo pos (starEach es X.env)).any (·.1) = false := by rfl) :
    JE X T W (.Call (.Name "isinstance" p) (e :: es) [] pos) (sCB oIsTup g) := w_callB call_isi cs_isTup hg hm bt_isinstance ha (by decide) (by decide) he hpl
theorem c_gcd (hm : X.mg "gcd" = some (.builtin "math.gcd")) (ha : JA X T W (e :: es) g) (hg : Gl X "gcd" := by rfl) (he : starEach (e :: es) X.env = (false, eval e X.env) :: starEach es X.env := by rfl) (hpl : (backTo pos (starEach es X.env)).any (·.1) = false := by rfl) :
    JE X T W (.Call (.Name "gcd" p) (e :: es) [] pos) (sCB oGcd g) := w_callBf cr_gcd cs_gcd hg hm ha (by decide) he hpl
end
/-- an own error with one field, to be raised -/
def ExI (K : PySem.W.Frag) (mg : Str → Option Value) (x : Str) (f : String) : Prop := ∃ B newId initId bmB fI qi, SxO.ExT K B newId initId bmB (ad mg x) fI f qi ∧ SxO.FldOk f ∧ mg x = some (.ref (ad mg x))
section
variable {X : Cx} {T : List (Addr × Str)} {W : WX} {p pos pos2 : Pos} {a : Expr} {g : SemA} {x : Str} {f : String} {k : Nat}
theorem s_rz (hc : X.calm = true) (tk : Takes X W) (E : ExI X.K X.mg x f) (hr : Room k X.A) (ha : JA X T W [a] g) (hg : Gl X x := by rfl) (hdb : (x == ("__debug__" : Str)) = false := by decide)
    (he : starEach (a :: []) X.env = (false, eval a X.env) :: starEach [] X.env := by rfl) (hpl : (backTo pos (starEach [] X.env)).any (·.1) = false := by rfl) :
    JS X T W (.Raise (some (.Call (.Name x p) [a] [] pos)) none pos2) (sRaise (ad X.mg x) f g) := by
  obtain ⟨B, newId, initId, bmB, fI, qi, ET, FO, hm⟩ := E
  exact s_raise hc tk ET FO hr hm ha hg hdb he hpl
end
end Sm
set_option Elab.async false
set_option linter.all false
set_option maxRecDepth 100000
set_option maxHeartbeats 1000000
namespace Sm
open PySem PySem.Spec PyProof.Rows L2

/-! ### a def that makes lambdas -/
def lamQ (x : Str) (sc : Scope) : Str := (envOfC x sc 0 0 .none).qual ++ "<lambda>"
def FcL (K : PySem.W.Frag) (mg : Str → Option Value) (base : Heap) (T : List (Addr × Str)) (x : Str) (s : List Stmt × Arguments × Scope) : Prop :=
  ∃ f fd c Pt, FunD K x x s.2.1 s.1 s.2.2 [] [] f fd ∧ mg x = some (.ref f) ∧ fd.code = .ref c ∧ LamX.TabB base mg c Pt ∧ (Pt, lamQ x s.2.2) ∈ T ∧ ∀ p ∈ T, p.1 = Pt → p.2 = lamQ x s.2.2
section
variable {P : Program} {w : World} {K : PySem.W.Frag} {T : List (Addr × Str)} {mg : Str → Option Value} {base : Heap} {x : Str} {s : List Stmt × Arguments × Scope} {N ps : List Str} {gd : Bool} {k : Nat} {S : SpecF}
theorem g_ofL {qual : Str} {params : Arguments} {body : List Stmt} {scope : Scope} {dvs : List V} {kws : List (Str × V)} {f c : Addr} {fd : FuncData} (F : FunD K x qual params body scope dvs kws f fd) (hc : fd.code = .ref c) (Sc : FnScope N ps scope) (len : ∀ pvs st Q PX, S pvs st Q PX → pvs.length = ps.length)
    (hbody : ∀ (cdv : Value) (A : Around) (outer : List PySem.Env) (s : Shared) (H : Hp) (E : XK), cdv = .ref c → Room k (A.deeper (envOfC qual scope s.heap.objs.size f cdv)) → Gu gd (A.deeper (envOfC qual scope s.heap.objs.size f cdv)) →
      ∃ t : SemS, JSs (cxOf (L2.CX P w) P w K mg base N qual scope f cdv A outer s H E) T (fun cls d _ H' => E cls d H') body t ∧ ∀ pvs st Q PX, S pvs st Q PX → t (endOf Q PX) (ini N pvs) st) :
    FnG P w K T mg base gd (k + 1) f fd ps S := by
  obtain ⟨oc, od, dV, kV, doc, pm, an, cdv, ct, osl, rfl, lk, hcd, _, _⟩ := F.ex
  have hcv : cdv = .ref c := hc
  refine ⟨len, fun A outer s H args us vs Q E hr hgd e0 hb r hsp => ?_⟩
  obtain ⟨pvs, st, m, PQ, PX, rv, rel, hS, fin, finx⟩ := hsp
  have hl := len _ _ _ _ hS
  have hlv : vs.length = ps.length := rv.length.trans hl
  refine LamX.run_ofS (k := k) lk hcd Sc hr e0 hb r hlv fun hr2 => ?_
  obtain ⟨t, ht, hq⟩ := hbody cdv A outer s H E hcv hr2 hgd
  refine ⟨tS K T (fun cls d _ H' => E cls d H') t, ht, ?_⟩
  exact ⟨ini N pvs, st, m, _, rs_ini rv, rel, hq pvs st PQ PX hS, ⟨fun ρ st' p σ m' H' g r' _ => fin .non st' p .non m' H' g r' .non, fin, fun _ _ p => p.elim, fun _ _ p => p.elim, fun e ρ st' p cls d σ m' H' g r' _ ex => finx e st' p cls d m' H' g r' ex⟩⟩
theorem g_defL (F : FcL K mg base T x s) (Sc : FnScope N ps s.2.2) (bnd : ∀ (kV doc pm : Value) (an : Option Addr) (cdv ct : Value) (us : List Value), us.length = ps.length → bindArgs (PySem.W.fnOf x x s.2.1 s.1 s.2.2 .none kV doc pm an cdv ct) ⟨us, []⟩ = pure (ps.zip us))
    (len : ∀ pvs st Q PX, S pvs st Q PX → pvs.length = ps.length)
    (hbody : ∀ (f : Addr) (cdv : Value) (c Pt : Addr) (A : Around) (outer : List PySem.Env) (sh : Shared) (H : Hp) (E : XK), Room k (A.deeper (envOfC x s.2.2 sh.heap.objs.size f cdv)) → Gu gd (A.deeper (envOfC x s.2.2 sh.heap.objs.size f cdv)) →
      cdv = .ref c → LamX.TabB base mg c Pt → (Pt, lamQ x s.2.2) ∈ T → (∀ p ∈ T, p.1 = Pt → p.2 = lamQ x s.2.2) →
      ∃ t : SemS, JSs (cxOf (L2.CX P w) P w K mg base N x s.2.2 f cdv A outer sh H E) T (fun cls d _ H' => E cls d H') s.1 t ∧ ∀ pvs st Q PX, S pvs st Q PX → t (endOf Q PX) (ini N pvs) st) :
    Gd P w K T mg base gd (k + 1) x ps [] S := by
  obtain ⟨f, fd, c, Pt, F, hm, hc, TB, h1, h2⟩ := F
  exact ⟨f, fd, [], [], hm, F.kp, F.bindsN bnd, .nil, fun _ _ => .nil, g_ofL F hc Sc len fun cdv A outer sh H E he hr hg => hbody f cdv c Pt A outer sh H E hr hg he TB h1 h2⟩
end
theorem nm_own {X : Cx} {x : Str} {c : Addr} (h : X.mg x = some (.ref c)) (hg : Gl X x) (hd : (x == ("__debug__" : Str)) = false := by decide) : Names X x (.ref c) := ⟨hg, hd, .inl h⟩
/-- an own error whose one field is read behind 'as' -/
def XfI (K : PySem.W.Frag) (mg : Str → Option Value) (x n : Str) : Prop := XfC K (ad mg x) ∧ PySem.W.findIn K (.ref (ad mg x)) n = some none ∧ mg x = some (.ref (ad mg x))
end Sm
set_option Elab.async false
set_option linter.all false
set_option maxRecDepth 100000
set_option maxHeartbeats 1000000
namespace Sm
open PySem PySem.Spec PyProof.Rows L2 LamX

/-! ### the end: the law called with its script -/
section
variable {P : Program} {w : World} {K : PySem.W.Frag} {T : List (Addr × Str)} {mg mb : Str → Option Value} {k : Nat} {fa a : Addr} {fd : FuncData} {x : Str} {S : SpecF} {s₁ : Shared} {vs : List Value} {ns : List Int}
/-- the start: the script's list, the empty tables -/
def Hst (K : PySem.W.Frag) (tb : List Addr) (a : Addr) (o : Obj) (xs : List V) : Hp := fun b =>
  if b ∈ tb then some (.tbl #[])
  else if b = a then (if (K.lookup a).isNone then some (.frz o (.lst xs)) else none)
  else none
structure AtEnd (K : PySem.W.Frag) (T : List (Addr × Str)) (h : Heap) (mg : Str → Option Value) (cs : List (Addr × Addr)) : Prop where
  tab : ∀ p ∈ cs, h.get? p.2 = some { cls := .none, data := .fields #[] }
  out : ∀ p ∈ cs, K.lookup p.2 = none
  hd : ∀ p ∈ cs, PySem.W.CodeHd h p.1 p.2
  bm : ∃ (m : Addr) (ob : Obj), mg "__builtins__" = some (.ref m) ∧ m ≠ builtinsNs ∧
    h.get? m = some ob ∧ ob.cls = .type "module" ∧ ob.dict = some builtinsNs ∧ ob.data = .plain
  sub : ∀ q ∈ T, q.1 ∈ cs.map (·.2)
theorem law_g {cs : List (Addr × Addr)} (KX : K.In s₁.heap) (hns : s₁.heap.Ns mainGlobals mg) (hb : s₁.heap.Ns builtinsNs mb)
    (hbb : ∀ x : Str, x ≠ "__name__" → mb x = bootBuiltins x) (hlim : s₁.heap.NoLimit) (hg : s₁.gens = #[]) (Z : AtEnd K T s₁.heap mg cs)
    (ha : s₁.heap.get? a = some { cls := .type "list", data := .seq vs.toArray }) (hi : IntsAre vs ns)
    (hl : ns.length ≤ sizeLine) (hr : Room k callerA)
    (F : ∀ base : Heap, K.In base → base.Ns mainGlobals mg → (∀ p ∈ cs, TabB base mg p.1 p.2) → FnG P w K T mg base true k fa fd [x] S)
    (hbind : ∀ (s : Shared) (u : Value), BindsTo s fd ⟨[u], []⟩ [(x, u)])
    (hS : S [.lst (ns.map .int)] [] (fun v _ => v = .bl true) fun _ _ => False) :
    codeAny (model P w) callerA (.call (.ref fa) ⟨[.ref a], []⟩) (fun r s' => r = .ok (.ret (.bool true)) ∧ OldK s₁.heap s'.heap ∧ s'.os = s₁.os ∧ AllBare s'.gens) s₁ := by
  have rv := vals_ints hi
  have tbs : ∀ b ∈ cs.map (·.2), s₁.heap.get? b = some { cls := .none, data := .fields #[] } := by
    intro b hb
    obtain ⟨p, hp, rfl⟩ := List.mem_map.mp hb
    exact Z.tab p hp
  have na : a ∉ cs.map (·.2) := by
    intro z
    have q := tbs a z
    rw [ha] at q
    cases q
  let H : Hp := Hst K (cs.map (·.2)) a { cls := .type "list", data := .seq vs.toArray } (ns.map V.int)
  have Htb : ∀ b, b ∈ cs.map (·.2) → H b = some (.tbl #[]) := fun b hb => if_pos hb
  have Ha : H a = if (K.lookup a).isNone then some (.frz { cls := .type "list", data := .seq vs.toArray } (.lst (ns.map V.int))) else none := by
    show (if a ∈ cs.map (·.2) then _ else _) = _
    rw [if_neg na, if_pos rfl]
  have Hno : ∀ b, b ∉ cs.map (·.2) → b ≠ a → H b = none := by
    intro b h1 h2
    show (if b ∈ cs.map (·.2) then _ else _) = _
    rw [if_neg h1, if_neg h2]
  have hok : HOk P w H s₁.heap := by
    intro b u hu
    by_cases h1 : b ∈ cs.map (·.2)
    · rw [Htb b h1] at hu
      cases hu
      exact tbs b h1
    · by_cases h2 : b = a
      · subst h2
        rw [Ha] at hu
        split at hu
        · cases hu
          exact ⟨ha, by rw [List.length_map]; exact hl, vs, _, rv, ha⟩
        · cases hu
      · rw [Hno b h1 h2] at hu
        cases hu
  have keepK : ∀ b o, K.lookup b = some o → H b = none := by
    intro b o e
    by_cases h1 : b ∈ cs.map (·.2)
    · obtain ⟨p, hp, rfl⟩ := List.mem_map.mp h1
      rw [Z.out p hp] at e
      cases e
    · by_cases h2 : b = a
      · subst h2
        rw [Ha, e]
        rfl
      · exact Hno b h1 h2
  have hid : ∀ {b o}, s₁.heap.get? b = some o → (∀ us n, o.data ≠ .seq us n) → o.data ≠ .fields #[] → (hidT s₁.heap H).get? b = some o := by
    intro b o e h1 h2
    refine hidT_get e ?_
    by_cases h3 : b ∈ cs.map (·.2)
    · rw [tbs b h3] at e
      cases e
      exact absurd rfl h2
    · by_cases h4 : b = a
      · subst h4
        rw [ha] at e
        cases e
        exact absurd rfl (h1 _ _)
      · exact Hno b h3 h4
  have nsH : ∀ {b : Addr} {m : Str → Option Value}, s₁.heap.Ns b m → (hidT s₁.heap H).Ns b m := by
    rintro b m ⟨o, es, ep, e, d, r⟩
    exact ⟨o, es, ep, hid e (by rw [d]; nofun) (by rw [d]; nofun), d, r⟩
  have KH : K.In (hidT s₁.heap H) := fun b o e => hidT_get (KX b o e) (keepK b o e)
  have TB : ∀ p ∈ cs, TabB (hidT s₁.heap H) mg p.1 p.2 := by
    intro p hp
    have hp2 := Z.tab p hp
    refine ⟨?_, ?_, ?_⟩
    · obtain ⟨o, us, f1, t1, f2, t2, i1, tx, tt, e1, r1, r2, r3, rest⟩ := Z.hd p hp
      refine ⟨o, us, f1, t1, f2, t2, i1, tx, tt, hid e1 (by rw [r2]; nofun) ?_, r1, r2, r3, rest⟩
      rw [r2]
      intro z
      cases z
      simp at r3
    · obtain ⟨m, ob, b1, b2, b3, b4, b5, b6⟩ := Z.bm
      refine ⟨m, ob, b1, b2, ?_, ?_, hid b3 (by rw [b6]; nofun) (by rw [b6]; nofun), b4, b5, b6⟩
      · rintro rfl
        obtain ⟨o, es, ep, e, d, _⟩ := hns
        rw [b3] at e
        cases e
        rw [b6] at d
        cases d
      · rintro rfl
        rw [hp2] at b3
        cases b3
        cases b6
    · intro z
      obtain ⟨o, es, ep, e, d, _⟩ := hns
      rw [z, hp2] at e
      cases e
      cases d
  have hM : L2.Mod K mg (hidT s₁.heap H) := ⟨KH, nsH hns, ⟨mb, nsH hb, hbb⟩, by
    obtain ⟨mc, h1, h2⟩ := hlim
    exact ⟨mc, nsH h1, h2⟩⟩
  have e0 : Env0 P w K mg (hidT s₁.heap H) callerA [] s₁ H :=
    ⟨rfl, hM, fun b o e => of_hidT e, Nat.le_of_eq (hidT_size _ _), trivial, fun b hb => (List.not_mem_nil hb).elim, hok, .of_eq hg⟩
  have rel : Rel K T [] [] H := ⟨rfl, .nil, fun n b o h => by simp at h, fun q hq => TabS.nil (Htb _ (Z.sub q hq))⟩
  have hls : LsR K [] H a (ns.map V.int) := by
    cases hk : K.lookup a with
    | some o =>
      have e := KX a o hk
      rw [ha] at e
      cases e
      exact .inr ⟨_, vs.toArray, _, hk, rfl, rfl, rfl, by rw [List.size_toArray, hi.length]; exact hl, by simpa using rv⟩
    | none =>
      refine .inl ⟨.inr ⟨{ cls := .type "list", data := .seq vs.toArray }, ?_⟩, List.not_mem_nil⟩
      rw [Ha, hk]
      rfl
  have sp : spOf K T S [.ref a] H (fun v _ => v = .bl true) fun _ _ _ => False :=
    ⟨_, [], [], _, _, .cons (.lst hls (rvs_ints ns)) .nil, rel, hS, fun v st' hv y m' H' _ _ ry => by subst hv; cases ry; rfl, fun _ _ p => p.elim⟩
  refine codeAny_mono ((F _ KH (nsH hns) TB).run callerA [] s₁ H ⟨[.ref a], []⟩ [.ref a] [.ref a] _ _ hr (fun _ => rfl) e0 (hbind s₁ (.ref a)) (.cons rfl .nil) sp) ?_
  intro r s' hrs
  cases r with
  | error e =>
    obtain ⟨_, _, _, _, _, _, _, _, _, _, _, _, bad⟩ := hrs
    exact bad.elim
  | ok fl =>
    cases fl with
    | next => exact False.elim hrs
    | brk => exact False.elim hrs
    | cont => exact False.elim hrs
    | ret u =>
      obtain ⟨v, H', os, bare, un, hok', rr, q⟩ := hrs
      have q' : v = .bl true := q
      subst q'
      obtain rfl : u = Value.bool true := rr
      have same : ∀ b o, b ∉ cs.map (·.2) → s₁.heap.get? b = some o → s'.heap.get? b = some o := by
        intro b o nb e
        by_cases h2 : b = a
        · subst h2
          have hA := Ha
          split at hA
          · have z2 := un.frzs b _ _ hA
            obtain ⟨g1, _⟩ := hok b _ hA
            obtain ⟨g2, _⟩ := hok' b _ z2
            rw [e] at g1
            cases g1
            exact g2
          · exact un.keep b o e hA (fun z => (List.not_mem_nil z).elim) (by simp)
        · exact un.keep b o e (Hno b nb h2) (fun z => (List.not_mem_nil z).elim) (by simp)
      have more : ∀ p ∈ cs, ∃ m : Array Value, s'.heap.get? p.2 = some { cls := .none, data := .fields m } := by
        intro p hp
        obtain ⟨m, z⟩ := un.tbls p.2 #[] (Htb _ (List.mem_map.mpr ⟨p, hp, rfl⟩))
        exact ⟨_, hok' p.2 _ z⟩
      refine ⟨rfl, ⟨fun b o e => ?_, fun b o e => ?_⟩, os, bare⟩
      · by_cases h1 : b ∈ cs.map (·.2)
        · obtain ⟨p, hp, rfl⟩ := List.mem_map.mp h1
          obtain ⟨m, hm⟩ := more p hp
          rw [Z.tab p hp] at e
          cases e
          exact .inr (.inl ⟨((Z.hd p hp).tab (Z.tab p hp)).isCodeTable, rfl, #[], m, rfl, by rw [Array.empty_append]; exact hm⟩)
        · exact .inl (same b o h1 e)
      · by_cases h1 : b ∈ cs.map (·.2)
        · obtain ⟨p, hp, rfl⟩ := List.mem_map.mp h1
          obtain ⟨m, hm⟩ := more p hp
          exact ⟨_, hm⟩
        · exact ⟨o, same b o h1 e⟩
end
end Sm
set_option Elab.async false
set_option linter.all false
set_option maxRecDepth 100000
set_option maxHeartbeats 1000000
namespace Sm
open PySem PySem.Spec PyProof.Rows L2 PySem.W

/-! ### what the head is asked besides: own errors, tuples of ints, a built-in's name -/
def kwN : Value → Bool
  | .none => true
  | _ => false
def exB (K : Frag) (x : Str) (bmB : List Value) (newId : String) (f : Str) : Bool :=
  let C := He.ga K x
  let i := He.ma K C "__init__"
  excInitIn K C bmB newId && hasDictIn K C
    && He.eqO (findIn K (.ref C) "__setattr__") (some (some (.builtin "object.__setattr__")))
    && He.eqO (findIn K (.ref C) "__getattribute__") (some (some (.builtin "BaseException.__getattribute__")))
    && He.eqO (findIn K (.ref C) "__getattr__") (some none)
    && He.eqO (findIn K (.ref C) f) (some none)
    && He.eqO (findIn K (.ref C) "__init__") (some (some (.ref i)))
    && decide (typeIn K (.ref i) = some (.type "function"))
    && keepIn K (.ref C)
    && decide (subIn K (.ref C) (.type "BaseException") = some true)
    && decide (typeIn K (.ref C) = some (.type "type"))
    && (match K.lookup i with
      | some ⟨_, _, .func fd, _⟩ => kwN fd.kwdefaults
      | _ => false)
def intsV : List Value → List Int → Bool
  | [], [] => true
  | .int j _ :: r, i :: l => decide (j = i) && intsV r l
  | _, _ => false
def ktB (K : Frag) (x : Str) (l : List Int) : Bool := match K.lookup (He.ga K x) with
  | some o => (match o.data with
    | .seq its _ => decide (o.cls = .type "tuple") && decide (its.size ≤ 100) && intsV its.toList l
    | _ => false)
  | none => false
theorem intsV_ok : ∀ {vs : List Value} {l : List Int}, intsV vs l = true → Vals (l.map V.int) vs
  | [], [], _ => .nil
  | v :: r, i :: l, h => by
    cases v <;> first | cases h | skip
    rename_i j t
    obtain ⟨h1, h2⟩ := Bool.and_eq_true_iff.mp (show (decide (j = i) && intsV r l) = true from h)
    have e := of_decide_eq_true h1
    subst e
    exact .cons ⟨t, rfl⟩ (intsV_ok h2)
  | [], _ :: _, h => by cases h
  | v :: r, [], h => by cases v <;> cases h
theorem ktB_ok {K : Frag} {mg : Str → Option Value} {x : Str} {l : List Int} (hm : mg x = some (.ref (He.ga K x))) (h : ktB K x l = true) : KTup K mg x l := by
  unfold ktB at h
  split at h
  · rename_i o ho
    split at h
    · rename_i its n hd
      obtain ⟨h1, h2⟩ := Bool.and_eq_true_iff.mp h
      obtain ⟨h3, h4⟩ := Bool.and_eq_true_iff.mp h1
      exact ⟨_, o, its, n, hm, ho, of_decide_eq_true h3, hd, Nat.le_trans (of_decide_eq_true h4) (by decide), intsV_ok h2⟩
    · cases h
  · cases h
theorem cls_of {K : Frag} {C : Addr} {bmB : List Value} {newId : String} (q : excInitIn K C bmB newId = true) (hd : hasDictIn K C = true) :
    ∃ nm qn N bs bm sn sub ab col dd k0 k1 k2 k3 k5, K.lookup C = some (excClassObj nm qn C N bs bm true sn sub ab col dd k0 k1 k2 k3 k5 newId) ∧ excTail bmB bm = true := by
  unfold excInitIn at q
  split at q
  · rename_i dd cd sl ho
    split at q
    · rename_i D bm k0 k1 k2 k3 m k5 hm hs
      simp only [Bool.and_eq_true, beq_iff_eq, Bool.not_eq_true'] at q
      obtain ⟨⟨⟨rfl, rfl⟩, hdel⟩, ht⟩ := q
      obtain ⟨nm, bs, mro, N, qn, hh, sn, sub, ab, col, del⟩ := cd
      dsimp only at hm hdel
      subst hm hdel
      have hh' : hh = true := by
        unfold hasDictIn clsIn at hd
        rw [ho] at hd
        exact hd
      subst hh'
      have es : sl = #[k0, k1, k2, k3, some (.builtin m), k5] := by
        obtain ⟨sl⟩ := sl
        simp only at hs
        rw [hs]
      subst es
      exact ⟨nm, qn, N, bs, bm, sn, sub, ab, col, dd, k0, k1, k2, k3, k5, ho, ht⟩
    · cases q
  · cases q
theorem ad_ga {K : Frag} {mg : Str → Option Value} {x : Str} (hm : mg x = some (.ref (He.ga K x))) : ad mg x = He.ga K x := by
  unfold ad
  rw [hm]
theorem exI_of {K : Frag} {mg : Str → Option Value} {x : Str} {B newId initId : String} {bmB : List Value} {f qi : String} {p1 p2 q1 q2 q3 q4 : Pos} {fd : FuncData} (FB : ExcBaseFacts B newId initId bmB) (SF : StoreFacts B bmB "object.__setattr__" "object") (FO : SxO.FldOk f)
    (hm : mg x = some (.ref (He.ga K x))) (h : exB K x bmB newId f = true)
    (F : FunD K "__init__" qi (SxO.xArgs f p1 p2) (SxO.xBody f q1 q2 q3 q4) (SxO.xScope f) [] [] (He.ma K (He.ga K x) "__init__") fd) : ExI K mg x f := by
  unfold exB at h
  simp only [Bool.and_eq_true] at h
  obtain ⟨⟨⟨⟨⟨⟨⟨⟨⟨⟨⟨h1, h2⟩, h3⟩, h4⟩, h5⟩, h6⟩, h7⟩, h8⟩, h9⟩, h10⟩, h11⟩, h12⟩ := h
  refine ⟨B, newId, initId, bmB, He.ma K (He.ga K x) "__init__", qi, ?_, FO, by rw [ad_ga hm]; exact hm⟩
  rw [ad_ga hm]
  refine ⟨FB, SF, cls_of h1 h2, He.eqO_ok h3, He.eqO_ok h4, He.eqO_ok h5, He.eqO_ok h6, He.eqO_ok h7, of_decide_eq_true h8, h9, of_decide_eq_true h10, of_decide_eq_true h11, h2, ?_⟩
  obtain ⟨oc, od, dV, kV, doc, pm, an, cdv, ct, osl, rfl, lk, hcd, hD, _⟩ := F.ex
  rw [lk] at h12
  have ek : kV = .none := by
    have z : kwN kV = true := h12
    cases kV <;> first | rfl | cases z
  subst ek
  rcases hD with ⟨_, rfl⟩ | ⟨e, _⟩
  · exact ⟨oc, od, doc, pm, an, cdv, ct, osl, p1, p2, q1, q2, q3, q4, lk, hcd⟩
  · exact absurd rfl e
end Sm
set_option Elab.async false
set_option linter.all false
set_option maxRecDepth 100000
set_option maxHeartbeats 1000000
/-! Fractions in lowest terms. -/
namespace Wm
def low (a b : Int) : Int × Int :=
  let s : Int := if b < 0 then -(Int.gcd a b : Int) else (Int.gcd a b : Int)
  (a.fdiv s, b.fdiv s)
structure LowIs (a b p q : Int) : Prop where
  pos : 0 < q
  cop : Int.gcd p q = 1
  sc : ∃ s : Int, s ≠ 0 ∧ a = p * s ∧ b = q * s
  eq : low a b = (p, q)
theorem mul_fdiv {p s : Int} (h : s ≠ 0) : (p * s).fdiv s = p := Int.mul_fdiv_cancel p h
theorem low_is (a : Int) {b : Int} (hb : b ≠ 0) : LowIs a b (low a b).1 (low a b).2 := by
  have hg : 0 < Int.gcd a b := Int.gcd_pos_of_ne_zero_right a hb
  have hc := Int.gcd_ediv_gcd_ediv_gcd hg
  obtain ⟨p, hp⟩ := Int.gcd_dvd_left a b
  obtain ⟨q, hq⟩ := Int.gcd_dvd_right a b
  have g0 : ((Int.gcd a b : Nat) : Int) ≠ 0 := by omega
  generalize hG : ((Int.gcd a b : Nat) : Int) = g at *
  have ep : a / g = p := by rw [hp]; exact Int.mul_ediv_cancel_left p g0
  have eq' : b / g = q := by rw [hq]; exact Int.mul_ediv_cancel_left q g0
  rw [ep, eq'] at hc
  have gpos : 0 < g := by omega
  by_cases hneg : b < 0
  · have e : low a b = (-p, -q) := by
      unfold low
      simp only [hG, hneg, if_true]
      have e1 : a = (-p) * (-g) := by rw [hp]; grind
      have e2 : b = (-q) * (-g) := by rw [hq]; grind
      rw [show a.fdiv (-g) = -p by rw [e1]; exact mul_fdiv (by omega), show b.fdiv (-g) = -q by rw [e2]; exact mul_fdiv (by omega)]
    rw [e]
    refine ⟨?_, by simpa using hc, ⟨-g, by omega, by grind, by grind⟩, e⟩
    show 0 < -q
    have : g * q < 0 := by omega
    have : q < 0 := by
      rcases Int.lt_or_le q 0 with h | h
      · exact h
      · have := Int.mul_nonneg (Int.le_of_lt gpos) h
        omega
    omega
  · have e : low a b = (p, q) := by
      unfold low
      simp only [hG, hneg, if_false]
      rw [show a.fdiv g = p by rw [hp, Int.mul_comm]; exact mul_fdiv g0, show b.fdiv g = q by rw [hq, Int.mul_comm]; exact mul_fdiv g0]
    rw [e]
    refine ⟨?_, hc, ⟨g, g0, by grind, by grind⟩, e⟩
    show 0 < q
    have h1 : 0 < g * q := by omega
    rcases Int.lt_or_le 0 q with h | h
    · exact h
    · have := Int.mul_nonneg (Int.le_of_lt gpos) (show 0 ≤ -q by omega)
      have e3 : g * -q = -(g * q) := by grind
      omega
theorem dvd_cop {q p r : Int} (c : Int.gcd q p = 1) (h : q ∣ p * r) : q ∣ r := by
  have e := Int.gcd_mul_right_right_of_gcd_eq_one (k := r) c
  have h1 : q ∣ ((Int.gcd q (p * r) : Nat) : Int) := Int.dvd_coe_gcd (Int.dvd_refl q) h
  rw [e] at h1
  exact Int.dvd_trans h1 (Int.gcd_dvd_right q r)
theorem uniq {p q p' q' : Int} (h : 0 < q) (h' : 0 < q') (c : Int.gcd p q = 1) (c' : Int.gcd p' q' = 1) (e : p * q' = p' * q) : p = p' ∧ q = q' := by
  have d1 : q ∣ q' := dvd_cop (p := p) (by rw [Int.gcd_comm]; exact c) (by rw [e]; exact Int.dvd_mul_left ..)
  have d2 : q' ∣ q := dvd_cop (p := p') (by rw [Int.gcd_comm]; exact c') (by rw [← e]; exact Int.dvd_mul_left ..)
  have eq : q = q' := Int.le_antisymm (Int.le_of_dvd h' d1) (Int.le_of_dvd h d2)
  subst eq
  exact ⟨Int.eq_of_mul_eq_mul_right (by omega) e, rfl⟩
/-- what is told of a fraction by its cross product -/
theorem low_eq {a b p q : Int} (hb : b ≠ 0) (hq : 0 < q) (c : Int.gcd p q = 1) (e : a * q = p * b) : low a b = (p, q) := by
  have L := low_is a hb
  obtain ⟨s, s0, ea, eb⟩ := L.sc
  have key : (low a b).1 * q = p * (low a b).2 := by
    have : ((low a b).1 * q) * s = (p * (low a b).2) * s := by grind
    exact Int.eq_of_mul_eq_mul_right s0 this
  obtain ⟨h1, h2⟩ := uniq L.pos hq L.cop c key
  exact Prod.ext h1 h2
/-- two fractions that are equal by the cross product have one lowest form -/
theorem low_congr {a b c d : Int} (hb : b ≠ 0) (hd : d ≠ 0) (e : a * d = c * b) : low a b = low c d := by
  have L := low_is c hd
  obtain ⟨s, s0, ec, ed⟩ := L.sc
  refine low_eq hb L.pos L.cop ?_
  have : (a * (low c d).2) * s = ((low c d).1 * b) * s := by grind
  exact Int.eq_of_mul_eq_mul_right s0 this
theorem low_self {p q : Int} (hq : 0 < q) (c : Int.gcd p q = 1) : low p q = (p, q) := low_eq (by omega) hq c rfl
/-- a worth -/
abbrev Wo := Option (Int × Int)
structure Fr (x : Int × Int) : Prop where
  pos : 0 < x.2
  cop : Int.gcd x.1 x.2 = 1
def FrO : Wo → Prop
  | none => True
  | some x => Fr x
def addW : Wo → Wo → Wo
  | none, y => y
  | x, none => x
  | some (a, b), some (c, d) => some (low (a * d + c * b) (b * d))
def mulW : Wo → Wo → Wo
  | some (a, b), some (c, d) => some (low (a * c) (b * d))
  | _, _ => none
def negW : Wo → Wo
  | some (a, b) => some (-a, b)
  | none => none
def divW : Wo → Wo → Wo
  | some (a, b), some (c, d) => some (low (a * d) (b * c))
  | _, _ => none
theorem Fr.ne {x : Int × Int} (h : Fr x) : x.2 ≠ 0 := by have := h.pos; omega
theorem fr_low (a : Int) {b : Int} (hb : b ≠ 0) : Fr (low a b) := ⟨(low_is a hb).pos, (low_is a hb).cop⟩
theorem fr_add {x y : Wo} (hx : FrO x) (hy : FrO y) : FrO (addW x y) := by
  cases x with
  | none => exact hy
  | some x =>
    cases y with
    | none => exact hx
    | some y => exact fr_low _ (Int.mul_ne_zero (Fr.ne hx) (Fr.ne hy))
theorem fr_mul {x y : Wo} (hx : FrO x) (hy : FrO y) : FrO (mulW x y) := by
  cases x with
  | none => trivial
  | some x =>
    cases y with
    | none => trivial
    | some y => exact fr_low _ (Int.mul_ne_zero (Fr.ne hx) (Fr.ne hy))
theorem fr_neg {x : Wo} (hx : FrO x) : FrO (negW x) := by
  cases x with
  | none => trivial
  | some x => exact ⟨hx.pos, by show Int.gcd (-x.1) x.2 = 1; rw [Int.neg_gcd]; exact hx.cop⟩
theorem fr_div {x y : Wo} (hx : FrO x) (hy : FrO y) (h0 : ∀ c d, y = some (c, d) → c ≠ 0) : FrO (divW x y) := by
  cases x with
  | none => trivial
  | some x =>
    cases y with
    | none => trivial
    | some y => exact fr_low _ (Int.mul_ne_zero (Fr.ne hx) (h0 _ _ rfl))
/-- same bottoms -/
theorem add_same {a c b : Int} (hb : b ≠ 0) : low (a * b + c * b) (b * b) = low (a + c) b := low_congr (Int.mul_ne_zero hb hb) hb (by grind)
theorem low_one (a : Int) : low a 1 = (a, 1) := low_self (by omega) (by simp)
/-- (x + y) - y -/
def backW : Wo → Wo → Wo
  | none, none => none
  | none, some _ => some (0, 1)
  | some x, _ => some x
theorem add_sub {x y : Wo} (hx : FrO x) (hy : FrO y) : addW (addW x y) (negW y) = backW x y := by
  cases x with
  | none =>
    cases y with
    | none => rfl
    | some y =>
      obtain ⟨c, d⟩ := y
      show some (low (c * d + -c * d) (d * d)) = some (0, 1)
      have hd : d ≠ 0 := Fr.ne hy
      rw [show c * d + -c * d = 0 by grind, low_eq (p := 0) (q := 1) (Int.mul_ne_zero hd hd) (by omega) (by simp) (by simp)]
  | some x =>
    cases y with
    | none => rfl
    | some y =>
      obtain ⟨a, b⟩ := x
      obtain ⟨c, d⟩ := y
      have hb : b ≠ 0 := Fr.ne hx
      have hd : d ≠ 0 := Fr.ne hy
      have hL := low_is (a * d + c * b) (b := b * d) (Int.mul_ne_zero hb hd)
      show some (low ((low (a * d + c * b) (b * d)).1 * d + -c * (low (a * d + c * b) (b * d)).2) ((low (a * d + c * b) (b * d)).2 * d)) = some (a, b)
      obtain ⟨s, s0, e1, e2⟩ := hL.sc
      have hq := hL.pos
      generalize (low (a * d + c * b) (b * d)).1 = p at *
      generalize (low (a * d + c * b) (b * d)).2 = q at *
      refine congrArg some (low_eq (Int.mul_ne_zero (by omega) hd) hx.pos hx.cop ?_)
      have : ((p * d + -c * q) * b) * s = (a * (q * d)) * s := by grind
      exact Int.eq_of_mul_eq_mul_right s0 this
/-- (x / y) * y -/
theorem div_mul {a b c d : Int} (hx : Fr (a, b)) (hy : Fr (c, d)) (hc : c ≠ 0) : mulW (divW (some (a, b)) (some (c, d))) (some (c, d)) = some (a, b) := by
  have hb : b ≠ 0 := hx.ne
  have hd : d ≠ 0 := hy.ne
  have hL := low_is (a * d) (b := b * c) (Int.mul_ne_zero hb hc)
  show some (low ((low (a * d) (b * c)).1 * c) ((low (a * d) (b * c)).2 * d)) = some (a, b)
  obtain ⟨s, s0, e1, e2⟩ := hL.sc
  have hq := hL.pos
  generalize (low (a * d) (b * c)).1 = p at *
  generalize (low (a * d) (b * c)).2 = q at *
  refine congrArg some (low_eq (Int.mul_ne_zero (by omega) hd) hx.pos hx.cop ?_)
  have : ((p * c) * b) * s = (a * (q * d)) * s := by grind
  exact Int.eq_of_mul_eq_mul_right s0 this
end Wm
set_option Elab.async false
set_option linter.all false
set_option maxRecDepth 100000
set_option maxHeartbeats 1000000
/-! Sizes, powers of ten, Euclid. -/
namespace Wm
open PySem PySem.Spec PyProof.Rows L2 Sm
def B (n : Nat) (i : Int) : Prop := i.natAbs < 2 ^ n
theorem B.mono {m n : Nat} {i : Int} (h : B m i) (hm : m ≤ n) : B n i := Nat.lt_of_lt_of_le h (Nat.pow_le_pow_right (by decide) hm)
theorem B.mul {m n : Nat} {i j : Int} (h : B m i) (h' : B n j) : B (m + n) (i * j) := by
  unfold B at *
  rw [Int.natAbs_mul, Nat.pow_add]
  exact Nat.mul_lt_mul'' h h'
theorem B.add {n : Nat} {i j : Int} (h : B n i) (h' : B n j) : B (n + 1) (i + j) := by
  unfold B at *
  have := Int.natAbs_add_le i j
  rw [Nat.pow_succ]
  omega
theorem B.neg {n : Nat} {i : Int} (h : B n i) : B n (-i) := by
  unfold B at *
  rw [Int.natAbs_neg]
  exact h
theorem bits_le {n : Nat} {i : Int} (h : B n i) : Builtin.Int.intBits i ≤ n := by
  unfold Builtin.Int.intBits
  split
  · exact Nat.zero_le _
  · rename_i hz
    have h0 : i.natAbs ≠ 0 := by
      have : ¬ i = 0 := by simpa using hz
      omega
    exact (Nat.log2_lt h0).mpr h
theorem cmul {m n : Nat} {i j : Int} (h : B m i) (h' : B n j) (hs : m + n ≤ 134217728) : CMulX i j := by
  have h1 := bits_le h
  have h2 := bits_le h'
  unfold CMulX
  omega
theorem bits_lo {i : Int} (h : i ≠ 0) : 2 ^ (Builtin.Int.intBits i - 1) ≤ i.natAbs := by
  have h0 : i.natAbs ≠ 0 := by omega
  have e : Builtin.Int.intBits i = i.natAbs.log2 + 1 := by
    unfold Builtin.Int.intBits
    simp [h]
  rw [e, Nat.add_sub_cancel]
  exact Nat.log2_self_le h0
theorem bits_hi (i : Int) : i.natAbs < 2 ^ Builtin.Int.intBits i := by
  by_cases h : i = 0
  · subst h
    exact Nat.two_pow_pos _
  · have e : Builtin.Int.intBits i = i.natAbs.log2 + 1 := by
      unfold Builtin.Int.intBits
      simp [h]
    rw [e]
    exact Nat.lt_log2_self
theorem cdiv {i j : Int} (h : B 13500 i) (hj : j ≠ 0) : CDivG i j := by
  refine ⟨hj, ?_⟩
  unfold Builtin.divisionGoesByPylong
  by_cases hi : i = 0
  · subst hi
    simp
  · have hl : i.natAbs.log2 < 13500 := (Nat.log2_lt (by omega)).mpr h
    simp only [Bool.and_eq_false_iff, decide_eq_false_iff_not]
    have e1 : (i == 0) = false := by simpa using hi
    have e2 : (j == 0) = false := by simpa using hj
    simp only [e1, e2, Bool.false_eq_true, ↓reduceIte]
    omega
theorem b_low {n m : Nat} {a b : Int} (hb : b ≠ 0) (ha : B n a) (hb' : B m b) : B n (low a b).1 ∧ B m (low a b).2 := by
  obtain ⟨s, s0, e1, e2⟩ := (low_is a hb).sc
  unfold B at *
  generalize (low a b).1 = p at *
  generalize (low a b).2 = q at *
  have hs : 1 ≤ s.natAbs := by omega
  rw [e1, Int.natAbs_mul] at ha
  rw [e2, Int.natAbs_mul] at hb'
  have h1 := Nat.le_mul_of_pos_right p.natAbs hs
  have h2 := Nat.le_mul_of_pos_right q.natAbs hs
  omega
/-! ### powers of ten by bits -/
theorem p1 : (2 : Nat) ^ 3321 ≤ 10 ^ 1000 := by decide +kernel
theorem p2 : (10 : Nat) ^ 1000 ≤ 2 ^ 3322 := by decide +kernel
theorem le_of_pow {a b : Nat} (h : a ^ 1000 ≤ b ^ 1000) : a ≤ b := by
  rcases Nat.lt_or_ge b a with q | q
  · have := Nat.pow_lt_pow_left q (show (1000 : Nat) ≠ 0 by decide)
    omega
  · exact q
theorem few_bits {n : Int} {m : Nat} (h : Builtin.Int.intBits n * 1000 ≤ m * 3321) : n.natAbs < 10 ^ m := by
  refine Nat.lt_of_lt_of_le (bits_hi n) (le_of_pow ?_)
  rw [← Nat.pow_mul, ← Nat.pow_mul, Nat.mul_comm m 1000, Nat.pow_mul 10 1000 m]
  refine Nat.le_trans (Nat.pow_le_pow_right (by decide) h) ?_
  rw [Nat.mul_comm m 3321, Nat.pow_mul]
  exact Nat.pow_le_pow_left p1 m
theorem many_bits {n : Int} {m : Nat} (h : m * 3322 ≤ (Builtin.Int.intBits n - 1) * 1000) (h0 : n ≠ 0) : 10 ^ m ≤ n.natAbs := by
  refine Nat.le_trans (le_of_pow ?_) (bits_lo h0)
  rw [← Nat.pow_mul, ← Nat.pow_mul, Nat.mul_comm m 1000, Nat.pow_mul 10 1000 m]
  refine Nat.le_trans (Nat.pow_le_pow_left p2 m) ?_
  rw [← Nat.pow_mul, Nat.mul_comm 3322 m]
  exact Nat.pow_le_pow_right (by decide) h
theorem b_ten (m : Nat) : B (4 * m + 1) ((10 ^ m : Nat) : Int) := by
  unfold B
  rw [Int.natAbs_natCast, Nat.pow_succ, Nat.pow_mul]
  have h1 : (10 : Nat) ^ m ≤ (2 ^ 4) ^ m := Nat.pow_le_pow_left (by decide) m
  have h2 : 0 < ((2 : Nat) ^ 4) ^ m := Nat.pow_pos (by decide)
  omega
/-! ### Euclid -/
theorem gcd_step (a b : Nat) : Nat.gcd a b = Nat.gcd b (a % b) := by
  rw [Nat.gcd_comm a b, Nat.gcd_rec b a, Nat.gcd_comm]
end Wm
set_option Elab.async false
set_option linter.all false
set_option maxRecDepth 100000
set_option maxHeartbeats 1000000
/-! Worths as values; == of them. -/
namespace Wm
open PySem PySem.Spec PyProof.Rows L2 Sm
def enc : Wo → PV
  | none => .non
  | some (a, b) => .tup [.int a, .int b]
def encD : Wo → PyData
  | none => .none
  | some (a, b) => .tuple [.int a, .int b]
theorem dat_enc (st : Store) : ∀ x : Wo, dat st (enc x) = some (encD x)
  | none => rfl
  | some (a, b) => rfl
theorem shaped_int (i : Int) : SeqAt.shaped (.int i) = true := by rfl
theorem shaped_enc : ∀ x : Wo, SeqAt.shaped (encD x) = true
  | none => rfl
  | some (a, b) => by rfl
theorem eqv_int (i j : Int) : PyData.eqv (.int i) (.int j) = decide (i = j) := by
  unfold PyData.eqv
  rfl
theorem eqv_enc (x y : Wo) : PyData.eqv (encD x) (encD y) = decide (x = y) := by
  cases x with
  | none =>
    cases y with
    | none => unfold encD PyData.eqv; rfl
    | some y =>
      unfold encD PyData.eqv
      simp
  | some x =>
    cases y with
    | none =>
      unfold encD PyData.eqv
      simp
    | some y =>
      obtain ⟨a, b⟩ := x
      obtain ⟨c, d⟩ := y
      simp only [encD, PyData.eqv, PyData.eqvAll, Bool.and_true]
      apply Bool.eq_iff_iff.mpr
      simp
theorem oEq_ii (i j : Int) (st : Store) (P : Sm.PK) : oEq (.int i) (.int j) st P = P (.bl (decide (i = j))) st := by
  have e : oEq (.int i) (.int j) st P = (SeqAt.shaped (.int i) = true ∧ SeqAt.shaped (.int j) = true ∧ P (.bl (PyData.eqv (.int i) (.int j))) st) := rfl
  rw [e, shaped_int, shaped_int, eqv_int]
  simp
theorem oNe_ii (i j : Int) (st : Store) (P : Sm.PK) : oNe (.int i) (.int j) st P = P (.bl (!decide (i = j))) st := by
  have e : oNe (.int i) (.int j) st P = (SeqAt.shaped (.int i) = true ∧ SeqAt.shaped (.int j) = true ∧ P (.bl (!PyData.eqv (.int i) (.int j))) st) := rfl
  rw [e, shaped_int, shaped_int, eqv_int]
  simp
theorem oEq_enc (x y : Wo) (st : Store) (P : Sm.PK) : oEq (enc x) (enc y) st P = P (.bl (decide (x = y))) st := by
  unfold oEq
  rw [dat_enc, dat_enc]
  show (SeqAt.shaped (encD x) = true ∧ SeqAt.shaped (encD y) = true ∧ P (.bl (PyData.eqv (encD x) (encD y))) st) = _
  rw [shaped_enc, shaped_enc, eqv_enc]
  simp
theorem oNe_enc (x y : Wo) (st : Store) (P : Sm.PK) : oNe (enc x) (enc y) st P = P (.bl (!decide (x = y))) st := by
  unfold oNe
  rw [dat_enc, dat_enc]
  show (SeqAt.shaped (encD x) = true ∧ SeqAt.shaped (encD y) = true ∧ P (.bl (!PyData.eqv (encD x) (encD y))) st) = _
  rw [shaped_enc, shaped_enc, eqv_enc]
  simp
theorem oEq_tt (a b c d : Int) (st : Store) (P : Sm.PK) : oEq (.tup [.int a, .int b]) (.tup [.int c, .int d]) st P = P (.bl (decide ((a, b) = (c, d)))) st := by
  have := oEq_enc (some (a, b)) (some (c, d)) st P
  simp only [Option.some.injEq] at this
  exact this
theorem oNe_tt (a b c d : Int) (st : Store) (P : Sm.PK) : oNe (.tup [.int a, .int b]) (.tup [.int c, .int d]) st P = P (.bl (!decide ((a, b) = (c, d)))) st := by
  have := oNe_enc (some (a, b)) (some (c, d)) st P
  simp only [Option.some.injEq] at this
  exact this
theorem ten_odd (r f l : Nat) (h : l % 2 = 1) : r * f * (f * f) ^ (l / 2) = r * f ^ l := by
  have e : l = 2 * (l / 2) + 1 := by omega
  conv => rhs; rw [e]
  rw [Nat.pow_succ, Nat.pow_mul, Nat.pow_two]
  grind
theorem ten_even (r f l : Nat) (h : l % 2 = 0) : r * (f * f) ^ (l / 2) = r * f ^ l := by
  have e : l = 2 * (l / 2) := by omega
  conv => rhs; rw [e]
  rw [Nat.pow_mul, Nat.pow_two]
theorem b_of_le {x m : Nat} (h : x ≤ 10 ^ m) : B (4 * m + 1) (x : Int) := by
  have := b_ten m
  unfold B at *
  rw [Int.natAbs_natCast] at *
  omega
theorem atI_0 {α : Type} (a : α) (l : List α) : atI (a :: l) 0 = some a := by
  have h : ixN (a :: l).length 0 = some 0 := by
    unfold ixN
    rw [if_pos (by decide), if_pos (by simp only [List.length_cons]; omega)]
    rfl
  unfold atI
  rw [h]
  rfl
theorem atI_1 {α : Type} (a b : α) (l : List α) : atI (a :: b :: l) 1 = some b := by
  have h : ixN (a :: b :: l).length 1 = some 1 := by
    unfold ixN
    rw [if_pos (by decide), if_pos (by simp only [List.length_cons]; omega)]
    rfl
  unfold atI
  rw [h]
  rfl
theorem isNon_non : Sm.isNon .non = true := rfl
theorem isNon_tup (l : List PV) : Sm.isNon (.tup l) = false := rfl
theorem isNon_int (i : Int) : Sm.isNon (.int i) = false := rfl
theorem b_of {n : Nat} {i : Int} (h : i.natAbs < 2 ^ n) : B n i := h
end Wm
set_option Elab.async false
set_option linter.all false
set_option maxRecDepth 100000
set_option maxHeartbeats 1000000
namespace Cm
open PySem PySem.Spec PyProof.Rows L2 Sm Wm

/-! ### worths as values -/
/-- whole numbers -/
def intB : PV → Bool
  | .int _ => true
  | _ => false
def worthB : PV → Bool
  | .tup [.int a, .int b] => decide (1 ≤ b) && decide (Int.gcd a b = 1)
  | _ => false
def knownB : PV → Bool
  | .tup [.int a, .int b] => decide (1 ≤ b) && decide (Int.gcd a b = 1) && decide (a.natAbs < 10 ^ 4000) && decide (b.natAbs < 10 ^ 4000)
  | _ => false
/-- its type is told, and it is no long number -/
def plainB : PV → Bool
  | .int i => decide (Builtin.Int.intBits i ≤ 100000)
  | v => (tyName v).isSome
def fineB : PV → Bool
  | .tup l => l.all plainB
  | v => plainB v
def SzW (n : Nat) : Wo → Prop
  | none => True
  | some x => B n x.1 ∧ B n x.2
def letters : Str := "abcdefghijklmnopqrstuvwxyz"
def digs : Str := "0123456789"
def nameB : PV → Bool
  | .str s => decide (1 ≤ s.length) && decide (s.length ≤ 8) && (match s.cps.toList with | c :: _ => decide (c ∈ letters.cps.toList) | [] => false) && s.cps.toList.all fun c => decide (c ∈ letters.cps.toList) || decide (c ∈ digs.cps.toList)
  | _ => false
def cellB : PV → Bool
  | .tup [.int a, .int b] => worthB (.tup [.int a, .int b]) && !decide (10 ^ 18 ≤ a.natAbs) && decide (b ≤ 1000)
  | _ => false
def weightB : PV → Bool
  | .tup [.int a, .int b] => worthB (.tup [.int a, .int b]) && !decide (a = 0) && (decide (-99 ≤ a) && decide (a ≤ 99)) && decide (b ≤ 10)
  | _ => false
/-- the store, perhaps with more behind it -/
def Ext (st st' : Store) : Prop := ∃ e, st' = st ++ e
/-! ### what the defs promise -/
def S_ten_to (mg : Str → Option Value) : SpecF := fun pvs st Q PX => ∃ m : Nat, pvs = [.int m] ∧ m ≤ 4000 ∧ Q (.int ((10 ^ m : Nat) : Int)) st
def S_has_more_digits (mg : Str → Option Value) : SpecF := fun pvs st Q PX => ∃ (n : Int) (m : Nat), pvs = [.int n, .int m] ∧ m ≤ 4000 ∧ B 100000 n ∧ Q (.bl (decide (10 ^ m ≤ n.natAbs))) st
def S_is_integer (mg : Str → Option Value) : SpecF := fun pvs st Q PX => ∃ v, pvs = [v] ∧ (tyName v).isSome = true ∧ Q (.bl (intB v)) st
def fewB (m : Nat) : PV → Bool
  | .int i => !decide (10 ^ m ≤ i.natAbs)
  | _ => false
def S_is_integer_of (mg : Str → Option Value) : SpecF := fun pvs st Q PX => ∃ (v : PV) (m : Nat), pvs = [v, .int m] ∧ m ≤ 4000 ∧ plainB v = true ∧ Q (.bl (fewB m v)) st
def betB (a b : Int) : PV → Bool
  | .int i => decide (a ≤ i) && decide (i ≤ b)
  | _ => false
def S_is_between (mg : Str → Option Value) : SpecF := fun pvs st Q PX => ∃ (v : PV) (a b : Int), pvs = [v, .int a, .int b] ∧ (tyName v).isSome = true ∧ Q (.bl (betB a b v)) st
def S_lowest (mg : Str → Option Value) : SpecF := fun pvs st Q PX => ∃ a b : Int, pvs = [.int a, .int b] ∧ b ≠ 0 ∧ B 13500 a ∧ B 13500 b ∧ Q (enc (some (low a b))) st
def S_added (mg : Str → Option Value) : SpecF := fun pvs st Q PX => ∃ (x y : Wo) (n m : Nat), pvs = [enc x, enc y] ∧ FrO x ∧ FrO y ∧ SzW n x ∧ SzW m y ∧ n + m + 1 ≤ 13500 ∧ Q (enc (addW x y)) st
def S_opposite (mg : Str → Option Value) : SpecF := fun pvs st Q PX => ∃ x : Wo, pvs = [enc x] ∧ Q (enc (negW x)) st
def S_multiplied (mg : Str → Option Value) : SpecF := fun pvs st Q PX => ∃ (x y : Wo) (n m : Nat), pvs = [enc x, enc y] ∧ FrO x ∧ FrO y ∧ SzW n x ∧ SzW m y ∧ n + m ≤ 13500 ∧ Q (enc (mulW x y)) st
def S_divided (mg : Str → Option Value) : SpecF := fun pvs st Q PX => ∃ (x y : Wo) (n m : Nat), pvs = [enc x, enc y] ∧ FrO x ∧ FrO y ∧ y ≠ some (0, 1) ∧ SzW n x ∧ SzW m y ∧ n + m ≤ 13500 ∧ Q (enc (divW x y)) st
def encP (p : Wo × Wo) : PV := .tup [enc p.1, enc p.2]
def sumW : Wo → List (Wo × Wo) → Wo
  | t, [] => t
  | t, p :: r => sumW (addW t (mulW p.1 p.2)) r
def okP (p : Wo × Wo) : Prop := FrO p.1 ∧ FrO p.2 ∧ SzW 1100 p.1 ∧ SzW 1100 p.2
def S_summed (mg : Str → Option Value) : SpecF := fun pvs st Q PX => ∃ l : List (Wo × Wo), pvs = [.tup (l.map encP)] ∧ l.length ≤ 5 ∧ (∀ p ∈ l, okP p) ∧ Q (enc (sumW none l)) st
def S_is_less (mg : Str → Option Value) : SpecF := fun pvs st Q PX => ∃ a b c d : Int, pvs = [enc (some (a, b)), enc (some (c, d))] ∧ B 13500 a ∧ B 13500 b ∧ B 13500 c ∧ B 13500 d ∧ Q (.bl (decide (a * d < c * b))) st
def S_is_worth (mg : Str → Option Value) : SpecF := fun pvs st Q PX => ∃ v, pvs = [v] ∧ fineB v = true ∧ Q (.bl (worthB v)) st
def S_is_name (mg : Str → Option Value) : SpecF := fun pvs st Q PX => ∃ v, pvs = [v] ∧ (tyName v).isSome = true ∧ (∀ s, v = .str s → s.length ≤ 1000) ∧ ∀ st', Ext st st' → Q (.bl (nameB v)) st'
def S_is_cell_worth (mg : Str → Option Value) : SpecF := fun pvs st Q PX => ∃ v, pvs = [v] ∧ fineB v = true ∧ Q (.bl (cellB v)) st
def S_is_weight (mg : Str → Option Value) : SpecF := fun pvs st Q PX => ∃ v, pvs = [v] ∧ fineB v = true ∧ Q (.bl (weightB v)) st
def S__is_known (mg : Str → Option Value) : SpecF := fun pvs st Q PX => ∃ v, pvs = [v] ∧ fineB v = true ∧ Q (.bl (knownB v)) st
def exW (mg : Str → Option Value) (v : PV) : Exn := ⟨ad mg "InvalidWorth", ("message" : String), v⟩
def S__check_worth (mg : Str → Option Value) : SpecF := fun pvs st Q PX => ∃ v, pvs = [v] ∧ fineB v = true ∧ (knownB v = true → Q .non st) ∧ (knownB v = false → PX (exW mg v) st)
def opB (v : PV) : Bool := Sm.isNon v || knownB v
def S__check_operands (mg : Str → Option Value) : SpecF := fun pvs st Q PX => ∃ v w, pvs = [v, w] ∧ fineB v = true ∧ fineB w = true ∧ (opB v = false → PX (exW mg v) st) ∧ (opB v = true → opB w = false → PX (exW mg w) st) ∧ (opB v = true → opB w = true → Q .non st)
def exN (mg : Str → Option Value) (v : PV) : Exn := ⟨ad mg "InvalidNumber", ("given" : String), v⟩
def S_worth (mg : Str → Option Value) : SpecF := fun pvs st Q PX => ∃ v w, pvs = [v, w] ∧ plainB v = true ∧ plainB w = true ∧ (fewB 4000 v = false → PX (exN mg v) st) ∧ (fewB 4000 v = true → (fewB 4000 w = false ∨ w = .int 0) → PX (exN mg w) st) ∧
  (∀ a b : Int, v = .int a → w = .int b → fewB 4000 v = true → fewB 4000 w = true → b ≠ 0 → Q (enc (some (low a b))) st)
/-- two operands: the answer where both may be reckoned with -/
def S_two (mg : Str → Option Value) (C : Wo → Wo → Nat → Nat → Prop) (R : Wo → Wo → Wo) : SpecF := fun pvs st Q PX => ∃ v w, pvs = [v, w] ∧ fineB v = true ∧ fineB w = true ∧ (opB v = false → PX (exW mg v) st) ∧ (opB v = true → opB w = false → PX (exW mg w) st) ∧
  (opB v = true → opB w = true → ∃ (x y : Wo) (n m : Nat), v = enc x ∧ w = enc y ∧ FrO x ∧ FrO y ∧ SzW n x ∧ SzW m y ∧ C x y n m ∧ Q (enc (R x y)) st)
def S_plus (mg : Str → Option Value) : SpecF := S_two mg (fun _ _ n m => n + m + 1 ≤ 13500) addW
def S_minus (mg : Str → Option Value) : SpecF := S_two mg (fun _ _ n m => n + m + 1 ≤ 13500) fun x y => addW x (negW y)
def S_times (mg : Str → Option Value) : SpecF := S_two mg (fun _ _ n m => n + m ≤ 13500) mulW
def exR (mg : Str → Option Value) : Exn := ⟨ad mg "Refused", ("reason" : String), .tup [.str "zero"]⟩
def S_over (mg : Str → Option Value) : SpecF := fun pvs st Q PX => ∃ v w, pvs = [v, w] ∧ fineB v = true ∧ fineB w = true ∧ (opB v = false → PX (exW mg v) st) ∧ (opB v = true → opB w = false → PX (exW mg w) st) ∧
  (opB v = true → opB w = true → ∃ (x y : Wo) (n m : Nat), v = enc x ∧ w = enc y ∧ FrO x ∧ FrO y ∧ SzW n x ∧ SzW m y ∧ n + m ≤ 13500 ∧ (x ≠ none → y = some (0, 1) → PX (exR mg) st) ∧ (x = none ∨ y ≠ some (0, 1) → Q (enc (divW x y)) st))
def pairB : PV → Bool
  | .tup [v, w] => knownB v && (Sm.isNon w || knownB w)
  | _ => false
def finePB : PV → Bool
  | .tup l => l.all fineB
  | v => plainB v
def S__is_pair (mg : Str → Option Value) : SpecF := fun pvs st Q PX => ∃ v, pvs = [v] ∧ finePB v = true ∧ Q (.bl (pairB v)) st
def sumsB : PV → Bool
  | .tup l => l.all pairB
  | _ => false
def fineSB : PV → Bool
  | .tup l => l.all finePB
  | v => plainB v
def exO (mg : Str → Option Value) (v : PV) : Exn := ⟨ad mg "InvalidOperation", ("message" : String), v⟩
def S_weighted_sum (mg : Str → Option Value) : SpecF := fun pvs st Q PX => ∃ v, pvs = [v] ∧ fineSB v = true ∧ (∀ l, v = .tup l → l.length ≤ 1000) ∧ (sumsB v = false → ∀ st', Ext st st' → PX (exO mg v) st') ∧
  (sumsB v = true → ∃ l : List (Wo × Wo), v = .tup (l.map encP) ∧ l.length ≤ 5 ∧ (∀ p ∈ l, okP p) ∧ ∀ st', Ext st st' → Q (enc (sumW none l)) st')
def S_is_below (mg : Str → Option Value) : SpecF := fun pvs st Q PX => ∃ v w, pvs = [v, w] ∧ fineB v = true ∧ fineB w = true ∧ (knownB v = false → PX (exW mg v) st) ∧ (knownB v = true → knownB w = false → PX (exW mg w) st) ∧
  (∀ a b c d : Int, v = enc (some (a, b)) → w = enc (some (c, d)) → knownB v = true → knownB w = true → Q (.bl (decide (a * d < c * b))) st)
def greatW (a b : Int) : Bool := decide (10 ^ 1000 ≤ a.natAbs) || decide (10 ^ 1000 ≤ b.natAbs)
def S_is_over_great (mg : Str → Option Value) : SpecF := fun pvs st Q PX => ∃ a b : Int, pvs = [enc (some (a, b))] ∧ B 100000 a ∧ B 100000 b ∧ Q (.bl (greatW a b)) st
def S_is_great (mg : Str → Option Value) : SpecF := fun pvs st Q PX => ∃ v, pvs = [v] ∧ fineB v = true ∧ (knownB v = false → PX (exW mg v) st) ∧ (∀ a b : Int, v = enc (some (a, b)) → knownB v = true → Q (.bl (greatW a b)) st)
/-! ### the law's own -/
def big : Int := 2 ^ 40
structure DiceI (k : Nat) (a b c : Int) : Prop where
  a0 : 0 ≤ a
  aB : B 2100 a
  b0 : 0 ≤ b
  bB : B 40 b
  c0 : 0 ≤ c
  cB : c + k ≤ big
def DiceAt (n k : Nat) (st : Store) : Prop := ∃ a b c : Int, st[n]? = some (.lst [.int a, .int b, .int c]) ∧ DiceI k a b c
/-- all but the dice stays, more may come -/
def Aft (n : Nat) (st st' : Store) : Prop := st.length ≤ st'.length ∧ ∀ j, j ≠ n → j < st.length → st'[j]? = st[j]?
def S__law_dice (mg : Str → Option Value) : SpecF := fun pvs st Q PX => ∃ (l : List Int) (i : Int), pvs = [.lst (l.map .int), .int i] ∧ 0 ≤ i ∧ i < 1000 ∧ (∀ x ∈ l, Builtin.Int.intBits x ≤ 1048576) ∧
  ∀ st', DiceAt st.length 100000 st' → Q (.hd st.length) st'
def S__law_roll (mg : Str → Option Value) : SpecF := fun pvs st Q PX => ∃ (n k : Nat) (t : Int), pvs = [.hd n, .int t] ∧ DiceAt n (k + 1) st ∧ 0 < t ∧ B 40 t ∧ ∀ (r : Int) (st' : Store), 0 ≤ r → r < t → DiceAt n k st' → Aft n st st' → Q (.int r) st'
def S__law_one_of (mg : Str → Option Value) : SpecF := fun pvs st Q PX => ∃ (n k : Nat) (l : List PV), pvs = [.hd n, .lst l] ∧ DiceAt n (k + 1) st ∧ l ≠ [] ∧ l.length ≤ 1000 ∧ ∀ v ∈ l, ∀ st', DiceAt n k st' → Aft n st st' → Q v st'
end Cm
set_option Elab.async false
set_option linter.all false
set_option maxRecDepth 100000
set_option maxHeartbeats 1000000
namespace Cm
open PySem PySem.Spec PyProof.Rows L2 Sm Wm
/-! ### ten_to -/
/-! ### ten_to -/
abbrev N_ten_to : List Str := ["many", "result", "factor", "left"]
theorem nd_ten_to : N_ten_to.Nodup := by decide +kernel
def t_ten_to (K : PySem.W.Frag) (mg : Str → Option Value) : SemS := (sSeq (sAsg (sC (.int 1)) 1) (sSeq (sAsg (sC (.int 10)) 2) (sSeq (sAsg (sVar 0) 3) (sSeq (sWhile (sTest (sOp oGt (sVar 3) (sC (.int 0)))) (sSeq (sIfS (sTest (sOp oEq (sOp oAnd (sVar 3) (sC (.int 1))) (sC (.int 1)))) (sAsg (sOp oMul (sVar 1) (sVar 2)) 1) sSkip) (sSeq (sAsg (sOp oMul (sVar 2) (sVar 2)) 2) (sAsg (sOp oShr (sVar 3) (sC (.int 1))) 3)))) (sRet (sVar 1))))))
/-! ### has_more_digits -/
/-! ### has_more_digits -/
abbrev N_has_more_digits : List Str := ["number", "many", "bits"]
theorem nd_has_more_digits : N_has_more_digits.Nodup := by decide +kernel
def t_has_more_digits (K : PySem.W.Frag) (mg : Str → Option Value) : SemS := (sSeq (sAsg (sBits (sVar 0)) 2) (sSeq (sIfS (sTest (sOp oLe (sOp oMul (sVar 2) (sC (.int 1000))) (sOp oMul (sVar 1) (sC (.int 3321))))) (sRet (sC (.bl false))) sSkip) (sSeq (sIfS (sTest (sOp oGe (sOp oMul (sOp oSub (sVar 2) (sC (.int 1))) (sC (.int 1000))) (sOp oMul (sVar 1) (sC (.int 3322))))) (sRet (sC (.bl true))) sSkip) (sRet (sOp oGe (sCB oAbs (sCons (sVar 0) sNil)) (sCall (S_ten_to mg) [] (sCons (sVar 1) sNil)))))))
/-! ### is_integer -/
/-! ### is_integer -/
abbrev N_is_integer : List Str := ["value"]
theorem nd_is_integer : N_is_integer.Nodup := by decide +kernel
def t_is_integer (K : PySem.W.Frag) (mg : Str → Option Value) : SemS := (sRet (sOp (oIs false) (sCB oType (sCons (sVar 0) sNil)) (sC (.ty "int"))))
/-! ### is_integer_of -/
/-! ### is_integer_of -/
abbrev N_is_integer_of : List Str := ["value", "many"]
theorem nd_is_integer_of : N_is_integer_of.Nodup := by decide +kernel
def t_is_integer_of (K : PySem.W.Frag) (mg : Str → Option Value) : SemS := (sRet (sAnd (sOp (oIs false) (sCB oType (sCons (sVar 0) sNil)) (sC (.ty "int"))) (sNot (sCall (S_has_more_digits mg) [] (sCons (sVar 0) (sCons (sVar 1) sNil))))))
/-! ### is_between -/
/-! ### is_between -/
abbrev N_is_between : List Str := ["value", "least", "most"]
theorem nd_is_between : N_is_between.Nodup := by decide +kernel
def t_is_between (K : PySem.W.Frag) (mg : Str → Option Value) : SemS := (sRet (sAnd (sOp (oIs false) (sCB oType (sCons (sVar 0) sNil)) (sC (.ty "int"))) (sChain oLe oLe (sVar 1) (sVar 0) (sVar 2))))
/-! ### lowest -/
/-! ### lowest -/
abbrev N_lowest : List Str := ["top", "bottom", "shared"]
theorem nd_lowest : N_lowest.Nodup := by decide +kernel
def t_lowest (K : PySem.W.Frag) (mg : Str → Option Value) : SemS := (sSeq (sAsg (sCB oGcd (sCons (sVar 0) (sCons (sVar 1) sNil))) 2) (sSeq (sIfS (sTest (sOp oLt (sVar 1) (sC (.int 0)))) (sAsg (sNeg (sVar 2)) 2) sSkip) (sRet (sTup (sCons (sOp oDiv (sVar 0) (sVar 2)) (sCons (sOp oDiv (sVar 1) (sVar 2)) sNil))))))
/-! ### added -/
/-! ### added -/
abbrev N_added : List Str := ["one", "other"]
theorem nd_added : N_added.Nodup := by decide +kernel
def t_added (K : PySem.W.Frag) (mg : Str → Option Value) : SemS := (sSeq (sIfS (sTest (sOp (oIs false) (sVar 0) (sC .non))) (sRet (sVar 1)) sSkip) (sSeq (sIfS (sTest (sOp (oIs false) (sVar 1) (sC .non))) (sRet (sVar 0)) sSkip) (sSeq (sIfS (sTest (sOp oEq (sOp oIx (sVar 0) (sC (.int 1))) (sOp oIx (sVar 1) (sC (.int 1))))) (sSeq (sIfS (sTest (sOp oEq (sOp oIx (sVar 0) (sC (.int 1))) (sC (.int 1)))) (sRet (sTup (sCons (sOp oAdd (sOp oIx (sVar 0) (sC (.int 0))) (sOp oIx (sVar 1) (sC (.int 0)))) (sCons (sC (.int 1)) sNil)))) sSkip) (sRet (sCall (S_lowest mg) [] (sCons (sOp oAdd (sOp oIx (sVar 0) (sC (.int 0))) (sOp oIx (sVar 1) (sC (.int 0)))) (sCons (sOp oIx (sVar 0) (sC (.int 1))) sNil))))) sSkip) (sRet (sCall (S_lowest mg) [] (sCons (sOp oAdd (sOp oMul (sOp oIx (sVar 0) (sC (.int 0))) (sOp oIx (sVar 1) (sC (.int 1)))) (sOp oMul (sOp oIx (sVar 1) (sC (.int 0))) (sOp oIx (sVar 0) (sC (.int 1))))) (sCons (sOp oMul (sOp oIx (sVar 0) (sC (.int 1))) (sOp oIx (sVar 1) (sC (.int 1)))) sNil)))))))
/-! ### opposite -/
/-! ### opposite -/
abbrev N_opposite : List Str := ["one"]
theorem nd_opposite : N_opposite.Nodup := by decide +kernel
def t_opposite (K : PySem.W.Frag) (mg : Str → Option Value) : SemS := (sSeq (sIfS (sTest (sOp (oIs false) (sVar 0) (sC .non))) (sRet (sC .non)) sSkip) (sRet (sTup (sCons (sNeg (sOp oIx (sVar 0) (sC (.int 0)))) (sCons (sOp oIx (sVar 0) (sC (.int 1))) sNil)))))
/-! ### multiplied -/
/-! ### multiplied -/
abbrev N_multiplied : List Str := ["one", "other"]
theorem nd_multiplied : N_multiplied.Nodup := by decide +kernel
def t_multiplied (K : PySem.W.Frag) (mg : Str → Option Value) : SemS := (sSeq (sIfS (sOrT (sTest (sOp (oIs false) (sVar 0) (sC .non))) (sTest (sOp (oIs false) (sVar 1) (sC .non)))) (sRet (sC .non)) sSkip) (sSeq (sIfS (sAndT (sTest (sOp oEq (sOp oIx (sVar 0) (sC (.int 1))) (sC (.int 1)))) (sTest (sOp oEq (sOp oIx (sVar 1) (sC (.int 1))) (sC (.int 1))))) (sRet (sTup (sCons (sOp oMul (sOp oIx (sVar 0) (sC (.int 0))) (sOp oIx (sVar 1) (sC (.int 0)))) (sCons (sC (.int 1)) sNil)))) sSkip) (sRet (sCall (S_lowest mg) [] (sCons (sOp oMul (sOp oIx (sVar 0) (sC (.int 0))) (sOp oIx (sVar 1) (sC (.int 0)))) (sCons (sOp oMul (sOp oIx (sVar 0) (sC (.int 1))) (sOp oIx (sVar 1) (sC (.int 1)))) sNil))))))
/-! ### divided -/
/-! ### divided -/
abbrev N_divided : List Str := ["one", "other"]
theorem nd_divided : N_divided.Nodup := by decide +kernel
def t_divided (K : PySem.W.Frag) (mg : Str → Option Value) : SemS := (sSeq (sIfS (sOrT (sTest (sOp (oIs false) (sVar 0) (sC .non))) (sTest (sOp (oIs false) (sVar 1) (sC .non)))) (sRet (sC .non)) sSkip) (sRet (sCall (S_lowest mg) [] (sCons (sOp oMul (sOp oIx (sVar 0) (sC (.int 0))) (sOp oIx (sVar 1) (sC (.int 1)))) (sCons (sOp oMul (sOp oIx (sVar 0) (sC (.int 1))) (sOp oIx (sVar 1) (sC (.int 0)))) sNil)))))
/-! ### summed -/
/-! ### summed -/
abbrev N_summed : List Str := ["pairs", "total", "weight", "worth"]
theorem nd_summed : N_summed.Nodup := by decide +kernel
def t_summed (K : PySem.W.Frag) (mg : Str → Option Value) : SemS := (sSeq (sAsg (sC .non) 1) (sSeq (sForT (sVar 0) (kTup2 2 3) (sAsg (sCall (S_added mg) [] (sCons (sVar 1) (sCons (sCall (S_multiplied mg) [] (sCons (sVar 2) (sCons (sVar 3) sNil))) sNil))) 1)) (sRet (sVar 1))))
/-! ### is_less -/
/-! ### is_less -/
abbrev N_is_less : List Str := ["one", "other"]
theorem nd_is_less : N_is_less.Nodup := by decide +kernel
def t_is_less (K : PySem.W.Frag) (mg : Str → Option Value) : SemS := (sRet (sOp oLt (sOp oMul (sOp oIx (sVar 0) (sC (.int 0))) (sOp oIx (sVar 1) (sC (.int 1)))) (sOp oMul (sOp oIx (sVar 1) (sC (.int 0))) (sOp oIx (sVar 0) (sC (.int 1))))))
/-! ### is_worth -/
/-! ### is_worth -/
abbrev N_is_worth : List Str := ["value", "top", "bottom"]
theorem nd_is_worth : N_is_worth.Nodup := by decide +kernel
def t_is_worth (K : PySem.W.Frag) (mg : Str → Option Value) : SemS := (sSeq (sIfS (sOrT (sTest (sOp (oIs true) (sCB oType (sCons (sVar 0) sNil)) (sC (.ty "tuple")))) (sTest (sOp oNe (sCB oLen (sCons (sVar 0) sNil)) (sC (.int 2))))) (sRet (sC (.bl false))) sSkip) (sSeq (sAsgG (sVar 0) (kTup2 1 2)) (sSeq (sIfS (sOrT (sNotT (sTest (sCall (S_is_integer mg) [] (sCons (sVar 1) sNil)))) (sNotT (sTest (sCall (S_is_integer mg) [] (sCons (sVar 2) sNil))))) (sRet (sC (.bl false))) sSkip) (sRet (sAnd (sOp oGe (sVar 2) (sC (.int 1))) (sOp oEq (sCB oGcd (sCons (sVar 1) (sCons (sVar 2) sNil))) (sC (.int 1))))))))
/-! ### is_name -/
/-! ### is_name -/
abbrev N_is_name : List Str := ["value", "sign"]
theorem nd_is_name : N_is_name.Nodup := by decide +kernel
def t_is_name (K : PySem.W.Frag) (mg : Str → Option Value) : SemS := (sSeq (sIfS (sOrT (sTest (sOp (oIs true) (sCB oType (sCons (sVar 0) sNil)) (sC (.ty "str")))) (sNotT (sTest (sChain oLe oLe (sC (.int 1)) (sCB oLen (sCons (sVar 0) sNil)) (sC (.int 8)))))) (sRet (sC (.bl false))) sSkip) (sRet (sAnd (sOp (oInS false) (sOp oIx (sVar 0) (sC (.int 0))) (sC (.str "abcdefghijklmnopqrstuvwxyz"))) (sCB oAllH (sCons (sLc itemsS (sVar 0) 1 sYes (sOr (sOp (oInS false) (sVar 1) (sC (.str "abcdefghijklmnopqrstuvwxyz"))) (sOp (oInS false) (sVar 1) (sC (.str "0123456789"))))) sNil)))))
/-! ### is_cell_worth -/
/-! ### is_cell_worth -/
abbrev N_is_cell_worth : List Str := ["value"]
theorem nd_is_cell_worth : N_is_cell_worth.Nodup := by decide +kernel
def t_is_cell_worth (K : PySem.W.Frag) (mg : Str → Option Value) : SemS := (sRet (sAnd (sCall (S_is_worth mg) [] (sCons (sVar 0) sNil)) (sAnd (sNot (sCall (S_has_more_digits mg) [] (sCons (sOp oIx (sVar 0) (sC (.int 0))) (sCons (sC (.int 18)) sNil)))) (sOp oLe (sOp oIx (sVar 0) (sC (.int 1))) (sC (.int 1000))))))
/-! ### is_weight -/
/-! ### is_weight -/
abbrev N_is_weight : List Str := ["value"]
theorem nd_is_weight : N_is_weight.Nodup := by decide +kernel
def t_is_weight (K : PySem.W.Frag) (mg : Str → Option Value) : SemS := (sRet (sAnd (sCall (S_is_worth mg) [] (sCons (sVar 0) sNil)) (sAnd (sOp oNe (sOp oIx (sVar 0) (sC (.int 0))) (sC (.int 0))) (sAnd (sCall (S_is_between mg) [] (sCons (sOp oIx (sVar 0) (sC (.int 0))) (sCons (sNeg (sC (.int 99))) (sCons (sC (.int 99)) sNil)))) (sOp oLe (sOp oIx (sVar 0) (sC (.int 1))) (sC (.int 10)))))))
/-! ### _is_known -/
/-! ### _is_known -/
abbrev N__is_known : List Str := ["value"]
theorem nd__is_known : N__is_known.Nodup := by decide +kernel
def t__is_known (K : PySem.W.Frag) (mg : Str → Option Value) : SemS := (sSeq (sIfS (sNotT (sTest (sCall (S_is_worth mg) [] (sCons (sVar 0) sNil)))) (sRet (sC (.bl false))) sSkip) (sRet (sAnd (sNot (sCall (S_has_more_digits mg) [] (sCons (sOp oIx (sVar 0) (sC (.int 0))) (sCons (sC (.int 4000)) sNil)))) (sNot (sCall (S_has_more_digits mg) [] (sCons (sOp oIx (sVar 0) (sC (.int 1))) (sCons (sC (.int 4000)) sNil)))))))
/-! ### _check_worth -/
/-! ### _check_worth -/
abbrev N__check_worth : List Str := ["value"]
theorem nd__check_worth : N__check_worth.Nodup := by decide +kernel
def t__check_worth (K : PySem.W.Frag) (mg : Str → Option Value) : SemS := (sIfS (sNotT (sTest (sCall (S__is_known mg) [] (sCons (sVar 0) sNil)))) (sRaise (ad mg "InvalidWorth") "message" (sCons (sVar 0) sNil)) sSkip)
/-! ### _check_operands -/
/-! ### _check_operands -/
abbrev N__check_operands : List Str := ["one", "other"]
theorem nd__check_operands : N__check_operands.Nodup := by decide +kernel
def t__check_operands (K : PySem.W.Frag) (mg : Str → Option Value) : SemS := (sSeq (sIfS (sTest (sOp (oIs true) (sVar 0) (sC .non))) (sDrop (sCall (S__check_worth mg) [] (sCons (sVar 0) sNil))) sSkip) (sIfS (sTest (sOp (oIs true) (sVar 1) (sC .non))) (sDrop (sCall (S__check_worth mg) [] (sCons (sVar 1) sNil))) sSkip))
/-! ### worth -/
/-! ### worth -/
abbrev N_worth : List Str := ["top", "bottom"]
theorem nd_worth : N_worth.Nodup := by decide +kernel
def t_worth (K : PySem.W.Frag) (mg : Str → Option Value) : SemS := (sSeq (sIfS (sNotT (sTest (sCall (S_is_integer_of mg) [] (sCons (sVar 0) (sCons (sC (.int 4000)) sNil))))) (sRaise (ad mg "InvalidNumber") "given" (sCons (sVar 0) sNil)) sSkip) (sSeq (sIfS (sOrT (sNotT (sTest (sCall (S_is_integer_of mg) [] (sCons (sVar 1) (sCons (sC (.int 4000)) sNil))))) (sTest (sOp oEq (sVar 1) (sC (.int 0))))) (sRaise (ad mg "InvalidNumber") "given" (sCons (sVar 1) sNil)) sSkip) (sRet (sCall (S_lowest mg) [] (sCons (sVar 0) (sCons (sVar 1) sNil))))))
/-! ### plus -/
/-! ### plus -/
abbrev N_plus : List Str := ["one", "other"]
theorem nd_plus : N_plus.Nodup := by decide +kernel
def t_plus (K : PySem.W.Frag) (mg : Str → Option Value) : SemS := (sSeq (sDrop (sCall (S__check_operands mg) [] (sCons (sVar 0) (sCons (sVar 1) sNil)))) (sRet (sCall (S_added mg) [] (sCons (sVar 0) (sCons (sVar 1) sNil)))))
/-! ### minus -/
/-! ### minus -/
abbrev N_minus : List Str := ["one", "other"]
theorem nd_minus : N_minus.Nodup := by decide +kernel
def t_minus (K : PySem.W.Frag) (mg : Str → Option Value) : SemS := (sSeq (sDrop (sCall (S__check_operands mg) [] (sCons (sVar 0) (sCons (sVar 1) sNil)))) (sRet (sCall (S_added mg) [] (sCons (sVar 0) (sCons (sCall (S_opposite mg) [] (sCons (sVar 1) sNil)) sNil)))))
/-! ### times -/
/-! ### times -/
abbrev N_times : List Str := ["one", "other"]
theorem nd_times : N_times.Nodup := by decide +kernel
def t_times (K : PySem.W.Frag) (mg : Str → Option Value) : SemS := (sSeq (sDrop (sCall (S__check_operands mg) [] (sCons (sVar 0) (sCons (sVar 1) sNil)))) (sRet (sCall (S_multiplied mg) [] (sCons (sVar 0) (sCons (sVar 1) sNil)))))
/-! ### over -/
/-! ### over -/
abbrev N_over : List Str := ["one", "other"]
theorem nd_over : N_over.Nodup := by decide +kernel
def t_over (K : PySem.W.Frag) (mg : Str → Option Value) : SemS := (sSeq (sDrop (sCall (S__check_operands mg) [] (sCons (sVar 0) (sCons (sVar 1) sNil)))) (sSeq (sIfS (sAndT (sTest (sOp (oIs true) (sVar 0) (sC .non))) (sTest (sOp oEq (sVar 1) (sC (.tup (List.map .int [0, 1])))))) (sRaise (ad mg "Refused") "reason" (sCons (sTup (sCons (sC (.str "zero")) sNil)) sNil)) sSkip) (sSeq (sIfS (sTest (sOp (oIs false) (sVar 0) (sC .non))) (sRet (sC .non)) sSkip) (sRet (sCall (S_divided mg) [] (sCons (sVar 0) (sCons (sVar 1) sNil)))))))
/-! ### _is_pair -/
/-! ### _is_pair -/
abbrev N__is_pair : List Str := ["value"]
theorem nd__is_pair : N__is_pair.Nodup := by decide +kernel
def t__is_pair (K : PySem.W.Frag) (mg : Str → Option Value) : SemS := (sSeq (sIfS (sOrT (sTest (sOp (oIs true) (sCB oType (sCons (sVar 0) sNil)) (sC (.ty "tuple")))) (sOrT (sTest (sOp oNe (sCB oLen (sCons (sVar 0) sNil)) (sC (.int 2)))) (sNotT (sTest (sCall (S__is_known mg) [] (sCons (sOp oIx (sVar 0) (sC (.int 0))) sNil)))))) (sRet (sC (.bl false))) sSkip) (sRet (sOr (sOp (oIs false) (sOp oIx (sVar 0) (sC (.int 1))) (sC .non)) (sCall (S__is_known mg) [] (sCons (sOp oIx (sVar 0) (sC (.int 1))) sNil)))))
/-! ### weighted_sum -/
/-! ### weighted_sum -/
abbrev N_weighted_sum : List Str := ["pairs", "pair"]
theorem nd_weighted_sum : N_weighted_sum.Nodup := by decide +kernel
def t_weighted_sum (K : PySem.W.Frag) (mg : Str → Option Value) : SemS := (sSeq (sIfS (sOrT (sTest (sOp (oIs true) (sCB oType (sCons (sVar 0) sNil)) (sC (.ty "tuple")))) (sNotT (sTest (sCB oAllH (sCons (sLc itemsT (sVar 0) 1 sYes (sCall (S__is_pair mg) [] (sCons (sVar 1) sNil))) sNil))))) (sRaise (ad mg "InvalidOperation") "message" (sCons (sVar 0) sNil)) sSkip) (sRet (sCall (S_summed mg) [] (sCons (sVar 0) sNil))))
/-! ### is_below -/
/-! ### is_below -/
abbrev N_is_below : List Str := ["one", "other"]
theorem nd_is_below : N_is_below.Nodup := by decide +kernel
def t_is_below (K : PySem.W.Frag) (mg : Str → Option Value) : SemS := (sSeq (sDrop (sCall (S__check_worth mg) [] (sCons (sVar 0) sNil))) (sSeq (sDrop (sCall (S__check_worth mg) [] (sCons (sVar 1) sNil))) (sRet (sCall (S_is_less mg) [] (sCons (sVar 0) (sCons (sVar 1) sNil))))))
/-! ### is_over_great -/
/-! ### is_over_great -/
abbrev N_is_over_great : List Str := ["one"]
theorem nd_is_over_great : N_is_over_great.Nodup := by decide +kernel
def t_is_over_great (K : PySem.W.Frag) (mg : Str → Option Value) : SemS := (sRet (sOr (sCall (S_has_more_digits mg) [] (sCons (sOp oIx (sVar 0) (sC (.int 0))) (sCons (sC (.int 1000)) sNil))) (sCall (S_has_more_digits mg) [] (sCons (sOp oIx (sVar 0) (sC (.int 1))) (sCons (sC (.int 1000)) sNil)))))
/-! ### is_great -/
/-! ### is_great -/
abbrev N_is_great : List Str := ["worth"]
theorem nd_is_great : N_is_great.Nodup := by decide +kernel
def t_is_great (K : PySem.W.Frag) (mg : Str → Option Value) : SemS := (sSeq (sDrop (sCall (S__check_worth mg) [] (sCons (sVar 0) sNil))) (sRet (sCall (S_is_over_great mg) [] (sCons (sVar 0) sNil))))
/-! ### _law_dice -/
/-! ### _law_dice -/
abbrev N__law_dice : List Str := ["_law_script", "_law_at", "_law_cell", "_law_great", "_law_left", "_law_mixed"]
theorem nd__law_dice : N__law_dice.Nodup := by decide +kernel
def t__law_dice (K : PySem.W.Frag) (mg : Str → Option Value) : SemS := (sSeq (sAsg (sOp oAdd (sOp oMul (sC (.int 89)) (sVar 1)) (sC (.int 61))) 2) (sSeq (sIfS (sTest (sOp oLt (sVar 1) (sCB oLen (sCons (sVar 0) sNil)))) (sAsg (sOp oIx (sVar 0) (sVar 1)) 2) sSkip) (sSeq (sAsg (sOp oMod (sCB oInt (sCons (sCB oAbs (sCons (sVar 2) sNil)) sNil)) (sOp oPow (sOp oPow (sC (.int 10)) (sC (.int 60))) (sC (.int 10)))) 3) (sSeq (sAsg (sOp oDiv (sVar 3) (sOp oPow (sC (.int 10)) (sC (.int 18)))) 4) (sSeq (sAsg (sOp oAdd (sOp oAdd (sOp oAdd (sOp oMul (sOp oMod (sVar 3) (sC (.int 2147482763))) (sC (.int 60497))) (sOp oMul (sC (.int 3511)) (sVar 1))) (sOp oMul (sC (.int 79)) (sCB oInt (sCons (sOp oLt (sVar 2) (sC (.int 0))) sNil)))) (sC (.int 103))) 5) (sRet (sNew (sCons (sVar 4) (sCons (sOp oMod (sVar 5) (sC (.int 2147482739))) (sCons (sC (.int 0)) sNil))))))))))
/-! ### _law_roll -/
/-! ### _law_roll -/
abbrev N__law_roll : List Str := ["_law_dice_here", "_law_total", "_law_size", "_law_one", "_law_two", "_law_drawn"]
theorem nd__law_roll : N__law_roll.Nodup := by decide +kernel
def t__law_roll (K : PySem.W.Frag) (mg : Str → Option Value) : SemS := (sSeq (sAsg (sCB oInt (sCons (sVar 1) sNil)) 2) (sSeq (sIfS (sTest (sOp oGt (sOp oIx (sVar 0) (sC (.int 0))) (sC (.int 0)))) (sSeq (sAsg (sOp oMod (sOp oIx (sVar 0) (sC (.int 0))) (sVar 2)) 5) (sSeq (sSetIx (sOp oDiv (sOp oIx (sVar 0) (sC (.int 0))) (sVar 2)) (sVar 0) (sC (.int 0))) (sRet (sCB oInt (sCons (sVar 5) sNil))))) sSkip) (sSeq (sSetIx (sOp oAdd (sOp oIx (sVar 0) (sC (.int 2))) (sC (.int 1))) (sVar 0) (sC (.int 2))) (sSeq (sAsg (sOp oMod (sOp oAdd (sOp oIx (sVar 0) (sC (.int 1))) (sOp oMul (sC (.int 1000381)) (sOp oIx (sVar 0) (sC (.int 2))))) (sC (.int 2305843009213693951))) 3) (sSeq (sAsg (sOp oAdd (sOp oMul (sOp oMod (sOp oMul (sVar 3) (sVar 3)) (sC (.int 2305843009213693921))) (sVar 3)) (sOp oMul (sC (.int 9497)) (sOp oIx (sVar 0) (sC (.int 2))))) 4) (sSeq (sAsg (sOp oMod (sVar 4) (sC (.int 2305843009213693907))) 4) (sRet (sCB oInt (sCons (sOp oMod (sOp oDiv (sVar 4) (sC (.int 4096))) (sVar 2)) sNil)))))))))
/-! ### _law_one_of -/
/-! ### _law_one_of -/
abbrev N__law_one_of : List Str := ["_law_dice_here", "_law_items"]
theorem nd__law_one_of : N__law_one_of.Nodup := by decide +kernel
def t__law_one_of (K : PySem.W.Frag) (mg : Str → Option Value) : SemS := (sRet (sOp oIx (sVar 1) (sCall (S__law_roll mg) [] (sCons (sVar 0) (sCons (sCB oLen (sCons (sVar 1) sNil)) sNil)))))
end Cm
set_option Elab.async false
set_option linter.all false
set_option maxRecDepth 100000
set_option maxHeartbeats 1000000
namespace Cm
open PySem PySem.Spec PyProof.Rows L2 Sm Wm
section
variable {K : PySem.W.Frag} {mg : Str → Option Value}
theorem p_is_integer : ∀ pvs st Q PX, S_is_integer mg pvs st Q PX → t_is_integer K mg (endOf Q PX) (ini N_is_integer pvs) st := by
  rintro pvs st Q PX ⟨v, rfl, h1, h2⟩
  cases v <;> first | exact (Bool.noConfusion h1) | skip
  all_goals exact h2
theorem p_has_more_digits : ∀ pvs st Q PX, S_has_more_digits mg pvs st Q PX → t_has_more_digits K mg (endOf Q PX) (ini N_has_more_digits pvs) st := by
  rintro pvs st Q PX ⟨n, m, rfl, hm, hn, hq⟩
  have hb := bits_le hn
  have eA : ((if n < 0 then -n else n)) = (n.natAbs : Int) := by split <;> omega
  have hB : B 20 (Builtin.Int.intBits n : Int) := by
    unfold B
    omega
  have hM : B 20 (m : Int) := by
    unfold B
    omega
  simp only [t_has_more_digits, sRet, sSeq, sAsg, sIfS, sSkip, sPar, sAsgG, sDrop, sRaise, sOp, sCB, sCons, sNil, sVar, sC, sTup, sLst, sNew, sNeg, sNot, sTest, sNotT, sAndT, sOrT, sAnd, sOr, sIf, sChain, sBits, sCall, ini, endOf, kName, kTup2, oAdd, oI, oI0, oIs, isNon_non, isNon_tup, isNon_int, oIx, oLen, oAbs, oInt, oGcd, oType, oEq_ii, oNe_ii, oEq_enc, oNe_enc, oEq_tt, oNe_tt, atI_0, atI_1, List.map_cons, List.map_nil, List.length_cons, List.length_nil, List.cons_append, List.nil_append, List.append_nil, List.replicate_succ, List.replicate_zero, List.getElem?_cons_zero, List.getElem?_cons_succ, List.set_cons_zero, List.set_cons_succ, Bool.false_eq_true, decide_true, decide_false, Bool.not_true, Bool.not_false, ↓reduceIte, Nat.reduceAdd, Nat.reduceSub, Nat.zero_add, Option.isSome]
  refine ⟨cmul hB (n := 20) (b_of (by decide)) (by decide), cmul hM (n := 20) (b_of (by decide)) (by decide), ?_⟩
  by_cases h1 : (Builtin.Int.intBits n : Int) * 1000 ≤ (m : Int) * 3321
  · have h2 := few_bits (n := n) (m := m) (by omega)
    rw [decide_eq_true h1]
    have e : decide (10 ^ m ≤ n.natAbs) = false := by
      apply decide_eq_false
      omega
    rw [e] at hq
    exact hq
  · rw [decide_eq_false h1]
    have hC : B 20 ((Builtin.Int.intBits n : Int) - 1) := by
      unfold B
      omega
    refine ⟨cmul hC (n := 20) (b_of (by decide)) (by decide), cmul hM (n := 20) (b_of (by decide)) (by decide), ?_⟩
    by_cases h2 : (m : Int) * 3322 ≤ ((Builtin.Int.intBits n : Int) - 1) * 1000
    · rw [decide_eq_true h2]
      have h0 : n ≠ 0 := by
        intro z
        subst z
        have : Builtin.Int.intBits 0 = 0 := rfl
        omega
      have h3 := many_bits (n := n) (m := m) (by omega) h0
      rw [decide_eq_true h3] at hq
      exact hq
    · rw [decide_eq_false h2]
      refine ⟨m, rfl, hm, ?_⟩
      show Q (.bl (decide (((10 ^ m : Nat) : Int) ≤ _))) st
      rw [eA]
      have e : decide (((10 ^ m : Nat) : Int) ≤ (n.natAbs : Int)) = decide (10 ^ m ≤ n.natAbs) := by
        apply Bool.eq_iff_iff.mpr
        simp only [decide_eq_true_eq]
        omega
      rw [e]
      exact hq
theorem p_ten_to : ∀ pvs st Q PX, S_ten_to mg pvs st Q PX → t_ten_to K mg (endOf Q PX) (ini N_ten_to pvs) st := by
  rintro pvs st Q PX ⟨m, rfl, hm, hq⟩
  simp only [t_ten_to, sWhile, sRet, sSeq, sAsg, sIfS, sSkip, sPar, sAsgG, sDrop, sRaise, sOp, sCB, sCons, sNil, sVar, sC, sTup, sLst, sNew, sNeg, sNot, sTest, sNotT, sAndT, sOrT, sAnd, sOr, sIf, sChain, sBits, sCall, ini, endOf, kName, kTup2, oAdd, oI, oI0, oIs, isNon_non, isNon_tup, isNon_int, oIx, oLen, oAbs, oInt, oGcd, oType, oEq_ii, oNe_ii, oEq_enc, oNe_enc, oEq_tt, oNe_tt, atI_0, atI_1, List.map_cons, List.map_nil, List.length_cons, List.length_nil, List.cons_append, List.nil_append, List.append_nil, List.replicate_succ, List.replicate_zero, List.getElem?_cons_zero, List.getElem?_cons_succ, List.set_cons_zero, List.set_cons_succ, Bool.false_eq_true, decide_true, decide_false, Bool.not_true, Bool.not_false, ↓reduceIte, Nat.reduceAdd, Nat.reduceSub, Nat.zero_add, Option.isSome]
  refine ⟨fun n ρ s => ∃ r f : Nat, ρ = [some (.int m), some (.int r), some (.int f), some (.int n)] ∧ s = st ∧ r * f ^ n = 10 ^ m ∧ 0 < r ∧ 0 < f, ⟨m, 1, 10, rfl, rfl, by simp, by decide, by decide⟩, ?_⟩
  rintro n ρ s ⟨r, f, rfl, rfl, hrf, hr, hf⟩
  simp only [sRet, sSeq, sAsg, sIfS, sSkip, sPar, sAsgG, sDrop, sRaise, sOp, sCB, sCons, sNil, sVar, sC, sTup, sLst, sNew, sNeg, sNot, sTest, sNotT, sAndT, sOrT, sAnd, sOr, sIf, sChain, sBits, sCall, ini, endOf, kName, kTup2, oAdd, oI, oI0, oIs, isNon_non, isNon_tup, isNon_int, oIx, oLen, oAbs, oInt, oGcd, oType, oEq_ii, oNe_ii, oEq_enc, oNe_enc, oEq_tt, oNe_tt, atI_0, atI_1, List.map_cons, List.map_nil, List.length_cons, List.length_nil, List.cons_append, List.nil_append, List.append_nil, List.replicate_succ, List.replicate_zero, List.getElem?_cons_zero, List.getElem?_cons_succ, List.set_cons_zero, List.set_cons_succ, Bool.false_eq_true, decide_true, decide_false, Bool.not_true, Bool.not_false, ↓reduceIte, Nat.reduceAdd, Nat.reduceSub, Nat.zero_add, Option.isSome]
  by_cases h0 : (0 : Int) < (n : Int)
  · rw [decide_eq_true h0]
    have hfn : f ≤ f ^ n := by
      have := Nat.pow_le_pow_right hf (show 1 ≤ n by omega)
      simpa using this
    have h1 : f ^ n ≤ 10 ^ m := by
      rw [← hrf]
      exact Nat.le_mul_of_pos_left _ hr
    have h2 : r ≤ 10 ^ m := by
      rw [← hrf]
      exact Nat.le_mul_of_pos_right _ (Nat.pow_pos hf)
    have bf := b_of_le (Nat.le_trans hfn h1)
    have br := b_of_le h2
    have c2 := cmul bf bf (by omega)
    have e2 : (n : Int) / 2 ^ Int.toNat 1 = ((n / 2 : Nat) : Int) := by
      show (n : Int) / 2 = _
      omega
    rw [bitAnd_m1, e2]
    by_cases h3 : (n : Int) % 2 = 1
    · rw [decide_eq_true h3]
      exact ⟨cmul br bf (by omega), c2, by decide, n / 2, by omega, r * f, f * f, by simp, trivial, by rw [ten_odd r f n (by omega)]; exact hrf, Nat.mul_pos hr hf, Nat.mul_pos hf hf⟩
    · rw [decide_eq_false h3]
      exact ⟨c2, by decide, n / 2, by omega, r, f * f, by simp, trivial, by rw [ten_even r f n (by omega)]; exact hrf, hr, Nat.mul_pos hf hf⟩
  · rw [decide_eq_false h0]
    have hn : n = 0 := by omega
    subst hn
    rw [Nat.pow_zero, Nat.mul_one] at hrf
    show Q (.int (r : Int)) s
    rw [hrf]
    exact hq
end
end Cm
set_option Elab.async false
set_option linter.all false
set_option maxRecDepth 100000
set_option maxHeartbeats 1000000
namespace Cm
open PySem PySem.Spec PyProof.Rows L2 Sm Wm
section
variable {K : PySem.W.Frag} {mg : Str → Option Value}
theorem plain_ty {v : PV} (h : plainB v = true) : (tyName v).isSome = true := by
  cases v <;> first | exact h | rfl
theorem b_bits {i : Int} {n : Nat} (h : Builtin.Int.intBits i ≤ n) : B n i := Nat.lt_of_lt_of_le (bits_hi i) (Nat.pow_le_pow_right (by decide) h)
theorem plain_sz {i : Int} (h : plainB (.int i) = true) : B 100000 i := b_bits (of_decide_eq_true h)
theorem p_is_integer_of : ∀ pvs st Q PX, S_is_integer_of mg pvs st Q PX → t_is_integer_of K mg (endOf Q PX) (ini N_is_integer_of pvs) st := by
  rintro pvs st Q PX ⟨v, m, rfl, hm, hv, hq⟩
  have h1 := plain_ty hv
  cases v <;> first | exact (Bool.noConfusion h1) | skip
  case int i =>
    simp only [t_is_integer_of, tyName, sRet, sSeq, sAsg, sIfS, sSkip, sPar, sAsgG, sDrop, sRaise, sOp, sCB, sCons, sNil, sVar, sC, sTup, sLst, sNew, sNeg, sNot, sTest, sNotT, sAndT, sOrT, sAnd, sOr, sIf, sChain, sBits, sCall, ini, endOf, kName, kTup2, oAdd, oI, oI0, oIs, isNon_non, isNon_tup, isNon_int, oIx, oLen, oAbs, oInt, oGcd, oType, oEq_ii, oNe_ii, oEq_enc, oNe_enc, oEq_tt, oNe_tt, atI_0, atI_1, List.map_cons, List.map_nil, List.length_cons, List.length_nil, List.cons_append, List.nil_append, List.append_nil, List.replicate_succ, List.replicate_zero, List.getElem?_cons_zero, List.getElem?_cons_succ, List.set_cons_zero, List.set_cons_succ, Bool.false_eq_true, decide_true, decide_false, Bool.not_true, Bool.not_false, ↓reduceIte, Nat.reduceAdd, Nat.reduceSub, Nat.zero_add, Option.isSome]
    exact ⟨i, m, rfl, hm, plain_sz hv, hq⟩
  all_goals exact hq
theorem p_is_between : ∀ pvs st Q PX, S_is_between mg pvs st Q PX → t_is_between K mg (endOf Q PX) (ini N_is_between pvs) st := by
  rintro pvs st Q PX ⟨v, a, b, rfl, h1, hq⟩
  cases v <;> first | exact (Bool.noConfusion h1) | skip
  case int i =>
    simp only [t_is_between, tyName, sRet, sSeq, sAsg, sIfS, sSkip, sPar, sAsgG, sDrop, sRaise, sOp, sCB, sCons, sNil, sVar, sC, sTup, sLst, sNew, sNeg, sNot, sTest, sNotT, sAndT, sOrT, sAnd, sOr, sIf, sChain, sBits, sCall, ini, endOf, kName, kTup2, oAdd, oI, oI0, oIs, isNon_non, isNon_tup, isNon_int, oIx, oLen, oAbs, oInt, oGcd, oType, oEq_ii, oNe_ii, oEq_enc, oNe_enc, oEq_tt, oNe_tt, atI_0, atI_1, List.map_cons, List.map_nil, List.length_cons, List.length_nil, List.cons_append, List.nil_append, List.append_nil, List.replicate_succ, List.replicate_zero, List.getElem?_cons_zero, List.getElem?_cons_succ, List.set_cons_zero, List.set_cons_succ, Bool.false_eq_true, decide_true, decide_false, Bool.not_true, Bool.not_false, ↓reduceIte, Nat.reduceAdd, Nat.reduceSub, Nat.zero_add, Option.isSome]
    simp only [betB] at hq
    by_cases h : a ≤ i
    · rw [decide_eq_true h] at hq ⊢
      exact hq
    · rw [decide_eq_false h] at hq ⊢
      exact hq
  all_goals exact hq
theorem p_lowest : ∀ pvs st Q PX, S_lowest mg pvs st Q PX → t_lowest K mg (endOf Q PX) (ini N_lowest pvs) st := by
  rintro pvs st Q PX ⟨a, b, rfl, hb, ba, bb, hq⟩
  have hg : ((Int.gcd a b : Nat) : Int) ≠ 0 := by
    have := Int.gcd_pos_of_ne_zero_right a hb
    omega
  have eg : (a.natAbs.gcd b.natAbs : Nat) = Int.gcd a b := rfl
  simp only [t_lowest, sRet, sSeq, sAsg, sIfS, sSkip, sPar, sAsgG, sDrop, sRaise, sOp, sCB, sCons, sNil, sVar, sC, sTup, sLst, sNew, sNeg, sNot, sTest, sNotT, sAndT, sOrT, sAnd, sOr, sIf, sChain, sBits, sCall, ini, endOf, kName, kTup2, oAdd, oI, oI0, oIs, isNon_non, isNon_tup, isNon_int, oIx, oLen, oAbs, oInt, oGcd, oType, oEq_ii, oNe_ii, oEq_enc, oNe_enc, oEq_tt, oNe_tt, atI_0, atI_1, List.map_cons, List.map_nil, List.length_cons, List.length_nil, List.cons_append, List.nil_append, List.append_nil, List.replicate_succ, List.replicate_zero, List.getElem?_cons_zero, List.getElem?_cons_succ, List.set_cons_zero, List.set_cons_succ, Bool.false_eq_true, decide_true, decide_false, Bool.not_true, Bool.not_false, ↓reduceIte, Nat.reduceAdd, Nat.reduceSub, Nat.zero_add, Option.isSome, eg]
  by_cases h : b < 0
  · rw [decide_eq_true h]
    refine ⟨cdiv ba (by omega), cdiv bb (by omega), by decide, ?_⟩
    simp only [low, h, if_true, enc] at hq
    exact hq
  · rw [decide_eq_false h]
    refine ⟨cdiv ba (by omega), cdiv bb (by omega), by decide, ?_⟩
    simp only [low, h, if_false, enc] at hq
    exact hq
theorem p_opposite : ∀ pvs st Q PX, S_opposite mg pvs st Q PX → t_opposite K mg (endOf Q PX) (ini N_opposite pvs) st := by
  rintro pvs st Q PX ⟨x, rfl, hq⟩
  cases x with
  | none => exact hq
  | some x =>
    obtain ⟨a, b⟩ := x
    simp only [t_opposite, enc, sRet, sSeq, sAsg, sIfS, sSkip, sPar, sAsgG, sDrop, sRaise, sOp, sCB, sCons, sNil, sVar, sC, sTup, sLst, sNew, sNeg, sNot, sTest, sNotT, sAndT, sOrT, sAnd, sOr, sIf, sChain, sBits, sCall, ini, endOf, kName, kTup2, oAdd, oI, oI0, oIs, isNon_non, isNon_tup, isNon_int, oIx, oLen, oAbs, oInt, oGcd, oType, oEq_ii, oNe_ii, oEq_enc, oNe_enc, oEq_tt, oNe_tt, atI_0, atI_1, List.map_cons, List.map_nil, List.length_cons, List.length_nil, List.cons_append, List.nil_append, List.append_nil, List.replicate_succ, List.replicate_zero, List.getElem?_cons_zero, List.getElem?_cons_succ, List.set_cons_zero, List.set_cons_succ, Bool.false_eq_true, decide_true, decide_false, Bool.not_true, Bool.not_false, ↓reduceIte, Nat.reduceAdd, Nat.reduceSub, Nat.zero_add, Option.isSome]
    exact ⟨by decide, hq⟩
theorem p_added : ∀ pvs st Q PX, S_added mg pvs st Q PX → t_added K mg (endOf Q PX) (ini N_added pvs) st := by
  rintro pvs st Q PX ⟨x, y, n, m, rfl, hx, hy, sx, sy, hs, hq⟩
  cases x with
  | none => exact hq
  | some x =>
    cases y with
    | none => exact hq
    | some y =>
      obtain ⟨a, b⟩ := x
      obtain ⟨c, d⟩ := y
      have hb : b ≠ 0 := hx.ne
      have hd : d ≠ 0 := hy.ne
      simp only [t_added, enc, sRet, sSeq, sAsg, sIfS, sSkip, sPar, sAsgG, sDrop, sRaise, sOp, sCB, sCons, sNil, sVar, sC, sTup, sLst, sNew, sNeg, sNot, sTest, sNotT, sAndT, sOrT, sAnd, sOr, sIf, sChain, sBits, sCall, ini, endOf, kName, kTup2, oAdd, oI, oI0, oIs, isNon_non, isNon_tup, isNon_int, oIx, oLen, oAbs, oInt, oGcd, oType, oEq_ii, oNe_ii, oEq_enc, oNe_enc, oEq_tt, oNe_tt, atI_0, atI_1, List.map_cons, List.map_nil, List.length_cons, List.length_nil, List.cons_append, List.nil_append, List.append_nil, List.replicate_succ, List.replicate_zero, List.getElem?_cons_zero, List.getElem?_cons_succ, List.set_cons_zero, List.set_cons_succ, Bool.false_eq_true, decide_true, decide_false, Bool.not_true, Bool.not_false, ↓reduceIte, Nat.reduceAdd, Nat.reduceSub, Nat.zero_add, Option.isSome]
      simp only [addW, enc] at hq
      by_cases h : b = d
      · subst h
        rw [decide_eq_true rfl]
        rw [add_same hb] at hq
        by_cases h1 : b = 1
        · subst h1
          rw [decide_eq_true rfl]
          rw [low_one] at hq
          exact ⟨by decide, hq⟩
        · rw [decide_eq_false h1]
          have e1 : B (n + m) a := sx.1.mono (by omega)
          have e2 : B (n + m) c := sy.1.mono (by omega)
          exact ⟨_, _, rfl, hb, (e1.add e2).mono hs, sx.2.mono (by omega), hq⟩
      · rw [decide_eq_false h]
        have m1 := sx.1.mul sy.2
        have m2 : B (n + m) (c * b) := by rw [Nat.add_comm]; exact sy.1.mul sx.2
        have m3 := sx.2.mul sy.2
        exact ⟨cmul sx.1 sy.2 (by omega), cmul sy.1 sx.2 (by omega), cmul sx.2 sy.2 (by omega), _, _, rfl, Int.mul_ne_zero hb hd, (m1.add m2).mono hs, m3.mono (by omega), hq⟩
theorem p_multiplied : ∀ pvs st Q PX, S_multiplied mg pvs st Q PX → t_multiplied K mg (endOf Q PX) (ini N_multiplied pvs) st := by
  rintro pvs st Q PX ⟨x, y, n, m, rfl, hx, hy, sx, sy, hs, hq⟩
  cases x with
  | none => exact hq
  | some x =>
    obtain ⟨a, b⟩ := x
    cases y with
    | none => exact hq
    | some y =>
      obtain ⟨c, d⟩ := y
      have hb : b ≠ 0 := hx.ne
      have hd : d ≠ 0 := hy.ne
      simp only [t_multiplied, enc, sRet, sSeq, sAsg, sIfS, sSkip, sPar, sAsgG, sDrop, sRaise, sOp, sCB, sCons, sNil, sVar, sC, sTup, sLst, sNew, sNeg, sNot, sTest, sNotT, sAndT, sOrT, sAnd, sOr, sIf, sChain, sBits, sCall, ini, endOf, kName, kTup2, oAdd, oI, oI0, oIs, isNon_non, isNon_tup, isNon_int, oIx, oLen, oAbs, oInt, oGcd, oType, oEq_ii, oNe_ii, oEq_enc, oNe_enc, oEq_tt, oNe_tt, atI_0, atI_1, List.map_cons, List.map_nil, List.length_cons, List.length_nil, List.cons_append, List.nil_append, List.append_nil, List.replicate_succ, List.replicate_zero, List.getElem?_cons_zero, List.getElem?_cons_succ, List.set_cons_zero, List.set_cons_succ, Bool.false_eq_true, decide_true, decide_false, Bool.not_true, Bool.not_false, ↓reduceIte, Nat.reduceAdd, Nat.reduceSub, Nat.zero_add, Option.isSome]
      simp only [mulW, enc] at hq
      have gen : CMulX a c ∧ CMulX b d ∧ S_lowest mg [.int (a * c), .int (b * d)] st Q fun e st1 => PX e st1 :=
        ⟨cmul sx.1 sy.1 (by omega), cmul sx.2 sy.2 (by omega), _, _, rfl, Int.mul_ne_zero hb hd, (sx.1.mul sy.1).mono hs, (sx.2.mul sy.2).mono hs, hq⟩
      by_cases h : b = 1
      · subst h
        rw [decide_eq_true rfl]
        by_cases h1 : d = 1
        · subst h1
          rw [decide_eq_true rfl]
          rw [Int.mul_one, low_one] at hq
          exact ⟨cmul sx.1 sy.1 (by omega), by decide, hq⟩
        · rw [decide_eq_false h1]
          exact gen
      · rw [decide_eq_false h]
        exact gen
theorem p_divided : ∀ pvs st Q PX, S_divided mg pvs st Q PX → t_divided K mg (endOf Q PX) (ini N_divided pvs) st := by
  rintro pvs st Q PX ⟨x, y, n, m, rfl, hx, hy, hz, sx, sy, hs, hq⟩
  cases x with
  | none => exact hq
  | some x =>
    obtain ⟨a, b⟩ := x
    cases y with
    | none => exact hq
    | some y =>
      obtain ⟨c, d⟩ := y
      have hb : b ≠ 0 := hx.ne
      have hc : c ≠ 0 := by
        intro z
        subst z
        have h1 := hy.cop
        have h2 := hy.pos
        simp only [Int.gcd_zero_left] at h1
        have e : d = 1 := by
          have h2' : 0 < d := h2
          omega
        exact hz (by rw [e])
      simp only [t_divided, enc, sRet, sSeq, sAsg, sIfS, sSkip, sPar, sAsgG, sDrop, sRaise, sOp, sCB, sCons, sNil, sVar, sC, sTup, sLst, sNew, sNeg, sNot, sTest, sNotT, sAndT, sOrT, sAnd, sOr, sIf, sChain, sBits, sCall, ini, endOf, kName, kTup2, oAdd, oI, oI0, oIs, isNon_non, isNon_tup, isNon_int, oIx, oLen, oAbs, oInt, oGcd, oType, oEq_ii, oNe_ii, oEq_enc, oNe_enc, oEq_tt, oNe_tt, atI_0, atI_1, List.map_cons, List.map_nil, List.length_cons, List.length_nil, List.cons_append, List.nil_append, List.append_nil, List.replicate_succ, List.replicate_zero, List.getElem?_cons_zero, List.getElem?_cons_succ, List.set_cons_zero, List.set_cons_succ, Bool.false_eq_true, decide_true, decide_false, Bool.not_true, Bool.not_false, ↓reduceIte, Nat.reduceAdd, Nat.reduceSub, Nat.zero_add, Option.isSome]
      simp only [divW, enc] at hq
      exact ⟨cmul sx.1 sy.2 (by omega), cmul sx.2 sy.1 (by omega), _, _, rfl, Int.mul_ne_zero hb hc, (sx.1.mul sy.2).mono hs, (sx.2.mul sy.1).mono hs, hq⟩
theorem p_is_less : ∀ pvs st Q PX, S_is_less mg pvs st Q PX → t_is_less K mg (endOf Q PX) (ini N_is_less pvs) st := by
  rintro pvs st Q PX ⟨a, b, c, d, rfl, ba, bb, bc, bd, hq⟩
  simp only [t_is_less, enc, sRet, sSeq, sAsg, sIfS, sSkip, sPar, sAsgG, sDrop, sRaise, sOp, sCB, sCons, sNil, sVar, sC, sTup, sLst, sNew, sNeg, sNot, sTest, sNotT, sAndT, sOrT, sAnd, sOr, sIf, sChain, sBits, sCall, ini, endOf, kName, kTup2, oAdd, oI, oI0, oIs, isNon_non, isNon_tup, isNon_int, oIx, oLen, oAbs, oInt, oGcd, oType, oEq_ii, oNe_ii, oEq_enc, oNe_enc, oEq_tt, oNe_tt, atI_0, atI_1, List.map_cons, List.map_nil, List.length_cons, List.length_nil, List.cons_append, List.nil_append, List.append_nil, List.replicate_succ, List.replicate_zero, List.getElem?_cons_zero, List.getElem?_cons_succ, List.set_cons_zero, List.set_cons_succ, Bool.false_eq_true, decide_true, decide_false, Bool.not_true, Bool.not_false, ↓reduceIte, Nat.reduceAdd, Nat.reduceSub, Nat.zero_add, Option.isSome]
  exact ⟨cmul ba bd (by omega), cmul bc bb (by omega), hq⟩
end
end Cm
set_option Elab.async false
set_option linter.all false
set_option maxRecDepth 100000
set_option maxHeartbeats 1000000
namespace Cm
open PySem PySem.Spec PyProof.Rows L2 Sm Wm
section
variable {K : PySem.W.Frag} {mg : Str → Option Value}
theorem fine_ty {v : PV} (h : fineB v = true) : (tyName v).isSome = true := by
  cases v <;> first | exact h | rfl
theorem len2 (n : Nat) : decide (((n + 1 + 1 + 1 : Nat) : Int) = 2) = false := by
  apply decide_eq_false
  omega
theorem worth1 (a : PV) : worthB (.tup [a]) = false := by cases a <;> rfl
theorem worth3 (a b c : PV) (l : List PV) : worthB (.tup (a :: b :: c :: l)) = false := by cases a <;> cases b <;> rfl
theorem p_is_worth : ∀ pvs st Q PX, S_is_worth mg pvs st Q PX → t_is_worth K mg (endOf Q PX) (ini N_is_worth pvs) st := by
  rintro pvs st Q PX ⟨v, rfl, hv, hq⟩
  have h1 := fine_ty hv
  cases v <;> first | exact (Bool.noConfusion h1) | skip
  case tup l =>
    rcases l with _ | ⟨a, _ | ⟨b, _ | ⟨c, l⟩⟩⟩
    · simp only [t_is_worth, tyName, sRet, sSeq, sAsg, sIfS, sSkip, sPar, sAsgG, sDrop, sRaise, sOp, sCB, sCons, sNil, sVar, sC, sTup, sLst, sNew, sNeg, sNot, sTest, sNotT, sAndT, sOrT, sAnd, sOr, sIf, sChain, sBits, sCall, ini, endOf, kName, kTup2, oAdd, oI, oI0, oIs, isNon_non, isNon_tup, isNon_int, oIx, oLen, oAbs, oInt, oGcd, oType, oEq_ii, oNe_ii, oEq_enc, oNe_enc, oEq_tt, oNe_tt, atI_0, atI_1, List.map_cons, List.map_nil, List.length_cons, List.length_nil, List.cons_append, List.nil_append, List.append_nil, List.replicate_succ, List.replicate_zero, List.getElem?_cons_zero, List.getElem?_cons_succ, List.set_cons_zero, List.set_cons_succ, Bool.false_eq_true, decide_true, decide_false, Bool.not_true, Bool.not_false, ↓reduceIte, Nat.reduceAdd, Nat.reduceSub, Nat.zero_add, Option.isSome]
      exact hq
    · simp only [t_is_worth, tyName, sRet, sSeq, sAsg, sIfS, sSkip, sPar, sAsgG, sDrop, sRaise, sOp, sCB, sCons, sNil, sVar, sC, sTup, sLst, sNew, sNeg, sNot, sTest, sNotT, sAndT, sOrT, sAnd, sOr, sIf, sChain, sBits, sCall, ini, endOf, kName, kTup2, oAdd, oI, oI0, oIs, isNon_non, isNon_tup, isNon_int, oIx, oLen, oAbs, oInt, oGcd, oType, oEq_ii, oNe_ii, oEq_enc, oNe_enc, oEq_tt, oNe_tt, atI_0, atI_1, List.map_cons, List.map_nil, List.length_cons, List.length_nil, List.cons_append, List.nil_append, List.append_nil, List.replicate_succ, List.replicate_zero, List.getElem?_cons_zero, List.getElem?_cons_succ, List.set_cons_zero, List.set_cons_succ, Bool.false_eq_true, decide_true, decide_false, Bool.not_true, Bool.not_false, ↓reduceIte, Nat.reduceAdd, Nat.reduceSub, Nat.zero_add, Option.isSome]
      have e : decide (((1 : Nat) : Int) = 2) = false := by decide
      rw [e]
      rw [worth1] at hq
      exact hq
    · have ha : plainB a = true ∧ plainB b = true := by
        simp only [fineB, List.all_cons, List.all_nil, Bool.and_true, Bool.and_eq_true] at hv
        exact hv
      simp only [t_is_worth, tyName, sRet, sSeq, sAsg, sIfS, sSkip, sPar, sAsgG, sDrop, sRaise, sOp, sCB, sCons, sNil, sVar, sC, sTup, sLst, sNew, sNeg, sNot, sTest, sNotT, sAndT, sOrT, sAnd, sOr, sIf, sChain, sBits, sCall, ini, endOf, kName, kTup2, oAdd, oI, oI0, oIs, isNon_non, isNon_tup, isNon_int, oIx, oLen, oAbs, oInt, oGcd, oType, oEq_ii, oNe_ii, oEq_enc, oNe_enc, oEq_tt, oNe_tt, atI_0, atI_1, List.map_cons, List.map_nil, List.length_cons, List.length_nil, List.cons_append, List.nil_append, List.append_nil, List.replicate_succ, List.replicate_zero, List.getElem?_cons_zero, List.getElem?_cons_succ, List.set_cons_zero, List.set_cons_succ, Bool.false_eq_true, decide_true, decide_false, Bool.not_true, Bool.not_false, ↓reduceIte, Nat.reduceAdd, Nat.reduceSub, Nat.zero_add, Option.isSome]
      refine ⟨a, rfl, plain_ty ha.1, ?_⟩
      cases a <;> first | exact hq | skip
      case int a =>
        refine ⟨b, rfl, plain_ty ha.2, ?_⟩
        cases b <;> first | exact hq | skip
        case int b =>
          simp only [intB, Bool.not_true, oGe, sRet, sSeq, sAsg, sIfS, sSkip, sPar, sAsgG, sDrop, sRaise, sOp, sCB, sCons, sNil, sVar, sC, sTup, sLst, sNew, sNeg, sNot, sTest, sNotT, sAndT, sOrT, sAnd, sOr, sIf, sChain, sBits, sCall, ini, endOf, kName, kTup2, oAdd, oI, oI0, oIs, isNon_non, isNon_tup, isNon_int, oIx, oLen, oAbs, oInt, oGcd, oType, oEq_ii, oNe_ii, oEq_enc, oNe_enc, oEq_tt, oNe_tt, atI_0, atI_1, List.map_cons, List.map_nil, List.length_cons, List.length_nil, List.cons_append, List.nil_append, List.append_nil, List.replicate_succ, List.replicate_zero, List.getElem?_cons_zero, List.getElem?_cons_succ, List.set_cons_zero, List.set_cons_succ, Bool.false_eq_true, decide_true, decide_false, Bool.not_true, Bool.not_false, ↓reduceIte, Nat.reduceAdd, Nat.reduceSub, Nat.zero_add, Option.isSome]
          simp only [worthB] at hq
          have e : decide (((a.natAbs.gcd b.natAbs : Nat) : Int) = 1) = decide (Int.gcd a b = 1) := by
            apply Bool.eq_iff_iff.mpr
            simp only [decide_eq_true_eq]
            show ((Int.gcd a b : Nat) : Int) = 1 ↔ _
            omega
          rw [e]
          by_cases h : 1 ≤ b
          · rw [decide_eq_true h] at hq ⊢
            exact hq
          · rw [decide_eq_false h] at hq ⊢
            exact hq
    · simp only [t_is_worth, tyName, sRet, sSeq, sAsg, sIfS, sSkip, sPar, sAsgG, sDrop, sRaise, sOp, sCB, sCons, sNil, sVar, sC, sTup, sLst, sNew, sNeg, sNot, sTest, sNotT, sAndT, sOrT, sAnd, sOr, sIf, sChain, sBits, sCall, ini, endOf, kName, kTup2, oAdd, oI, oI0, oIs, isNon_non, isNon_tup, isNon_int, oIx, oLen, oAbs, oInt, oGcd, oType, oEq_ii, oNe_ii, oEq_enc, oNe_enc, oEq_tt, oNe_tt, atI_0, atI_1, List.map_cons, List.map_nil, List.length_cons, List.length_nil, List.cons_append, List.nil_append, List.append_nil, List.replicate_succ, List.replicate_zero, List.getElem?_cons_zero, List.getElem?_cons_succ, List.set_cons_zero, List.set_cons_succ, Bool.false_eq_true, decide_true, decide_false, Bool.not_true, Bool.not_false, ↓reduceIte, Nat.reduceAdd, Nat.reduceSub, Nat.zero_add, Option.isSome]
      rw [len2]
      rw [worth3] at hq
      exact hq
  all_goals exact hq
theorem oGe_ii (i j : Int) (st : Store) (P : Sm.PK) : oGe (.int i) (.int j) st P = P (.bl (decide (j ≤ i))) st := rfl
theorem oLe_ii (i j : Int) (st : Store) (P : Sm.PK) : oLe (.int i) (.int j) st P = P (.bl (decide (i ≤ j))) st := rfl
theorem w_cases {v : PV} (h : worthB v = true) : ∃ a b : Int, v = .tup [.int a, .int b] ∧ 1 ≤ b ∧ Int.gcd a b = 1 := by
  unfold worthB at h
  split at h
  · simp only [Bool.and_eq_true, decide_eq_true_eq] at h
    exact ⟨_, _, rfl, h⟩
  · cases h
theorem fine_pair {a b : Int} (h : fineB (.tup [.int a, .int b]) = true) : B 100000 a ∧ B 100000 b := by
  simp only [fineB, List.all_cons, List.all_nil, Bool.and_true, Bool.and_eq_true] at h
  exact ⟨plain_sz h.1, plain_sz h.2⟩
theorem cell_false {v : PV} (h : worthB v = false) : cellB v = false ∧ weightB v = false ∧ knownB v = false := by
  unfold worthB at h
  split at h
  · refine ⟨?_, ?_, ?_⟩
    · simp only [cellB, worthB, h, Bool.false_and]
    · simp only [weightB, worthB, h, Bool.false_and]
    · simp only [knownB, h, Bool.false_and]
  · rename_i q
    refine ⟨?_, ?_, ?_⟩
    · unfold cellB
      split
      · exact absurd rfl (q _ _)
      · rfl
    · unfold weightB
      split
      · exact absurd rfl (q _ _)
      · rfl
    · unfold knownB
      split
      · exact absurd rfl (q _ _)
      · rfl
theorem not_le_lt (a b : Nat) : (!decide (a ≤ b)) = decide (b < a) := by
  apply Bool.eq_iff_iff.mpr
  simp [Nat.not_le]
theorem p__is_known : ∀ pvs st Q PX, S__is_known mg pvs st Q PX → t__is_known K mg (endOf Q PX) (ini N__is_known pvs) st := by
  rintro pvs st Q PX ⟨v, rfl, hv, hq⟩
  simp only [t__is_known, sRet, sSeq, sAsg, sIfS, sSkip, sPar, sAsgG, sDrop, sRaise, sOp, sCB, sCons, sNil, sVar, sC, sTup, sLst, sNew, sNeg, sNot, sTest, sNotT, sAndT, sOrT, sAnd, sOr, sIf, sChain, sBits, sCall, ini, endOf, kName, kTup2, oAdd, oI, oI0, oIs, isNon_non, isNon_tup, isNon_int, oIx, oLen, oAbs, oInt, oGcd, oType, oEq_ii, oNe_ii, oEq_enc, oNe_enc, oEq_tt, oNe_tt, atI_0, atI_1, List.map_cons, List.map_nil, List.length_cons, List.length_nil, List.cons_append, List.nil_append, List.append_nil, List.replicate_succ, List.replicate_zero, List.getElem?_cons_zero, List.getElem?_cons_succ, List.set_cons_zero, List.set_cons_succ, Bool.false_eq_true, decide_true, decide_false, Bool.not_true, Bool.not_false, ↓reduceIte, Nat.reduceAdd, Nat.reduceSub, Nat.zero_add, Option.isSome]
  refine ⟨v, rfl, hv, ?_⟩
  cases hw : worthB v with
  | false =>
    rw [(cell_false hw).2.2] at hq
    exact hq
  | true =>
    obtain ⟨a, b, rfl, hb, hg⟩ := w_cases hw
    obtain ⟨s1, s2⟩ := fine_pair hv
    simp only [Bool.not_true, sRet, sSeq, sAsg, sIfS, sSkip, sPar, sAsgG, sDrop, sRaise, sOp, sCB, sCons, sNil, sVar, sC, sTup, sLst, sNew, sNeg, sNot, sTest, sNotT, sAndT, sOrT, sAnd, sOr, sIf, sChain, sBits, sCall, ini, endOf, kName, kTup2, oAdd, oI, oI0, oIs, isNon_non, isNon_tup, isNon_int, oIx, oLen, oAbs, oInt, oGcd, oType, oEq_ii, oNe_ii, oEq_enc, oNe_enc, oEq_tt, oNe_tt, atI_0, atI_1, List.map_cons, List.map_nil, List.length_cons, List.length_nil, List.cons_append, List.nil_append, List.append_nil, List.replicate_succ, List.replicate_zero, List.getElem?_cons_zero, List.getElem?_cons_succ, List.set_cons_zero, List.set_cons_succ, Bool.false_eq_true, decide_true, decide_false, Bool.not_true, Bool.not_false, ↓reduceIte, Nat.reduceAdd, Nat.reduceSub, Nat.zero_add, Option.isSome]
    refine ⟨a, 4000, rfl, by omega, s1, ?_⟩
    simp only [knownB, decide_eq_true hb, decide_eq_true hg, Bool.true_and] at hq
    by_cases h : 10 ^ 4000 ≤ a.natAbs
    · rw [decide_eq_true h]
      rw [show decide (a.natAbs < 10 ^ 4000) = false from decide_eq_false (Nat.not_lt.mpr h)] at hq
      exact hq
    · rw [decide_eq_false h]
      rw [show decide (a.natAbs < 10 ^ 4000) = true from decide_eq_true (Nat.lt_of_not_le h)] at hq
      refine ⟨b, 4000, rfl, by omega, s2, ?_⟩
      show Q (.bl (!decide (10 ^ 4000 ≤ b.natAbs))) st
      rw [not_le_lt]
      exact hq
theorem p_is_cell_worth : ∀ pvs st Q PX, S_is_cell_worth mg pvs st Q PX → t_is_cell_worth K mg (endOf Q PX) (ini N_is_cell_worth pvs) st := by
  rintro pvs st Q PX ⟨v, rfl, hv, hq⟩
  simp only [t_is_cell_worth, sRet, sSeq, sAsg, sIfS, sSkip, sPar, sAsgG, sDrop, sRaise, sOp, sCB, sCons, sNil, sVar, sC, sTup, sLst, sNew, sNeg, sNot, sTest, sNotT, sAndT, sOrT, sAnd, sOr, sIf, sChain, sBits, sCall, ini, endOf, kName, kTup2, oAdd, oI, oI0, oIs, isNon_non, isNon_tup, isNon_int, oIx, oLen, oAbs, oInt, oGcd, oType, oEq_ii, oNe_ii, oEq_enc, oNe_enc, oEq_tt, oNe_tt, atI_0, atI_1, List.map_cons, List.map_nil, List.length_cons, List.length_nil, List.cons_append, List.nil_append, List.append_nil, List.replicate_succ, List.replicate_zero, List.getElem?_cons_zero, List.getElem?_cons_succ, List.set_cons_zero, List.set_cons_succ, Bool.false_eq_true, decide_true, decide_false, Bool.not_true, Bool.not_false, ↓reduceIte, Nat.reduceAdd, Nat.reduceSub, Nat.zero_add, Option.isSome]
  refine ⟨v, rfl, hv, ?_⟩
  cases hw : worthB v with
  | false =>
    rw [(cell_false hw).1] at hq
    exact hq
  | true =>
    obtain ⟨a, b, rfl, hb, hg⟩ := w_cases hw
    obtain ⟨s1, s2⟩ := fine_pair hv
    simp only [sRet, sSeq, sAsg, sIfS, sSkip, sPar, sAsgG, sDrop, sRaise, sOp, sCB, sCons, sNil, sVar, sC, sTup, sLst, sNew, sNeg, sNot, sTest, sNotT, sAndT, sOrT, sAnd, sOr, sIf, sChain, sBits, sCall, ini, endOf, kName, kTup2, oAdd, oI, oI0, oIs, isNon_non, isNon_tup, isNon_int, oIx, oLen, oAbs, oInt, oGcd, oType, oEq_ii, oNe_ii, oEq_enc, oNe_enc, oEq_tt, oNe_tt, atI_0, atI_1, List.map_cons, List.map_nil, List.length_cons, List.length_nil, List.cons_append, List.nil_append, List.append_nil, List.replicate_succ, List.replicate_zero, List.getElem?_cons_zero, List.getElem?_cons_succ, List.set_cons_zero, List.set_cons_succ, Bool.false_eq_true, decide_true, decide_false, Bool.not_true, Bool.not_false, ↓reduceIte, Nat.reduceAdd, Nat.reduceSub, Nat.zero_add, Option.isSome]
    refine ⟨a, 18, rfl, by omega, s1, ?_⟩
    simp only [cellB, hw, Bool.true_and] at hq
    by_cases h : 10 ^ 18 ≤ a.natAbs
    · rw [decide_eq_true h] at hq ⊢
      exact hq
    · rw [decide_eq_false h] at hq ⊢
      exact hq
theorem p_is_weight : ∀ pvs st Q PX, S_is_weight mg pvs st Q PX → t_is_weight K mg (endOf Q PX) (ini N_is_weight pvs) st := by
  rintro pvs st Q PX ⟨v, rfl, hv, hq⟩
  simp only [t_is_weight, sRet, sSeq, sAsg, sIfS, sSkip, sPar, sAsgG, sDrop, sRaise, sOp, sCB, sCons, sNil, sVar, sC, sTup, sLst, sNew, sNeg, sNot, sTest, sNotT, sAndT, sOrT, sAnd, sOr, sIf, sChain, sBits, sCall, ini, endOf, kName, kTup2, oAdd, oI, oI0, oIs, isNon_non, isNon_tup, isNon_int, oIx, oLen, oAbs, oInt, oGcd, oType, oEq_ii, oNe_ii, oEq_enc, oNe_enc, oEq_tt, oNe_tt, atI_0, atI_1, List.map_cons, List.map_nil, List.length_cons, List.length_nil, List.cons_append, List.nil_append, List.append_nil, List.replicate_succ, List.replicate_zero, List.getElem?_cons_zero, List.getElem?_cons_succ, List.set_cons_zero, List.set_cons_succ, Bool.false_eq_true, decide_true, decide_false, Bool.not_true, Bool.not_false, ↓reduceIte, Nat.reduceAdd, Nat.reduceSub, Nat.zero_add, Option.isSome]
  refine ⟨v, rfl, hv, ?_⟩
  cases hw : worthB v with
  | false =>
    rw [(cell_false hw).2.1] at hq
    exact hq
  | true =>
    obtain ⟨a, b, rfl, hb, hg⟩ := w_cases hw
    simp only [sRet, sSeq, sAsg, sIfS, sSkip, sPar, sAsgG, sDrop, sRaise, sOp, sCB, sCons, sNil, sVar, sC, sTup, sLst, sNew, sNeg, sNot, sTest, sNotT, sAndT, sOrT, sAnd, sOr, sIf, sChain, sBits, sCall, ini, endOf, kName, kTup2, oAdd, oI, oI0, oIs, isNon_non, isNon_tup, isNon_int, oIx, oLen, oAbs, oInt, oGcd, oType, oEq_ii, oNe_ii, oEq_enc, oNe_enc, oEq_tt, oNe_tt, atI_0, atI_1, List.map_cons, List.map_nil, List.length_cons, List.length_nil, List.cons_append, List.nil_append, List.append_nil, List.replicate_succ, List.replicate_zero, List.getElem?_cons_zero, List.getElem?_cons_succ, List.set_cons_zero, List.set_cons_succ, Bool.false_eq_true, decide_true, decide_false, Bool.not_true, Bool.not_false, ↓reduceIte, Nat.reduceAdd, Nat.reduceSub, Nat.zero_add, Option.isSome]
    simp only [weightB, hw, Bool.true_and] at hq
    by_cases h : a = 0
    · rw [decide_eq_true h] at hq ⊢
      exact hq
    · rw [decide_eq_false h] at hq ⊢
      refine ⟨.int a, -99, 99, rfl, rfl, ?_⟩
      simp only [betB]
      simp only [Bool.not_false, Bool.true_and] at hq
      cases h2 : decide (-99 ≤ a) && decide (a ≤ 99) with
      | true =>
        rw [h2] at hq
        exact hq
      | false =>
        rw [h2] at hq
        exact hq
theorem p__check_worth : ∀ pvs st Q PX, S__check_worth mg pvs st Q PX → t__check_worth K mg (endOf Q PX) (ini N__check_worth pvs) st := by
  rintro pvs st Q PX ⟨v, rfl, hv, h1, h2⟩
  simp only [t__check_worth, sRet, sSeq, sAsg, sIfS, sSkip, sPar, sAsgG, sDrop, sRaise, sOp, sCB, sCons, sNil, sVar, sC, sTup, sLst, sNew, sNeg, sNot, sTest, sNotT, sAndT, sOrT, sAnd, sOr, sIf, sChain, sBits, sCall, ini, endOf, kName, kTup2, oAdd, oI, oI0, oIs, isNon_non, isNon_tup, isNon_int, oIx, oLen, oAbs, oInt, oGcd, oType, oEq_ii, oNe_ii, oEq_enc, oNe_enc, oEq_tt, oNe_tt, atI_0, atI_1, List.map_cons, List.map_nil, List.length_cons, List.length_nil, List.cons_append, List.nil_append, List.append_nil, List.replicate_succ, List.replicate_zero, List.getElem?_cons_zero, List.getElem?_cons_succ, List.set_cons_zero, List.set_cons_succ, Bool.false_eq_true, decide_true, decide_false, Bool.not_true, Bool.not_false, ↓reduceIte, Nat.reduceAdd, Nat.reduceSub, Nat.zero_add, Option.isSome]
  refine ⟨v, rfl, hv, ?_⟩
  cases hw : knownB v with
  | false => exact h2 hw
  | true => exact h1 hw
theorem p__check_operands : ∀ pvs st Q PX, S__check_operands mg pvs st Q PX → t__check_operands K mg (endOf Q PX) (ini N__check_operands pvs) st := by
  rintro pvs st Q PX ⟨v, w, rfl, hv, hw, h1, h2, h3⟩
  simp only [t__check_operands, sRet, sSeq, sAsg, sIfS, sSkip, sPar, sAsgG, sDrop, sRaise, sOp, sCB, sCons, sNil, sVar, sC, sTup, sLst, sNew, sNeg, sNot, sTest, sNotT, sAndT, sOrT, sAnd, sOr, sIf, sChain, sBits, sCall, ini, endOf, kName, kTup2, oAdd, oI, oI0, oIs, isNon_non, isNon_tup, isNon_int, oIx, oLen, oAbs, oInt, oGcd, oType, oEq_ii, oNe_ii, oEq_enc, oNe_enc, oEq_tt, oNe_tt, atI_0, atI_1, List.map_cons, List.map_nil, List.length_cons, List.length_nil, List.cons_append, List.nil_append, List.append_nil, List.replicate_succ, List.replicate_zero, List.getElem?_cons_zero, List.getElem?_cons_succ, List.set_cons_zero, List.set_cons_succ, Bool.false_eq_true, decide_true, decide_false, Bool.not_true, Bool.not_false, ↓reduceIte, Nat.reduceAdd, Nat.reduceSub, Nat.zero_add, Option.isSome]
  simp only [opB] at h1 h2 h3
  have second : opB v = true → (match !Sm.isNon w with
      | true => S__check_worth mg [w] st (fun v st1 => Q .non st1) fun e st1 => PX e st1
      | false => Q .non st) := by
    intro hov
    cases h5 : Sm.isNon w with
    | true =>
      rw [h5] at h3
      exact h3 hov rfl
    | false =>
      rw [h5] at h2 h3
      simp only [Bool.false_or] at h2 h3
      exact ⟨w, rfl, hw, fun q => h3 hov q, fun q => h2 hov q⟩
  cases h4 : Sm.isNon v with
  | true => exact second (by unfold opB; rw [h4]; rfl)
  | false =>
    rw [h4] at h1
    simp only [Bool.false_or] at h1
    refine ⟨v, rfl, hv, fun q => second (by unfold opB; rw [q, Bool.or_true]), fun q => h1 q⟩
end
end Cm
set_option Elab.async false
set_option linter.all false
set_option maxRecDepth 100000
set_option maxHeartbeats 1000000
namespace Cm
open PySem PySem.Spec PyProof.Rows L2 Sm Wm
section
variable {K : PySem.W.Frag} {mg : Str → Option Value}
theorem few_int {m : Nat} {v : PV} (h : fewB m v = true) : ∃ i : Int, v = .int i := by
  cases v <;> first | cases h | exact ⟨_, rfl⟩
theorem b4000 {i : Int} (h : fewB 4000 (.int i) = true) : B 13500 i := by
  have h1 : ¬ (10 ^ 4000 ≤ i.natAbs) := by simpa [fewB] using h
  have h2 : (10 : Nat) ^ 4000 ≤ 2 ^ 13500 := by decide +kernel
  exact Nat.lt_of_lt_of_le (Nat.lt_of_not_le h1) h2
theorem p_worth : ∀ pvs st Q PX, S_worth mg pvs st Q PX → t_worth K mg (endOf Q PX) (ini N_worth pvs) st := by
  rintro pvs st Q PX ⟨v, w, rfl, hv, hw, h1, h2, h3⟩
  simp only [t_worth, sRet, sSeq, sAsg, sIfS, sSkip, sPar, sAsgG, sDrop, sRaise, sOp, sCB, sCons, sNil, sVar, sC, sTup, sLst, sNew, sNeg, sNot, sTest, sNotT, sAndT, sOrT, sAnd, sOr, sIf, sChain, sBits, sCall, ini, endOf, kName, kTup2, oAdd, oI, oI0, oIs, isNon_non, isNon_tup, isNon_int, oIx, oLen, oAbs, oInt, oGcd, oType, oEq_ii, oNe_ii, oEq_enc, oNe_enc, oEq_tt, oNe_tt, atI_0, atI_1, List.map_cons, List.map_nil, List.length_cons, List.length_nil, List.cons_append, List.nil_append, List.append_nil, List.replicate_succ, List.replicate_zero, List.getElem?_cons_zero, List.getElem?_cons_succ, List.set_cons_zero, List.set_cons_succ, Bool.false_eq_true, decide_true, decide_false, Bool.not_true, Bool.not_false, ↓reduceIte, Nat.reduceAdd, Nat.reduceSub, Nat.zero_add, Option.isSome]
  refine ⟨v, 4000, rfl, by omega, hv, ?_⟩
  cases e1 : fewB 4000 v with
  | false => exact h1 e1
  | true =>
    refine ⟨w, 4000, rfl, by omega, hw, ?_⟩
    cases e2 : fewB 4000 w with
    | false => exact h2 e1 (.inl e2)
    | true =>
      obtain ⟨a, rfl⟩ := few_int e1
      obtain ⟨b, rfl⟩ := few_int e2
      simp only [sRet, sSeq, sAsg, sIfS, sSkip, sPar, sAsgG, sDrop, sRaise, sOp, sCB, sCons, sNil, sVar, sC, sTup, sLst, sNew, sNeg, sNot, sTest, sNotT, sAndT, sOrT, sAnd, sOr, sIf, sChain, sBits, sCall, ini, endOf, kName, kTup2, oAdd, oI, oI0, oIs, isNon_non, isNon_tup, isNon_int, oIx, oLen, oAbs, oInt, oGcd, oType, oEq_ii, oNe_ii, oEq_enc, oNe_enc, oEq_tt, oNe_tt, atI_0, atI_1, List.map_cons, List.map_nil, List.length_cons, List.length_nil, List.cons_append, List.nil_append, List.append_nil, List.replicate_succ, List.replicate_zero, List.getElem?_cons_zero, List.getElem?_cons_succ, List.set_cons_zero, List.set_cons_succ, Bool.false_eq_true, decide_true, decide_false, Bool.not_true, Bool.not_false, ↓reduceIte, Nat.reduceAdd, Nat.reduceSub, Nat.zero_add, Option.isSome]
      by_cases hb : b = 0
      · rw [decide_eq_true hb]
        subst hb
        exact h2 e1 (.inr rfl)
      · rw [decide_eq_false hb]
        exact ⟨a, b, rfl, hb, b4000 e1, b4000 e2, h3 a b rfl rfl e1 e2 hb⟩
theorem szw_neg {n : Nat} {y : Wo} (h : SzW n y) : SzW n (negW y) := by
  cases y with
  | none => trivial
  | some y => exact ⟨h.1.neg, h.2⟩
theorem p_plus : ∀ pvs st Q PX, S_plus mg pvs st Q PX → t_plus K mg (endOf Q PX) (ini N_plus pvs) st := by
  rintro pvs st Q PX ⟨v, w, rfl, hv, hw, h1, h2, h3⟩
  simp only [t_plus, sRet, sSeq, sAsg, sIfS, sSkip, sPar, sAsgG, sDrop, sRaise, sOp, sCB, sCons, sNil, sVar, sC, sTup, sLst, sNew, sNeg, sNot, sTest, sNotT, sAndT, sOrT, sAnd, sOr, sIf, sChain, sBits, sCall, ini, endOf, kName, kTup2, oAdd, oI, oI0, oIs, isNon_non, isNon_tup, isNon_int, oIx, oLen, oAbs, oInt, oGcd, oType, oEq_ii, oNe_ii, oEq_enc, oNe_enc, oEq_tt, oNe_tt, atI_0, atI_1, List.map_cons, List.map_nil, List.length_cons, List.length_nil, List.cons_append, List.nil_append, List.append_nil, List.replicate_succ, List.replicate_zero, List.getElem?_cons_zero, List.getElem?_cons_succ, List.set_cons_zero, List.set_cons_succ, Bool.false_eq_true, decide_true, decide_false, Bool.not_true, Bool.not_false, ↓reduceIte, Nat.reduceAdd, Nat.reduceSub, Nat.zero_add, Option.isSome]
  refine ⟨v, w, rfl, hv, hw, h1, h2, fun q1 q2 => ?_⟩
  obtain ⟨x, y, n, m, rfl, rfl, hx, hy, sx, sy, hs, hq⟩ := h3 q1 q2
  exact ⟨x, y, n, m, rfl, hx, hy, sx, sy, hs, hq⟩
theorem p_times : ∀ pvs st Q PX, S_times mg pvs st Q PX → t_times K mg (endOf Q PX) (ini N_times pvs) st := by
  rintro pvs st Q PX ⟨v, w, rfl, hv, hw, h1, h2, h3⟩
  simp only [t_times, sRet, sSeq, sAsg, sIfS, sSkip, sPar, sAsgG, sDrop, sRaise, sOp, sCB, sCons, sNil, sVar, sC, sTup, sLst, sNew, sNeg, sNot, sTest, sNotT, sAndT, sOrT, sAnd, sOr, sIf, sChain, sBits, sCall, ini, endOf, kName, kTup2, oAdd, oI, oI0, oIs, isNon_non, isNon_tup, isNon_int, oIx, oLen, oAbs, oInt, oGcd, oType, oEq_ii, oNe_ii, oEq_enc, oNe_enc, oEq_tt, oNe_tt, atI_0, atI_1, List.map_cons, List.map_nil, List.length_cons, List.length_nil, List.cons_append, List.nil_append, List.append_nil, List.replicate_succ, List.replicate_zero, List.getElem?_cons_zero, List.getElem?_cons_succ, List.set_cons_zero, List.set_cons_succ, Bool.false_eq_true, decide_true, decide_false, Bool.not_true, Bool.not_false, ↓reduceIte, Nat.reduceAdd, Nat.reduceSub, Nat.zero_add, Option.isSome]
  refine ⟨v, w, rfl, hv, hw, h1, h2, fun q1 q2 => ?_⟩
  obtain ⟨x, y, n, m, rfl, rfl, hx, hy, sx, sy, hs, hq⟩ := h3 q1 q2
  exact ⟨x, y, n, m, rfl, hx, hy, sx, sy, hs, hq⟩
theorem p_minus : ∀ pvs st Q PX, S_minus mg pvs st Q PX → t_minus K mg (endOf Q PX) (ini N_minus pvs) st := by
  rintro pvs st Q PX ⟨v, w, rfl, hv, hw, h1, h2, h3⟩
  simp only [t_minus, sRet, sSeq, sAsg, sIfS, sSkip, sPar, sAsgG, sDrop, sRaise, sOp, sCB, sCons, sNil, sVar, sC, sTup, sLst, sNew, sNeg, sNot, sTest, sNotT, sAndT, sOrT, sAnd, sOr, sIf, sChain, sBits, sCall, ini, endOf, kName, kTup2, oAdd, oI, oI0, oIs, isNon_non, isNon_tup, isNon_int, oIx, oLen, oAbs, oInt, oGcd, oType, oEq_ii, oNe_ii, oEq_enc, oNe_enc, oEq_tt, oNe_tt, atI_0, atI_1, List.map_cons, List.map_nil, List.length_cons, List.length_nil, List.cons_append, List.nil_append, List.append_nil, List.replicate_succ, List.replicate_zero, List.getElem?_cons_zero, List.getElem?_cons_succ, List.set_cons_zero, List.set_cons_succ, Bool.false_eq_true, decide_true, decide_false, Bool.not_true, Bool.not_false, ↓reduceIte, Nat.reduceAdd, Nat.reduceSub, Nat.zero_add, Option.isSome]
  refine ⟨v, w, rfl, hv, hw, h1, h2, fun q1 q2 => ?_⟩
  obtain ⟨x, y, n, m, rfl, rfl, hx, hy, sx, sy, hs, hq⟩ := h3 q1 q2
  exact ⟨y, rfl, x, negW y, n, m, rfl, hx, fr_neg hy, sx, szw_neg sy, hs, hq⟩
theorem isNon_enc (x : Wo) : Sm.isNon (enc x) = decide (x = none) := by
  cases x <;> rfl
theorem p_over : ∀ pvs st Q PX, S_over mg pvs st Q PX → t_over K mg (endOf Q PX) (ini N_over pvs) st := by
  rintro pvs st Q PX ⟨v, w, rfl, hv, hw, h1, h2, h3⟩
  simp only [t_over, sRet, sSeq, sAsg, sIfS, sSkip, sPar, sAsgG, sDrop, sRaise, sOp, sCB, sCons, sNil, sVar, sC, sTup, sLst, sNew, sNeg, sNot, sTest, sNotT, sAndT, sOrT, sAnd, sOr, sIf, sChain, sBits, sCall, ini, endOf, kName, kTup2, oAdd, oI, oI0, oIs, isNon_non, isNon_tup, isNon_int, oIx, oLen, oAbs, oInt, oGcd, oType, oEq_ii, oNe_ii, oEq_enc, oNe_enc, oEq_tt, oNe_tt, atI_0, atI_1, List.map_cons, List.map_nil, List.length_cons, List.length_nil, List.cons_append, List.nil_append, List.append_nil, List.replicate_succ, List.replicate_zero, List.getElem?_cons_zero, List.getElem?_cons_succ, List.set_cons_zero, List.set_cons_succ, Bool.false_eq_true, decide_true, decide_false, Bool.not_true, Bool.not_false, ↓reduceIte, Nat.reduceAdd, Nat.reduceSub, Nat.zero_add, Option.isSome]
  refine ⟨v, w, rfl, hv, hw, h1, h2, fun q1 q2 => ?_⟩
  obtain ⟨x, y, n, m, rfl, rfl, hx, hy, sx, sy, hs, hr, hq⟩ := h3 q1 q2
  rw [isNon_enc]
  have ez : ∀ (st : Store) (P : Sm.PK), oEq (enc y) (.tup [.int 0, .int 1]) st P = P (.bl (decide (y = some (0, 1)))) st := fun st P => oEq_enc y (some (0, 1)) st P
  simp only [ez]
  cases x with
  | none => exact hq (.inl rfl)
  | some x =>
    by_cases hy0 : y = some (0, 1)
    · rw [decide_eq_true hy0]
      exact ⟨by decide, hr (by simp) hy0⟩
    · rw [decide_eq_false hy0]
      exact ⟨some x, y, n, m, rfl, hx, hy, hy0, sx, sy, hs, hq (.inr hy0)⟩
theorem k_cases {v : PV} (h : knownB v = true) : ∃ a b : Int, v = .tup [.int a, .int b] ∧ 1 ≤ b ∧ Int.gcd a b = 1 ∧ B 13500 a ∧ B 13500 b := by
  unfold knownB at h
  split at h
  · simp only [Bool.and_eq_true, decide_eq_true_eq] at h
    obtain ⟨⟨⟨h1, h2⟩, h3⟩, h4⟩ := h
    have h5 : (10 : Nat) ^ 4000 ≤ 2 ^ 13500 := by decide +kernel
    exact ⟨_, _, rfl, h1, h2, Nat.lt_of_lt_of_le h3 h5, Nat.lt_of_lt_of_le h4 h5⟩
  · cases h
theorem p_is_below : ∀ pvs st Q PX, S_is_below mg pvs st Q PX → t_is_below K mg (endOf Q PX) (ini N_is_below pvs) st := by
  rintro pvs st Q PX ⟨v, w, rfl, hv, hw, h1, h2, h3⟩
  simp only [t_is_below, sRet, sSeq, sAsg, sIfS, sSkip, sPar, sAsgG, sDrop, sRaise, sOp, sCB, sCons, sNil, sVar, sC, sTup, sLst, sNew, sNeg, sNot, sTest, sNotT, sAndT, sOrT, sAnd, sOr, sIf, sChain, sBits, sCall, ini, endOf, kName, kTup2, oAdd, oI, oI0, oIs, isNon_non, isNon_tup, isNon_int, oIx, oLen, oAbs, oInt, oGcd, oType, oEq_ii, oNe_ii, oEq_enc, oNe_enc, oEq_tt, oNe_tt, atI_0, atI_1, List.map_cons, List.map_nil, List.length_cons, List.length_nil, List.cons_append, List.nil_append, List.append_nil, List.replicate_succ, List.replicate_zero, List.getElem?_cons_zero, List.getElem?_cons_succ, List.set_cons_zero, List.set_cons_succ, Bool.false_eq_true, decide_true, decide_false, Bool.not_true, Bool.not_false, ↓reduceIte, Nat.reduceAdd, Nat.reduceSub, Nat.zero_add, Option.isSome]
  refine ⟨v, rfl, hv, fun q1 => ⟨w, rfl, hw, fun q2 => ?_, h2 q1⟩, h1⟩
  obtain ⟨a, b, rfl, _, _, b1, b2⟩ := k_cases q1
  obtain ⟨c, d, rfl, _, _, b3, b4⟩ := k_cases q2
  exact ⟨a, b, c, d, rfl, b1, b2, b3, b4, h3 a b c d rfl rfl q1 q2⟩
theorem p_is_over_great : ∀ pvs st Q PX, S_is_over_great mg pvs st Q PX → t_is_over_great K mg (endOf Q PX) (ini N_is_over_great pvs) st := by
  rintro pvs st Q PX ⟨a, b, rfl, h1, h2, hq⟩
  simp only [t_is_over_great, enc, sRet, sSeq, sAsg, sIfS, sSkip, sPar, sAsgG, sDrop, sRaise, sOp, sCB, sCons, sNil, sVar, sC, sTup, sLst, sNew, sNeg, sNot, sTest, sNotT, sAndT, sOrT, sAnd, sOr, sIf, sChain, sBits, sCall, ini, endOf, kName, kTup2, oAdd, oI, oI0, oIs, isNon_non, isNon_tup, isNon_int, oIx, oLen, oAbs, oInt, oGcd, oType, oEq_ii, oNe_ii, oEq_enc, oNe_enc, oEq_tt, oNe_tt, atI_0, atI_1, List.map_cons, List.map_nil, List.length_cons, List.length_nil, List.cons_append, List.nil_append, List.append_nil, List.replicate_succ, List.replicate_zero, List.getElem?_cons_zero, List.getElem?_cons_succ, List.set_cons_zero, List.set_cons_succ, Bool.false_eq_true, decide_true, decide_false, Bool.not_true, Bool.not_false, ↓reduceIte, Nat.reduceAdd, Nat.reduceSub, Nat.zero_add, Option.isSome]
  refine ⟨a, 1000, rfl, by omega, h1, ?_⟩
  unfold greatW at hq
  by_cases h : 10 ^ 1000 ≤ a.natAbs
  · rw [decide_eq_true h] at hq ⊢
    exact hq
  · rw [decide_eq_false h] at hq ⊢
    exact ⟨b, 1000, rfl, by omega, h2, hq⟩
theorem p_is_great : ∀ pvs st Q PX, S_is_great mg pvs st Q PX → t_is_great K mg (endOf Q PX) (ini N_is_great pvs) st := by
  rintro pvs st Q PX ⟨v, rfl, hv, h1, h2⟩
  simp only [t_is_great, sRet, sSeq, sAsg, sIfS, sSkip, sPar, sAsgG, sDrop, sRaise, sOp, sCB, sCons, sNil, sVar, sC, sTup, sLst, sNew, sNeg, sNot, sTest, sNotT, sAndT, sOrT, sAnd, sOr, sIf, sChain, sBits, sCall, ini, endOf, kName, kTup2, oAdd, oI, oI0, oIs, isNon_non, isNon_tup, isNon_int, oIx, oLen, oAbs, oInt, oGcd, oType, oEq_ii, oNe_ii, oEq_enc, oNe_enc, oEq_tt, oNe_tt, atI_0, atI_1, List.map_cons, List.map_nil, List.length_cons, List.length_nil, List.cons_append, List.nil_append, List.append_nil, List.replicate_succ, List.replicate_zero, List.getElem?_cons_zero, List.getElem?_cons_succ, List.set_cons_zero, List.set_cons_succ, Bool.false_eq_true, decide_true, decide_false, Bool.not_true, Bool.not_false, ↓reduceIte, Nat.reduceAdd, Nat.reduceSub, Nat.zero_add, Option.isSome]
  refine ⟨v, rfl, hv, fun q1 => ?_, h1⟩
  obtain ⟨a, b, rfl, _, _, b1, b2⟩ := k_cases q1
  exact ⟨a, b, rfl, b1.mono (by omega), b2.mono (by omega), h2 a b rfl q1⟩
theorem szw_mul {n m : Nat} {x y : Wo} (hx : FrO x) (hy : FrO y) (sx : SzW n x) (sy : SzW m y) : SzW (n + m) (mulW x y) := by
  cases x with
  | none => trivial
  | some x =>
    cases y with
    | none => trivial
    | some y =>
      exact b_low (Int.mul_ne_zero (Fr.ne hx) (Fr.ne hy)) (sx.1.mul sy.1) (sx.2.mul sy.2)
theorem SzW.mono {n m : Nat} {x : Wo} (h : SzW n x) (hm : n ≤ m) : SzW m x := by
  cases x with
  | none => trivial
  | some x => exact ⟨h.1.mono hm, h.2.mono hm⟩
theorem szw_add {n m : Nat} {x y : Wo} (hx : FrO x) (hy : FrO y) (sx : SzW n x) (sy : SzW m y) : SzW (n + m + 1) (addW x y) := by
  cases x with
  | none => exact SzW.mono sy (by omega)
  | some x =>
    cases y with
    | none => exact SzW.mono (x := some x) sx (by omega)
    | some y =>
      have m1 := sx.1.mul sy.2
      have m2 : B (n + m) (y.1 * x.2) := by rw [Nat.add_comm]; exact sy.1.mul sx.2
      exact b_low (Int.mul_ne_zero (Fr.ne hx) (Fr.ne hy)) (m1.add m2) ((sx.2.mul sy.2).mono (by omega))
theorem sum_loop (Q : Sm.PK) (PX : Sm.XP) (v : PV) (st : Store) : ∀ (l : List (Wo × Wo)) (t : Wo) (k : Nat) (x y : Option PV), (∀ p ∈ l, okP p) → FrO t → SzW (2201 * k) t → k + l.length ≤ 5 → Q (enc (sumW t l)) st →
    loopL (kTup2 2 3) (sAsg (sCall (S_added mg) [] (sCons (sVar 1) (sCons (sCall (S_multiplied mg) [] (sCons (sVar 2) (sCons (sVar 3) sNil))) sNil))) 1) { endOf Q PX with nx := (sRet (sVar 1)) (endOf Q PX) } (l.map encP) [some v, some (enc t), x, y] st
  | [], t, k, x, y, _, _, _, _, hq => hq
  | p :: l, t, k, x, y, h, ht, hk, hl, hq => by
    obtain ⟨f1, f2, s1, s2⟩ := h p List.mem_cons_self
    simp only [List.length_cons] at hl
    simp only [loopL, List.map_cons, encP, sRet, sSeq, sAsg, sIfS, sSkip, sPar, sAsgG, sDrop, sRaise, sOp, sCB, sCons, sNil, sVar, sC, sTup, sLst, sNew, sNeg, sNot, sTest, sNotT, sAndT, sOrT, sAnd, sOr, sIf, sChain, sBits, sCall, ini, endOf, kName, kTup2, oAdd, oI, oI0, oIs, isNon_non, isNon_tup, isNon_int, oIx, oLen, oAbs, oInt, oGcd, oType, oEq_ii, oNe_ii, oEq_enc, oNe_enc, oEq_tt, oNe_tt, atI_0, atI_1, List.map_cons, List.map_nil, List.length_cons, List.length_nil, List.cons_append, List.nil_append, List.append_nil, List.replicate_succ, List.replicate_zero, List.getElem?_cons_zero, List.getElem?_cons_succ, List.set_cons_zero, List.set_cons_succ, Bool.false_eq_true, decide_true, decide_false, Bool.not_true, Bool.not_false, ↓reduceIte, Nat.reduceAdd, Nat.reduceSub, Nat.zero_add, Option.isSome]
    have sm := szw_mul f1 f2 s1 s2
    refine ⟨p.1, p.2, 1100, 1100, rfl, f1, f2, s1, s2, by decide, ?_⟩
    refine ⟨t, mulW p.1 p.2, 2201 * k, 2200, rfl, ht, fr_mul f1 f2, hk, sm, by omega, ?_⟩
    exact sum_loop Q PX v st l (addW t (mulW p.1 p.2)) (k + 1) _ _ (fun q hq => h q (List.mem_cons_of_mem _ hq)) (fr_add ht (fr_mul f1 f2)) (SzW.mono (szw_add ht (fr_mul f1 f2) hk sm) (by omega)) (by omega) hq
theorem p_summed : ∀ pvs st Q PX, S_summed mg pvs st Q PX → t_summed K mg (endOf Q PX) (ini N_summed pvs) st := by
  rintro pvs st Q PX ⟨l, rfl, hl, h, hq⟩
  exact sum_loop Q PX _ st l none 0 none none h trivial trivial (by omega) hq
end
end Cm
set_option Elab.async false
set_option linter.all false
set_option maxRecDepth 100000
set_option maxHeartbeats 1000000
namespace Cm
open PySem PySem.Spec PyProof.Rows L2 Sm Wm
section
variable {K : PySem.W.Frag} {mg : Str → Option Value}
theorem len2' (a b c : PV) (l : List PV) : decide ((((a :: b :: c :: l).length : Nat) : Int) = 2) = false := by
  apply decide_eq_false
  simp only [List.length_cons]
  omega
theorem p__is_pair : ∀ pvs st Q PX, S__is_pair mg pvs st Q PX → t__is_pair K mg (endOf Q PX) (ini N__is_pair pvs) st := by
  rintro pvs st Q PX ⟨v, rfl, hv, hq⟩
  have h1 : (tyName v).isSome = true := by
    cases v <;> first | exact hv | rfl
  cases v <;> first | exact (Bool.noConfusion h1) | skip
  case tup l =>
    rcases l with _ | ⟨a, _ | ⟨b, _ | ⟨c, l⟩⟩⟩
    · simp only [t__is_pair, tyName, sRet, sSeq, sAsg, sIfS, sSkip, sPar, sAsgG, sDrop, sRaise, sOp, sCB, sCons, sNil, sVar, sC, sTup, sLst, sNew, sNeg, sNot, sTest, sNotT, sAndT, sOrT, sAnd, sOr, sIf, sChain, sBits, sCall, ini, endOf, kName, kTup2, oAdd, oI, oI0, oIs, isNon_non, isNon_tup, isNon_int, oIx, oLen, oAbs, oInt, oGcd, oType, oEq_ii, oNe_ii, oEq_enc, oNe_enc, oEq_tt, oNe_tt, atI_0, atI_1, List.map_cons, List.map_nil, List.length_cons, List.length_nil, List.cons_append, List.nil_append, List.append_nil, List.replicate_succ, List.replicate_zero, List.getElem?_cons_zero, List.getElem?_cons_succ, List.set_cons_zero, List.set_cons_succ, Bool.false_eq_true, decide_true, decide_false, Bool.not_true, Bool.not_false, ↓reduceIte, Nat.reduceAdd, Nat.reduceSub, Nat.zero_add, Option.isSome]
      exact hq
    · simp only [t__is_pair, tyName, sRet, sSeq, sAsg, sIfS, sSkip, sPar, sAsgG, sDrop, sRaise, sOp, sCB, sCons, sNil, sVar, sC, sTup, sLst, sNew, sNeg, sNot, sTest, sNotT, sAndT, sOrT, sAnd, sOr, sIf, sChain, sBits, sCall, ini, endOf, kName, kTup2, oAdd, oI, oI0, oIs, isNon_non, isNon_tup, isNon_int, oIx, oLen, oAbs, oInt, oGcd, oType, oEq_ii, oNe_ii, oEq_enc, oNe_enc, oEq_tt, oNe_tt, atI_0, atI_1, List.map_cons, List.map_nil, List.length_cons, List.length_nil, List.cons_append, List.nil_append, List.append_nil, List.replicate_succ, List.replicate_zero, List.getElem?_cons_zero, List.getElem?_cons_succ, List.set_cons_zero, List.set_cons_succ, Bool.false_eq_true, decide_true, decide_false, Bool.not_true, Bool.not_false, ↓reduceIte, Nat.reduceAdd, Nat.reduceSub, Nat.zero_add, Option.isSome]
      have e : decide (((1 : Nat) : Int) = 2) = false := by decide
      rw [e]
      exact hq
    · have hf : fineB a = true ∧ fineB b = true := by
        simp only [finePB, List.all_cons, List.all_nil, Bool.and_true, Bool.and_eq_true] at hv
        exact hv
      simp only [t__is_pair, tyName, sRet, sSeq, sAsg, sIfS, sSkip, sPar, sAsgG, sDrop, sRaise, sOp, sCB, sCons, sNil, sVar, sC, sTup, sLst, sNew, sNeg, sNot, sTest, sNotT, sAndT, sOrT, sAnd, sOr, sIf, sChain, sBits, sCall, ini, endOf, kName, kTup2, oAdd, oI, oI0, oIs, isNon_non, isNon_tup, isNon_int, oIx, oLen, oAbs, oInt, oGcd, oType, oEq_ii, oNe_ii, oEq_enc, oNe_enc, oEq_tt, oNe_tt, atI_0, atI_1, List.map_cons, List.map_nil, List.length_cons, List.length_nil, List.cons_append, List.nil_append, List.append_nil, List.replicate_succ, List.replicate_zero, List.getElem?_cons_zero, List.getElem?_cons_succ, List.set_cons_zero, List.set_cons_succ, Bool.false_eq_true, decide_true, decide_false, Bool.not_true, Bool.not_false, ↓reduceIte, Nat.reduceAdd, Nat.reduceSub, Nat.zero_add, Option.isSome]
      have e : decide (((2 : Nat) : Int) = 2) = true := by decide
      rw [e]
      refine ⟨a, rfl, hf.1, ?_⟩
      simp only [pairB] at hq
      cases e1 : knownB a with
      | false =>
        rw [e1] at hq
        exact hq
      | true =>
        rw [e1] at hq
        simp only [Bool.true_and] at hq
        simp only [oIs, sRet, sSeq, sAsg, sIfS, sSkip, sPar, sAsgG, sDrop, sRaise, sOp, sCB, sCons, sNil, sVar, sC, sTup, sLst, sNew, sNeg, sNot, sTest, sNotT, sAndT, sOrT, sAnd, sOr, sIf, sChain, sBits, sCall, ini, endOf, kName, kTup2, oAdd, oI, oI0, oIs, isNon_non, isNon_tup, isNon_int, oIx, oLen, oAbs, oInt, oGcd, oType, oEq_ii, oNe_ii, oEq_enc, oNe_enc, oEq_tt, oNe_tt, atI_0, atI_1, List.map_cons, List.map_nil, List.length_cons, List.length_nil, List.cons_append, List.nil_append, List.append_nil, List.replicate_succ, List.replicate_zero, List.getElem?_cons_zero, List.getElem?_cons_succ, List.set_cons_zero, List.set_cons_succ, Bool.false_eq_true, decide_true, decide_false, Bool.not_true, Bool.not_false, ↓reduceIte, Nat.reduceAdd, Nat.reduceSub, Nat.zero_add, Option.isSome]
        cases e2 : Sm.isNon b with
        | true =>
          rw [e2] at hq
          exact hq
        | false =>
          rw [e2] at hq
          exact ⟨b, rfl, hf.2, hq⟩
    · simp only [t__is_pair, tyName, sRet, sSeq, sAsg, sIfS, sSkip, sPar, sAsgG, sDrop, sRaise, sOp, sCB, sCons, sNil, sVar, sC, sTup, sLst, sNew, sNeg, sNot, sTest, sNotT, sAndT, sOrT, sAnd, sOr, sIf, sChain, sBits, sCall, ini, endOf, kName, kTup2, oAdd, oI, oI0, oIs, isNon_non, isNon_tup, isNon_int, oIx, oLen, oAbs, oInt, oGcd, oType, oEq_ii, oNe_ii, oEq_enc, oNe_enc, oEq_tt, oNe_tt, atI_0, atI_1, List.map_cons, List.map_nil, List.length_cons, List.length_nil, List.cons_append, List.nil_append, List.append_nil, List.replicate_succ, List.replicate_zero, List.getElem?_cons_zero, List.getElem?_cons_succ, List.set_cons_zero, List.set_cons_succ, Bool.false_eq_true, decide_true, decide_false, Bool.not_true, Bool.not_false, ↓reduceIte, Nat.reduceAdd, Nat.reduceSub, Nat.zero_add, Option.isSome]
      rw [len2]
      exact hq
  all_goals exact hq
theorem comp_bools {i n : Nat} {f : Sem} {ρ : Sm.Env} {P : Sm.PK} (g : PV → Bool) : ∀ (l acc : List PV) (st : Store), st[n]? = some (.lst acc) → acc.length + l.length < 100000 →
    (∀ x ∈ l, ∀ (st : Store) (P : Sm.PK) (PX : Sm.XP), P (.bl (g x)) st → f (ρ.set i (some x)) st P PX) → P (.hd n) (st.set n (.lst (acc ++ l.map fun x => .bl (g x)))) → compL i n sYes f P l ρ st
  | [], acc, st, hn, hl, hf, hp => by
    have hlt := (List.getElem?_eq_some_iff.mp hn).1
    rw [List.map_nil, List.append_nil] at hp
    have e : st.set n (.lst acc) = st := by
      apply List.ext_getElem?
      intro j
      by_cases hj : n = j
      · subst hj
        rw [List.getElem?_set_self hlt, hn]
      · rw [List.getElem?_set_ne hj]
    rw [e] at hp
    exact hp
  | x :: l, acc, st, hn, hl, hf, hp => by
    have hlt := (List.getElem?_eq_some_iff.mp hn).1
    simp only [List.length_cons] at hl
    refine hf x List.mem_cons_self st _ _ ?_
    simp only [hn]
    refine ⟨by omega, comp_bools g l (acc ++ [.bl (g x)]) _ (by rw [List.getElem?_set_self hlt]) (by simp only [List.length_append, List.length_cons, List.length_nil]; omega) (fun y hy => hf y (List.mem_cons_of_mem _ hy)) ?_⟩
    rw [List.set_set, List.append_assoc]
    exact hp
theorem allB_map (g : PV → Bool) : ∀ l : List PV, Sm.allB (l.map fun x => .bl (g x)) = some (l.all g)
  | [] => rfl
  | x :: l => by
    simp only [List.map_cons, Sm.allB, allB_map g l, Option.map_some, List.all_cons]
theorem set_end (st : Store) (o o' : Ob) : (st ++ [o]).set st.length o' = st ++ [o'] := by
  rw [List.set_append_right _ _ (Nat.le_refl _), Nat.sub_self]
  rfl
theorem get_end (st : Store) (o : Ob) : (st ++ [o])[st.length]? = some o := by
  rw [List.getElem?_append_right (Nat.le_refl _), Nat.sub_self]
  rfl
theorem p_weighted_sum : ∀ pvs st Q PX, S_weighted_sum mg pvs st Q PX → t_weighted_sum K mg (endOf Q PX) (ini N_weighted_sum pvs) st := by
  rintro pvs st Q PX ⟨v, rfl, hv, hlen, h1, h2⟩
  have ht : (tyName v).isSome = true := by
    cases v <;> first | exact hv | rfl
  have e0 : Ext st st := ⟨[], by simp⟩
  cases v <;> first | exact (Bool.noConfusion ht) | skip
  case tup l =>
    have hf : ∀ x ∈ l, finePB x = true := by
      simp only [fineSB, List.all_eq_true] at hv
      exact hv
    simp only [t_weighted_sum, tyName, sLc, itemsT, wipeE, sRet, sSeq, sAsg, sIfS, sSkip, sPar, sAsgG, sDrop, sRaise, sOp, sCB, sCons, sNil, sVar, sC, sTup, sLst, sNew, sNeg, sNot, sTest, sNotT, sAndT, sOrT, sAnd, sOr, sIf, sChain, sBits, sCall, ini, endOf, kName, kTup2, oAdd, oI, oI0, oIs, isNon_non, isNon_tup, isNon_int, oIx, oLen, oAbs, oInt, oGcd, oType, oEq_ii, oNe_ii, oEq_enc, oNe_enc, oEq_tt, oNe_tt, atI_0, atI_1, List.map_cons, List.map_nil, List.length_cons, List.length_nil, List.cons_append, List.nil_append, List.append_nil, List.replicate_succ, List.replicate_zero, List.getElem?_cons_zero, List.getElem?_cons_succ, List.set_cons_zero, List.set_cons_succ, Bool.false_eq_true, decide_true, decide_false, Bool.not_true, Bool.not_false, ↓reduceIte, Nat.reduceAdd, Nat.reduceSub, Nat.zero_add, Option.isSome]
    refine comp_bools pairB l [] _ (get_end st _) (by have := hlen l rfl; simp only [List.length_nil]; omega) (fun x hx st P PX hp => ⟨x, rfl, hf x hx, hp⟩) ?_
    rw [set_end]
    simp only [oAllH, get_end, List.nil_append, allB_map, sRet, sSeq, sAsg, sIfS, sSkip, sPar, sAsgG, sDrop, sRaise, sOp, sCB, sCons, sNil, sVar, sC, sTup, sLst, sNew, sNeg, sNot, sTest, sNotT, sAndT, sOrT, sAnd, sOr, sIf, sChain, sBits, sCall, ini, endOf, kName, kTup2, oAdd, oI, oI0, oIs, isNon_non, isNon_tup, isNon_int, oIx, oLen, oAbs, oInt, oGcd, oType, oEq_ii, oNe_ii, oEq_enc, oNe_enc, oEq_tt, oNe_tt, atI_0, atI_1, List.map_cons, List.map_nil, List.length_cons, List.length_nil, List.cons_append, List.nil_append, List.append_nil, List.replicate_succ, List.replicate_zero, List.getElem?_cons_zero, List.getElem?_cons_succ, List.set_cons_zero, List.set_cons_succ, Bool.false_eq_true, decide_true, decide_false, Bool.not_true, Bool.not_false, ↓reduceIte, Nat.reduceAdd, Nat.reduceSub, Nat.zero_add, Option.isSome]
    have e1 : Ext st (st ++ [Ob.lst (l.map fun x => .bl (pairB x))]) := ⟨_, rfl⟩
    cases e : l.all pairB with
    | false => exact h1 e _ e1
    | true =>
      obtain ⟨ps, hps, hl5, hok, hq⟩ := h2 e
      exact ⟨ps, by rw [hps], hl5, hok, hq _ e1⟩
  all_goals exact h1 rfl _ e0
end
end Cm
set_option Elab.async false
set_option linter.all false
set_option maxRecDepth 100000
set_option maxHeartbeats 1000000
namespace Cm
open PySem PySem.Spec PyProof.Rows L2 Sm Wm
section
variable {K : PySem.W.Frag} {mg : Str → Option Value}
def signB : PV → Bool
  | .str s => (match s.cps.toList with
    | [c] => decide (c ∈ letters.cps.toList) || decide (c ∈ digs.cps.toList)
    | _ => false)
  | _ => false
theorem sign_all (s : Str) : (signsOf s).all signB = s.cps.toList.all fun c => decide (c ∈ letters.cps.toList) || decide (c ∈ digs.cps.toList) := by
  unfold signsOf
  rw [List.all_map]
  rfl
theorem p_is_name : ∀ pvs st Q PX, S_is_name mg pvs st Q PX → t_is_name K mg (endOf Q PX) (ini N_is_name pvs) st := by
  rintro pvs st Q PX ⟨v, rfl, ht, hlen, hq⟩
  have e0 : Ext st st := ⟨[], by simp⟩
  cases v <;> first | exact (Bool.noConfusion ht) | skip
  case str s =>
    have hs := hlen s rfl
    have hc : s.length = s.cps.size := rfl
    simp only [t_is_name, tyName, sRet, sSeq, sAsg, sIfS, sSkip, sPar, sAsgG, sDrop, sRaise, sOp, sCB, sCons, sNil, sVar, sC, sTup, sLst, sNew, sNeg, sNot, sTest, sNotT, sAndT, sOrT, sAnd, sOr, sIf, sChain, sBits, sCall, ini, endOf, kName, kTup2, oAdd, oI, oI0, oIs, isNon_non, isNon_tup, isNon_int, oIx, oLen, oAbs, oInt, oGcd, oType, oEq_ii, oNe_ii, oEq_enc, oNe_enc, oEq_tt, oNe_tt, atI_0, atI_1, List.map_cons, List.map_nil, List.length_cons, List.length_nil, List.cons_append, List.nil_append, List.append_nil, List.replicate_succ, List.replicate_zero, List.getElem?_cons_zero, List.getElem?_cons_succ, List.set_cons_zero, List.set_cons_succ, Bool.false_eq_true, decide_true, decide_false, Bool.not_true, Bool.not_false, ↓reduceIte, Nat.reduceAdd, Nat.reduceSub, Nat.zero_add, Option.isSome]
    refine ⟨by omega, ?_⟩
    by_cases h1 : (1 : Int) ≤ (s.length : Int)
    · rw [decide_eq_true h1]
      dsimp only
      by_cases h2 : (s.length : Int) ≤ 8
      · rw [decide_eq_true h2]
        refine ⟨by omega, ?_⟩
        have e1 : decide (1 ≤ s.length) = true := decide_eq_true (by omega)
        have e2 : decide (s.length ≤ 8) = true := decide_eq_true (by omega)
        cases hl : s.cps.toList with
        | nil =>
          have : s.cps.toList.length = 0 := by rw [hl]; rfl
          simp only [Array.length_toList] at this
          omega
        | cons c r =>
          simp only [sRet, sSeq, sAsg, sIfS, sSkip, sPar, sAsgG, sDrop, sRaise, sOp, sCB, sCons, sNil, sVar, sC, sTup, sLst, sNew, sNeg, sNot, sTest, sNotT, sAndT, sOrT, sAnd, sOr, sIf, sChain, sBits, sCall, ini, endOf, kName, kTup2, oAdd, oI, oI0, oIs, isNon_non, isNon_tup, isNon_int, oIx, oLen, oAbs, oInt, oGcd, oType, oEq_ii, oNe_ii, oEq_enc, oNe_enc, oEq_tt, oNe_tt, atI_0, atI_1, List.map_cons, List.map_nil, List.length_cons, List.length_nil, List.cons_append, List.nil_append, List.append_nil, List.replicate_succ, List.replicate_zero, List.getElem?_cons_zero, List.getElem?_cons_succ, List.set_cons_zero, List.set_cons_succ, Bool.false_eq_true, decide_true, decide_false, Bool.not_true, Bool.not_false, ↓reduceIte, Nat.reduceAdd, Nat.reduceSub, Nat.zero_add, Option.isSome]
          refine ⟨c, rfl, ?_⟩
          have el : (("abcdefghijklmnopqrstuvwxyz" : Str)) = letters := rfl
          have ed : (("0123456789" : Str)) = digs := rfl
          simp only [el, ed]
          simp only [nameB, e1, e2, Bool.true_and, hl] at hq
          cases h3 : decide (c ∈ letters.cps.toList) with
          | false =>
            have := hq st e0
            rw [h3] at this
            exact this
          | true =>
            simp only [sLc, itemsS, wipeE, sRet, sSeq, sAsg, sIfS, sSkip, sPar, sAsgG, sDrop, sRaise, sOp, sCB, sCons, sNil, sVar, sC, sTup, sLst, sNew, sNeg, sNot, sTest, sNotT, sAndT, sOrT, sAnd, sOr, sIf, sChain, sBits, sCall, ini, endOf, kName, kTup2, oAdd, oI, oI0, oIs, isNon_non, isNon_tup, isNon_int, oIx, oLen, oAbs, oInt, oGcd, oType, oEq_ii, oNe_ii, oEq_enc, oNe_enc, oEq_tt, oNe_tt, atI_0, atI_1, List.map_cons, List.map_nil, List.length_cons, List.length_nil, List.cons_append, List.nil_append, List.append_nil, List.replicate_succ, List.replicate_zero, List.getElem?_cons_zero, List.getElem?_cons_succ, List.set_cons_zero, List.set_cons_succ, Bool.false_eq_true, decide_true, decide_false, Bool.not_true, Bool.not_false, ↓reduceIte, Nat.reduceAdd, Nat.reduceSub, Nat.zero_add, Option.isSome]
            refine comp_bools signB (signsOf s) [] _ (get_end st _) (by simp [signsOf]; omega) (fun x hx st P PX hp => ?_) ?_
            · obtain ⟨cc, _, rfl⟩ := List.mem_map.mp hx
              simp only [sRet, sSeq, sAsg, sIfS, sSkip, sPar, sAsgG, sDrop, sRaise, sOp, sCB, sCons, sNil, sVar, sC, sTup, sLst, sNew, sNeg, sNot, sTest, sNotT, sAndT, sOrT, sAnd, sOr, sIf, sChain, sBits, sCall, ini, endOf, kName, kTup2, oAdd, oI, oI0, oIs, isNon_non, isNon_tup, isNon_int, oIx, oLen, oAbs, oInt, oGcd, oType, oEq_ii, oNe_ii, oEq_enc, oNe_enc, oEq_tt, oNe_tt, atI_0, atI_1, List.map_cons, List.map_nil, List.length_cons, List.length_nil, List.cons_append, List.nil_append, List.append_nil, List.replicate_succ, List.replicate_zero, List.getElem?_cons_zero, List.getElem?_cons_succ, List.set_cons_zero, List.set_cons_succ, Bool.false_eq_true, decide_true, decide_false, Bool.not_true, Bool.not_false, ↓reduceIte, Nat.reduceAdd, Nat.reduceSub, Nat.zero_add, Option.isSome]
              refine ⟨cc, rfl, ?_⟩
              have hp' : P (.bl (decide (cc ∈ letters.cps.toList) || decide (cc ∈ digs.cps.toList))) st := hp
              simp only [Bool.false_eq_true, ↓reduceIte]
              cases h4 : decide (cc ∈ letters.cps.toList) with
              | true =>
                rw [h4] at hp'
                exact hp'
              | false =>
                rw [h4] at hp'
                exact ⟨cc, rfl, hp'⟩
            · rw [set_end]
              simp only [oAllH, get_end, List.nil_append, allB_map, sRet, sSeq, sAsg, sIfS, sSkip, sPar, sAsgG, sDrop, sRaise, sOp, sCB, sCons, sNil, sVar, sC, sTup, sLst, sNew, sNeg, sNot, sTest, sNotT, sAndT, sOrT, sAnd, sOr, sIf, sChain, sBits, sCall, ini, endOf, kName, kTup2, oAdd, oI, oI0, oIs, isNon_non, isNon_tup, isNon_int, oIx, oLen, oAbs, oInt, oGcd, oType, oEq_ii, oNe_ii, oEq_enc, oNe_enc, oEq_tt, oNe_tt, atI_0, atI_1, List.map_cons, List.map_nil, List.length_cons, List.length_nil, List.cons_append, List.nil_append, List.append_nil, List.replicate_succ, List.replicate_zero, List.getElem?_cons_zero, List.getElem?_cons_succ, List.set_cons_zero, List.set_cons_succ, Bool.false_eq_true, decide_true, decide_false, Bool.not_true, Bool.not_false, ↓reduceIte, Nat.reduceAdd, Nat.reduceSub, Nat.zero_add, Option.isSome]
              have := hq _ (show Ext st (st ++ [Ob.lst ((signsOf s).map fun x => .bl (signB x))]) from ⟨_, rfl⟩)
              rw [h3, ← hl] at this
              rw [sign_all]
              exact this
      · rw [decide_eq_false h2]
        have e2 : decide (s.length ≤ 8) = false := decide_eq_false (by omega)
        have := hq st e0
        simp only [nameB, e2, Bool.and_false, Bool.false_and] at this
        exact this
    · rw [decide_eq_false h1]
      have e2 : decide (1 ≤ s.length) = false := decide_eq_false (by omega)
      have := hq st e0
      simp only [nameB, e2, Bool.false_and] at this
      exact this
  all_goals exact hq st e0
end
end Cm
set_option Elab.async false
set_option linter.all false
set_option maxRecDepth 100000
set_option maxHeartbeats 1000000
namespace Cm
open PySem PySem.Spec PyProof.Rows L2 Sm Wm
section
variable {K : PySem.W.Frag} {mg : Str → Option Value}
theorem ixN3_0 : ixN 3 0 = some 0 := rfl
theorem ixN3_1 : ixN 3 1 = some 1 := rfl
theorem ixN3_2 : ixN 3 2 = some 2 := rfl
theorem atI_2 {α : Type} (a b c : α) (l : List α) : atI (a :: b :: c :: l) 2 = some c := by
  have h : ixN (a :: b :: c :: l).length 2 = some 2 := by
    unfold ixN
    rw [if_pos (by decide), if_pos (by simp only [List.length_cons]; omega)]
    rfl
  unfold atI
  rw [h]
  rfl
theorem get_lt {st : Store} {n : Nat} {o : Ob} (h : st[n]? = some o) : n < st.length := (List.getElem?_eq_some_iff.mp h).1
theorem aft_set (n : Nat) (st : Store) (o : Ob) : Aft n st (st.set n o) := ⟨by simp, fun j hj _ => List.getElem?_set_ne (Ne.symm hj)⟩
theorem Aft.trans {n : Nat} {a b c : Store} (h : Aft n a b) (h' : Aft n b c) : Aft n a c := ⟨Nat.le_trans h.1 h'.1, fun j hj hl => (h'.2 j hj (Nat.lt_of_lt_of_le hl h.1)).trans (h.2 j hj hl)⟩
theorem Aft.refl (n : Nat) (a : Store) : Aft n a a := ⟨Nat.le_refl _, fun _ _ _ => rfl⟩
theorem fmod_pos {i t : Int} (ht : 0 < t) : 0 ≤ i.fmod t ∧ i.fmod t < t := ⟨Int.fmod_nonneg_of_pos i ht, Int.fmod_lt_of_pos i ht⟩
theorem b_lt {n : Nat} {i : Int} (h0 : 0 ≤ i) (h : i < 2 ^ n) : B n i := by
  unfold B
  have e : ((2 ^ n : Nat) : Int) = 2 ^ n := by simp
  omega
theorem b_fdiv {n : Nat} {a t : Int} (ha : 0 ≤ a) (h : B n a) (ht : 0 < t) : 0 ≤ a.fdiv t ∧ B n (a.fdiv t) := by
  have h1 : 0 ≤ a.fdiv t := Int.fdiv_nonneg ha (Int.le_of_lt ht)
  refine ⟨h1, ?_⟩
  have h2 : a.fdiv t ≤ a := by
    rw [Int.fdiv_eq_ediv_of_nonneg _ (Int.le_of_lt ht)]
    exact Int.ediv_le_self _ ha
  unfold B at *
  omega
theorem cmod {i t : Int} (h : 0 < t) : CMod i t := by
  show t ≠ 0
  omega
theorem p__law_roll : ∀ pvs st Q PX, S__law_roll mg pvs st Q PX → t__law_roll K mg (endOf Q PX) (ini N__law_roll pvs) st := by
  rintro pvs st Q PX ⟨n, k, t, rfl, ⟨a, b, c, hn, hI⟩, ht, tB, hq⟩
  have hl := get_lt hn
  have hI' := hI.cB
  unfold big at hI'
  simp only [t__law_roll, sSetIx, hn, sRet, sSeq, sAsg, sIfS, sSkip, sPar, sAsgG, sDrop, sRaise, sOp, sCB, sCons, sNil, sVar, sC, sTup, sLst, sNew, sNeg, sNot, sTest, sNotT, sAndT, sOrT, sAnd, sOr, sIf, sChain, sBits, sCall, ini, endOf, kName, kTup2, oAdd, oI, oI0, oIs, isNon_non, isNon_tup, isNon_int, oIx, oLen, oAbs, oInt, oGcd, oType, oEq_ii, oNe_ii, oEq_enc, oNe_enc, oEq_tt, oNe_tt, atI_0, atI_1, List.map_cons, List.map_nil, List.length_cons, List.length_nil, List.cons_append, List.nil_append, List.append_nil, List.replicate_succ, List.replicate_zero, List.getElem?_cons_zero, List.getElem?_cons_succ, List.set_cons_zero, List.set_cons_succ, Bool.false_eq_true, decide_true, decide_false, Bool.not_true, Bool.not_false, ↓reduceIte, Nat.reduceAdd, Nat.reduceSub, Nat.zero_add, Option.isSome]
  by_cases h : 0 < a
  · rw [decide_eq_true h]
    have h1 := b_fdiv hI.a0 hI.aB ht
    refine ⟨cmod ht, cdiv (hI.aB.mono (by decide)) (by omega), ?_⟩
    simp only [hn, List.length_cons, List.length_nil, ixN3_0, sRet, sSeq, sAsg, sIfS, sSkip, sPar, sAsgG, sDrop, sRaise, sOp, sCB, sCons, sNil, sVar, sC, sTup, sLst, sNew, sNeg, sNot, sTest, sNotT, sAndT, sOrT, sAnd, sOr, sIf, sChain, sBits, sCall, ini, endOf, kName, kTup2, oAdd, oI, oI0, oIs, isNon_non, isNon_tup, isNon_int, oIx, oLen, oAbs, oInt, oGcd, oType, oEq_ii, oNe_ii, oEq_enc, oNe_enc, oEq_tt, oNe_tt, atI_0, atI_1, List.map_cons, List.map_nil, List.length_cons, List.length_nil, List.cons_append, List.nil_append, List.append_nil, List.replicate_succ, List.replicate_zero, List.getElem?_cons_zero, List.getElem?_cons_succ, List.set_cons_zero, List.set_cons_succ, Bool.false_eq_true, decide_true, decide_false, Bool.not_true, Bool.not_false, ↓reduceIte, Nat.reduceAdd, Nat.reduceSub, Nat.zero_add, Option.isSome]
    exact hq _ _ (fmod_pos ht).1 (fmod_pos ht).2 ⟨_, b, c, List.getElem?_set_self hl, h1.1, h1.2, hI.b0, hI.bB, hI.c0, by unfold big; omega⟩ (aft_set n st _)
  · rw [decide_eq_false h]
    simp only [hn, atI_2, List.length_cons, List.length_nil, ixN3_2, List.getElem?_set_self hl, sRet, sSeq, sAsg, sIfS, sSkip, sPar, sAsgG, sDrop, sRaise, sOp, sCB, sCons, sNil, sVar, sC, sTup, sLst, sNew, sNeg, sNot, sTest, sNotT, sAndT, sOrT, sAnd, sOr, sIf, sChain, sBits, sCall, ini, endOf, kName, kTup2, oAdd, oI, oI0, oIs, isNon_non, isNon_tup, isNon_int, oIx, oLen, oAbs, oInt, oGcd, oType, oEq_ii, oNe_ii, oEq_enc, oNe_enc, oEq_tt, oNe_tt, atI_0, atI_1, List.map_cons, List.map_nil, List.length_cons, List.length_nil, List.cons_append, List.nil_append, List.append_nil, List.replicate_succ, List.replicate_zero, List.getElem?_cons_zero, List.getElem?_cons_succ, List.set_cons_zero, List.set_cons_succ, Bool.false_eq_true, decide_true, decide_false, Bool.not_true, Bool.not_false, ↓reduceIte, Nat.reduceAdd, Nat.reduceSub, Nat.zero_add, Option.isSome]
    have c0 := hI.c0
    have cB : B 41 (c + 1) := b_lt (by omega) (by omega)
    have m1 := B.mul (m := 20) (i := 1000381) (b_of (by decide)) cB
    have m61 : ∀ i t : Int, 0 < t → t < 2 ^ 61 → B 61 (i.fmod t) := fun i t h1 h2 => b_lt (fmod_pos h1).1 (Int.lt_trans (fmod_pos h1).2 h2)
    have o1 := m61 (b + 1000381 * (c + 1)) 2305843009213693951 (by decide) (by decide)
    refine ⟨cmul (b_of (n := 20) (by decide)) cB (by decide), cmod (by decide), cmul o1 o1 (by decide), cmod (by decide), cmul (m61 _ _ (by decide) (by decide)) o1 (by decide), cmul (b_of (n := 20) (by decide)) cB (by decide), cmod (by decide), ?_⟩
    refine ⟨cdiv ((m61 _ _ (by decide) (by decide)).mono (by decide)) (by decide), cmod ht, ?_⟩
    exact hq _ _ (fmod_pos ht).1 (fmod_pos ht).2 ⟨a, b, c + 1, List.getElem?_set_self hl, hI.a0, hI.aB, hI.b0, hI.bB, by omega, by unfold big; omega⟩ (aft_set n st _)
theorem p__law_one_of : ∀ pvs st Q PX, S__law_one_of mg pvs st Q PX → t__law_one_of K mg (endOf Q PX) (ini N__law_one_of pvs) st := by
  rintro pvs st Q PX ⟨n, k, l, rfl, hd, hne, hl, hq⟩
  have h0 : 0 < l.length := List.length_pos_iff.mpr hne
  simp only [t__law_one_of, sRet, sSeq, sAsg, sIfS, sSkip, sPar, sAsgG, sDrop, sRaise, sOp, sCB, sCons, sNil, sVar, sC, sTup, sLst, sNew, sNeg, sNot, sTest, sNotT, sAndT, sOrT, sAnd, sOr, sIf, sChain, sBits, sCall, ini, endOf, kName, kTup2, oAdd, oI, oI0, oIs, isNon_non, isNon_tup, isNon_int, oIx, oLen, oAbs, oInt, oGcd, oType, oEq_ii, oNe_ii, oEq_enc, oNe_enc, oEq_tt, oNe_tt, atI_0, atI_1, List.map_cons, List.map_nil, List.length_cons, List.length_nil, List.cons_append, List.nil_append, List.append_nil, List.replicate_succ, List.replicate_zero, List.getElem?_cons_zero, List.getElem?_cons_succ, List.set_cons_zero, List.set_cons_succ, Bool.false_eq_true, decide_true, decide_false, Bool.not_true, Bool.not_false, ↓reduceIte, Nat.reduceAdd, Nat.reduceSub, Nat.zero_add, Option.isSome]
  refine ⟨n, k, (l.length : Int), rfl, hd, by omega, b_lt (by omega) (by omega), fun r st' h1 h2 hd' ha => ?_⟩
  have hr : r.toNat < l.length := by omega
  have e : atI l r = some (l[r.toNat]'hr) := by
    unfold atI ixN
    rw [if_pos h1, if_pos (by omega)]
    simp [hr]
  simp only [e]
  exact hq _ (List.getElem_mem hr) st' hd' ha
theorem cp (j : Int) (h : 0 < j) (h2 : j ≤ 1000) : CPowG 10 j := by
  refine ⟨h, by decide, ?_⟩
  have e : Builtin.Int.intBits 10 = 4 := by decide
  rw [e]
  omega
theorem DiceAt.mono {n j k : Nat} {st : Store} (h : DiceAt n k st) (hj : j ≤ k) : DiceAt n j st := by
  obtain ⟨a, b, c, h1, h2⟩ := h
  have := h2.cB
  exact ⟨a, b, c, h1, h2.a0, h2.aB, h2.b0, h2.bB, h2.c0, by omega⟩
end
end Cm
set_option Elab.async false
set_option linter.all false
set_option maxRecDepth 100000
set_option maxHeartbeats 1000000
namespace Cm
open PySem PySem.Spec PyProof.Rows L2 Sm Wm
section
variable {K : PySem.W.Frag} {mg : Str → Option Value}
theorem e60 : ((10 : Int) ^ Int.toNat 60) ^ Int.toNat 10 = ((10 ^ 600 : Nat) : Int) := by decide +kernel
theorem e18 : (10 : Int) ^ Int.toNat 18 = 1000000000000000000 := by decide +kernel
theorem cp60 : CPowG ((10 : Int) ^ Int.toNat 60) 10 := by
  refine ⟨by decide, by decide +kernel, ?_⟩
  decide +kernel
theorem b600 : (10 : Nat) ^ 600 ≤ 2 ^ 2000 := by decide +kernel
def diceTail : SemS := (sSeq (sAsg (sOp oMod (sCB oInt (sCons (sCB oAbs (sCons (sVar 2) sNil)) sNil)) (sOp oPow (sOp oPow (sC (.int 10)) (sC (.int 60))) (sC (.int 10)))) 3) (sSeq (sAsg (sOp oDiv (sVar 3) (sOp oPow (sC (.int 10)) (sC (.int 18)))) 4) (sSeq (sAsg (sOp oAdd (sOp oAdd (sOp oAdd (sOp oMul (sOp oMod (sVar 3) (sC (.int 2147482763))) (sC (.int 60497))) (sOp oMul (sC (.int 3511)) (sVar 1))) (sOp oMul (sC (.int 79)) (sCB oInt (sCons (sOp oLt (sVar 2) (sC (.int 0))) sNil)))) (sC (.int 103))) 5) (sRet (sNew (sCons (sVar 4) (sCons (sOp oMod (sVar 5) (sC (.int 2147482739))) (sCons (sC (.int 0)) sNil))))))))
theorem dice_end (st : Store) (cell at_ : Int) (h0 : 0 ≤ at_) (h1 : at_ < 1000) (Q : Sm.PK) (PX : Sm.XP) (l : List Int) (hq : ∀ st', DiceAt st.length 100000 st' → Q (.hd st.length) st') (x y z : Option PV) :
    diceTail (endOf Q PX)
      [some (.lst (l.map .int)), some (.int at_), some (.int cell), x, y, z] st := by
  simp only [diceTail, oPow, sRet, sSeq, sAsg, sIfS, sSkip, sPar, sAsgG, sDrop, sRaise, sOp, sCB, sCons, sNil, sVar, sC, sTup, sLst, sNew, sNeg, sNot, sTest, sNotT, sAndT, sOrT, sAnd, sOr, sIf, sChain, sBits, sCall, ini, endOf, kName, kTup2, oAdd, oI, oI0, oIs, isNon_non, isNon_tup, isNon_int, oIx, oLen, oAbs, oInt, oGcd, oType, oEq_ii, oNe_ii, oEq_enc, oNe_enc, oEq_tt, oNe_tt, atI_0, atI_1, List.map_cons, List.map_nil, List.length_cons, List.length_nil, List.cons_append, List.nil_append, List.append_nil, List.replicate_succ, List.replicate_zero, List.getElem?_cons_zero, List.getElem?_cons_succ, List.set_cons_zero, List.set_cons_succ, Bool.false_eq_true, decide_true, decide_false, Bool.not_true, Bool.not_false, ↓reduceIte, Nat.reduceAdd, Nat.reduceSub, Nat.zero_add, Option.isSome]
  refine ⟨cp 60 (by decide) (by decide), cp60, cmod (by rw [e60]; decide +kernel), cp 18 (by decide) (by decide), ?_⟩
  rw [e60, e18]
  generalize hc : (if cell < 0 then -cell else cell) = cc
  have hm : (0 : Int) < ((10 ^ 600 : Nat) : Int) := by decide +kernel
  have f1 := fmod_pos (i := cc) hm
  generalize cc.fmod ((10 ^ 600 : Nat) : Int) = g at f1 ⊢
  have bg : B 2000 g := by
    unfold B
    have := b600
    generalize hN : (10 : Nat) ^ 600 = N at *
    omega
  have f2 := b_fdiv (t := 1000000000000000000) f1.1 bg (by decide)
  have f3 := fmod_pos (i := g) (t := 2147482763) (by decide)
  have b3 : B 40 (g.fmod 2147482763) := b_lt f3.1 (by omega)
  have b4 : B 40 at_ := b_lt h0 (by omega)
  refine ⟨cdiv (bg.mono (by decide)) (by decide), cmod (by decide), cmul b3 (b_of (n := 20) (by decide)) (by decide), cmul (b_of (n := 20) (by decide)) b4 (by decide), ?_⟩
  have b5 : B 40 (if decide (cell < 0) = true then (1 : Int) else 0) := by
    split
    · exact b_of (by decide)
    · exact b_of (by decide)
  refine ⟨cmul (b_of (n := 20) (by decide)) b5 (by decide), ?_⟩
  refine ⟨cmod (by decide), by decide, ?_⟩
  have f5 := fmod_pos (t := 2147482739) (by decide) (i := g.fmod 2147482763 * 60497 + 3511 * at_ + 79 * (if decide (cell < 0) = true then (1 : Int) else 0) + 103)
  exact hq _ ⟨_, _, _, get_end st _, f2.1, f2.2.mono (by decide), f5.1, b_lt f5.1 (by omega), by decide, by decide⟩
theorem p__law_dice : ∀ pvs st Q PX, S__law_dice mg pvs st Q PX → t__law_dice K mg (endOf Q PX) (ini N__law_dice pvs) st := by
  rintro pvs st Q PX ⟨l, i, rfl, h0, h1, hl, hq⟩
  have b4 : B 40 i := b_lt h0 (by omega)
  have e : t__law_dice K mg = sSeq (sAsg (sOp oAdd (sOp oMul (sC (.int 89)) (sVar 1)) (sC (.int 61))) 2) (sSeq (sIfS (sTest (sOp oLt (sVar 1) (sCB oLen (sCons (sVar 0) sNil)))) (sAsg (sOp oIx (sVar 0) (sVar 1)) 2) sSkip) diceTail) := rfl
  rw [e]
  simp only [List.length_map, sRet, sSeq, sAsg, sIfS, sSkip, sPar, sAsgG, sDrop, sRaise, sOp, sCB, sCons, sNil, sVar, sC, sTup, sLst, sNew, sNeg, sNot, sTest, sNotT, sAndT, sOrT, sAnd, sOr, sIf, sChain, sBits, sCall, ini, endOf, kName, kTup2, oAdd, oI, oI0, oIs, isNon_non, isNon_tup, isNon_int, oIx, oLen, oAbs, oInt, oGcd, oType, oEq_ii, oNe_ii, oEq_enc, oNe_enc, oEq_tt, oNe_tt, atI_0, atI_1, List.map_cons, List.map_nil, List.length_cons, List.length_nil, List.cons_append, List.nil_append, List.append_nil, List.replicate_succ, List.replicate_zero, List.getElem?_cons_zero, List.getElem?_cons_succ, List.set_cons_zero, List.set_cons_succ, Bool.false_eq_true, decide_true, decide_false, Bool.not_true, Bool.not_false, ↓reduceIte, Nat.reduceAdd, Nat.reduceSub, Nat.zero_add, Option.isSome]
  refine ⟨cmul (b_of (n := 20) (by decide)) b4 (by decide), ?_⟩
  by_cases h : i < (l.length : Int)
  · rw [decide_eq_true h]
    have hr : i.toNat < l.length := by omega
    have ea : atI (l.map PV.int) i = some (.int (l[i.toNat]'hr)) := by
      unfold atI ixN
      rw [if_pos h0, if_pos (by rw [List.length_map]; omega)]
      simp [hr]
    simp only [ea]
    exact dice_end st _ i h0 h1 Q PX l hq _ _ _
  · rw [decide_eq_false h]
    exact dice_end st _ i h0 h1 Q PX l hq _ _ _
end
end Cm
set_option Elab.async false
set_option linter.all false
set_option maxRecDepth 100000
set_option maxHeartbeats 1000000
namespace Kt
open PySem L2
/-! ### a machine that reads texts of worths sign by sign -/
def dig (c : Nat) : Bool := decide (48 ≤ c) && decide (c ≤ 57)
def nothing : List Nat := [110, 111, 116, 104, 105, 110, 103]
inductive Q where
  | s | m | z | t (k : Nat) | b | u (k : Nat) | n (k : Nat)
def δ : Q → Nat → Option Q
  | .s, c => if c = 45 then some .m else if c = 48 then some .z else if dig c = true then some (.t 1) else if c = 110 then some (.n 1) else none
  | .m, c => if dig c = true ∧ c ≠ 48 then some (.t 1) else none
  | .z, c => if c = 47 then some .b else none
  | .t k, c => if c = 47 then some .b else if dig c = true ∧ k < 60 then some (.t (k + 1)) else none
  | .b, c => if dig c = true ∧ c ≠ 48 then some (.u 1) else none
  | .u k, c => if dig c = true ∧ k < 60 then some (.u (k + 1)) else none
  | .n k, c => if nothing[k]? = some c then some (.n (k + 1)) else none
/-- inl: the index of the sign with which it does not go on -/
def scan : Q → Nat → List Nat → Nat ⊕ Q
  | q, _, [] => .inr q
  | q, i, c :: r => match δ q c with
    | none => .inl i
    | some q' => scan q' (i + 1) r
theorem scan_append : ∀ (a b : List Nat) (q : Q) (i : Nat), scan q i (a ++ b) = match scan q i a with
    | .inl j => .inl j
    | .inr q' => scan q' (i + a.length) b
  | [], b, q, i => rfl
  | c :: a, b, q, i => by
    show (match δ q c with | none => Sum.inl i | some q' => scan q' (i + 1) (a ++ b)) = match (match δ q c with | none => Sum.inl i | some q' => scan q' (i + 1) a) with | .inl j => .inl j | .inr q' => scan q' (i + (a.length + 1)) b
    cases δ q c with
    | none => rfl
    | some q' =>
      show scan q' (i + 1) (a ++ b) = _
      rw [scan_append a b q' (i + 1), show i + 1 + a.length = i + (a.length + 1) by omega]
theorem scan_lt : ∀ (a : List Nat) (q : Q) (i j : Nat), scan q i a = .inl j → i ≤ j ∧ j < i + a.length ∧ ∃ q' c, scan q i (a.take (j - i)) = .inr q' ∧ a[j - i]? = some c ∧ δ q' c = none
  | [], q, i, j, h => by cases h
  | c :: a, q, i, j, h => by
    unfold scan at h
    cases e : δ q c with
    | none =>
      rw [e] at h
      cases h
      refine ⟨Nat.le_refl _, by simp, q, c, ?_, ?_, e⟩
      · rw [Nat.sub_self]; rfl
      · rw [Nat.sub_self]; rfl
    | some q' =>
      rw [e] at h
      obtain ⟨h1, h2, q2, d, h3, h4, h5⟩ := scan_lt a q' (i + 1) j h
      refine ⟨by omega, by simp only [List.length_cons]; omega, q2, d, ?_, ?_, h5⟩
      · rw [show j - i = (j - (i + 1)) + 1 by omega, List.take_succ_cons]
        unfold scan
        rw [e]
        exact h3
      · rw [show j - i = (j - (i + 1)) + 1 by omega]
        simpa using h4

/-! ### what the program's loops do -/
def cnt : Nat → Nat → List Nat → Nat ⊕ Nat
  | _, i, [] => .inr i
  | k, i, c :: r => if dig c = true then (if k = 60 then .inl i else cnt (k + 1) (i + 1) r) else .inr i
def rdD (z : Bool) (i : Nat) : List Nat → Nat ⊕ Nat
  | [] => .inl i
  | c :: r => if dig c = true ∧ (z = true ∨ c ≠ 48) then (if c = 48 then .inr (i + 1) else cnt 1 (i + 1) r) else .inl i
theorem cnt_spec : ∀ (r : List Nat) (k i : Nat), 1 ≤ k → k ≤ 60 → (∃ j, cnt k i r = .inl j ∧ i ≤ j ∧ j < i + r.length ∧ (∀ c ∈ r.take (j - i), dig c = true) ∧ k + (j - i) = 60 ∧ ∃ c, r[j - i]? = some c ∧ dig c = true) ∨
    (∃ e, cnt k i r = .inr e ∧ i ≤ e ∧ e ≤ i + r.length ∧ (∀ c ∈ r.take (e - i), dig c = true) ∧ k + (e - i) ≤ 60 ∧ ∀ c, r[e - i]? = some c → dig c = false)
  | [], k, i, h1, h2 => .inr ⟨i, rfl, Nat.le_refl _, by simp, by simp, by omega, by simp⟩
  | c :: r, k, i, h1, h2 => by
    unfold cnt
    by_cases hd : dig c = true
    · rw [if_pos hd]
      by_cases hk : k = 60
      · rw [if_pos hk]
        refine .inl ⟨i, rfl, Nat.le_refl _, by simp, by simp, by omega, c, by simp, hd⟩
      · rw [if_neg hk]
        have take1 : ∀ n, i + 1 ≤ n → (c :: r).take (n - i) = c :: r.take (n - (i + 1)) := fun n hn => by
          rw [show n - i = (n - (i + 1)) + 1 by omega, List.take_succ_cons]
        have get1 : ∀ n, i + 1 ≤ n → (c :: r)[n - i]? = r[n - (i + 1)]? := fun n hn => by
          rw [show n - i = (n - (i + 1)) + 1 by omega]; simp
        rcases cnt_spec r (k + 1) (i + 1) (by omega) (by omega) with ⟨j, e, a1, a2, a3, a4, d, a5, a6⟩ | ⟨j, e, a1, a2, a3, a4, a5⟩
        · refine .inl ⟨j, e, by omega, by simp only [List.length_cons]; omega, ?_, by omega, d, by rw [get1 j a1]; exact a5, a6⟩
          rw [take1 j a1]
          intro x hx
          rcases List.mem_cons.mp hx with rfl | hx
          · exact hd
          · exact a3 x hx
        · refine .inr ⟨j, e, by omega, by simp only [List.length_cons]; omega, ?_, by omega, fun x hx => a5 x (by rw [← get1 j a1]; exact hx)⟩
          rw [take1 j a1]
          intro x hx
          rcases List.mem_cons.mp hx with rfl | hx
          · exact hd
          · exact a3 x hx
    · rw [if_neg hd]
      exact .inr ⟨i, rfl, Nat.le_refl _, by simp, by simp, by omega, by simpa using hd⟩
theorem scan_t : ∀ (r : List Nat) (k i : Nat), (∀ c ∈ r, dig c = true) → k + r.length ≤ 60 → scan (.t k) i r = .inr (.t (k + r.length))
  | [], k, i, _, _ => rfl
  | c :: r, k, i, h, hk => by
    have hc := h c (List.mem_cons_self ..)
    have c47 : c ≠ 47 := by
      intro z
      subst z
      exact absurd hc (by decide)
    have e : δ (.t k) c = some (.t (k + 1)) := by
      dsimp only [δ]
      rw [if_neg c47, if_pos ⟨hc, by simp only [List.length_cons] at hk; omega⟩]
    unfold scan
    rw [e]
    show scan (.t (k + 1)) (i + 1) r = _
    rw [scan_t r (k + 1) (i + 1) (fun d hd => h d (List.mem_cons_of_mem _ hd)) (by simp only [List.length_cons] at hk; omega)]
    simp only [List.length_cons]
    rw [show k + 1 + r.length = k + (r.length + 1) by omega]
theorem scan_u : ∀ (r : List Nat) (k i : Nat), (∀ c ∈ r, dig c = true) → k + r.length ≤ 60 → scan (.u k) i r = .inr (.u (k + r.length))
  | [], k, i, _, _ => rfl
  | c :: r, k, i, h, hk => by
    have hc := h c (List.mem_cons_self ..)
    have e : δ (.u k) c = some (.u (k + 1)) := by
      dsimp only [δ]
      rw [if_pos ⟨hc, by simp only [List.length_cons] at hk; omega⟩]
    unfold scan
    rw [e]
    show scan (.u (k + 1)) (i + 1) r = _
    rw [scan_u r (k + 1) (i + 1) (fun d hd => h d (List.mem_cons_of_mem _ hd)) (by simp only [List.length_cons] at hk; omega)]
    simp only [List.length_cons]
    rw [show k + 1 + r.length = k + (r.length + 1) by omega]

/-! ### how a text looks at which it stands -/
def ok60 (ds : List Nat) (k : Nat) : Prop := (∀ c ∈ ds, dig c = true) ∧ ds.length = k ∧ 1 ≤ k ∧ k ≤ 60 ∧ ds.head? ≠ some 48
/-- a top -/
def Top (p : List Nat) : Prop := p = [48] ∨ ∃ sg ds k, p = sg ++ ds ∧ (sg = [] ∨ sg = [45]) ∧ ok60 ds k
def J : Q → List Nat → Prop
  | .s, p => p = []
  | .m, p => p = [45]
  | .z, p => p = [48]
  | .t k, p => ∃ sg ds, p = sg ++ ds ∧ (sg = [] ∨ sg = [45]) ∧ ok60 ds k
  | .b, p => ∃ a, p = a ++ [47] ∧ Top a
  | .u k, p => ∃ a ds, p = a ++ 47 :: ds ∧ Top a ∧ ok60 ds k
  | .n k, p => 1 ≤ k ∧ k ≤ 7 ∧ p = nothing.take k
theorem ok60_one {c : Nat} (h : dig c = true) (h0 : c ≠ 48) : ok60 [c] 1 := ⟨by simpa using h, rfl, by omega, by omega, by simpa using h0⟩
theorem ok60_snoc {ds : List Nat} {k c : Nat} (o : ok60 ds k) (h : dig c = true) (hk : k < 60) : ok60 (ds ++ [c]) (k + 1) := by
  obtain ⟨o1, o2, o3, o4, o5⟩ := o
  refine ⟨fun d hd => ?_, by simp [o2], by omega, by omega, ?_⟩
  · rcases List.mem_append.mp hd with hd | hd
    · exact o1 d hd
    · rw [List.mem_singleton.mp hd]; exact h
  · cases ds with
    | nil => simp at o2; omega
    | cons x xs => simpa using o5
theorem J_step {q q' : Q} {p : List Nat} {c : Nat} (j : J q p) (e : δ q c = some q') : J q' (p ++ [c]) := by
  cases q with
  | s =>
    dsimp only [δ] at e
    cases j
    by_cases h1 : c = 45
    · rw [if_pos h1] at e; cases e; subst h1; exact rfl
    · rw [if_neg h1] at e
      by_cases h2 : c = 48
      · rw [if_pos h2] at e; cases e; subst h2; exact rfl
      · rw [if_neg h2] at e
        by_cases h3 : dig c = true
        · rw [if_pos h3] at e; cases e; exact ⟨[], [c], rfl, .inl rfl, ok60_one h3 h2⟩
        · rw [if_neg h3] at e
          by_cases h4 : c = 110
          · rw [if_pos h4] at e; cases e; subst h4; exact ⟨by omega, by omega, rfl⟩
          · rw [if_neg h4] at e; cases e
  | m =>
    dsimp only [δ] at e
    cases j
    by_cases h1 : dig c = true ∧ c ≠ 48
    · rw [if_pos h1] at e; cases e; exact ⟨[45], [c], rfl, .inr rfl, ok60_one h1.1 h1.2⟩
    · rw [if_neg h1] at e; cases e
  | z =>
    dsimp only [δ] at e
    cases j
    by_cases h1 : c = 47
    · rw [if_pos h1] at e; cases e; subst h1; exact ⟨[48], rfl, .inl rfl⟩
    · rw [if_neg h1] at e; cases e
  | t k =>
    dsimp only [δ] at e
    obtain ⟨sg, ds, rfl, hs, o⟩ := j
    by_cases h1 : c = 47
    · rw [if_pos h1] at e; cases e; subst h1; exact ⟨_, rfl, .inr ⟨sg, ds, k, rfl, hs, o⟩⟩
    · rw [if_neg h1] at e
      by_cases h2 : dig c = true ∧ k < 60
      · rw [if_pos h2] at e; cases e
        exact ⟨sg, ds ++ [c], by rw [List.append_assoc], hs, ok60_snoc o h2.1 h2.2⟩
      · rw [if_neg h2] at e; cases e
  | b =>
    dsimp only [δ] at e
    obtain ⟨a, rfl, ha⟩ := j
    by_cases h1 : dig c = true ∧ c ≠ 48
    · rw [if_pos h1] at e; cases e; exact ⟨a, [c], by rw [List.append_assoc]; rfl, ha, ok60_one h1.1 h1.2⟩
    · rw [if_neg h1] at e; cases e
  | u k =>
    dsimp only [δ] at e
    obtain ⟨a, ds, rfl, ha, o⟩ := j
    by_cases h1 : dig c = true ∧ k < 60
    · rw [if_pos h1] at e; cases e; exact ⟨a, ds ++ [c], by rw [List.append_assoc]; rfl, ha, ok60_snoc o h1.1 h1.2⟩
    · rw [if_neg h1] at e; cases e
  | n k =>
    dsimp only [δ] at e
    obtain ⟨h1, h2, rfl⟩ := j
    by_cases h3 : nothing[k]? = some c
    · rw [if_pos h3] at e; cases e
      have hk : k < 7 := (List.getElem?_eq_some_iff.mp h3).1
      refine ⟨by omega, by omega, ?_⟩
      rw [List.take_succ, h3]
      rfl
    · rw [if_neg h3] at e; cases e
theorem J_scan : ∀ (r : List Nat) {q q' : Q} {p : List Nat} {i : Nat}, J q p → scan q i r = .inr q' → J q' (p ++ r)
  | [], q, q', p, i, j, e => by cases e; rw [List.append_nil]; exact j
  | c :: r, q, q', p, i, j, e => by
    unfold scan at e
    cases h : δ q c with
    | none => rw [h] at e; cases e
    | some q1 =>
      rw [h] at e
      have := J_scan r (J_step j h) e
      rwa [List.append_assoc] at this
theorem J_of {l : List Nat} {q : Q} (h : scan .s 0 l = .inr q) : J q l := J_scan (q := .s) (p := []) l rfl h
end Kt
set_option Elab.async false
set_option linter.all false
set_option maxRecDepth 100000
set_option maxHeartbeats 1000000
namespace Kt
open PySem L2
/-! ### the law's look at a beginning -/
def isRow (p : List Nat) : Bool := decide (p ≠ []) && p.all dig
abbrev parts (p : List Nat) : List (List Nat) := TL.spl [47] 0 [] p
def rest (p : List Nat) : List Nat := if p.head? = some 45 then p.tail else p
def canA (p a : List Nat) (bs : List (List Nat)) : Bool :=
  if a = [] then decide (bs = []) else
  if isRow a = false ∨ 60 < a.length then false else
  if a.head? = some 48 ∧ (1 < a.length ∨ rest p ≠ p) then false else
  match bs with
  | [] => true
  | b :: _ => if b = [] then true else isRow b && decide (b.head? ≠ some 48) && decide (b.length ≤ 60)
def canB (p : List Nat) : Bool :=
  if nothing.take p.length = p then true else
  if 2 < (parts (rest p)).length then false else
  match parts (rest p) with
  | [] => true
  | a :: bs => canA p a bs
theorem parts_no {p : List Nat} (h : 47 ∉ p) : parts p = [p] := TL.spl_last1 (S := []) (acc := []) h
theorem parts_cut {a b : List Nat} (h : 47 ∉ a) : parts (a ++ 47 :: b) = a :: parts b := TL.spl_part1 (S := []) (acc := []) (rest := b) h
theorem parts_ne (p : List Nat) : parts p ≠ [] := by
  by_cases h : 47 ∈ p
  · obtain ⟨x, y, rfl, hx⟩ := List.eq_append_cons_of_mem h
    rw [parts_cut hx]; simp
  · rw [parts_no h]; simp
theorem parts_head {ds r : List Nat} {c : Nat} (h : 47 ∉ ds) (hc : c ≠ 47) : ∃ x tl, parts (ds ++ c :: r) = (ds ++ c :: x) :: tl := by
  have hd : 47 ∉ ds ++ [c] := by
    intro z
    rcases List.mem_append.mp z with z | z
    · exact h z
    · exact hc (List.mem_singleton.mp z).symm
  by_cases hr : 47 ∈ r
  · obtain ⟨x, y, rfl, hx⟩ := List.eq_append_cons_of_mem hr
    refine ⟨x, parts y, ?_⟩
    have e : ds ++ c :: (x ++ 47 :: y) = (ds ++ c :: x) ++ 47 :: y := by simp
    rw [e, parts_cut]
    intro z
    rcases List.mem_append.mp z with z | z
    · exact h z
    · rcases List.mem_cons.mp z with z | z
      · exact hc z.symm
      · exact hx z
  · refine ⟨r, [], parts_no ?_⟩
    intro z
    rcases List.mem_append.mp z with z | z
    · exact h z
    · rcases List.mem_cons.mp z with z | z
      · exact hc z.symm
      · exact hr z
theorem noN {p : List Nat} {c : Nat} (h : p.head? = some c) (hc : c ≠ 110) : nothing.take p.length ≠ p := by
  intro e
  cases p with
  | nil => cases h
  | cons x r =>
    cases h
    have := congrArg List.head? e
    simp [nothing] at this
    exact hc this.symm
section
variable {p a b : List Nat} {tl : List (List Nat)}
theorem canB_eq (hn : nothing.take p.length ≠ p) {bs : List (List Nat)} (hp : parts (rest p) = a :: bs) : canB p = if 1 < bs.length then false else canA p a bs := by
  unfold canB
  rw [if_neg hn, hp]
  by_cases h : 1 < bs.length
  · rw [if_pos h, if_pos (by simp only [List.length_cons]; omega)]
  · rw [if_neg h, if_neg (by simp only [List.length_cons]; omega)]
theorem canB_bad (hn : nothing.take p.length ≠ p) (hp : parts (rest p) = a :: tl) (ha : a ≠ []) (h : isRow a = false ∨ 60 < a.length ∨ (a.head? = some 48 ∧ (1 < a.length ∨ rest p ≠ p))) : canB p = false := by
  rw [canB_eq hn hp]
  split
  · rfl
  · unfold canA
    rw [if_neg ha]
    by_cases h1 : isRow a = false ∨ 60 < a.length
    · rw [if_pos h1]
    · rw [if_neg h1]
      have h2 : a.head? = some 48 ∧ (1 < a.length ∨ rest p ≠ p) := by
        rcases h with h | h | h
        · exact absurd (.inl h) h1
        · exact absurd (.inr h) h1
        · exact h
      rw [if_pos h2]
theorem canB_bad0 (hn : nothing.take p.length ≠ p) (hp : parts (rest p) = [] :: b :: tl) : canB p = false := by
  rw [canB_eq hn hp]
  split
  · rfl
  · unfold canA
    rw [if_pos rfl]
    exact decide_eq_false (by simp)
theorem canB_bad2 (hn : nothing.take p.length ≠ p) (hp : parts (rest p) = a :: b :: tl) (ha : a ≠ []) (h : tl ≠ [] ∨ (b ≠ [] ∧ (isRow b = false ∨ b.head? = some 48 ∨ 60 < b.length))) : canB p = false := by
  rw [canB_eq hn hp]
  split
  · rfl
  · rename_i hl
    have ht : tl = [] := by
      cases tl with
      | nil => rfl
      | cons x xs => simp at hl
    have hb := h.resolve_left (fun z => z ht)
    unfold canA
    rw [if_neg ha]
    split
    · rfl
    · split
      · rfl
      · show (if b = [] then true else isRow b && decide (b.head? ≠ some 48) && decide (b.length ≤ 60)) = false
        rw [if_neg hb.1]
        rcases hb.2 with h2 | h2 | h2
        · rw [h2]; rfl
        · rw [decide_eq_false (show ¬ b.head? ≠ some 48 from fun z => z h2)]; simp
        · rw [decide_eq_false (show ¬ b.length ≤ 60 by omega)]; simp
theorem canB_ok (hn : nothing.take p.length ≠ p) {bs : List (List Nat)} (hp : parts (rest p) = a :: bs) (ha : a ≠ []) (h1 : isRow a = true) (h2 : a.length ≤ 60) (h3 : a.head? = some 48 → a.length = 1 ∧ rest p = p)
    (hb : bs = [] ∨ ∃ b, bs = [b] ∧ (b = [] ∨ isRow b = true ∧ b.head? ≠ some 48 ∧ b.length ≤ 60)) : canB p = true := by
  rw [canB_eq hn hp]
  rw [if_neg (by rcases hb with rfl | ⟨b, rfl, _⟩ <;> simp)]
  unfold canA
  rw [if_neg ha, if_neg (by rw [h1]; simp; omega), if_neg (by
    rintro ⟨z, z2⟩
    obtain ⟨y1, y2⟩ := h3 z
    rcases z2 with z2 | z2
    · omega
    · exact z2 y2)]
  rcases hb with rfl | ⟨b, rfl, hb⟩
  · rfl
  · show (if b = [] then true else isRow b && decide (b.head? ≠ some 48) && decide (b.length ≤ 60)) = true
    rcases hb with rfl | ⟨b1, b2, b3⟩
    · rw [if_pos rfl]
    · split
      · rfl
      · rw [b1, decide_eq_true b2, decide_eq_true b3]; rfl
end
theorem dig47 {ds : List Nat} (h : ∀ c ∈ ds, dig c = true) : 47 ∉ ds := fun z => absurd (h 47 z) (by decide)
theorem row_of {ds : List Nat} (h : ∀ c ∈ ds, dig c = true) (h0 : ds ≠ []) : isRow ds = true := by
  unfold isRow
  rw [decide_eq_true h0, Bool.true_and, List.all_eq_true]
  exact h
theorem row_bad {ds x : List Nat} {c : Nat} (hc : dig c = false) : isRow (ds ++ c :: x) = false := by
  unfold isRow
  rw [List.all_append, List.all_cons, hc]
  simp
structure TopR (a ds : List Nat) : Prop where
  ne : ds ≠ []
  dg : ∀ c ∈ ds, dig c = true
  rs : ∀ z, rest (a ++ z) = ds ++ z
  hd : ∀ z c, (a ++ z).head? = some c → c ≠ 110
  le : ds.length ≤ 60
  zr : ds.head? = some 48 → ds.length = 1 ∧ ∀ z, rest (a ++ z) = a ++ z
  no : 47 ∉ a
  ane : a ≠ []
theorem top_r {a : List Nat} (h : Top a) : ∃ ds, TopR a ds := by
  rcases h with rfl | ⟨sg, ds, k, rfl, hs, o1, o2, o3, o4, o5⟩
  · exact ⟨[48], by simp, by simp [dig], fun z => rfl, fun z c e => by cases e; decide, by simp, fun _ => ⟨rfl, fun z => rfl⟩, by simp, by simp⟩
  · have hne : ds ≠ [] := by
      intro z
      subst z
      simp at o2
      omega
    cases ds with
    | nil => exact absurd rfl hne
    | cons x xs =>
      have hx := o1 x (List.mem_cons_self ..)
      have x45 : x ≠ 45 := by
        intro z
        subst z
        exact absurd hx (by decide)
      have x110 : x ≠ 110 := by
        intro z
        subst z
        exact absurd hx (by decide)
      have h47 : 47 ∉ x :: xs := dig47 o1
      rcases hs with rfl | rfl
      · refine ⟨x :: xs, hne, o1, fun z => ?_, fun z c e => ?_, by omega, fun z => absurd z (by simpa using o5), by simpa using h47, by simp⟩
        · unfold rest
          rw [if_neg (by simpa using x45)]; rfl
        · simp at e; subst e; exact x110
      · refine ⟨x :: xs, hne, o1, fun z => ?_, fun z c e => ?_, by omega, fun z => absurd z (by simpa using o5), ?_, by simp⟩
        · unfold rest
          rw [if_pos (by simp)]; rfl
        · simp at e; subst e; decide
        · intro z
          simp at z
          exact h47 (by simpa using z)
theorem canB_alive {q : Q} {p : List Nat} (j : J q p) : canB p = true := by
  have start : ∀ p, nothing.take p.length = p → canB p = true := fun p h => by
    unfold canB
    rw [if_pos h]
  cases q with
  | s => cases j; exact start [] rfl
  | m => cases j; decide +kernel
  | n k =>
    obtain ⟨h1, h2, rfl⟩ := j
    refine start _ ?_
    rw [List.length_take]
    rw [Nat.min_eq_left (by show k ≤ 7; omega)]
  | z => cases j; decide +kernel
  | t k =>
    obtain ⟨sg, ds, e, hs, o⟩ := j
    obtain ⟨es, T⟩ := top_r (a := p) (.inr ⟨sg, ds, k, e, hs, o⟩)
    have hr := T.rs []
    rw [List.append_nil, List.append_nil] at hr
    refine canB_ok (a := es) (bs := []) ?_ ?_ T.ne (row_of T.dg T.ne) T.le (fun z => ⟨(T.zr z).1, by have := (T.zr z).2 []; rwa [List.append_nil] at this⟩) (.inl rfl)
    · cases p with
      | nil => exact absurd rfl T.ane
      | cons x xs => exact noN rfl (T.hd [] x (by simp))
    · rw [hr, parts_no (dig47 T.dg)]
  | b =>
    obtain ⟨a, rfl, ha⟩ := j
    obtain ⟨es, T⟩ := top_r ha
    refine canB_ok (a := es) (bs := [[]]) ?_ ?_ T.ne (row_of T.dg T.ne) T.le (fun z => ⟨(T.zr z).1, (T.zr z).2 _⟩) (.inr ⟨[], rfl, .inl rfl⟩)
    · cases a with
      | nil => exact absurd rfl T.ane
      | cons x xs => exact noN rfl (T.hd [47] x (by simp))
    · rw [T.rs, parts_cut (dig47 T.dg), parts_no (by simp)]
  | u k =>
    obtain ⟨a, ds, rfl, ha, o1, o2, o3, o4, o5⟩ := j
    obtain ⟨es, T⟩ := top_r ha
    refine canB_ok (a := es) (bs := [ds]) ?_ ?_ T.ne (row_of T.dg T.ne) T.le (fun z => ⟨(T.zr z).1, (T.zr z).2 _⟩) (.inr ⟨ds, rfl, .inr ⟨row_of o1 ?_, o5, by omega⟩⟩)
    · cases a with
      | nil => exact absurd rfl T.ane
      | cons x xs => exact noN rfl (T.hd (47 :: ds) x (by simp))
    · rw [T.rs, parts_cut (dig47 T.dg), parts_no (dig47 o1)]
    · intro z
      subst z
      simp at o2
      omega
theorem canB_dead {q : Q} {p r : List Nat} {c : Nat} (j : J q p) (d : δ q c = none) : canB (p ++ c :: r) = false := by
  have notrow0 : ∀ (a : List Nat), a = c :: r → dig c = false → c ≠ 110 → c ≠ 45 → canB a = false := fun a ha hc h110 h45 => by
    subst ha
    have hrest : rest (c :: r) = c :: r := by
      unfold rest
      rw [if_neg (by simpa using h45)]
    by_cases h47 : c = 47
    · subst h47
      obtain ⟨b, tl, e⟩ := List.exists_cons_of_ne_nil (parts_ne r)
      have := parts_cut (a := []) (b := r) (by simp)
      rw [List.nil_append] at this
      exact canB_bad0 (noN rfl h110) (by rw [hrest, this, e])
    · obtain ⟨x, tl, e⟩ := parts_head (ds := []) (r := r) (c := c) (by simp) h47
      exact canB_bad (noN rfl h110) (a := c :: x) (tl := tl) (by rw [hrest]; exact e) (by simp) (.inl (row_bad (ds := []) hc))
  cases q with
  | s =>
    cases j
    dsimp only [δ] at d
    by_cases h1 : c = 45
    · rw [if_pos h1] at d; cases d
    · rw [if_neg h1] at d
      by_cases h2 : c = 48
      · rw [if_pos h2] at d; cases d
      · rw [if_neg h2] at d
        by_cases h3 : dig c = true
        · rw [if_pos h3] at d; cases d
        · rw [if_neg h3] at d
          by_cases h4 : c = 110
          · rw [if_pos h4] at d; cases d
          · exact notrow0 _ rfl (by simpa using h3) h4 h1
  | m =>
    cases j
    dsimp only [δ] at d
    by_cases h1 : dig c = true ∧ c ≠ 48
    · rw [if_pos h1] at d; cases d
    · have hrest : rest ([45] ++ c :: r) = c :: r := by unfold rest; rw [if_pos (by simp)]; rfl
      have hne : rest ([45] ++ c :: r) ≠ [45] ++ c :: r := by
        rw [hrest]
        intro z
        have := congrArg List.length z
        simp at this
      have hN : nothing.take ([45] ++ c :: r).length ≠ [45] ++ c :: r := noN (c := 45) rfl (by decide)
      by_cases h47 : c = 47
      · subst h47
        obtain ⟨b, tl, e⟩ := List.exists_cons_of_ne_nil (parts_ne r)
        have := parts_cut (a := []) (b := r) (by simp)
        rw [List.nil_append] at this
        exact canB_bad0 hN (by rw [hrest, this, e])
      · obtain ⟨x, tl, e⟩ := parts_head (ds := []) (r := r) (c := c) (by simp) h47
        refine canB_bad hN (a := c :: x) (tl := tl) (by rw [hrest]; exact e) (by simp) ?_
        by_cases h3 : dig c = true
        · have h48 : c = 48 := by
            by_cases z : c = 48
            · exact z
            · exact absurd ⟨h3, z⟩ h1
          exact .inr (.inr ⟨by rw [h48]; rfl, .inr hne⟩)
        · exact .inl (row_bad (ds := []) (by simpa using h3))
  | z =>
    cases j
    dsimp only [δ] at d
    by_cases h47 : c = 47
    · rw [if_pos h47] at d; cases d
    · have hrest : rest ([48] ++ c :: r) = [48] ++ c :: r := rfl
      obtain ⟨x, tl, e⟩ := parts_head (ds := [48]) (r := r) (c := c) (by simp) h47
      exact canB_bad (noN (c := 48) rfl (by decide)) (a := [48] ++ c :: x) (tl := tl) (by rw [hrest, e]) (by simp) (.inr (.inr ⟨rfl, .inl (by simp)⟩))
  | t k =>
    obtain ⟨sg, ds, e, hs, o⟩ := j
    obtain ⟨es, T⟩ := top_r (a := p) (.inr ⟨sg, ds, k, e, hs, o⟩)
    have hlen : k ≤ es.length := by
      have h1 := T.rs []
      rw [List.append_nil, List.append_nil] at h1
      have h2 : p.length ≤ (rest p).length + 1 := by
        unfold rest
        split
        · simp
          omega
        · omega
      obtain ⟨o1, o2, o3, o4, o5⟩ := o
      rcases hs with rfl | rfl
      · have : rest p = p := by
          unfold rest
          rw [if_neg]
          rw [e]
          cases ds with
          | nil => simp
          | cons x xs =>
            intro z
            simp at z
            have := o1 x (List.mem_cons_self ..)
            rw [z] at this
            exact absurd this (by decide)
        rw [← h1, this, e]
        simp [o2]
      · rw [e] at h2
        rw [← h1]
        rw [e]
        simp [o2] at h2 ⊢
        omega
    dsimp only [δ] at d
    by_cases h47 : c = 47
    · rw [if_pos h47] at d; cases d
    · rw [if_neg h47] at d
      by_cases h2 : dig c = true ∧ k < 60
      · rw [if_pos h2] at d; cases d
      · obtain ⟨x, tl, e2⟩ := parts_head (ds := es) (r := r) (c := c) (dig47 T.dg) h47
        have hN : nothing.take (p ++ c :: r).length ≠ p ++ c :: r := by
          have ane := T.ane
          cases p with
          | nil => exact absurd rfl ane
          | cons y ys => exact noN rfl (T.hd (c :: r) y (by simp))
        refine canB_bad hN (a := es ++ c :: x) (tl := tl) (by rw [T.rs, e2]) (by simp) ?_
        by_cases h3 : dig c = true
        · refine .inr (.inl ?_)
          have : ¬ k < 60 := fun z => h2 ⟨h3, z⟩
          rw [List.length_append, List.length_cons]
          omega
        · exact .inl (row_bad (by simpa using h3))
  | b =>
    obtain ⟨a, rfl, ha⟩ := j
    obtain ⟨es, T⟩ := top_r ha
    have e0 : a ++ [47] ++ c :: r = a ++ (47 :: c :: r) := by simp
    rw [e0]
    have hN : nothing.take (a ++ (47 :: c :: r)).length ≠ a ++ (47 :: c :: r) := by
      have ane := T.ane
      cases a with
      | nil => exact absurd rfl ane
      | cons y ys => exact noN rfl (T.hd (47 :: c :: r) y (by simp))
    dsimp only [δ] at d
    by_cases h1 : dig c = true ∧ c ≠ 48
    · rw [if_pos h1] at d; cases d
    · have hp : parts (rest (a ++ (47 :: c :: r))) = es :: parts (c :: r) := by rw [T.rs, parts_cut (dig47 T.dg)]
      by_cases h47 : c = 47
      · subst h47
        have := parts_cut (a := []) (b := r) (by simp)
        rw [List.nil_append] at this
        exact canB_bad2 hN (by rw [hp, this]) T.ne (.inl (parts_ne r))
      · obtain ⟨x, tl, e2⟩ := parts_head (ds := []) (r := r) (c := c) (by simp) h47
        refine canB_bad2 hN (b := c :: x) (tl := tl) (by rw [hp]; exact congrArg _ e2) T.ne (.inr ⟨by simp, ?_⟩)
        by_cases h3 : dig c = true
        · have h48 : c = 48 := by
            by_cases z : c = 48
            · exact z
            · exact absurd ⟨h3, z⟩ h1
          exact .inr (.inl (by rw [h48]; rfl))
        · exact .inl (row_bad (ds := []) (by simpa using h3))
  | u k =>
    obtain ⟨a, ds, rfl, ha, o1, o2, o3, o4, o5⟩ := j
    obtain ⟨es, T⟩ := top_r ha
    have e0 : a ++ 47 :: ds ++ c :: r = a ++ (47 :: (ds ++ c :: r)) := by simp
    rw [e0]
    have hN : nothing.take (a ++ (47 :: (ds ++ c :: r))).length ≠ a ++ (47 :: (ds ++ c :: r)) := by
      have ane := T.ane
      cases a with
      | nil => exact absurd rfl ane
      | cons y ys => exact noN rfl (T.hd (47 :: (ds ++ c :: r)) y (by simp))
    dsimp only [δ] at d
    by_cases h1 : dig c = true ∧ k < 60
    · rw [if_pos h1] at d; cases d
    · have hp : parts (rest (a ++ (47 :: (ds ++ c :: r)))) = es :: parts (ds ++ c :: r) := by rw [T.rs, parts_cut (dig47 T.dg)]
      by_cases h47 : c = 47
      · subst h47
        exact canB_bad2 hN (by rw [hp, parts_cut (dig47 o1)]) T.ne (.inl (parts_ne r))
      · obtain ⟨x, tl, e2⟩ := parts_head (ds := ds) (r := r) (c := c) (dig47 o1) h47
        refine canB_bad2 hN (b := ds ++ c :: x) (tl := tl) (by rw [hp]; exact congrArg _ e2) T.ne (.inr ⟨by simp, ?_⟩)
        by_cases h3 : dig c = true
        · refine .inr (.inr ?_)
          have : ¬ k < 60 := fun z => h1 ⟨h3, z⟩
          rw [List.length_append, List.length_cons]
          omega
        · exact .inl (row_bad (by simpa using h3))
  | n k =>
    obtain ⟨h1, h2, rfl⟩ := j
    dsimp only [δ] at d
    by_cases h3 : nothing[k]? = some c
    · rw [if_pos h3] at d; cases d
    · have hk : (nothing.take k).length = k := by
        rw [List.length_take, Nat.min_eq_left (by show k ≤ 7; omega)]
      have hN : nothing.take (nothing.take k ++ c :: r).length ≠ nothing.take k ++ c :: r := by
        intro z
        have z2 := congrArg (fun l => l[k]?) z
        simp only [List.getElem?_append_right (show (nothing.take k).length ≤ k by omega), hk, Nat.sub_self, List.getElem?_cons_zero] at z2
        rw [List.getElem?_take_of_lt (by rw [List.length_append, hk, List.length_cons]; omega)] at z2
        exact h3 z2
      have hh : nothing.take k = 110 :: (nothing.take k).tail := by
        obtain ⟨m, rfl⟩ : ∃ m, k = m + 1 := ⟨k - 1, by omega⟩
        rfl
      have hrest : rest (nothing.take k ++ c :: r) = nothing.take k ++ c :: r := by
        unfold rest
        rw [if_neg]
        rw [hh]
        simp
      obtain ⟨x, tl, e2⟩ := parts_head (ds := []) (r := (nothing.take k).tail ++ c :: r) (c := 110) (by simp) (by decide)
      refine canB_bad hN (a := 110 :: x) (tl := tl) ?_ (by simp) (.inl (row_bad (ds := []) (by decide)))
      rw [hrest, hh]
      exact e2
/-- a beginning goes on exactly if the machine does -/
theorem canB_scan (p : List Nat) : canB p = match scan .s 0 p with
    | .inl _ => false
    | .inr _ => true := by
  cases e : scan .s 0 p with
  | inr q => exact canB_alive (J_of e)
  | inl i =>
    obtain ⟨h1, h2, q, c, h3, h4, h5⟩ := scan_lt p .s 0 i e
    rw [Nat.sub_zero] at h3 h4
    have hp : p = p.take i ++ c :: p.drop (i + 1) := by
      have hi : i < p.length := by omega
      have e1 := List.take_append_drop i p
      rw [List.drop_eq_getElem_cons hi] at e1
      rw [List.getElem?_eq_getElem hi] at h4
      cases h4
      exact e1.symm
    rw [hp]
    exact canB_dead (J_of h3) h5
end Kt
set_option Elab.async false
set_option linter.all false
set_option maxRecDepth 100000
set_option maxHeartbeats 1000000
namespace Kt
open PySem L2
theorem rdD_inl {z : Bool} {i j : Nat} {r : List Nat} (h : rdD z i r = .inl j) :
    (j = i ∧ (r = [] ∨ ∃ c r', r = c :: r' ∧ ¬ (dig c = true ∧ (z = true ∨ c ≠ 48)))) ∨ (∃ ds c r', r = ds ++ c :: r' ∧ ok60 ds 60 ∧ dig c = true ∧ j = i + 60) := by
  cases r with
  | nil => dsimp only [rdD] at h; cases h; exact .inl ⟨rfl, .inl rfl⟩
  | cons c r =>
    dsimp only [rdD] at h
    by_cases h1 : dig c = true ∧ (z = true ∨ c ≠ 48)
    · rw [if_pos h1] at h
      by_cases h2 : c = 48
      · rw [if_pos h2] at h; cases h
      · rw [if_neg h2] at h
        rcases cnt_spec r 1 (i + 1) (by omega) (by omega) with ⟨j', e, a1, a2, a3, a4, d, a5, a6⟩ | ⟨j', e, _⟩
        · rw [e] at h
          cases h
          refine .inr ⟨c :: r.take (j - (i + 1)), d, r.drop (j - (i + 1) + 1), ?_, ⟨?_, ?_, by omega, by omega, by simpa using h2⟩, a6, by omega⟩
          · rw [List.cons_append]
            congr 1
            have hlt : j - (i + 1) < r.length := (List.getElem?_eq_some_iff.mp a5).1
            have e1 := List.take_append_drop (j - (i + 1)) r
            rw [List.drop_eq_getElem_cons hlt] at e1
            rw [List.getElem?_eq_getElem hlt] at a5
            cases a5
            exact e1.symm
          · intro x hx
            rcases List.mem_cons.mp hx with rfl | hx
            · exact h1.1
            · exact a3 x hx
          · rw [List.length_cons, List.length_take, Nat.min_eq_left (by omega)]
            omega
        · rw [e] at h; cases h
    · rw [if_neg h1] at h
      cases h
      exact .inl ⟨rfl, .inr ⟨c, r, rfl, h1⟩⟩
theorem rdD_inr {z : Bool} {i e : Nat} {r : List Nat} (h : rdD z i r = .inr e) :
    ∃ ds r', r = ds ++ r' ∧ e = i + ds.length ∧ ((ds = [48] ∧ z = true) ∨ (∃ k, ok60 ds k ∧ ∀ c, r'.head? = some c → dig c = true → k = 60 ∧ False)) := by
  cases r with
  | nil => dsimp only [rdD] at h; cases h
  | cons c r =>
    dsimp only [rdD] at h
    by_cases h1 : dig c = true ∧ (z = true ∨ c ≠ 48)
    · rw [if_pos h1] at h
      by_cases h2 : c = 48
      · rw [if_pos h2] at h
        cases h
        subst h2
        exact ⟨[48], r, rfl, rfl, .inl ⟨rfl, h1.2.resolve_right (by simp)⟩⟩
      · rw [if_neg h2] at h
        rcases cnt_spec r 1 (i + 1) (by omega) (by omega) with ⟨j', e', _⟩ | ⟨j', e', a1, a2, a3, a4, a5⟩
        · rw [e'] at h; cases h
        · rw [e'] at h
          cases h
          refine ⟨c :: r.take (e - (i + 1)), r.drop (e - (i + 1)), by rw [List.cons_append, List.take_append_drop], ?_, .inr ⟨1 + (e - (i + 1)), ⟨?_, ?_, by omega, by omega, by simpa using h2⟩, fun x hx hd => ?_⟩⟩
          · rw [List.length_cons, List.length_take, Nat.min_eq_left (by omega)]
            omega
          · intro x hx
            rcases List.mem_cons.mp hx with rfl | hx
            · exact h1.1
            · exact a3 x hx
          · rw [List.length_cons, List.length_take, Nat.min_eq_left (by omega)]
            omega
          · rw [List.head?_drop] at hx
            rw [a5 x hx] at hd
            cases hd
    · rw [if_neg h1] at h; cases h
/-- the machine along the digits of a top, of a bottom -/
theorem scan_ok {ds : List Nat} {k : Nat} (o : ok60 ds k) (q : Q) (i : Nat) (hq : q = .s ∨ q = .m) : scan q i ds = .inr (.t k) := by
  obtain ⟨o1, o2, o3, o4, o5⟩ := o
  cases ds with
  | nil => simp at o2; omega
  | cons c r =>
    have hc := o1 c (List.mem_cons_self ..)
    have c48 : c ≠ 48 := by simpa using o5
    have c45 : c ≠ 45 := by
      intro z
      subst z
      exact absurd hc (by decide)
    have e : δ q c = some (.t 1) := by
      rcases hq with rfl | rfl
      · dsimp only [δ]
        rw [if_neg c45, if_neg c48, if_pos hc]
      · dsimp only [δ]
        rw [if_pos ⟨hc, c48⟩]
    unfold scan
    rw [e]
    simp only [List.length_cons] at o2
    show scan (.t 1) (i + 1) r = _
    rw [scan_t r 1 (i + 1) (fun x hx => o1 x (List.mem_cons_of_mem _ hx)) (by omega), show 1 + r.length = k by omega]
theorem scan_okb {ds : List Nat} {k : Nat} (o : ok60 ds k) (i : Nat) : scan .b i ds = .inr (.u k) := by
  obtain ⟨o1, o2, o3, o4, o5⟩ := o
  cases ds with
  | nil => simp at o2; omega
  | cons c r =>
    have hc := o1 c (List.mem_cons_self ..)
    have c48 : c ≠ 48 := by simpa using o5
    have e : δ .b c = some (.u 1) := by
      dsimp only [δ]
      rw [if_pos ⟨hc, c48⟩]
    unfold scan
    rw [e]
    simp only [List.length_cons] at o2
    show scan (.u 1) (i + 1) r = _
    rw [scan_u r 1 (i + 1) (fun x hx => o1 x (List.mem_cons_of_mem _ hx)) (by omega), show 1 + r.length = k by omega]
def fin : Q → Bool
  | .z => true
  | .t _ => true
  | .u _ => true
  | .n k => decide (k = 7)
  | _ => false
/-- reading a worth from b on: the top's text, the bottom's, where it ends -/
def wf (b : Nat) (l : List Nat) : Nat ⊕ (List Nat × Option (List Nat) × Nat) :=
  let m := decide ((l.drop b).head? = some 45)
  let f := if m then b + 1 else b
  match rdD (!m) f (l.drop f) with
  | .inl i => .inl i
  | .inr e => if l[e]? = some 47 then
      match rdD false (e + 1) (l.drop (e + 1)) with
      | .inl i => .inl i
      | .inr e' => .inr ((l.drop b).take (e - b), some ((l.drop (e + 1)).take (e' - (e + 1))), e')
    else .inr ((l.drop b).take (e - b), none, e)
/-- a top ahead of what stands behind, and what may stand there -/
structure TopAt (b : Nat) (l A r : List Nat) (e : Nat) (q : Q) : Prop where
  eq : l.drop b = A ++ r
  e : e = b + A.length
  top : Top A
  sc : scan .s b A = .inr q
  fn : fin q = true
  nx : ∀ c, r.head? = some c → c ≠ 47 → δ q c = none
  sl : δ q 47 = some .b
theorem top_at {b f e : Nat} {l sg : List Nat} {z : Bool} (hf : f = b + sg.length) (hz : (sg = [] ∧ z = true ∧ (l.drop b).head? ≠ some 45) ∨ (sg = [45] ∧ z = false)) (hs : l.drop b = sg ++ l.drop f) (h : rdD z f (l.drop f) = .inr e) :
    ∃ A r q, TopAt b l A r e q ∧ e ≤ l.length ∧ r = l.drop e := by
  obtain ⟨ds, r', e1, e2, e3⟩ := rdD_inr h
  have hle : e ≤ l.length := by
    have hx := congrArg List.length e1
    rw [List.length_drop, List.length_append] at hx
    by_cases hfl : f ≤ l.length
    · omega
    · have : ds = [] := by
        have : ds.length = 0 := by omega
        exact List.length_eq_zero_iff.mp this
      subst this
      rcases e3 with ⟨z, _⟩ | ⟨k, o, _⟩
      · cases z
      · have := o.2.1
        have := o.2.2.1
        simp at *
        omega
  have hr : r' = l.drop e := by
    rw [e2, ← List.drop_drop, e1, List.drop_left]
  refine ⟨sg ++ ds, r', ?_⟩
  have hsg : scan .s b sg = .inr (if sg = [] then .s else .m) := by
    rcases hz with ⟨rfl, _⟩ | ⟨rfl, _⟩
    · rfl
    · rfl
  have base : l.drop b = (sg ++ ds) ++ r' := by rw [hs, e1, List.append_assoc]
  have elen : e = b + (sg ++ ds).length := by rw [List.length_append]; omega
  rcases e3 with ⟨rfl, hz2⟩ | ⟨k, o, hn⟩
  · rcases hz with ⟨rfl, _⟩ | ⟨_, hz⟩
    · exact ⟨.z, ⟨base, elen, .inl rfl, rfl, rfl, fun c _ hc => if_neg hc, rfl⟩, hle, hr⟩
    · rw [hz2] at hz; cases hz
  · refine ⟨.t k, ⟨base, elen, .inr ⟨sg, ds, k, rfl, ?_, o⟩, ?_, rfl, fun c hc h47 => ?_, rfl⟩, hle, hr⟩
    · rcases hz with ⟨rfl, _⟩ | ⟨rfl, _⟩
      · exact .inl rfl
      · exact .inr rfl
    · rw [scan_append, hsg]
      exact scan_ok o _ _ (by rcases hz with ⟨rfl, _⟩ | ⟨rfl, _⟩ <;> simp)
    · dsimp only [δ]
      rw [if_neg h47, if_neg]
      rintro ⟨h1, _⟩
      exact (hn c hc h1).2
theorem bot_at {b e : Nat} {l : List Nat} (hl : b ≤ l.length) (h : rdD false b (l.drop b) = .inr e) : ∃ ds k, ok60 ds k ∧ l.drop b = ds ++ l.drop e ∧ e = b + ds.length ∧ e ≤ l.length ∧ ∀ c, l[e]? = some c → δ (.u k) c = none := by
  obtain ⟨ds, r', e1, e2, e3⟩ := rdD_inr h
  rcases e3 with ⟨_, z⟩ | ⟨k, o, hn⟩
  · cases z
  · have hr : r' = l.drop e := by
      rw [e2, ← List.drop_drop, e1, List.drop_left]
    have hx := congrArg List.length e1
    rw [List.length_drop, List.length_append] at hx
    refine ⟨ds, k, o, by rw [e1, hr], e2, by omega, fun c hc => ?_⟩
    dsimp only [δ]
    rw [if_neg]
    rintro ⟨h1, _⟩
    exact (hn c (by rw [hr, List.head?_drop]; exact hc) h1).2
theorem dead_scan {q : Q} {i : Nat} {r : List Nat} {c : Nat} (h : r.head? = some c) (d : δ q c = none) : scan q i r = .inl i := by
  cases r with
  | nil => cases h
  | cons x xs =>
    cases h
    unfold scan
    rw [d]
/-- where reading digits fails -/
theorem rdD_dead {z : Bool} {i j : Nat} {r : List Nat} {q : Q} (hq : (q = .s ∧ z = true ∧ r.head? ≠ some 45 ∧ r.head? ≠ some 110) ∨ (q = .m ∧ z = false) ∨ (q = .b ∧ z = false)) (h : rdD z i r = .inl j) :
    scan q i r = .inl j ∨ (j = i + r.length ∧ r = [] ∧ scan q i r = .inr q) := by
  rcases rdD_inl h with ⟨rfl, rfl | ⟨c, r', rfl, hc⟩⟩ | ⟨ds, c, r', rfl, o, hc, rfl⟩
  · exact .inr ⟨rfl, rfl, rfl⟩
  · refine .inl (dead_scan (c := c) rfl ?_)
    rcases hq with ⟨rfl, rfl, h1, h2⟩ | ⟨rfl, rfl⟩ | ⟨rfl, rfl⟩
    · dsimp only [δ]
      have hd : ¬ dig c = true := fun z => hc ⟨z, .inl rfl⟩
      have c48 : c ≠ 48 := by
        intro z
        subst z
        exact hd (by decide)
      rw [if_neg (by simpa using h1), if_neg c48, if_neg hd, if_neg (by simpa using h2)]
    · dsimp only [δ]
      exact if_neg fun z => hc ⟨z.1, .inr z.2⟩
    · dsimp only [δ]
      exact if_neg fun z => hc ⟨z.1, .inr z.2⟩
  · refine .inl ?_
    have h60 := o.2.1
    have c47 : c ≠ 47 := by
      intro z
      subst z
      exact absurd hc (by decide)
    rcases hq with ⟨rfl, rfl, _⟩ | ⟨rfl, rfl⟩ | ⟨rfl, rfl⟩
    · rw [scan_append, scan_ok o .s i (.inl rfl), h60]
      refine dead_scan (c := c) rfl ?_
      dsimp only [δ]
      rw [if_neg c47, if_neg (by omega)]
    · rw [scan_append, scan_ok o .m i (.inr rfl), h60]
      refine dead_scan (c := c) rfl ?_
      dsimp only [δ]
      rw [if_neg c47, if_neg (by omega)]
    · rw [scan_append, scan_okb o i, h60]
      refine dead_scan (c := c) rfl ?_
      dsimp only [δ]
      rw [if_neg (by omega)]

/-! ### what a text tells -/
def iv : List Nat → Int
  | 45 :: r => -((NumText.digitsVal r : Nat) : Int)
  | p => ((NumText.digitsVal p : Nat) : Int)
def valL (l : List Nat) : Wm.Wo :=
  if l = nothing then none else
  match parts l with
  | [a] => some (iv a, 1)
  | a :: b :: _ => some (Wm.low (iv a) (iv b))
  | [] => none
def res (l : List Nat) : Nat ⊕ Wm.Wo := match scan .s 0 l with
  | .inl i => .inl i
  | .inr q => if fin q = true then .inr (valL l) else .inl l.length
def vOf (A : List Nat) : Option (List Nat) → Int × Int
  | none => (iv A, 1)
  | some ds => Wm.low (iv A) (iv ds)
/-- what the reader makes of a text that does not begin with n -/
def rwE (l : List Nat) : Nat ⊕ Wm.Wo := match wf 0 l with
  | .inl i => .inl i
  | .inr (A, B, e) => if e < l.length then .inl e else .inr (some (vOf A B))
theorem top_no {A : List Nat} (h : Top A) : 47 ∉ A ∧ A ≠ nothing ∧ A.head? ≠ some 110 := by
  obtain ⟨ds, T⟩ := top_r h
  have hh : A.head? ≠ some 110 := by
    intro z
    have := T.hd [] 110 (by rw [List.append_nil]; exact z)
    exact this rfl
  exact ⟨T.no, fun z => by subst z; exact hh rfl, hh⟩
theorem rwE_res {l : List Nat} (hn : l.head? ≠ some 110) : rwE l = res l := by
  have hd0 : l.drop 0 = l := rfl
  unfold rwE wf
  simp only [hd0]
  -- the sign
  obtain ⟨sg, z, f, hf, hz, hs, hfz, hq⟩ : ∃ (sg : List Nat) (z : Bool) (f : Nat), f = 0 + sg.length ∧ ((sg = [] ∧ z = true ∧ (l.drop 0).head? ≠ some 45) ∨ (sg = [45] ∧ z = false)) ∧ l.drop 0 = sg ++ l.drop f ∧
      (f = (if decide (l.head? = some 45) = true then 0 + 1 else 0) ∧ z = !decide (l.head? = some 45)) ∧ True := by
    by_cases h : l.head? = some 45
    · refine ⟨[45], false, 1, rfl, .inr ⟨rfl, rfl⟩, ?_, ⟨by rw [decide_eq_true h]; rfl, by rw [decide_eq_true h]; rfl⟩, trivial⟩
      cases l with
      | nil => cases h
      | cons x xs => cases h; rfl
    · exact ⟨[], true, 0, rfl, .inl ⟨rfl, rfl, h⟩, rfl, ⟨by rw [decide_eq_false h]; rfl, by rw [decide_eq_false h]; rfl⟩, trivial⟩
  obtain ⟨hf2, hz2⟩ := hfz
  rw [← hf2, ← hz2]
  cases h1 : rdD z f (l.drop f) with
  | inl i =>
    show Sum.inl i = res l
    have hsc : scan .s 0 l = .inl i ∨ (i = l.length ∧ ∃ q, scan .s 0 l = .inr q ∧ fin q = false) := by
      rcases hz with ⟨rfl, rfl, h45⟩ | ⟨rfl, rfl⟩
      · have f0 : f = 0 := hf
        subst f0
        rcases rdD_dead (q := .s) (.inl ⟨rfl, rfl, h45, hn⟩) h1 with h | ⟨h, hr, h'⟩
        · exact .inl h
        · refine .inr ⟨by rw [h]; simp, _, h', rfl⟩
      · have f1 : f = 1 := hf
        subst f1
        have e : l = [45] ++ l.drop 1 := hs
        have es : scan .s 0 l = scan .m 1 (l.drop 1) := by
          conv => lhs; rw [e]
          rw [scan_append]
          rfl
        rcases rdD_dead (q := .m) (.inr (.inl ⟨rfl, rfl⟩)) h1 with h | ⟨h, hr, h'⟩
        · exact .inl (es.trans h)
        · refine .inr ⟨?_, _, es.trans h', rfl⟩
          have := congrArg List.length e
          rw [List.length_append, List.length_singleton] at this
          omega
    unfold res
    rcases hsc with h | ⟨rfl, q, h, hq⟩
    · rw [h]
    · rw [h]
      show _ = if fin q = true then _ else _
      rw [hq, if_neg Bool.false_ne_true]
  | inr e =>
    obtain ⟨A, r, q, T, hle, hr⟩ := top_at (b := 0) hf hz hs h1
    have eA : e = A.length := by rw [T.e]; omega
    have el : l = A ++ r := T.eq
    have etake : l.take e = A := by
      conv => lhs; rw [el, eA]
      exact List.take_left
    have hscA : scan .s 0 l = scan q e r := by
      conv => lhs; rw [el]
      rw [scan_append, T.sc, eA, Nat.zero_add]
    have hre : r = l.drop e := hr
    show (match (if l[e]? = some 47 then _ else _ : Nat ⊕ (List Nat × Option (List Nat) × Nat)) with | .inl i => Sum.inl i | .inr (A, B, e) => if e < l.length then .inl e else .inr (some (vOf A B))) = res l
    by_cases h47 : l[e]? = some 47
    · rw [if_pos h47]
      have hlt : e < l.length := (List.getElem?_eq_some_iff.mp h47).1
      have hr2 : r = 47 :: l.drop (e + 1) := by
        rw [hre, List.drop_eq_getElem_cons hlt]
        congr 1
        rw [List.getElem?_eq_getElem hlt] at h47
        exact Option.some.inj h47
      have hscB : scan .s 0 l = scan .b (e + 1) (l.drop (e + 1)) := by
        rw [hscA, hr2]
        show (match δ q 47 with | none => Sum.inl e | some q' => scan q' (e + 1) (l.drop (e + 1))) = _
        rw [T.sl]
      cases h2 : rdD false (e + 1) (l.drop (e + 1)) with
      | inl i =>
        show Sum.inl i = res l
        unfold res
        rcases rdD_dead (q := .b) (.inr (.inr ⟨rfl, rfl⟩)) h2 with h | ⟨h, hr3, h'⟩
        · rw [hscB, h]
        · rw [hscB, h']
          show _ = if fin .b = true then _ else _
          rw [if_neg (by decide)]
          have := congrArg List.length hr3
          rw [List.length_drop, List.length_nil] at this
          congr 1
          rw [h, hr3, List.length_nil]
          omega
      | inr e' =>
        obtain ⟨ds, k, o, d1, d2, d3, d4⟩ := bot_at (by omega) h2
        have hscD : scan .s 0 l = scan (.u k) e' (l.drop e') := by
          rw [hscB, d1, scan_append, scan_okb o, d2]
        show (if e' < l.length then Sum.inl e' else .inr (some (vOf (l.take (e - 0)) (some ((l.drop (e + 1)).take (e' - (e + 1))))))) = res l
        unfold res
        rw [hscD]
        by_cases hlt2 : e' < l.length
        · rw [if_pos hlt2]
          have hx : (l.drop e').head? = some l[e'] := by rw [List.head?_drop, List.getElem?_eq_getElem hlt2]
          rw [dead_scan hx (d4 _ (List.getElem?_eq_getElem hlt2))]
        · rw [if_neg hlt2]
          have hnil : l.drop e' = [] := List.drop_eq_nil_of_le (by omega)
          rw [hnil]
          show _ = Sum.inr (valL l)
          have hds : (l.drop (e + 1)).take (e' - (e + 1)) = ds := by
            rw [d1, hnil, List.append_nil]
            exact List.take_of_length_le (by omega)
          have hl2 : l = A ++ 47 :: ds := by
            conv => lhs; rw [el, hr2, d1, hnil, List.append_nil]
          obtain ⟨n1, n2, n3⟩ := top_no T.top
          unfold valL
          rw [if_neg (by
            intro z
            have : (47 : Nat) ∈ nothing := by rw [← z, hl2]; simp
            exact absurd this (by decide))]
          rw [hds, Nat.sub_zero, etake]
          have hp : parts l = [A, ds] := by rw [hl2, parts_cut n1, parts_no (dig47 o.1)]
          rw [hp]
          rfl
    · rw [if_neg h47]
      show (if e < l.length then Sum.inl e else .inr (some (vOf (l.take (e - 0)) none))) = res l
      unfold res
      rw [hscA]
      by_cases hlt : e < l.length
      · rw [if_pos hlt]
        have hx : r.head? = some l[e] := by rw [hre, List.head?_drop, List.getElem?_eq_getElem hlt]
        rw [dead_scan hx (T.nx _ hx (by
          intro z
          rw [List.getElem?_eq_getElem hlt, z] at h47
          exact h47 rfl))]
      · rw [if_neg hlt]
        have hnil : r = [] := by rw [hre]; exact List.drop_eq_nil_of_le (by omega)
        rw [hnil]
        show _ = if fin q = true then _ else _
        rw [if_pos T.fn, Nat.sub_zero, etake]
        obtain ⟨n1, n2, n3⟩ := top_no T.top
        have hl2 : l = A := by rw [el, hnil, List.append_nil]
        unfold valL
        rw [hl2, if_neg n2, parts_no n1]
        rfl
/-! ### nothing -/
def rnL : Nat → List Nat → List Nat → Nat ⊕ Unit
  | _, [], [] => .inr ()
  | i, [], _ :: _ => .inl i
  | i, _ :: _, [] => .inl i
  | i, x :: es, c :: r => if c = x then rnL (i + 1) es r else .inl i
theorem rnL_scan : ∀ (es r : List Nat) (i : Nat), nothing.drop i = es → i ≤ 7 →
    (∃ j, rnL i es r = .inl j ∧ (scan (.n i) i r = .inl j ∨ (j = i + r.length ∧ j < 7 ∧ scan (.n i) i r = .inr (.n j)))) ∨ (rnL i es r = .inr () ∧ scan (.n i) i r = .inr (.n 7) ∧ r = es)
  | [], [], i, h, hi => by
    have : i = 7 := by
      have := congrArg List.length h
      rw [List.length_drop] at this
      simp [nothing] at this
      omega
    subst this
    exact .inr ⟨rfl, rfl, rfl⟩
  | [], c :: r, i, h, hi => by
    have : i = 7 := by
      have := congrArg List.length h
      rw [List.length_drop] at this
      simp [nothing] at this
      omega
    subst this
    exact .inl ⟨7, rfl, .inl rfl⟩
  | x :: es, [], i, h, hi => by
    have : i < 7 := by
      have := congrArg List.length h
      rw [List.length_drop] at this
      simp [nothing] at this
      omega
    exact .inl ⟨i, rfl, .inr ⟨rfl, this, rfl⟩⟩
  | x :: es, c :: r, i, h, hi => by
    have hlt : i < nothing.length := by
      have := congrArg List.length h
      rw [List.length_drop] at this
      simp [nothing] at this ⊢
      omega
    have hx : nothing[i]? = some x := by
      rw [← List.head?_drop, h]; rfl
    have hd : nothing.drop (i + 1) = es := by
      have := List.drop_eq_getElem_cons hlt
      rw [h] at this
      exact (List.cons.inj this).2.symm
    by_cases hc : c = x
    · subst hc
      have e : δ (.n i) c = some (.n (i + 1)) := if_pos hx
      have es1 : scan (.n i) i (c :: r) = scan (.n (i + 1)) (i + 1) r := by
        conv => lhs; unfold scan
        rw [e]
      have er : rnL i (c :: es) (c :: r) = rnL (i + 1) es r := if_pos rfl
      rw [es1, er]
      have hl7 : nothing.length = 7 := rfl
      rcases rnL_scan es r (i + 1) hd (by omega) with ⟨j, a1, a2⟩ | ⟨a1, a2, a3⟩
      · refine .inl ⟨j, a1, ?_⟩
        rcases a2 with a2 | ⟨a2, a3, a4⟩
        · exact .inl a2
        · exact .inr ⟨by rw [a2, List.length_cons]; omega, a3, a4⟩
      · exact .inr ⟨a1, a2, by rw [a3]⟩
    · have e : δ (.n i) c = none := if_neg (by rw [hx]; intro z; cases z; exact hc rfl)
      refine .inl ⟨i, if_neg hc, .inl ?_⟩
      unfold scan
      rw [e]
theorem rnL_res {l : List Nat} (hn : l.head? = some 110) : res l = match rnL 0 nothing l with
    | .inl i => .inl i
    | .inr _ => .inr none := by
  cases l with
  | nil => cases hn
  | cons c r =>
    cases hn
    have e0 : scan .s 0 (110 :: r) = scan (.n 1) 1 r := rfl
    have e1 : rnL 0 nothing (110 :: r) = rnL 1 (nothing.drop 1) r := rfl
    unfold res
    rw [e0, e1]
    rcases rnL_scan _ r 1 rfl (by omega) with ⟨j, a1, a2⟩ | ⟨a1, a2, a3⟩
    · rw [a1]
      rcases a2 with a2 | ⟨a2, a3, a4⟩
      · rw [a2]
      · rw [a4]
        show (if fin (.n j) = true then _ else _) = _
        rw [if_neg (by simp [fin]; omega), a2, List.length_cons]
        congr 1
        omega
    · rw [a1, a2]
      show Sum.inr (valL (110 :: r)) = Sum.inr none
      unfold valL
      rw [if_pos (by rw [a3]; rfl)]
end Kt
set_option Elab.async false
set_option linter.all false
set_option maxRecDepth 100000
set_option maxHeartbeats 1000000
namespace Sm
open PySem PySem.Spec PyProof.Rows L2

/-! ### slices -/
abbrev SemO := Env → Store → (Option Int → Store → Prop) → XP → Prop
def FinO (K : PySem.W.Frag) (T : List (Addr × Str)) (m : List Addr) (H : Hp) (P : Option Int → Store → Prop) (Q : Option Int → Hp → Prop) : Prop := ∀ b st', P b st' → ∀ m' H', Grow m H m' H' → Rel K T m' st' H' → Q b H'
def tOs (K : PySem.W.Frag) (T : List (Addr × Str)) (W : WX) (f : SemO) : TO := fun σ H Q => ∃ ρ st m P PX, RS K m H σ ρ ∧ Rel K T m st H ∧ f ρ st P PX ∧ FinO K T m H P Q ∧ FinX K T m H PX (fun c d H' => W c d σ H')
abbrev JO (X : Cx) (T : List (Addr × Str)) (W : WX) (e : Option Expr) (f : SemO) : Prop := PO X e (tOs X.K T W f)
theorem PO.imp {X : Cx} {e : Option Expr} {t t' : TO} (h : PO X e t) (i : ∀ σ H Q, t' σ H Q → t σ H Q) : PO X e t' := ⟨fun pins s σ H Q I q => h.run pins s σ H Q I (i σ H Q q)⟩
def sPN : SemO := fun _ st P _ => P none st
def sPt (f : Sem) : SemO := fun ρ st P PX => f ρ st (fun v st1 => match v with
  | .int i => P (some i) st1
  | _ => False) PX
def cutP (xs : List PV) (lo hi : Option Int) : List PV := (xs.drop (HT.sIx xs.length 0 lo)).take (HT.sIx xs.length xs.length hi - HT.sIx xs.length 0 lo)
def oSl (x : PV) (l u : Option Int) (st : Store) (P : PK) : Prop := match x with
  | .str z => z.length ≤ 100000 ∧ P (.str (Txt.slice z l u)) st
  | .tup xs => ¬ (HT.sIx xs.length 0 l = 0 ∧ HT.sIx xs.length xs.length u = xs.length) ∧ P (.tup (cutP xs l u)) st
  | .lst xs => P (.lst (cutP xs l u)) st
  | .hd n => match st[n]? with
    | some (.lst xs) => P (.lst (cutP xs l u)) st
    | none => False
  | _ => False
def sSl (f : Sem) (lo hi : SemO) : Sem := fun ρ st P PX => f ρ st (fun x st1 => lo ρ st1 (fun l st2 => hi ρ st2 (fun u st3 => oSl x l u st3 P) PX) PX) PX
section
variable {X : Cx} {T : List (Addr × Str)} {W : WX} {pos p2 : Pos} {e : Expr} {lo hi : Option Expr} {f : Sem} {fl fu : SemO}
theorem o_none : JO X T W none sPN := PO.imp po_none fun σ H Q h => by
  obtain ⟨ρ, st, m, P, PX, rs, rel, hf, fin, finx⟩ := h
  exact fin _ st hf m H Grow.refl rel
theorem o_some (h : JE X T W e f) : JO X T W (some e) (sPt f) := PO.imp (po_some h) fun σ H Q h => by
  obtain ⟨ρ, st, m, P, PX, rs, rel, hf, fin, finx⟩ := h
  refine ⟨ρ, st, m, _, PX, rs, rel, hf, fun v st1 hv x m1 H1 g1 rel1 rv1 => ?_, finx⟩
  cases rv1 <;> first | exact hv.elim | skip
  exact ⟨_, rfl, fin _ st1 hv m1 H1 g1 rel1⟩
theorem RVs.take {K : PySem.W.Frag} {m : List Addr} {H : Hp} : ∀ {xs : List V} {vs : List PV} (i : Nat), RVs K m H xs vs → RVs K m H (xs.take i) (vs.take i)
  | _, _, 0, _ => .nil
  | _, _, _ + 1, .nil => .nil
  | _, _, i + 1, .cons a r => .cons a (RVs.take i r)
theorem RVs.cut {K : PySem.W.Frag} {m : List Addr} {H : Hp} {xs : List V} {vs : List PV} (r : RVs K m H xs vs) (l u : Option Int) : RVs K m H (cutV xs l u) (cutP vs l u) := by
  unfold cutV cutP
  rw [r.length]
  exact (r.drop _).take _
theorem w_sl (he : JE X T W e f) (hl : JO X T W lo fl) (hu : JO X T W hi fu) : JE X T W (.Subscript e (.Slice lo hi none p2) pos) (sSl f fl fu) :=
  PE.imp (pe_slice (SlR.or C8.sl_txt (SlR.or sl_tup sl_list)) he hl hu) fun σ H Q h => by
    obtain ⟨ρ, st, m, P, PX, rs, rel, hf, fin, finx⟩ := h
    refine ⟨ρ, st, m, _, PX, rs, rel, hf, fun x st1 h1 xv m1 H1 g1 rel1 rv1 => ?_, finx⟩
    refine ⟨ρ, st1, m1, _, PX, rs.grow rel g1, rel1, h1, fun l st2 h2 m2 H2 g2 rel2 => ?_, finx.step g1⟩
    refine ⟨ρ, st2, m2, _, PX, (rs.grow rel g1).grow rel1 g2, rel2, h2, fun u st3 h3 m3 H3 g3 rel3 => ?_, (finx.step g1).step g2⟩
    have rv3 := (rv1.grow rel1 g2).grow rel2 g3
    have f3 := ((fin.step g1).step g2).step g3
    unfold oSl at h3
    split at h3
    · cases rv3
      exact .inl ⟨_, rfl, sz_str h3.1, f3 _ st3 h3.2 _ m3 H3 Grow.refl rel3 (.str _)⟩
    · cases rv3 with
      | tup hq hs =>
        refine .inr (.inl ⟨_, _, rfl, hq, ?_, fun p hp => ?_⟩)
        · rw [hs.length]
          exact h3.1
        · exact f3 _ st3 h3.2 _ m3 _ (Grow.new hp) (rel3.new hp) (.tup (SqT.of upd_same) ((hs.cut _ _).grow rel3 (Grow.new hp)))
    · cases rv3 with
      | lst hq hs => exact .inr (.inr ⟨_, _, rfl, hq.sq, fun p hp => f3 _ st3 h3 _ m3 _ (Grow.new hp) (rel3.new hp) (.lst (.inl ⟨.inl upd_same, rel3.mem_ne hp⟩) ((hs.cut _ _).grow rel3 (Grow.new hp)))⟩)
    · split at h3
      · rename_i hst
        cases rv3 with
        | hd hn =>
          obtain ⟨xs, hq, hs⟩ := rel3.ob _ _ _ hn hst
          exact .inr (.inr ⟨_, _, rfl, SqL.of hq, fun p hp => f3 _ st3 h3 _ m3 _ (Grow.new hp) (rel3.new hp) (.lst (.inl ⟨.inl upd_same, rel3.mem_ne hp⟩) ((hs.cut _ _).grow rel3 (Grow.new hp)))⟩)
      · exact h3.elim
    · exact h3.elim
end

/-! ### f-strings -/
def sFmt (f : Sem) : Sem := fun ρ st P PX => f ρ st (fun x st1 => match x with
  | .str y => y.length ≤ 100000 ∧ P (.str y) st1
  | .int i => i.natAbs.log2 < 1920 ∧ P (.str (toString i)) st1
  | _ => False) PX
def sJs : List Sem → Str → Env → Store → (Str → Store → Prop) → XP → Prop
  | [], acc, _, st, P, _ => P acc st
  | f :: fs, acc, ρ, st, P, PX => f ρ st (fun x st1 => match x with
    | .str y => (acc ++ y).length ≤ 100000 ∧ sJs fs (acc ++ y) ρ st1 P PX
    | _ => False) PX
def sFs (fs : List Sem) : Sem := fun ρ st P PX => sJs fs Str.empty ρ st (fun out st1 => P (.str out) st1) PX
inductive JJ (X : Cx) (T : List (Addr × Str)) (W : WX) : List Expr → List Sem → Prop
  | nil : JJ X T W [] []
  | cons {e : Expr} {f : Sem} {es : List Expr} {fs : List Sem} (h : JE X T W e f) (r : JJ X T W es fs) : JJ X T W (e :: es) (f :: fs)
section
variable {X : Cx} {T : List (Addr × Str)} {W : WX} {pos : Pos} {e v1 v2 : Expr} {rest : List Expr} {f : Sem} {fs : List Sem}
theorem w_fmt (h : JE X T W e f) : JE X T W (.FormattedValue e (-1) none pos) (sFmt f) := PE.imp (pe_fmt h) fun σ H Q h => by
  obtain ⟨ρ, st, m, P, PX, rs, rel, hf, fin, finx⟩ := h
  refine ⟨ρ, st, m, _, PX, rs, rel, hf, fun x st1 h1 xv m1 H1 g1 rel1 rv1 => ?_, finx⟩
  cases rv1 <;> first | exact h1.elim | skip
  · exact .inr ⟨_, rfl, h1.1, fin _ st1 h1.2 _ m1 H1 g1 rel1 (.str _)⟩
  · exact .inl ⟨_, rfl, sz_str h1.1, fin _ st1 h1.2 _ m1 H1 g1 rel1 (.str _)⟩
theorem JJ.pj {es : List Expr} (h : JJ X T W es fs) : PJ X es (fs.map (tE X.K T W)) := by
  induction h with
  | nil => exact .nil
  | cons h r ih => exact .cons h ih
theorem js_of {K : PySem.W.Frag} {σ : L2.St} {ρ : Env} {P : Str → Store → Prop} {PX : XP} {Q : Str → Hp → Prop} : ∀ (fs : List Sem) (acc : Str) (m : List Addr) (H : Hp) (st : Store), RS K m H σ ρ → Rel K T m st H → sJs fs acc ρ st P PX →
    (∀ b st', P b st' → ∀ m' H', Grow m H m' H' → Rel K T m' st' H' → Q b H') → FinX K T m H PX (fun c d H' => W c d σ H') → tJs (fs.map (tE K T W)) acc σ H Q
  | [], acc, m, H, st, rs, rel, hf, fin, finx => fin _ st hf m H Grow.refl rel
  | f :: fs, acc, m, H, st, rs, rel, hf, fin, finx => by
    refine ⟨ρ, st, m, _, PX, rs, rel, hf, fun x st1 h1 xv m1 H1 g1 rel1 rv1 => ?_, finx⟩
    cases rv1 <;> first | exact h1.elim | skip
    exact ⟨_, rfl, sz_str h1.1, js_of fs _ m1 H1 st1 (rs.grow rel g1) rel1 h1.2 (fun b st' hb m' H' g => fin b st' hb m' H' (g1.trans g)) (finx.step g1)⟩
theorem w_fs (h : JJ X T W (v1 :: v2 :: rest) fs) : JE X T W (.JoinedStr (v1 :: v2 :: rest) pos) (sFs fs) := PE.imp (pe_joined h.pj) fun σ H Q h => by
  obtain ⟨ρ, st, m, P, PX, rs, rel, hf, fin, finx⟩ := h
  exact js_of fs _ m H st rs rel hf (fun b st' hb m' H' g rel' => fin _ st' hb _ m' H' g rel' (.str _)) finx
end

/-! ### methods of texts with one argument -/
def sM1 (o : SOp) (f g : Sem) : Sem := fun ρ st P PX => f ρ st (fun x st1 => (∃ a, x = .str a) ∧ g ρ st1 (fun y st2 => o x y st2 P) PX) PX
def strsP : List PV → Option (List Str)
  | [] => some []
  | .str a :: r => (strsP r).map (a :: ·)
  | _ => none
theorem strs_rvs {K : PySem.W.Frag} {m : List Addr} {H : Hp} : ∀ l : List Str, RVs K m H (l.map V.str) (l.map PV.str)
  | [] => .nil
  | x :: r => .cons (.str x) (strs_rvs r)
theorem strs_of {K : PySem.W.Frag} {m : List Addr} {H : Hp} : ∀ {xs : List V} {vs : List PV} {ys : List Str}, RVs K m H xs vs → strsP vs = some ys → xs = ys.map V.str
  | _, _, _, .nil, e => by cases e; rfl
  | _, _, _, .cons (d := v) (ds := ds) r rs, e => by
    cases r with
    | str a =>
      simp only [strsP] at e
      cases q : strsP ds with
      | none => rw [q] at e; cases e
      | some zs => rw [q] at e; cases e; rw [strs_of rs q]; rfl
    | _ => cases e
def oSplit : SOp := fun x y st P => match x, y with
  | .str a, .str b => b.length ≠ 0 ∧ a.length ≤ 100000 ∧ P (.lst ((Txt.split a b).map PV.str)) st
  | _, _ => False
def itemsSeq (st : Store) : PV → Option (List PV)
  | .tup l => some l
  | .lst l => some l
  | .hd n => match st[n]? with
    | some (.lst l) => some l
    | none => none
  | _ => none
def oJoin : SOp := fun x y st P => match x, itemsSeq st y with
  | .str a, some l => match strsP l with
    | some ys => (ys.map (·.length)).sum + ys.length * a.length ≤ 1000000 ∧ P (.str (Txt.join a ys)) st
    | none => False
  | _, _ => False
section
variable {X : Cx} {T : List (Addr × Str)} {W : WX} {apos pos : Pos} {o e : Expr} {fo f : Sem}
theorem w_split (ho : JE X T W o fo) (he : JE X T W e f) (hs : starEach [e] X.env = [(false, eval e X.env)] := by rfl) (hbase : attributeBase o "split" X.env (eval o X.env) = eval o X.env := by rfl) (hline : (apos.endLine == pos.line) = true := by rfl) :
    JE X T W (.Call (.Attribute o "split" apos) [e] [] pos) (sM1 oSplit fo f) := PE.imp (pe_split ho he hs hbase hline) fun σ H Q h => by
  obtain ⟨ρ, st, m, P, PX, rs, rel, hf, fin, finx⟩ := h
  refine ⟨ρ, st, m, _, PX, rs, rel, hf, fun x st1 h1 xv m1 H1 g1 rel1 rv1 => ?_, finx⟩
  obtain ⟨⟨a, rfl⟩, h1⟩ := h1
  cases rv1
  refine ⟨⟨a, rfl⟩, ρ, st1, m1, _, PX, rs.grow rel g1, rel1, h1, fun y st2 h2 yv m2 H2 g2 rel2 rv2 => ?_, finx.step g1⟩
  cases rv2 <;> first | exact h2.elim | skip
  obtain ⟨h3, h4, h5⟩ := h2
  refine ⟨_, _, rfl, rfl, beq_eq_false_iff_ne.mpr h3, Nat.le_trans (Nat.add_le_add_right h4 2) (by decide), fun p hp => ?_⟩
  exact fin _ st2 h5 _ m2 _ ((g1.trans g2).trans (Grow.new hp)) (rel2.new hp) (.lst (.inl ⟨.inl upd_same, rel2.mem_ne hp⟩) (strs_rvs _))
theorem w_join (ho : JE X T W o fo) (he : JE X T W e f) (hs : starEach [e] X.env = [(false, eval e X.env)] := by rfl) (hbase : attributeBase o "join" X.env (eval o X.env) = eval o X.env := by rfl) (hline : (apos.endLine == pos.line) = true := by rfl) :
    JE X T W (.Call (.Attribute o "join" apos) [e] [] pos) (sM1 oJoin fo f) := PE.imp (pe_join ho he hs hbase hline) fun σ H Q h => by
  obtain ⟨ρ, st, m, P, PX, rs, rel, hf, fin, finx⟩ := h
  refine ⟨ρ, st, m, _, PX, rs, rel, hf, fun x st1 h1 xv m1 H1 g1 rel1 rv1 => ?_, finx⟩
  obtain ⟨⟨a, rfl⟩, h1⟩ := h1
  cases rv1
  refine ⟨⟨a, rfl⟩, ρ, st1, m1, _, PX, rs.grow rel g1, rel1, h1, fun y st2 h2 yv m2 H2 g2 rel2 rv2 => ?_, finx.step g1⟩
  dsimp only [oJoin] at h2
  split at h2
  · rename_i b l hx hl
    cases hx
    split at h2
    · rename_i ys hys
      have f2 := (fin.step g1).step g2
      have key : ∃ p, yv = .ref p ∧ (SqL X.K H2 p (ys.map V.str) ∨ SqT X.K H2 p (ys.map V.str)) := by
        cases rv2 with
        | tup hq hs => cases hl; exact ⟨_, rfl, .inr (strs_of hs hys ▸ hq)⟩
        | lst hq hs => cases hl; exact ⟨_, rfl, .inl (strs_of hs hys ▸ hq.sq)⟩
        | hd hn =>
          simp only [itemsSeq] at hl
          split at hl
          · rename_i hst
            cases hl
            obtain ⟨xs, hq, hs⟩ := rel2.ob _ _ _ hn hst
            exact ⟨_, rfl, .inl (strs_of hs hys ▸ SqL.of hq)⟩
          · cases hl
        | _ => cases hl
      obtain ⟨p, rfl, hq⟩ := key
      exact ⟨_, p, ys, rfl, rfl, hq, Nat.le_trans h2.1 (by decide), f2 _ st2 h2.2 _ m2 H2 Grow.refl rel2 (.str _)⟩
    · exact h2.elim
  · exact h2.elim
end

/-! ### int(text), list(text) -/
def oInt2 : SCall := fun vs st P => match vs with
  | [.int i] => P (.int i) st
  | [.bl b] => P (.int (if b then 1 else 0)) st
  | [.str a] => a.length ≤ 640 ∧ match PySem.intText? a with
    | some n => P (.int n) st
    | none => False
  | _ => False
theorem cs_int2 {K : PySem.W.Frag} {T : List (Addr × Str)} : CallS K T (fun xs H Q => ((∃ i, xs = [.int i] ∧ Q (.int i) H) ∨ ∃ k, xs = [.bl k] ∧ Q (.int (if k then 1 else 0)) H) ∨ ∃ a n, xs = [.str a] ∧ PySem.intText? a = some n ∧ a.length ≤ 640 ∧ Q (.int n) H) oInt2 := fun xs vs m H st P Q rel rv h fin => by
  unfold oInt2 at h
  split at h
  · obtain ⟨x, rfl, r⟩ := rv.one
    cases r
    exact .inl (.inl ⟨_, rfl, fin _ st h _ m H Grow.refl rel (.int _)⟩)
  · obtain ⟨x, rfl, r⟩ := rv.one
    cases r
    exact .inl (.inr ⟨_, rfl, fin _ st h _ m H Grow.refl rel (.int _)⟩)
  · obtain ⟨h1, h2⟩ := h
    split at h2
    · rename_i hn
      obtain ⟨x, rfl, r⟩ := rv.one
      cases r
      exact .inr ⟨_, _, rfl, hn, h1, fin _ st h2 _ m H Grow.refl rel (.int _)⟩
    · exact h2.elim
  · exact h.elim
def rListS : List V → Hp → VK → Prop := fun xs H Q => ∃ z : Str, xs = [.str z] ∧ z.length ≤ sizeLine ∧ ∀ p, H p = none → Q (.ref p) (upd H p (.lst (z.cps.toList.map fun c => V.str ⟨#[c]⟩)))
theorem call_list_text {X : Cx} (hc : X.calm = true) : CallR X (.type "list") rListS := by
  intro pins s σ H xs us Q I r h
  obtain ⟨z, rfl, hz, q⟩ := h
  obtain ⟨u, rfl, rx⟩ := vals1 r
  obtain ⟨t, rfl⟩ := rx
  refine call_list_str (I.ok.hd hc) z t (fun h' tk acc c' kp e it => ?_) (by exact hz)
  have hl : acc.toList.length = (z.cps.toList.map fun c => V.str ⟨#[c]⟩).length := by
    rw [List.length_map, Array.length_toList, Array.length_toList, it.1]
  have r' : Vals (z.cps.toList.map fun c => V.str ⟨#[c]⟩) acc.toList := vals_of_idx _ _ hl fun j v hv => by
    obtain ⟨c, u, hcx, rfl⟩ := it.2 j v (by simpa using hv)
    refine ⟨.str ⟨#[c]⟩, ?_, ⟨u, rfl⟩⟩
    rw [List.getElem?_map]
    have : z.cps.toList[j]? = some c := by simpa using hcx
    rw [this]; rfl
  exact ⟨.ref s.heap.objs.size, _, I.laid (t' := tk) kp (Nat.le_refl _) (show ObjOk X.prog X.w _ h' _ (.lst _) from ⟨by rw [List.length_map, Array.length_toList]; exact hz, acc.toList, c', r', by rw [Array.toArray_toList]; exact e⟩), rfl, q _ (I.hok.fresh (Nat.le_refl _))⟩
/-- list(x): a text, a list, a tuple; a list that is no handle -/
def oList : SCall := fun vs st P => match vs with
  | [.str z] => z.length ≤ 100000 ∧ P (.lst (signsOf z)) st
  | [.lst l] => P (.lst l) st
  | [.tup l] => P (.lst l) st
  | [.hd n] => match st[n]? with
    | some (.lst l) => P (.lst l) st
    | none => False
  | _ => False
theorem signs_rvs {K : PySem.W.Frag} {m : List Addr} {H : Hp} : ∀ l : List Nat, RVs K m H (l.map fun c => V.str ⟨#[c]⟩) (l.map fun c => PV.str ⟨#[c]⟩)
  | [] => .nil
  | x :: r => .cons (.str _) (signs_rvs r)
theorem cs_list {K : PySem.W.Frag} {T : List (Addr × Str)} : CallS K T (fun xs H Q => rListS xs H Q ∨ ∃ p ys, xs = [.ref p] ∧ (SqL K H p ys ∨ SqT K H p ys) ∧ ∀ l, H l = none → Q (.ref l) (upd H l (.lst ys))) oList := fun xs vs m H st P Q rel rv h fin => by
  have mk : ∀ (ys : List V) (l : List PV), RVs K m H ys l → P (.lst l) st → ∀ p, H p = none → Q (.ref p) (upd H p (.lst ys)) := fun ys l hs hp p hn =>
    fin _ st hp _ m _ (Grow.new hn) (rel.new hn) (.lst (.inl ⟨.inl upd_same, rel.mem_ne hn⟩) (hs.grow rel (Grow.new hn)))
  unfold oList at h
  split at h
  · obtain ⟨x, rfl, r⟩ := rv.one
    cases r
    exact .inl ⟨_, rfl, sz_str h.1, mk _ _ (signs_rvs _) h.2⟩
  · obtain ⟨x, rfl, r⟩ := rv.one
    cases r with
    | lst hq hs => exact .inr ⟨_, _, rfl, .inl hq.sq, mk _ _ hs h⟩
  · obtain ⟨x, rfl, r⟩ := rv.one
    cases r with
    | tup hq hs => exact .inr ⟨_, _, rfl, .inr hq, mk _ _ hs h⟩
  · split at h
    · rename_i hst
      obtain ⟨x, rfl, r⟩ := rv.one
      cases r with
      | hd hn =>
        obtain ⟨ys, hq, hs⟩ := rel.ob _ _ _ hn hst
        exact .inr ⟨_, _, rfl, .inl (SqL.of hq), mk _ _ hs h⟩
    · exact h.elim
  · exact h.elim
section
variable {X : Cx} {T : List (Addr × Str)} {W : WX} {p pos : Pos} {e : Expr} {es : List Expr} {g : SemA}
theorem c_int2 (hm : X.mg "int" = none) (ha : JA X T W (e :: es) g) (hg : Gl X "int" := by rfl) (he : starEach (e :: es) X.env = (false, eval e X.env) :: starEach es X.env := by rfl) (hpl : (backTo pos (starEach es X.env)).any (·.1) = false := by rfl) :
    JE X T W (.Call (.Name "int" p) (e :: es) [] pos) (sCB oInt2 g) := w_callTy (CallR.or call_int1 call_int_str) cs_int2 hg hm bt_int ha (by decide) (by decide) he hpl
theorem c_list (hc : X.calm = true) (hm : X.mg "list" = none) (ha : JA X T W (e :: es) g) (hg : Gl X "list" := by rfl) (he : starEach (e :: es) X.env = (false, eval e X.env) :: starEach es X.env := by rfl) (hpl : (backTo pos (starEach es X.env)).any (·.1) = false := by rfl) :
    JE X T W (.Call (.Name "list" p) (e :: es) [] pos) (sCB oList g) := w_callTy (CallR.or (call_list_text hc) call_list_of) cs_list hg hm bt_list ha (by decide) (by decide) he hpl
end

/-! ### for i, s in enumerate(text) -/
def Ies (x : Str) : It := ⟨fun i _ => i < x.cps.size, fun i H v H' => ∃ T c, v = .ref T ∧ H T = none ∧ H' = upd H T (.tup [.int (i : Nat), .str ⟨#[c]⟩]) ∧ x.cps[i]? = some c, fun i _ => i = x.cps.size⟩
theorem turn_enumS {P : Program} {w : World} {K : PySem.W.Frag} {elts : List Expr} {kk : Nat} {tpos : Pos} (x : Str) (t : Tok) (e it : Addr) :
    Turn P w K (.Tuple elts kk tpos) (Ies x) [e, it] e (fun i h => (∃ old, IsEnum h e it ((i : Nat) : Int) old) ∧ h.IsStrIter it (strIterType x) x t i ∧ e ≠ it) where
  mem := by simp
  obj := fun i h st b hb => by
    obtain ⟨⟨old, he⟩, ⟨o, ho, hc, hd⟩, _⟩ := st
    have e' : b = e ∨ b = it := by simpa using hb
    rcases e' with z | z
    · rw [z]; exact ⟨_, he, fun v q => nomatch q⟩
    · rw [z]; exact ⟨o, ho, fun v q => by rw [hd] at q; cases q⟩
  keep := fun i h h' st k => let ⟨⟨old, he⟩, ⟨o, ho, r⟩, hne⟩ := st; ⟨⟨old, k e (by simp) _ he⟩, ⟨o, k it (by simp) o ho, r⟩, hne⟩
  item := by
    intro X hP hw hK hc i pins s σ H E I hf st hg
    subst hP hw hK
    obtain ⟨⟨old, he⟩, hit, hne⟩ := st
    have D := Draws.text (prog := X.prog) (w := X.w) (A := X.A.in1) (show X.A.in1.handled = none from I.ok.hd hc) it x t
    have hel : e < s.heap.objs.size := Heap.lt_size he
    have hil : it < s.heap.objs.size := by obtain ⟨_, q, _⟩ := hit; exact Heap.lt_size q
    refine wpAny_pyNext_enum_itemD D he hit hg hne (by simpa using hne) fun u h' tk hu ho hit' hT hsz hk => ?_
    obtain ⟨c, uu, hcx, rfl⟩ := hu
    refine ⟨_, rfl, wpAny_letOwnedTupleGo_enum (s := { s with heap := h', toks := tk + 1 }) ho fun h'' he' sb => ?_⟩
    have hT2 : h''.get? s.heap.objs.size = some { cls := .type "tuple", data := .seq #[.int i tk, .str ⟨#[c]⟩ uu] } := (sb.2 _ (Nat.ne_of_gt hel)).trans hT
    have new : ObjOk X.prog X.w (upd H s.heap.objs.size (.tup [.int (i : Nat), .str ⟨#[c]⟩])) h'' s.heap.objs.size (.tup [.int (i : Nat), .str ⟨#[c]⟩]) :=
      ⟨by show 2 ≤ sizeLine; decide, [.int i tk, .str ⟨#[c]⟩ uu], .cons ⟨_, rfl⟩ (.cons ⟨_, rfl⟩ .nil), ⟨_, hT2, rfl, _, rfl⟩⟩
    have I1 : Inv X pins σ (upd H s.heap.objs.size (.tup [.int (i : Nat), .str ⟨#[c]⟩])) { s with heap := h'', toks := tk + 1 } :=
      I.turnedNew (ch := [e, it]) (fun b ob hb q => (sb.2 b (fun z => hb (by simp [z]))).trans (hk b ob (fun z => hb (by simp [z])) (fun z => hb (by simp [z])) q)) hf (Nat.le_refl _) new
    refine ⟨.ref s.heap.objs.size, _, I1, rfl, ⟨_, c, rfl, I.hok.fresh (Nat.le_refl _), rfl, hcx⟩, ⟨⟨.str ⟨#[c]⟩ uu, ?_⟩, ?_, hne⟩, fun b hb => ?_⟩
    · have e1 : ((i + 1 : Nat) : Int) = (i : Int) + 1 := by omega
      rw [e1]; exact he'
    · obtain ⟨o, q1, q2⟩ := hit'
      exact ⟨o, (sb.2 it (Ne.symm hne)).trans q1, q2⟩
    · have hb' : b < s.heap.objs.size := by
        have e' : b = e ∨ b = it := by simpa using hb
        rcases e' with z | z
        · rw [z]; exact hel
        · rw [z]; exact hil
      rw [upd_ne (Nat.ne_of_lt hb')]
      exact (hf b hb).1
  done := by
    intro X hP hw hK hc i pins s σ H E I hf st hg
    subst hP hw hK
    obtain ⟨⟨old, he⟩, hit, hne⟩ := st
    obtain ⟨f0, f1, f2, f3, f4, f5⟩ := hf it (by simp)
    have D := Draws.text (prog := X.prog) (w := X.w) (A := X.A.in1) (show X.A.in1.handled = none from I.ok.hd hc) it x t
    obtain rfl : i = x.cps.size := hg
    exact wpAny_pyNext_enum_endD D he hit fun h' eb => ⟨rfl, I.turned (t' := s.toks) (fun b o hb q => eb b o hb q) f0 f1 f3 f4 f5⟩
  self := fun A i s Q E st h => let ⟨⟨_, he⟩, _⟩ := st; wpAny_pyIter_enum he h
def iEnumS (ta : TA) : TI := fun σ H R => ta σ H fun vs H1 => ∃ x, vs = [.str x] ∧ R (Ies x) H1
theorem pi_enumS {X : Cx} {e : Expr} {ta : TA} {p pos tpos : Pos} {elts : List Expr} {kk : Nat} (hg : Gl X "enumerate") (hm : X.mg "enumerate" = none) (ha : PA X [e] ta) (hs : starEach [e] X.env = [(false, eval e X.env)] := by rfl) :
    PI X (.Tuple elts kk tpos) (.Call (.Name "enumerate" p) [e] [] pos) (iEnumS ta) := by
  refine ⟨fun pins s σ H R I h => ?_⟩
  refine Call_ (ld_blt I hg hm boot_enumerate (PyProof.Rows.callWith_type1 (thn (ha.run pos pins s σ H _ I h) fun us s1 ⟨vs, H1, I1, r1, q1⟩ => ?_) hs rfl))
  obtain ⟨x, ex, q⟩ := q1
  subst ex
  cases r1 with
  | cons r rr =>
    cases rr
    obtain ⟨t, rfl⟩ := r
    refine call_enumerate_str fun h' he hit hsz hk => wpAny_pyIter_enum he ?_
    have I2 : Inv X pins σ H1 { s1 with heap := h' } := I1.kept (t' := s1.toks) hk
    refine ⟨s1.heap.objs.size + 1, [s1.heap.objs.size + 1, s1.heap.objs.size], _, _, H1, rfl, I2, turn_enumS x t (s1.heap.objs.size + 1) s1.heap.objs.size, ⟨⟨.none, he⟩, hit, Nat.succ_ne_self _⟩, fun b hb => ?_, q⟩
    have e' : b = s1.heap.objs.size + 1 ∨ b = s1.heap.objs.size := by simpa using hb
    have hle : s1.heap.objs.size ≤ b := by
      rcases e' with z | z
      · rw [z]; exact Nat.le_add_right _ _
      · rw [z]; exact Nat.le_refl _
    exact I1.fpOk hle (I1.hok.fresh hle)
def enumS (i : Nat) : List Nat → List PV
  | [] => []
  | c :: r => .tup [.int (i : Nat), .str ⟨#[c]⟩] :: enumS (i + 1) r
theorem enumS_drop : ∀ (l : List Nat) (i k : Nat) (h : k < l.length), (enumS i l).drop k = .tup [.int ((i + k : Nat) : Nat), .str ⟨#[l[k]]⟩] :: (enumS i l).drop (k + 1)
  | [], _, _, h => absurd h (Nat.not_lt_zero _)
  | c :: r, i, 0, h => rfl
  | c :: r, i, k + 1, h => by
    have e := enumS_drop r (i + 1) k (by simpa using h)
    show (enumS (i + 1) r).drop k = _ :: (enumS (i + 1) r).drop (k + 1)
    rw [e, show i + 1 + k = i + (k + 1) by omega]
    rfl
theorem enumS_len : ∀ (l : List Nat) (i : Nat), (enumS i l).length = l.length
  | [], _ => rfl
  | c :: r, i => by simp [enumS, enumS_len r (i + 1)]
def sForES (f : Sem) (g : SemG) (t : SemS) : SemS := fun D ρ st => f ρ st (fun v st1 => match v with
  | .str x => loopL g t D (enumS 0 x.cps.toList) ρ st1
  | _ => False) (fun e st1 => D.ex e ρ st1)
theorem s_forES {X : Cx} {T : List (Addr × Str)} {W : WX} {elts : List Expr} {kk : Nat} {tpos p pos' pos : Pos} {e : Expr} {f : Sem} {g : SemG} {t : SemS} {body : List Stmt} (hp : PassesOwn (model X.prog X.w) X.A X.env X.xe) (hc : X.calm = true) (hgl : Gl X "enumerate") (hm : X.mg "enumerate" = none) (he : JE X T W e f) (hg : JG X T (.Tuple elts kk tpos) g) (hb : JSs X T W body t)
    (h1 : starEach [e] X.env = (false, eval e X.env) :: starEach [] X.env := by rfl) (h2 : starEach [e] X.env = [(false, eval e X.env)] := by rfl) (hs : ∀ x, foldedSetIterable (.Call (.Name "enumerate" p) [e] [] pos') X.env x = pure x := by intro _; rfl) :
    JS X T W (.For (.Tuple elts kk tpos) (.Call (.Name "enumerate" p) [e] [] pos') body [] pos) (sForES f g t) := PS.imp (ps_for hp hc (pi_enumS hgl hm (pa_cons he pa_nil h1) h2) hg hb hs) fun D σ H h => by
  obtain ⟨ρ, st, m, D', rs, rel, hf, fin⟩ := h
  refine ⟨ρ, st, m, _, _, rs, rel, hf, fun v st1 hv x m1 H1 g1 rel1 rv1 => ?_, fin.finx rel rs⟩
  dsimp only at hv
  split at hv
  · rename_i z
    cases rv1
    refine ⟨z, rfl, ?_⟩
    refine ⟨fun i mm σ2 H2 => mm = z.cps.size - i ∧ i ≤ z.cps.size ∧ ∃ ρ2 st2 m2, RS X.K m2 H2 σ2 ρ2 ∧ Rel X.K T m2 st2 H2 ∧ loopL g t D' ((enumS 0 z.cps.toList).drop i) ρ2 st2 ∧ Grow m1 H1 m2 H2, ⟨_, rfl, Nat.zero_le _, ρ, st1, m1, rs.grow rel g1, rel1, hv, Grow.refl⟩, ?_⟩
    rintro i mm σ2 H2 ⟨rfl, hi, ρ2, st2, m2, rs2, rel2, hl, g2⟩
    by_cases hlt : i < z.cps.size
    · refine .inr ⟨hlt, fun σ' H' => ∃ ρ2 st2 m2, RS X.K m2 H' σ' ρ2 ∧ Rel X.K T m2 st2 H' ∧ loopL g t D' ((enumS 0 z.cps.toList).drop (i + 1)) ρ2 st2 ∧ Grow m1 H1 m2 H', fun σ' H' h' => ⟨_, by omega, rfl, hlt, h'⟩, fun y H' hy => ?_⟩
      obtain ⟨Ta, c, rfl, hn, rfl, hcx⟩ := hy
      have hl2 : i < z.cps.toList.length := by simpa using hlt
      rw [enumS_drop _ 0 i hl2] at hl
      have ec : z.cps.toList[i] = c := by
        rw [Array.getElem?_eq_getElem hlt] at hcx
        rw [Array.getElem_toList]
        exact Option.some.inj hcx
      rw [ec, Nat.zero_add] at hl
      have gn : Grow m2 H2 m2 (upd H2 Ta (.tup [.int (i : Nat), .str ⟨#[c]⟩])) := Grow.new hn
      have f2 := fin.step ((g1.trans g2).trans gn)
      refine ⟨_, ρ2, st2, m2, _, .tup (SqT.of upd_same) (.cons (.int _) (.cons (.str _) .nil)), rs2.grow rel2 gn, rel2.new hn, hl, fun ρ3 st3 h3 σ3 m3 H3 g3 rel3 rs3 => ?_⟩
      have again : FinE X.K T m3 H3 (loopL g t D' ((enumS 0 z.cps.toList).drop (i + 1))) (fun σ' H' => ∃ ρ2 st2 m2, RS X.K m2 H' σ' ρ2 ∧ Rel X.K T m2 st2 H' ∧ loopL g t D' ((enumS 0 z.cps.toList).drop (i + 1)) ρ2 st2 ∧ Grow m1 H1 m2 H') := fun ρ4 st4 h4 σ4 m4 H4 g4 rel4 rs4 =>
        ⟨ρ4, st4, m4, rs4, rel4, h4, ((g2.trans gn).trans g3).trans g4⟩
      exact ⟨ρ3, st3, m3, _, rs3, rel3, h3, ⟨again, (f2.step g3).rt, (f2.step g3).nx, again, (f2.step g3).ex⟩⟩
    · refine .inl ⟨by show i = z.cps.size; omega, ?_⟩
      rw [List.drop_eq_nil_of_le (by rw [enumS_len, Array.length_toList]; omega)] at hl
      exact fin.nx ρ2 st2 hl σ2 m2 H2 (g1.trans g2) rel2 rs2
  · exact hv.elim
end Sm
set_option Elab.async false
set_option linter.all false
set_option maxRecDepth 100000
set_option maxHeartbeats 1000000
namespace Sm
open PySem PySem.Spec PyProof.Rows L2
/-! ### == of texts, without a look at their signs -/
def oEq2 : SOp := fun x y st P => match x, y with
  | .str a, .str b => P (.bl (decide (a = b))) st
  | x, y => oEq x y st P
def oNe2 : SOp := fun x y st P => match x, y with
  | .str a, .str b => P (.bl (!decide (a = b))) st
  | x, y => oNe x y st P
theorem dec_s (a b : Str) : decide (V.str a = V.str b) = decide (a = b) := decide_eq_decide.mpr ⟨fun h => by cases h; rfl, fun h => by rw [h]⟩
section
variable {K : PySem.W.Frag} {T : List (Addr × Str)}
theorem os_eq2 : OpS K T (fun x y H Q => rEq x y H Q ∨ rEqD K x y H Q) oEq2 := fun x y v w m H st P Q rel rx ry h fin => by
  unfold oEq2 at h
  split at h
  · cases rx
    cases ry
    refine .inl ⟨rfl, ?_⟩
    rw [dec_s]
    exact fin _ st h _ m H Grow.refl rel (.bl _)
  · exact .inr (os_eq x y v w m H st P Q rel rx ry h fin)
theorem os_ne2 : OpS K T (fun x y H Q => rNe x y H Q ∨ rNeD K x y H Q) oNe2 := fun x y v w m H st P Q rel rx ry h fin => by
  unfold oNe2 at h
  split at h
  · cases rx
    cases ry
    refine .inl ⟨rfl, ?_⟩
    rw [dec_s]
    exact fin _ st h _ m H Grow.refl rel (.bl _)
  · exact .inr (os_ne x y v w m H st P Q rel rx ry h fin)
/-- a text in a list or tuple of texts -/
def oInT (neg : Bool) : SOp := fun x y st P => match x, itemsSeq st y with
  | .str a, some l => match strsP l with
    | some ys => P (.bl (if neg then !decide (a ∈ ys) else decide (a ∈ ys))) st
    | none => False
  | _, _ => False
theorem seq_of {m : List Addr} {H : Hp} {st : Store} {y : V} {w : PV} {l : List PV} (rel : Rel K T m st H) (ry : RV K m H y w) (h : itemsSeq st w = some l) : ∃ p xs, y = .ref p ∧ (SqL K H p xs ∨ SqT K H p xs) ∧ RVs K m H xs l := by
  cases ry with
  | tup hq hs => cases h; exact ⟨_, _, rfl, .inr hq, hs⟩
  | lst hq hs => cases h; exact ⟨_, _, rfl, .inl hq.sq, hs⟩
  | hd hn =>
    simp only [itemsSeq] at h
    split at h
    · rename_i hst
      cases h
      obtain ⟨xs, hq, hs⟩ := rel.ob _ _ _ hn hst
      exact ⟨_, _, rfl, .inl (SqL.of hq), hs⟩
    · cases h
  | _ => cases h
theorem inV_strs (a : Str) : ∀ ys : List Str, inV (.str a) (ys.map V.str) = decide (a ∈ ys)
  | [] => rfl
  | y :: ys => by
    have h := inV_strs a ys
    unfold inV at h ⊢
    rw [List.map_cons, List.any_cons, h]
    show (eqV (.str y) (.str a) || decide (a ∈ ys)) = _
    have e : eqV (.str y) (.str a) = decide (a = y) := by
      show (y == a) = _
      rw [Bool.eq_iff_iff]
      simp only [beq_iff_eq, decide_eq_true_eq]
      exact ⟨fun h => h.symm, fun h => h.symm⟩
    rw [e, ← Bool.decide_or]
    exact decide_eq_decide.mpr (by simp)
theorem flat_strs : ∀ ys : List Str, (ys.map V.str).all flatV = true
  | [] => rfl
  | y :: ys => by simp [flatV]
theorem os_inT {neg : Bool} : OpS K T (rIn K neg) (oInT neg) := fun x y v w m H st P Q rel rx ry h fin => by
  unfold oInT at h
  split at h
  · rename_i a l hl
    split at h
    · rename_i ys hys
      cases rx
      obtain ⟨p, xs, rfl, hq, hs⟩ := seq_of rel ry hl
      cases strs_of hs hys
      refine ⟨p, _, rfl, hq, rfl, flat_strs ys, ?_⟩
      rw [inV_strs]
      exact fin _ st h _ m H Grow.refl rel (.bl _)
    · exact h.elim
  · exact h.elim
end
section
variable {X : Cx} {T : List (Addr × Str)} {W : WX} {pos : Pos} {a b : Expr} {f g : Sem}
theorem w_eq2 (hu : X.A.units + 64 < cLine) (ha : JE X T W a f) (hb : JE X T W b g) : JE X T W (.Compare a [.Eq] [b] pos) (sOp oEq2 f g) := w_cmp (OpR.or op_eq (op_eqD hu)) os_eq2 ha hb (nomark _)
theorem w_ne2 (hu : X.A.units + 64 < cLine) (ha : JE X T W a f) (hb : JE X T W b g) : JE X T W (.Compare a [.NotEq] [b] pos) (sOp oNe2 f g) := w_cmp (OpR.or op_ne (op_neD hu)) os_ne2 ha hb (nomark _)
theorem w_inT (ha : JE X T W a f) (hb : JE X T W b g) (hm : behindInMarks .In b = false := by rfl) : JE X T W (.Compare a [.In] [b] pos) (sOp (oInT false) f g) := w_cmp op_in_seq os_inT ha hb hm
theorem w_niT (ha : JE X T W a f) (hb : JE X T W b g) (hm : behindInMarks .NotIn b = false := by rfl) : JE X T W (.Compare a [.NotIn] [b] pos) (sOp (oInT true) f g) := w_cmp op_notIn_seq os_inT ha hb hm
end
end Sm
set_option Elab.async false
set_option linter.all false
set_option maxRecDepth 100000
set_option maxHeartbeats 1000000
/-! texts as lists of signs -/
namespace Tm
open PySem PySem.Spec PyProof.Rows L2 Sm Wm
abbrev tx (l : List Nat) : PV := .str (SX.S l)
theorem S_inj {a b : List Nat} (h : SX.S a = SX.S b) : a = b := by
  have := congrArg (fun x : Str => x.cps.toList) h
  simpa [SX.S] using this
theorem S_iff (a b : List Nat) : (SX.S a = SX.S b) = (a = b) := propext ⟨S_inj, fun h => by rw [h]⟩
theorem S_tl (x : Str) : SX.S x.cps.toList = x := TL.ext_tl (by simp [SX.S])
theorem tl_S (a : List Nat) : (SX.S a).cps.toList = a := by simp [SX.S]
theorem sz (a : List Nat) : (SX.S a).cps.size = a.length := by simp [SX.S]
theorem eq_x (a b : List Nat) (st : Store) (P : Sm.PK) : oEq2 (tx a) (tx b) st P = P (.bl (decide (a = b))) st := by
  show P (.bl (decide (SX.S a = SX.S b))) st = _
  rw [show decide (SX.S a = SX.S b) = decide (a = b) from decide_eq_decide.mpr (by rw [S_iff])]
theorem ne_x (a b : List Nat) (st : Store) (P : Sm.PK) : oNe2 (tx a) (tx b) st P = P (.bl (!decide (a = b))) st := by
  show P (.bl (!decide (SX.S a = SX.S b))) st = _
  rw [show decide (SX.S a = SX.S b) = decide (a = b) from decide_eq_decide.mpr (by rw [S_iff])]
theorem eq2_ii (i j : Int) (st : Store) (P : Sm.PK) : oEq2 (.int i) (.int j) st P = P (.bl (decide (i = j))) st := oEq_ii i j st P
theorem ne2_ii (i j : Int) (st : Store) (P : Sm.PK) : oNe2 (.int i) (.int j) st P = P (.bl (!decide (i = j))) st := oNe_ii i j st P
theorem eq2_enc (x y : Wo) (st : Store) (P : Sm.PK) : oEq2 (enc x) (enc y) st P = P (.bl (decide (x = y))) st := by
  rw [show oEq2 (enc x) (enc y) st P = oEq (enc x) (enc y) st P by cases x <;> rfl]
  exact oEq_enc x y st P
theorem ne2_enc (x y : Wo) (st : Store) (P : Sm.PK) : oNe2 (enc x) (enc y) st P = P (.bl (!decide (x = y))) st := by
  rw [show oNe2 (enc x) (enc y) st P = oNe (enc x) (enc y) st P by cases x <;> rfl]
  exact oNe_enc x y st P
theorem len_x (a : List Nat) (st : Store) (P : Sm.PK) : oLen [tx a] st P = (a.length ≤ 100000 ∧ P (.int a.length) st) := by
  unfold oLen
  simp only [SX.S_len]
theorem atI_n {α : Type} (a : List α) (i : Nat) : atI a ((i : Nat) : Int) = a[i]? := by
  unfold atI ixN
  rw [if_pos (by omega)]
  by_cases h : i < a.length
  · rw [if_pos (by omega)]; simp
  · rw [if_neg (by omega)]; simp; omega
theorem ix_x (a : List Nat) (i : Nat) (st : Store) (P : Sm.PK) : oIx (tx a) (.int (i : Nat)) st P = (a.length ≤ 100000 ∧ match a[i]? with
    | some c => P (tx [c]) st
    | none => False) := by
  unfold oIx
  simp only [SX.S_len, tl_S]
  have e : atI a ((i : Nat) : Int) = a[i]? := by
    unfold atI ixN
    rw [if_pos (by omega)]
    by_cases h : i < a.length
    · rw [if_pos (by omega)]; simp
    · rw [if_neg (by omega)]; simp; omega
  rw [e]
  try rfl
theorem ix_x0 (a : List Nat) (st : Store) (P : Sm.PK) : oIx (tx a) (.int 0) st P = (a.length ≤ 100000 ∧ match a[0]? with
    | some c => P (tx [c]) st
    | none => False) := ix_x a 0 st P
theorem in_x (c : Nat) (z : List Nat) (st : Store) (P : Sm.PK) (q : P (.bl (decide (c ∈ z))) st) : oInS false (tx [c]) (tx z) st P := ⟨c, rfl, by rw [tl_S]; exact q⟩
theorem ni_x (c : Nat) (z : List Nat) (st : Store) (P : Sm.PK) (q : P (.bl (!decide (c ∈ z))) st) : oInS true (tx [c]) (tx z) st P := ⟨c, rfl, by rw [tl_S]; exact q⟩
theorem sl_to (a : List Nat) (i : Nat) : Txt.slice (SX.S a) none (some ((i : Nat) : Int)) = SX.S (a.take i) := by
  rw [SX.slice_to (by omega)]; simp
theorem sl_from (a : List Nat) (i : Nat) : Txt.slice (SX.S a) (some ((i : Nat) : Int)) none = SX.S (a.drop i) := by
  rw [SX.slice_from (by omega)]; simp
theorem sl_mid (a : List Nat) (i j : Nat) (hi : i ≤ a.length) (hj : i ≤ j) : Txt.slice (SX.S a) (some ((i : Nat) : Int)) (some ((j : Nat) : Int)) = SX.S ((a.drop i).take (j - i)) := by
  have hl : ((SX.S a).length : Int) = (a.length : Int) := by rw [SX.S_len]
  by_cases h : j ≤ a.length
  · have e := beq_iff_eq.mp (PyProof.Rows.slice_closesL (x := SX.S a) (i := (i : Int)) (j := (j : Int)) (by omega) (by omega) (by omega))
    refine e.trans (TL.ext_tl ?_)
    show (a.drop ((i : Nat) : Int).toNat).take ((j : Int) - (i : Int)).toNat = (a.drop i).take (j - i)
    rw [Int.toNat_natCast, show ((j : Int) - (i : Int)).toNat = j - i by omega]
  · have e2 : Txt.slice (SX.S a) (some (i : Int)) (some (j : Int)) = Txt.slice (SX.S a) (some (i : Int)) (some (a.length : Int)) := by
      unfold Txt.slice
      rw [SX.S_len, SX.idx_hi (by omega)]
    have e := beq_iff_eq.mp (PyProof.Rows.slice_closesL (x := SX.S a) (i := (i : Int)) (j := (a.length : Int)) (by omega) (by omega) (by omega))
    refine (e2.trans e).trans (TL.ext_tl ?_)
    show (a.drop ((i : Nat) : Int).toNat).take ((a.length : Int) - (i : Int)).toNat = (a.drop i).take (j - i)
    rw [Int.toNat_natCast, show ((a.length : Int) - (i : Int)).toNat = a.length - i by omega, List.take_of_length_le (by rw [List.length_drop]; omega), List.take_of_length_le (by rw [List.length_drop]; omega)]
theorem S_add (a b : List Nat) : SX.S a ++ SX.S b = SX.S (a ++ b) := TL.ext_tl (by rw [TL.tl_append])
theorem add_x (a b : List Nat) (st : Store) (P : Sm.PK) (h : a.length + b.length ≤ 100000) (q : P (tx (a ++ b)) st) : oAdd (tx a) (tx b) st P := by
  refine ⟨?_, ?_⟩
  · rw [SX.S_len, SX.S_len]
    exact sz_str h
  · show P (.str (SX.S a ++ SX.S b)) st
    rw [S_add]
    exact q
theorem int_x {a : List Nat} {i : Int} (st : Store) (P : Sm.PK) (h : a.length ≤ 640) (e : PySem.intText? (SX.S a) = some i) (q : P (.int i) st) : oInt2 [tx a] st P := by
  unfold oInt2
  simp only [e, SX.S_len]
  exact ⟨h, q⟩
theorem split_x (a : List Nat) (c : Nat) (hc : c < 256) : Txt.split (SX.S a) (SX.S [c]) = (TL.spl [c] 0 [] a).map SX.S := by
  have h := TL.split_spl (SX.S a) (SX.S [c]) (by simp [SX.S]) (TL.kind_ok (by simp [SX.S, hc]))
  rw [show TL.tl (SX.S [c]) = [c] from tl_S _, show TL.tl (SX.S a) = a from tl_S _] at h
  rw [← h, List.map_map]
  conv => lhs; rw [← List.map_id (Txt.split (SX.S a) (SX.S [c]))]
  refine List.map_congr_left fun x _ => ?_
  exact (S_tl x).symm
theorem spl_x (a : List Nat) (c : Nat) (hc : c < 256) (st : Store) (P : Sm.PK) (h : a.length ≤ 100000) (q : P (.lst ((TL.spl [c] 0 [] a).map tx)) st) : oSplit (tx a) (tx [c]) st P := by
  refine ⟨by simp [SX.S_len], by rw [SX.S_len]; exact h, ?_⟩
  rw [split_x a c hc, List.map_map]
  exact q
/-- the text of a whole number -/
def num (i : Int) : List Nat := (Str.ofString (toString i)).cps.toList
theorem str_x (i : Int) (st : Store) (P : Sm.PK) (h : i.natAbs.log2 < 1920) (q : P (tx (num i)) st) : oStr [.int i] st P := by
  refine ⟨h, ?_⟩
  rw [show (tx (num i)) = PV.str (Str.ofString (toString i)) by unfold num; rw [tx, S_tl]] at q
  exact q
theorem num_nat (n : Nat) : num (n : Int) = TL.numL n := TL.tl_num n
theorem num_neg (n : Nat) (h : 0 < n) : num (-(n : Int)) = 45 :: TL.numL n := by
  obtain ⟨m, rfl⟩ : ∃ m, n = m + 1 := ⟨n - 1, by omega⟩
  have e : (-((m + 1 : Nat) : Int)) = Int.negSucc m := rfl
  rw [e, ← num_nat]
  unfold num
  rw [signs_ofString, signs_ofString]
  show (String.toList ("-" ++ Nat.repr (m + 1))).map Char.toNat = 45 :: (String.toList (Nat.repr (m + 1))).map Char.toNat
  simp
/-! ### texts that stand in the program -/
theorem l_minus : (Str.ofString "-" : Str) = SX.S [45] := by decide +kernel
theorem l_slash : (Str.ofString "/" : Str) = SX.S [47] := by decide +kernel
theorem l_zero : (Str.ofString "0" : Str) = SX.S [48] := by decide +kernel
theorem l_n : (Str.ofString "n" : Str) = SX.S [110] := by decide +kernel
theorem l_nothing : (Str.ofString "nothing" : Str) = SX.S Kt.nothing := by decide +kernel
theorem l_empty : (Str.ofString "" : Str) = SX.S [] := by decide +kernel
theorem l_digits : (Str.ofString "0123456789" : Str) = SX.S [48, 49, 50, 51, 52, 53, 54, 55, 56, 57] := by decide +kernel
theorem mem10 (c : Nat) : decide (c ∈ [48, 49, 50, 51, 52, 53, 54, 55, 56, 57]) = Kt.dig c := by
  unfold Kt.dig
  rw [← Bool.decide_and]
  refine decide_eq_decide.mpr ?_
  simp only [List.mem_cons, List.not_mem_nil, or_false]
  omega
theorem mem9 (c : Nat) : decide (c ∈ [49, 50, 51, 52, 53, 54, 55, 56, 57]) = (Kt.dig c && decide (c ≠ 48)) := by
  unfold Kt.dig
  rw [← Bool.decide_and, ← Bool.decide_and]
  refine decide_eq_decide.mpr ?_
  simp only [List.mem_cons, List.not_mem_nil, or_false]
  omega
end Tm
set_option Elab.async false
set_option linter.all false
set_option maxRecDepth 100000
set_option maxHeartbeats 1000000
namespace K1
open PySem PySem.Spec PyProof.Rows L2 Sm Wm Cm Kt Tm
theorem exi_mg {K : PySem.W.Frag} {mg : Str → Option Value} {x : Str} {f : String} (h : ExI K mg x f) : mg x = some (.ref (ad mg x)) := by
  obtain ⟨_, _, _, _, _, _, _, _, h⟩ := h
  exact h
def D10 : List Nat := [48, 49, 50, 51, 52, 53, 54, 55, 56, 57]
def D9 : List Nat := [49, 50, 51, 52, 53, 54, 55, 56, 57]
def exP (mg : Str → Option Value) (v : PV) : Exn := ⟨ad mg "ParseError", ("spot" : String), v⟩
def wt (a b : Int) : List Nat := if b = 1 then num a else num a ++ 47 :: num b
def S_worth_text (mg : Str → Option Value) : SpecF := fun pvs st Q PX => ∃ v, pvs = [v] ∧ fineB v = true ∧ (Sm.isNon v = true → Q (tx nothing) st) ∧ (Sm.isNon v = false → knownB v = false → PX (exW mg v) st) ∧
  (∀ a b : Int, v = enc (some (a, b)) → knownB v = true → B 1900 a ∧ B 1900 b ∧ Q (tx (wt a b)) st)
def S__read_digits (mg : Str → Option Value) : SpecF := fun pvs st Q PX => ∃ (l : List Nat) (b : Nat) (z : Bool), pvs = [tx l, .int b, tx (if z then D10 else D9)] ∧ b ≤ l.length ∧ l.length ≤ 1000 ∧
  (∀ i, rdD z b (l.drop b) = .inl i → PX (exP mg (.int (i : Nat))) st) ∧ (∀ e, rdD z b (l.drop b) = .inr e → Q (.int (e : Nat)) st)
def S__read_nothing (mg : Str → Option Value) : SpecF := fun pvs st Q PX => ∃ l : List Nat, pvs = [tx l] ∧ l.length ≤ 1000 ∧ (∀ i, rnL 0 nothing l = .inl i → PX (exP mg (.int (i : Nat))) st) ∧ (rnL 0 nothing l = .inr () → Q .non st)
def S_worth_from (mg : Str → Option Value) : SpecF := fun pvs st Q PX => ∃ (l : List Nat) (b : Nat), pvs = [tx l, .int b] ∧ b ≤ l.length ∧ l.length ≤ 1000 ∧
  (∀ i, wf b l = .inl i → PX (exP mg (.int (i : Nat))) st) ∧ (∀ A C e, wf b l = .inr (A, C, e) → Q (.tup [enc (some (vOf A C)), .int (e : Nat)]) st)
def isStr : PV → Bool
  | .str _ => true
  | _ => false
def S_read_worth (mg : Str → Option Value) : SpecF := fun pvs st Q PX => ∃ v, pvs = [v] ∧ (tyName v).isSome = true ∧ (isStr v = false → PX (exP mg .non) st) ∧
  (∀ s, v = .str s → ∃ l : List Nat, v = tx l ∧ l.length ≤ 1000 ∧ (∀ i, res l = .inl i → PX (exP mg (.int (i : Nat))) st) ∧ (∀ x, res l = .inr x → Q (enc x) st))
/-! ### the law's own -/
def vRes : Nat ⊕ Wo → PV
  | .inl i => .int (i : Nat)
  | .inr x => .lst [enc x]
def S__law_lowest (mg : Str → Option Value) : SpecF := fun pvs st Q PX => ∃ a b : Int, pvs = [.int a, .int b] ∧ 0 < b ∧ B 13500 a ∧ B 13500 b ∧ Q (enc (some (low a b))) st
def S__law_integer (mg : Str → Option Value) : SpecF := fun pvs st Q PX => ∃ n k : Nat, pvs = [.hd n] ∧ DiceAt n (k + 4) st ∧ ∀ (r : Int) (st' : Store), 0 ≤ r → r < 10 ^ 60 → DiceAt n k st' → Aft n st st' → Q (.int r) st'
def S__law_written (mg : Str → Option Value) : SpecF := fun pvs st Q PX => ∃ a b : Int, pvs = [enc (some (a, b))] ∧ B 1900 a ∧ B 1900 b ∧ Q (tx (wt a b)) st
def okc (l : List Nat) : Prop := ∀ c ∈ l, c < 1114112
def S__law_is_row (mg : Str → Option Value) : SpecF := fun pvs st Q PX => ∃ l : List Nat, pvs = [tx l] ∧ l.length ≤ 1000 ∧ okc l ∧ ∀ st', Ext st st' → Q (.bl (isRow l)) st'
def S__law_can_begin (mg : Str → Option Value) : SpecF := fun pvs st Q PX => ∃ l : List Nat, pvs = [tx l] ∧ l.length ≤ 1000 ∧ okc l ∧ ∀ st', Ext st st' → Q (.bl (canB l)) st'
def S__law_due (mg : Str → Option Value) : SpecF := fun pvs st Q PX => ∃ l : List Nat, pvs = [tx l] ∧ l.length ≤ 600 ∧ okc l ∧ ∀ st', Ext st st' → Q (vRes (res l)) st'
def S__law_told (mg : Str → Option Value) : SpecF := fun pvs st Q PX => ∃ v, pvs = [v] ∧ (tyName v).isSome = true ∧ (isStr v = false → Q .non st) ∧ (∀ s, v = .str s → ∃ l : List Nat, v = tx l ∧ l.length ≤ 1000 ∧ Q (vRes (res l)) st)
def S__law_spoilt (mg : Str → Option Value) : SpecF := fun pvs st Q PX => ∃ (n k : Nat) (l : List Nat), pvs = [.hd n, tx l] ∧ l.length ≤ 400 ∧ okc l ∧ DiceAt n (k + 3) st ∧ ∀ (l' : List Nat) (st' : Store), l'.length ≤ l.length + 1 → okc l' → DiceAt n k st' → Aft n st st' → Q (tx l') st'
def S__law_text (mg : Str → Option Value) : SpecF := fun pvs st Q PX => ∃ n k : Nat, pvs = [.hd n] ∧ DiceAt n (k + 12) st ∧ ∀ (l' : List Nat) (st' : Store), l'.length ≤ 300 → okc l' → DiceAt n k st' → Aft n st st' → Q (tx l') st'
def S__law_right (mg : Str → Option Value) : SpecF := fun pvs st Q PX => ∃ n : Nat, pvs = [.hd n] ∧ DiceAt n 100000 st ∧ ∀ st', Q (.bl true) st'
def S_law (mg : Str → Option Value) : SpecF := fun pvs st Q PX => ∃ l : List Int, pvs = [.lst (l.map .int)] ∧ (∀ x ∈ l, Builtin.Int.intBits x ≤ 1048576) ∧ l.length ≤ 1000 ∧ ∀ st', Q (.bl true) st'
end K1
set_option Elab.async false
set_option linter.all false
set_option maxRecDepth 100000
set_option maxHeartbeats 2000000
namespace K1
open PySem PySem.Spec PyProof.Rows L2 Sm Cm
abbrev frees : List Str := ["type", "int", "len", "abs", "range", "str", "max", "min", "list", "enumerate", "tuple"]
def top (i : Nat) : Stmt := PySem.Challenge.pw_sumstead_k01_whole_texts_of_worths.main.body.getD i (.Pass ⟨0, 0, 0, 0⟩)
abbrev df (i : Nat) : List Stmt × Arguments × Scope := (defBody (top i), defArgs (top i), defScope (top i))
section
variable {P : Program} {w : World} {K : PySem.W.Frag} {T : List (Addr × Str)} {mg : Str → Option Value} {base : Heap}

/-! ### ten_to -/
theorem g_ten_to (fr : Fr mg frees) (F : Fc K mg "ten_to" (df 3) [])  (hlen : ∀ pvs st Q PX, S_ten_to mg pvs st Q PX → pvs.length = 1) (hp : ∀ pvs st Q PX, S_ten_to mg pvs st Q PX → t_ten_to K mg (endOf Q PX) (ini N_ten_to pvs) st) :
    Gd P w K T mg base false 1 "ten_to" ["many"] [] (S_ten_to mg) :=
  g_def (gd := false) (k := 0) (N := N_ten_to) F ⟨rfl, rfl, rfl, nd_ten_to, rfl, by decide +kernel, by decide +kernel⟩ (fun _ _ _ _ _ _ us hl => match us, hl with | [_], _ => rfl) hlen fun f cdv A outer sh H E hr hgd =>
    ⟨t_ten_to K mg, by unfold t_ten_to; exact (z_cons (s_asg nd_ten_to rfl (.inl rfl) w_int) (z_cons (s_asg nd_ten_to rfl (.inl rfl) w_int) (z_cons (s_asg nd_ten_to rfl (.inl rfl) (w_var 0)) (z_cons (s_while (passes_of rfl) (t_cmp op_gt os_B0 (w_var 3) w_int (nomark _)) (z_cons (s_if (t_cmp (op_eqD (hu_of4 hr)) os_eq (w_and (w_var 3) w_int) w_int (nomark _)) (z_one (s_asg nd_ten_to rfl (.inl rfl) (w_mul (w_var 1) (w_var 2)))) z_nil) (z_cons (s_asg nd_ten_to rfl (.inl rfl) (w_mul (w_var 2) (w_var 2))) (z_one (s_asg nd_ten_to rfl (.inl rfl) (w_shr (w_var 3) w_int)))))) (z_one (s_ret (w_var 1))))))), hp⟩
/-! ### has_more_digits -/
theorem g_has_more_digits (fr : Fr mg frees) (F : Fc K mg "has_more_digits" (df 4) []) (G_ten_to : Gd P w K T mg base false 1 "ten_to" ["many"] [] (S_ten_to mg)) (hlen : ∀ pvs st Q PX, S_has_more_digits mg pvs st Q PX → pvs.length = 2) (hp : ∀ pvs st Q PX, S_has_more_digits mg pvs st Q PX → t_has_more_digits K mg (endOf Q PX) (ini N_has_more_digits pvs) st) :
    Gd P w K T mg base false 2 "has_more_digits" ["number", "many"] [] (S_has_more_digits mg) :=
  g_def (gd := false) (k := 1) (N := N_has_more_digits) F ⟨rfl, rfl, rfl, nd_has_more_digits, rfl, by decide +kernel, by decide +kernel⟩ (fun _ _ _ _ _ _ us hl => match us, hl with | [_, _], _ => rfl) hlen fun f cdv A outer sh H E hr hgd =>
    ⟨t_has_more_digits K mg, by unfold t_has_more_digits; exact (z_cons (s_asg nd_has_more_digits rfl (.inl rfl) (w_bits (w_var 0))) (z_cons (s_if (t_cmp op_le os_B0 (w_mul (w_var 2) w_int) (w_mul (w_var 1) w_int) (nomark _)) (z_one (s_ret w_bl)) z_nil) (z_cons (s_if (t_cmp op_ge os_B0 (w_mul (w_sub (w_var 2) w_int) w_int) (w_mul (w_var 1) w_int) (nomark _)) (z_one (s_ret w_bl)) z_nil) (z_one (s_ret (w_ge (c_abs (fr "abs" (.tail _ (.tail _ (.tail _ (.head _))))) (a_cons (w_var 0) a_nil)) (w_cg G_ten_to hr (by decide) Gu.no (takes_of rfl rfl rfl rfl) (a_cons (w_var 1) a_nil)))))))), hp⟩
/-! ### is_integer -/
theorem g_is_integer (fr : Fr mg frees) (F : Fc K mg "is_integer" (df 5) [])  (hlen : ∀ pvs st Q PX, S_is_integer mg pvs st Q PX → pvs.length = 1) (hp : ∀ pvs st Q PX, S_is_integer mg pvs st Q PX → t_is_integer K mg (endOf Q PX) (ini N_is_integer pvs) st) :
    Gd P w K T mg base false 1 "is_integer" ["value"] [] (S_is_integer mg) :=
  g_def (gd := false) (k := 0) (N := N_is_integer) F ⟨rfl, rfl, rfl, nd_is_integer, rfl, by decide +kernel, by decide +kernel⟩ (fun _ _ _ _ _ _ us hl => match us, hl with | [_], _ => rfl) hlen fun f cdv A outer sh H E hr hgd =>
    ⟨t_is_integer K mg, by unfold t_is_integer; exact (z_one (s_ret (w_is (c_type (fr "type" (.head _)) (a_cons (w_var 0) a_nil)) (w_type rfl (fr "int" (.tail _ (.head _))) bt_int)))), hp⟩
/-! ### lowest -/
theorem g_lowest (fr : Fr mg frees) (F : Fc K mg "lowest" (df 7) []) (k_gcd : mg "gcd" = some (.builtin "math.gcd")) (hlen : ∀ pvs st Q PX, S_lowest mg pvs st Q PX → pvs.length = 2) (hp : ∀ pvs st Q PX, S_lowest mg pvs st Q PX → t_lowest K mg (endOf Q PX) (ini N_lowest pvs) st) :
    Gd P w K T mg base false 1 "lowest" ["top", "bottom"] [] (S_lowest mg) :=
  g_def (gd := false) (k := 0) (N := N_lowest) F ⟨rfl, rfl, rfl, nd_lowest, rfl, by decide +kernel, by decide +kernel⟩ (fun _ _ _ _ _ _ us hl => match us, hl with | [_, _], _ => rfl) hlen fun f cdv A outer sh H E hr hgd =>
    ⟨t_lowest K mg, by unfold t_lowest; exact (z_cons (s_asg nd_lowest rfl (.inl rfl) (c_gcd k_gcd (a_cons (w_var 0) (a_cons (w_var 1) a_nil)))) (z_cons (s_if (t_cmp op_lt os_B0 (w_var 1) w_int (nomark _)) (z_one (s_asg nd_lowest rfl (.inl rfl) (w_neg (w_var 2)))) z_nil) (z_one (s_ret (w_tup (a_cons (w_div (w_var 0) (w_var 2)) (a_cons (w_div (w_var 1) (w_var 2)) a_nil))))))), hp⟩
/-! ### added -/
theorem g_added (fr : Fr mg frees) (F : Fc K mg "added" (df 8) []) (G_lowest : Gd P w K T mg base false 1 "lowest" ["top", "bottom"] [] (S_lowest mg)) (hlen : ∀ pvs st Q PX, S_added mg pvs st Q PX → pvs.length = 2) (hp : ∀ pvs st Q PX, S_added mg pvs st Q PX → t_added K mg (endOf Q PX) (ini N_added pvs) st) :
    Gd P w K T mg base false 2 "added" ["one", "other"] [] (S_added mg) :=
  g_def (gd := false) (k := 1) (N := N_added) F ⟨rfl, rfl, rfl, nd_added, rfl, by decide +kernel, by decide +kernel⟩ (fun _ _ _ _ _ _ us hl => match us, hl with | [_, _], _ => rfl) hlen fun f cdv A outer sh H E hr hgd =>
    ⟨t_added K mg, by unfold t_added; exact (z_cons (s_if (t_cmp (OpR.or op_isN op_isTyB) os_is (w_var 0) w_non (nomark _)) (z_one (s_ret (w_var 1))) z_nil) (z_cons (s_if (t_cmp (OpR.or op_isN op_isTyB) os_is (w_var 1) w_non (nomark _)) (z_one (s_ret (w_var 0))) z_nil) (z_cons (s_if (t_cmp (op_eqD (hu_of4 hr)) os_eq (w_ix (w_var 0) w_int) (w_ix (w_var 1) w_int) (nomark _)) (z_cons (s_if (t_cmp (op_eqD (hu_of4 hr)) os_eq (w_ix (w_var 0) w_int) w_int (nomark _)) (z_one (s_ret (w_tup (a_cons (w_add (w_ix (w_var 0) w_int) (w_ix (w_var 1) w_int)) (a_cons w_int a_nil))))) z_nil) (z_one (s_ret (w_cg G_lowest hr (by decide) Gu.no (takes_of rfl rfl rfl rfl) (a_cons (w_add (w_ix (w_var 0) w_int) (w_ix (w_var 1) w_int)) (a_cons (w_ix (w_var 0) w_int) a_nil)))))) z_nil) (z_one (s_ret (w_cg G_lowest hr (by decide) Gu.no (takes_of rfl rfl rfl rfl) (a_cons (w_add (w_mul (w_ix (w_var 0) w_int) (w_ix (w_var 1) w_int)) (w_mul (w_ix (w_var 1) w_int) (w_ix (w_var 0) w_int))) (a_cons (w_mul (w_ix (w_var 0) w_int) (w_ix (w_var 1) w_int)) a_nil)))))))), hp⟩
/-! ### is_worth -/
theorem g_is_worth (fr : Fr mg frees) (F : Fc K mg "is_worth" (df 17) []) (G_is_integer : Gd P w K T mg base false 1 "is_integer" ["value"] [] (S_is_integer mg)) (k_gcd : mg "gcd" = some (.builtin "math.gcd")) (hlen : ∀ pvs st Q PX, S_is_worth mg pvs st Q PX → pvs.length = 1) (hp : ∀ pvs st Q PX, S_is_worth mg pvs st Q PX → t_is_worth K mg (endOf Q PX) (ini N_is_worth pvs) st) :
    Gd P w K T mg base false 2 "is_worth" ["value"] [] (S_is_worth mg) :=
  g_def (gd := false) (k := 1) (N := N_is_worth) F ⟨rfl, rfl, rfl, nd_is_worth, rfl, by decide +kernel, by decide +kernel⟩ (fun _ _ _ _ _ _ us hl => match us, hl with | [_], _ => rfl) hlen fun f cdv A outer sh H E hr hgd =>
    ⟨t_is_worth K mg, by unfold t_is_worth; exact (z_cons (s_if (t_w (t_or (t_cmp (OpR.or op_notN op_notTyB) os_isnot (c_type (fr "type" (.head _)) (a_cons (w_var 0) a_nil)) (w_type rfl (fr "tuple" (.tail _ (.tail _ (.tail _ (.tail _ (.tail _ (.tail _ (.tail _ (.tail _ (.tail _ (.tail _ (.head _)))))))))))) bt_tuple) (nomark _)) (t_or1 (t_cmp (op_neD (hu_of4 hr)) os_ne (c_len (fr "len" (.tail _ (.tail _ (.head _)))) (a_cons (w_var 0) a_nil)) w_int (nomark _))))) (z_one (s_ret w_bl)) z_nil) (z_cons (s_asgG (w_var 0) (g_tup2 rfl nd_is_worth rfl (.inl rfl) rfl (.inl rfl))) (z_cons (s_if (t_w (t_or (t_not (t_val (w_cg G_is_integer hr (by decide) Gu.no (takes_of rfl rfl rfl rfl) (a_cons (w_var 1) a_nil)))) (t_or1 (t_not (t_val (w_cg G_is_integer hr (by decide) Gu.no (takes_of rfl rfl rfl rfl) (a_cons (w_var 2) a_nil))))))) (z_one (s_ret w_bl)) z_nil) (z_one (s_ret (w_andV (w_ge (w_var 2) w_int) (w_and1 (w_eq (hu_of4 hr) (c_gcd k_gcd (a_cons (w_var 1) (a_cons (w_var 2) a_nil))) w_int)))))))), hp⟩
/-! ### _is_known -/
theorem g__is_known (fr : Fr mg frees) (F : Fc K mg "_is_known" (df 18) []) (G_is_worth : Gd P w K T mg base false 2 "is_worth" ["value"] [] (S_is_worth mg)) (G_has_more_digits : Gd P w K T mg base false 2 "has_more_digits" ["number", "many"] [] (S_has_more_digits mg)) (k__LONGEST : ∃ t, mg "_LONGEST" = some (.int 4000 t)) (hlen : ∀ pvs st Q PX, S__is_known mg pvs st Q PX → pvs.length = 1) (hp : ∀ pvs st Q PX, S__is_known mg pvs st Q PX → t__is_known K mg (endOf Q PX) (ini N__is_known pvs) st) :
    Gd P w K T mg base false 3 "_is_known" ["value"] [] (S__is_known mg) :=
  g_def (gd := false) (k := 2) (N := N__is_known) F ⟨rfl, rfl, rfl, nd__is_known, rfl, by decide +kernel, by decide +kernel⟩ (fun _ _ _ _ _ _ us hl => match us, hl with | [_], _ => rfl) hlen fun f cdv A outer sh H E hr hgd =>
    ⟨t__is_known K mg, by unfold t__is_known; exact (z_cons (s_if (t_not (t_val (w_cg G_is_worth hr (by decide) Gu.no (takes_of rfl rfl rfl rfl) (a_cons (w_var 0) a_nil)))) (z_one (s_ret w_bl)) z_nil) (z_one (s_ret (w_andV (w_not (w_cg G_has_more_digits hr (by decide) Gu.no (takes_of rfl rfl rfl rfl) (a_cons (w_ix (w_var 0) w_int) (a_cons (w_gi k__LONGEST) a_nil)))) (w_and1 (w_not (w_cg G_has_more_digits hr (by decide) Gu.no (takes_of rfl rfl rfl rfl) (a_cons (w_ix (w_var 0) w_int) (a_cons (w_gi k__LONGEST) a_nil))))))))), hp⟩
/-! ### _check_worth -/
theorem g__check_worth (fr : Fr mg frees) (F : Fc K mg "_check_worth" (df 19) []) (x_InvalidWorth : ExI K mg "InvalidWorth" "message") (G__is_known : Gd P w K T mg base false 3 "_is_known" ["value"] [] (S__is_known mg)) (hlen : ∀ pvs st Q PX, S__check_worth mg pvs st Q PX → pvs.length = 1) (hp : ∀ pvs st Q PX, S__check_worth mg pvs st Q PX → t__check_worth K mg (endOf Q PX) (ini N__check_worth pvs) st) :
    Gd P w K T mg base false 4 "_check_worth" ["value"] [] (S__check_worth mg) :=
  g_def (gd := false) (k := 3) (N := N__check_worth) F ⟨rfl, rfl, rfl, nd__check_worth, rfl, by decide +kernel, by decide +kernel⟩ (fun _ _ _ _ _ _ us hl => match us, hl with | [_], _ => rfl) hlen fun f cdv A outer sh H E hr hgd =>
    ⟨t__check_worth K mg, by unfold t__check_worth; exact (z_one (s_if (t_not (t_val (w_cg G__is_known hr (by decide) Gu.no (takes_of rfl rfl rfl rfl) (a_cons (w_var 0) a_nil)))) (z_one (s_rz rfl (takes_of rfl rfl rfl rfl) x_InvalidWorth hr (a_cons (w_var 0) a_nil))) z_nil)), hp⟩
/-! ### _check_operands -/
theorem g__check_operands (fr : Fr mg frees) (F : Fc K mg "_check_operands" (df 20) []) (G__check_worth : Gd P w K T mg base false 4 "_check_worth" ["value"] [] (S__check_worth mg)) (hlen : ∀ pvs st Q PX, S__check_operands mg pvs st Q PX → pvs.length = 2) (hp : ∀ pvs st Q PX, S__check_operands mg pvs st Q PX → t__check_operands K mg (endOf Q PX) (ini N__check_operands pvs) st) :
    Gd P w K T mg base false 5 "_check_operands" ["one", "other"] [] (S__check_operands mg) :=
  g_def (gd := false) (k := 4) (N := N__check_operands) F ⟨rfl, rfl, rfl, nd__check_operands, rfl, by decide +kernel, by decide +kernel⟩ (fun _ _ _ _ _ _ us hl => match us, hl with | [_, _], _ => rfl) hlen fun f cdv A outer sh H E hr hgd =>
    ⟨t__check_operands K mg, by unfold t__check_operands; exact (z_cons (s_if (t_cmp (OpR.or op_notN op_notTyB) os_isnot (w_var 0) w_non (nomark _)) (z_one (s_drop (w_cg G__check_worth hr (by decide) Gu.no (takes_of rfl rfl rfl rfl) (a_cons (w_var 0) a_nil)))) z_nil) (z_one (s_if (t_cmp (OpR.or op_notN op_notTyB) os_isnot (w_var 1) w_non (nomark _)) (z_one (s_drop (w_cg G__check_worth hr (by decide) Gu.no (takes_of rfl rfl rfl rfl) (a_cons (w_var 1) a_nil)))) z_nil))), hp⟩
/-! ### plus -/
theorem g_plus (fr : Fr mg frees) (F : Fc K mg "plus" (df 21) []) (G__check_operands : Gd P w K T mg base false 5 "_check_operands" ["one", "other"] [] (S__check_operands mg)) (G_added : Gd P w K T mg base false 2 "added" ["one", "other"] [] (S_added mg)) (hlen : ∀ pvs st Q PX, S_plus mg pvs st Q PX → pvs.length = 2) (hp : ∀ pvs st Q PX, S_plus mg pvs st Q PX → t_plus K mg (endOf Q PX) (ini N_plus pvs) st) :
    Gd P w K T mg base false 6 "plus" ["one", "other"] [] (S_plus mg) :=
  g_def (gd := false) (k := 5) (N := N_plus) F ⟨rfl, rfl, rfl, nd_plus, rfl, by decide +kernel, by decide +kernel⟩ (fun _ _ _ _ _ _ us hl => match us, hl with | [_, _], _ => rfl) hlen fun f cdv A outer sh H E hr hgd =>
    ⟨t_plus K mg, by unfold t_plus; exact (z_cons (s_drop (w_cg G__check_operands hr (by decide) Gu.no (takes_of rfl rfl rfl rfl) (a_cons (w_var 0) (a_cons (w_var 1) a_nil)))) (z_one (s_ret (w_cg G_added hr (by decide) Gu.no (takes_of rfl rfl rfl rfl) (a_cons (w_var 0) (a_cons (w_var 1) a_nil)))))), hp⟩
/-! ### worth_text -/
abbrev N_worth_text : List Str := ["worth"]
theorem nd_worth_text : N_worth_text.Nodup := by decide +kernel
def t_worth_text (K : PySem.W.Frag) (mg : Str → Option Value) : SemS := (sSeq (sIfS (sTest (sOp (oIs false) (sVar 0) (sC .non))) (sRet (sC (.str "nothing"))) sSkip) (sSeq (sDrop (sCall (S__check_worth mg) [] (sCons (sVar 0) sNil))) (sSeq (sIfS (sTest (sOp oEq2 (sOp oIx (sVar 0) (sC (.int 1))) (sC (.int 1)))) (sRet (sCB oStr (sCons (sOp oIx (sVar 0) (sC (.int 0))) sNil))) sSkip) (sRet (sFs [(sFmt (sOp oIx (sVar 0) (sC (.int 0)))), (sC (.str "/")), (sFmt (sOp oIx (sVar 0) (sC (.int 1))))])))))
theorem g_worth_text (fr : Fr mg frees) (F : Fc K mg "worth_text" (df 22) []) (k__NOTHING : ∃ t, mg "_NOTHING" = some (.str "nothing" t)) (G__check_worth : Gd P w K T mg base false 4 "_check_worth" ["value"] [] (S__check_worth mg)) (hlen : ∀ pvs st Q PX, S_worth_text mg pvs st Q PX → pvs.length = 1) (hp : ∀ pvs st Q PX, S_worth_text mg pvs st Q PX → t_worth_text K mg (endOf Q PX) (ini N_worth_text pvs) st) :
    Gd P w K T mg base false 5 "worth_text" ["worth"] [] (S_worth_text mg) :=
  g_def (gd := false) (k := 4) (N := N_worth_text) F ⟨rfl, rfl, rfl, nd_worth_text, rfl, by decide +kernel, by decide +kernel⟩ (fun _ _ _ _ _ _ us hl => match us, hl with | [_], _ => rfl) hlen fun f cdv A outer sh H E hr hgd =>
    ⟨t_worth_text K mg, by unfold t_worth_text; exact (z_cons (s_if (t_cmp (OpR.or op_isN op_isTyB) os_is (w_var 0) w_non (nomark _)) (z_one (s_ret (w_gs k__NOTHING))) z_nil) (z_cons (s_drop (w_cg G__check_worth hr (by decide) Gu.no (takes_of rfl rfl rfl rfl) (a_cons (w_var 0) a_nil))) (z_cons (s_if (t_cmp (OpR.or op_eq (op_eqD (hu_of4 hr))) os_eq2 (w_ix (w_var 0) w_int) w_int (nomark _)) (z_one (s_ret (c_str (fr "str" (.tail _ (.tail _ (.tail _ (.tail _ (.tail _ (.head _))))))) (a_cons (w_ix (w_var 0) w_int) a_nil)))) z_nil) (z_one (s_ret (w_fs (.cons (w_fmt (w_ix (w_var 0) w_int)) (.cons w_str (.cons (w_fmt (w_ix (w_var 0) w_int)) .nil))))))))), hp⟩
/-! ### _read_digits -/
abbrev N__read_digits : List Str := ["text", "begin", "firsts", "end"]
theorem nd__read_digits : N__read_digits.Nodup := by decide +kernel
def t__read_digits (K : PySem.W.Frag) (mg : Str → Option Value) : SemS := (sSeq (sIfS (sOrT (sTest (sOp oEq2 (sVar 1) (sCB oLen (sCons (sVar 0) sNil)))) (sTest (sOp (oInS true) (sOp oIx (sVar 0) (sVar 1)) (sVar 2)))) (sRaise (ad mg "ParseError") "spot" (sCons (sVar 1) sNil)) sSkip) (sSeq (sAsg (sOp oAdd (sVar 1) (sC (.int 1))) 3) (sSeq (sIfS (sTest (sOp oEq2 (sOp oIx (sVar 0) (sVar 1)) (sC (.str "0")))) (sRet (sVar 3)) sSkip) (sSeq (sWhile (sAndT (sTest (sOp oLt (sVar 3) (sCB oLen (sCons (sVar 0) sNil)))) (sTest (sOp (oInS false) (sOp oIx (sVar 0) (sVar 3)) (sC (.str "0123456789"))))) (sSeq (sIfS (sTest (sOp oEq2 (sOp oSub (sVar 3) (sVar 1)) (sC (.int 60)))) (sRaise (ad mg "ParseError") "spot" (sCons (sVar 3) sNil)) sSkip) (sAug 3 (oI0 fun i j => .int (i + j)) (sC (.int 1))))) (sRet (sVar 3))))))
theorem g__read_digits (fr : Fr mg frees) (F : Fc K mg "_read_digits" (df 23) []) (x_ParseError : ExI K mg "ParseError" "spot") (k__DIGITS : ∃ t, mg "_DIGITS" = some (.str "0123456789" t)) (k_MOST_PASSED : ∃ t, mg "MOST_PASSED" = some (.int 60 t)) (hlen : ∀ pvs st Q PX, S__read_digits mg pvs st Q PX → pvs.length = 3) (hp : ∀ pvs st Q PX, S__read_digits mg pvs st Q PX → t__read_digits K mg (endOf Q PX) (ini N__read_digits pvs) st) :
    Gd P w K T mg base false 1 "_read_digits" ["text", "begin", "firsts"] [] (S__read_digits mg) :=
  g_def (gd := false) (k := 0) (N := N__read_digits) F ⟨rfl, rfl, rfl, nd__read_digits, rfl, by decide +kernel, by decide +kernel⟩ (fun _ _ _ _ _ _ us hl => match us, hl with | [_, _, _], _ => rfl) hlen fun f cdv A outer sh H E hr hgd =>
    ⟨t__read_digits K mg, by unfold t__read_digits; exact (z_cons (s_if (t_w (t_or (t_cmp (OpR.or op_eq (op_eqD (hu_of4 hr))) os_eq2 (w_var 1) (c_len (fr "len" (.tail _ (.tail _ (.head _)))) (a_cons (w_var 0) a_nil)) (nomark _)) (t_or1 (t_cmp op_notIn_sign os_niS (w_ix (w_var 0) (w_var 1)) (w_var 2) rfl)))) (z_one (s_rz rfl (takes_of rfl rfl rfl rfl) x_ParseError hr (a_cons (w_var 1) a_nil))) z_nil) (z_cons (s_asg nd__read_digits rfl (.inl rfl) (w_add (w_var 1) w_int)) (z_cons (s_if (t_cmp (OpR.or op_eq (op_eqD (hu_of4 hr))) os_eq2 (w_ix (w_var 0) (w_var 1)) w_str (nomark _)) (z_one (s_ret (w_var 3))) z_nil) (z_cons (s_while (passes_of rfl) (t_w (t_and (t_cmp op_lt os_B0 (w_var 3) (c_len (fr "len" (.tail _ (.tail _ (.head _)))) (a_cons (w_var 0) a_nil)) (nomark _)) (t_and1 (t_cmp op_in_sign os_inS (w_ix (w_var 0) (w_var 3)) (w_gs k__DIGITS) rfl)))) (z_cons (s_if (t_cmp (OpR.or op_eq (op_eqD (hu_of4 hr))) os_eq2 (w_sub (w_var 3) (w_var 1)) (w_gi k_MOST_PASSED) (nomark _)) (z_one (s_rz rfl (takes_of rfl rfl rfl rfl) x_ParseError hr (a_cons (w_var 3) a_nil))) z_nil) (z_one (s_augAdd nd__read_digits rfl (.inl rfl) w_int)))) (z_one (s_ret (w_var 3))))))), hp⟩
/-! ### _read_nothing -/
abbrev N__read_nothing : List Str := ["text", "index", "sign"]
theorem nd__read_nothing : N__read_nothing.Nodup := by decide +kernel
def t__read_nothing (K : PySem.W.Frag) (mg : Str → Option Value) : SemS := (sSeq (sForES (sC (.str "nothing")) (kTup2 1 2) (sIfS (sOrT (sTest (sOp oEq2 (sVar 1) (sCB oLen (sCons (sVar 0) sNil)))) (sTest (sOp oNe2 (sOp oIx (sVar 0) (sVar 1)) (sVar 2)))) (sRaise (ad mg "ParseError") "spot" (sCons (sVar 1) sNil)) sSkip)) (sIfS (sTest (sOp oGt (sCB oLen (sCons (sVar 0) sNil)) (sCB oLen (sCons (sC (.str "nothing")) sNil)))) (sRaise (ad mg "ParseError") "spot" (sCons (sCB oLen (sCons (sC (.str "nothing")) sNil)) sNil)) sSkip))
theorem g__read_nothing (fr : Fr mg frees) (F : Fc K mg "_read_nothing" (df 24) []) (x_ParseError : ExI K mg "ParseError" "spot") (k__NOTHING : ∃ t, mg "_NOTHING" = some (.str "nothing" t)) (hlen : ∀ pvs st Q PX, S__read_nothing mg pvs st Q PX → pvs.length = 1) (hp : ∀ pvs st Q PX, S__read_nothing mg pvs st Q PX → t__read_nothing K mg (endOf Q PX) (ini N__read_nothing pvs) st) :
    Gd P w K T mg base false 1 "_read_nothing" ["text"] [] (S__read_nothing mg) :=
  g_def (gd := false) (k := 0) (N := N__read_nothing) F ⟨rfl, rfl, rfl, nd__read_nothing, rfl, by decide +kernel, by decide +kernel⟩ (fun _ _ _ _ _ _ us hl => match us, hl with | [_], _ => rfl) hlen fun f cdv A outer sh H E hr hgd =>
    ⟨t__read_nothing K mg, by unfold t__read_nothing; exact (z_cons (s_forES (passes_of rfl) rfl rfl (fr "enumerate" (.tail _ (.tail _ (.tail _ (.tail _ (.tail _ (.tail _ (.tail _ (.tail _ (.tail _ (.head _))))))))))) (w_gs k__NOTHING) (g_tup2 rfl nd__read_nothing rfl (.inl rfl) rfl (.inl rfl)) (z_one (s_if (t_w (t_or (t_cmp (OpR.or op_eq (op_eqD (hu_of4 hr))) os_eq2 (w_var 1) (c_len (fr "len" (.tail _ (.tail _ (.head _)))) (a_cons (w_var 0) a_nil)) (nomark _)) (t_or1 (t_cmp (OpR.or op_ne (op_neD (hu_of4 hr))) os_ne2 (w_ix (w_var 0) (w_var 1)) (w_var 2) (nomark _))))) (z_one (s_rz rfl (takes_of rfl rfl rfl rfl) x_ParseError hr (a_cons (w_var 1) a_nil))) z_nil))) (z_one (s_if (t_cmp op_gt os_B0 (c_len (fr "len" (.tail _ (.tail _ (.head _)))) (a_cons (w_var 0) a_nil)) (c_len (fr "len" (.tail _ (.tail _ (.head _)))) (a_cons (w_gs k__NOTHING) a_nil)) (nomark _)) (z_one (s_rz rfl (takes_of rfl rfl rfl rfl) x_ParseError hr (a_cons (c_len (fr "len" (.tail _ (.tail _ (.head _)))) (a_cons (w_gs k__NOTHING) a_nil)) a_nil))) z_nil))), hp⟩
/-! ### worth_from -/
abbrev N_worth_from : List Str := ["text", "begin", "first", "firsts", "end", "last"]
theorem nd_worth_from : N_worth_from.Nodup := by decide +kernel
def t_worth_from (K : PySem.W.Frag) (mg : Str → Option Value) : SemS := (sSeq (sAsg (sVar 1) 2) (sSeq (sAsg (sC (.str "0123456789")) 3) (sSeq (sIfS (sTest (sOp oEq2 (sSl (sVar 0) (sPt (sVar 1)) (sPt (sOp oAdd (sVar 1) (sC (.int 1))))) (sC (.str "-")))) (sSeq (sAsg (sOp oAdd (sVar 1) (sC (.int 1))) 2) (sAsg (sSl (sC (.str "0123456789")) (sPt (sC (.int 1))) sPN) 3)) sSkip) (sSeq (sAsg (sCall (S__read_digits mg) [] (sCons (sVar 0) (sCons (sVar 2) (sCons (sVar 3) sNil)))) 4) (sSeq (sIfS (sTest (sOp oNe2 (sSl (sVar 0) (sPt (sVar 4)) (sPt (sOp oAdd (sVar 4) (sC (.int 1))))) (sC (.str "/")))) (sRet (sTup (sCons (sTup (sCons (sCB oInt2 (sCons (sSl (sVar 0) (sPt (sVar 1)) (sPt (sVar 4))) sNil)) (sCons (sC (.int 1)) sNil))) (sCons (sVar 4) sNil)))) sSkip) (sSeq (sAsg (sCall (S__read_digits mg) [] (sCons (sVar 0) (sCons (sOp oAdd (sVar 4) (sC (.int 1))) (sCons (sSl (sC (.str "0123456789")) (sPt (sC (.int 1))) sPN) sNil)))) 5) (sRet (sTup (sCons (sCall (S_lowest mg) [] (sCons (sCB oInt2 (sCons (sSl (sVar 0) (sPt (sVar 1)) (sPt (sVar 4))) sNil)) (sCons (sCB oInt2 (sCons (sSl (sVar 0) (sPt (sOp oAdd (sVar 4) (sC (.int 1)))) (sPt (sVar 5))) sNil)) sNil))) (sCons (sVar 5) sNil))))))))))
theorem g_worth_from (fr : Fr mg frees) (F : Fc K mg "worth_from" (df 25) []) (k__DIGITS : ∃ t, mg "_DIGITS" = some (.str "0123456789" t)) (G__read_digits : Gd P w K T mg base false 1 "_read_digits" ["text", "begin", "firsts"] [] (S__read_digits mg)) (G_lowest : Gd P w K T mg base false 1 "lowest" ["top", "bottom"] [] (S_lowest mg)) (hlen : ∀ pvs st Q PX, S_worth_from mg pvs st Q PX → pvs.length = 2) (hp : ∀ pvs st Q PX, S_worth_from mg pvs st Q PX → t_worth_from K mg (endOf Q PX) (ini N_worth_from pvs) st) :
    Gd P w K T mg base false 2 "worth_from" ["text", "begin"] [] (S_worth_from mg) :=
  g_def (gd := false) (k := 1) (N := N_worth_from) F ⟨rfl, rfl, rfl, nd_worth_from, rfl, by decide +kernel, by decide +kernel⟩ (fun _ _ _ _ _ _ us hl => match us, hl with | [_, _], _ => rfl) hlen fun f cdv A outer sh H E hr hgd =>
    ⟨t_worth_from K mg, by unfold t_worth_from; exact (z_cons (s_asg nd_worth_from rfl (.inl rfl) (w_var 1)) (z_cons (s_asg nd_worth_from rfl (.inl rfl) (w_gs k__DIGITS)) (z_cons (s_if (t_cmp (OpR.or op_eq (op_eqD (hu_of4 hr))) os_eq2 (w_sl (w_var 0) (o_some (w_var 1)) (o_some (w_add (w_var 1) w_int))) w_str (nomark _)) (z_cons (s_asg nd_worth_from rfl (.inl rfl) (w_add (w_var 1) w_int)) (z_one (s_asg nd_worth_from rfl (.inl rfl) (w_sl (w_gs k__DIGITS) (o_some w_int) o_none)))) z_nil) (z_cons (s_asg nd_worth_from rfl (.inl rfl) (w_cg G__read_digits hr (by decide) Gu.no (takes_of rfl rfl rfl rfl) (a_cons (w_var 0) (a_cons (w_var 2) (a_cons (w_var 3) a_nil))))) (z_cons (s_if (t_cmp (OpR.or op_ne (op_neD (hu_of4 hr))) os_ne2 (w_sl (w_var 0) (o_some (w_var 4)) (o_some (w_add (w_var 4) w_int))) w_str (nomark _)) (z_one (s_ret (w_tup (a_cons (w_tup (a_cons (c_int2 (fr "int" (.tail _ (.head _))) (a_cons (w_sl (w_var 0) (o_some (w_var 1)) (o_some (w_var 4))) a_nil)) (a_cons w_int a_nil))) (a_cons (w_var 4) a_nil))))) z_nil) (z_cons (s_asg nd_worth_from rfl (.inl rfl) (w_cg G__read_digits hr (by decide) Gu.no (takes_of rfl rfl rfl rfl) (a_cons (w_var 0) (a_cons (w_add (w_var 4) w_int) (a_cons (w_sl (w_gs k__DIGITS) (o_some w_int) o_none) a_nil))))) (z_one (s_ret (w_tup (a_cons (w_cg G_lowest hr (by decide) Gu.no (takes_of rfl rfl rfl rfl) (a_cons (c_int2 (fr "int" (.tail _ (.head _))) (a_cons (w_sl (w_var 0) (o_some (w_var 1)) (o_some (w_var 4))) a_nil)) (a_cons (c_int2 (fr "int" (.tail _ (.head _))) (a_cons (w_sl (w_var 0) (o_some (w_add (w_var 4) w_int)) (o_some (w_var 5))) a_nil)) a_nil))) (a_cons (w_var 5) a_nil))))))))))), hp⟩
/-! ### read_worth -/
abbrev N_read_worth : List Str := ["text", "told", "end"]
theorem nd_read_worth : N_read_worth.Nodup := by decide +kernel
def t_read_worth (K : PySem.W.Frag) (mg : Str → Option Value) : SemS := (sSeq (sIfS (sTest (sOp (oIs true) (sCB oType (sCons (sVar 0) sNil)) (sC (.ty "str")))) (sRaise (ad mg "ParseError") "spot" (sCons (sC .non) sNil)) sSkip) (sSeq (sIfS (sTest (sOp oEq2 (sSl (sVar 0) sPN (sPt (sC (.int 1)))) (sC (.str "n")))) (sSeq (sDrop (sCall (S__read_nothing mg) [] (sCons (sVar 0) sNil))) (sRet (sC .non))) sSkip) (sSeq (sAsgG (sCall (S_worth_from mg) [] (sCons (sVar 0) (sCons (sC (.int 0)) sNil))) (kTup2 1 2)) (sSeq (sIfS (sTest (sOp oLt (sVar 2) (sCB oLen (sCons (sVar 0) sNil)))) (sRaise (ad mg "ParseError") "spot" (sCons (sVar 2) sNil)) sSkip) (sRet (sVar 1))))))
theorem g_read_worth (fr : Fr mg frees) (F : Fc K mg "read_worth" (df 26) []) (x_ParseError : ExI K mg "ParseError" "spot") (G_worth_from : Gd P w K T mg base false 2 "worth_from" ["text", "begin"] [] (S_worth_from mg)) (G__read_nothing : Gd P w K T mg base false 1 "_read_nothing" ["text"] [] (S__read_nothing mg)) (hlen : ∀ pvs st Q PX, S_read_worth mg pvs st Q PX → pvs.length = 1) (hp : ∀ pvs st Q PX, S_read_worth mg pvs st Q PX → t_read_worth K mg (endOf Q PX) (ini N_read_worth pvs) st) :
    Gd P w K T mg base false 3 "read_worth" ["text"] [] (S_read_worth mg) :=
  g_def (gd := false) (k := 2) (N := N_read_worth) F ⟨rfl, rfl, rfl, nd_read_worth, rfl, by decide +kernel, by decide +kernel⟩ (fun _ _ _ _ _ _ us hl => match us, hl with | [_], _ => rfl) hlen fun f cdv A outer sh H E hr hgd =>
    ⟨t_read_worth K mg, by unfold t_read_worth; exact (z_cons (s_if (t_cmp (OpR.or op_notN op_notTyB) os_isnot (c_type (fr "type" (.head _)) (a_cons (w_var 0) a_nil)) (w_type rfl (fr "str" (.tail _ (.tail _ (.tail _ (.tail _ (.tail _ (.head _))))))) bt_str) (nomark _)) (z_one (s_rz rfl (takes_of rfl rfl rfl rfl) x_ParseError hr (a_cons w_non a_nil))) z_nil) (z_cons (s_if (t_cmp (OpR.or op_eq (op_eqD (hu_of4 hr))) os_eq2 (w_sl (w_var 0) o_none (o_some w_int)) w_str (nomark _)) (z_cons (s_drop (w_cg G__read_nothing hr (by decide) Gu.no (takes_of rfl rfl rfl rfl) (a_cons (w_var 0) a_nil))) (z_one (s_ret w_non))) z_nil) (z_cons (s_asgG (w_cg G_worth_from hr (by decide) Gu.no (takes_of rfl rfl rfl rfl) (a_cons (w_var 0) (a_cons w_int a_nil))) (g_tup2 rfl nd_read_worth rfl (.inl rfl) rfl (.inl rfl))) (z_cons (s_if (t_cmp op_lt os_B0 (w_var 2) (c_len (fr "len" (.tail _ (.tail _ (.head _)))) (a_cons (w_var 0) a_nil)) (nomark _)) (z_one (s_rz rfl (takes_of rfl rfl rfl rfl) x_ParseError hr (a_cons (w_var 2) a_nil))) z_nil) (z_one (s_ret (w_var 1))))))), hp⟩
/-! ### _law_dice -/
theorem g__law_dice (fr : Fr mg frees) (F : Fc K mg "_law_dice" (df 28) [])  (hlen : ∀ pvs st Q PX, S__law_dice mg pvs st Q PX → pvs.length = 2) (hp : ∀ pvs st Q PX, S__law_dice mg pvs st Q PX → t__law_dice K mg (endOf Q PX) (ini N__law_dice pvs) st) :
    Gd P w K T mg base false 1 "_law_dice" ["_law_script", "_law_at"] [] (S__law_dice mg) :=
  g_def (gd := false) (k := 0) (N := N__law_dice) F ⟨rfl, rfl, rfl, nd__law_dice, rfl, by decide +kernel, by decide +kernel⟩ (fun _ _ _ _ _ _ us hl => match us, hl with | [_, _], _ => rfl) hlen fun f cdv A outer sh H E hr hgd =>
    ⟨t__law_dice K mg, by unfold t__law_dice; exact (z_cons (s_asg nd__law_dice rfl (.inl rfl) (w_add (w_mul w_int (w_var 1)) w_int)) (z_cons (s_if (t_cmp op_lt os_B0 (w_var 1) (c_len (fr "len" (.tail _ (.tail _ (.head _)))) (a_cons (w_var 0) a_nil)) (nomark _)) (z_one (s_asg nd__law_dice rfl (.inl rfl) (w_ix (w_var 0) (w_var 1)))) z_nil) (z_cons (s_asg nd__law_dice rfl (.inl rfl) (w_mod (c_int (fr "int" (.tail _ (.head _))) (a_cons (c_abs (fr "abs" (.tail _ (.tail _ (.tail _ (.head _))))) (a_cons (w_var 2) a_nil)) a_nil)) (w_pow (w_pow w_int w_int) w_int))) (z_cons (s_asg nd__law_dice rfl (.inl rfl) (w_div (w_var 3) (w_pow w_int w_int))) (z_cons (s_asg nd__law_dice rfl (.inl rfl) (w_add (w_add (w_add (w_mul (w_mod (w_var 3) w_int) w_int) (w_mul w_int (w_var 1))) (w_mul w_int (c_int (fr "int" (.tail _ (.head _))) (a_cons (w_lt (w_var 2) w_int) a_nil)))) w_int)) (z_one (s_ret (w_new (a_cons (w_var 4) (a_cons (w_mod (w_var 5) w_int) (a_cons w_int a_nil))))))))))), hp⟩
/-! ### _law_roll -/
theorem g__law_roll (fr : Fr mg frees) (F : Fc K mg "_law_roll" (df 29) [])  (hlen : ∀ pvs st Q PX, S__law_roll mg pvs st Q PX → pvs.length = 2) (hp : ∀ pvs st Q PX, S__law_roll mg pvs st Q PX → t__law_roll K mg (endOf Q PX) (ini N__law_roll pvs) st) :
    Gd P w K T mg base false 1 "_law_roll" ["_law_dice_here", "_law_total"] [] (S__law_roll mg) :=
  g_def (gd := false) (k := 0) (N := N__law_roll) F ⟨rfl, rfl, rfl, nd__law_roll, rfl, by decide +kernel, by decide +kernel⟩ (fun _ _ _ _ _ _ us hl => match us, hl with | [_, _], _ => rfl) hlen fun f cdv A outer sh H E hr hgd =>
    ⟨t__law_roll K mg, by unfold t__law_roll; exact (z_cons (s_asg nd__law_roll rfl (.inl rfl) (c_int (fr "int" (.tail _ (.head _))) (a_cons (w_var 1) a_nil))) (z_cons (s_if (t_cmp op_gt os_B0 (w_ix (w_var 0) w_int) w_int (nomark _)) (z_cons (s_asg nd__law_roll rfl (.inl rfl) (w_mod (w_ix (w_var 0) w_int) (w_var 2))) (z_cons (s_setIx (w_div (w_ix (w_var 0) w_int) (w_var 2)) (w_var 0) w_int) (z_one (s_ret (c_int (fr "int" (.tail _ (.head _))) (a_cons (w_var 5) a_nil)))))) z_nil) (z_cons (s_setIx (w_add (w_ix (w_var 0) w_int) w_int) (w_var 0) w_int) (z_cons (s_asg nd__law_roll rfl (.inl rfl) (w_mod (w_add (w_ix (w_var 0) w_int) (w_mul w_int (w_ix (w_var 0) w_int))) w_int)) (z_cons (s_asg nd__law_roll rfl (.inl rfl) (w_add (w_mul (w_mod (w_mul (w_var 3) (w_var 3)) w_int) (w_var 3)) (w_mul w_int (w_ix (w_var 0) w_int)))) (z_cons (s_asg nd__law_roll rfl (.inl rfl) (w_mod (w_var 4) w_int)) (z_one (s_ret (c_int (fr "int" (.tail _ (.head _))) (a_cons (w_mod (w_div (w_var 4) w_int) (w_var 2)) a_nil)))))))))), hp⟩
/-! ### _law_one_of -/
theorem g__law_one_of (fr : Fr mg frees) (F : Fc K mg "_law_one_of" (df 30) []) (G__law_roll : Gd P w K T mg base false 1 "_law_roll" ["_law_dice_here", "_law_total"] [] (S__law_roll mg)) (hlen : ∀ pvs st Q PX, S__law_one_of mg pvs st Q PX → pvs.length = 2) (hp : ∀ pvs st Q PX, S__law_one_of mg pvs st Q PX → t__law_one_of K mg (endOf Q PX) (ini N__law_one_of pvs) st) :
    Gd P w K T mg base false 2 "_law_one_of" ["_law_dice_here", "_law_items"] [] (S__law_one_of mg) :=
  g_def (gd := false) (k := 1) (N := N__law_one_of) F ⟨rfl, rfl, rfl, nd__law_one_of, rfl, by decide +kernel, by decide +kernel⟩ (fun _ _ _ _ _ _ us hl => match us, hl with | [_, _], _ => rfl) hlen fun f cdv A outer sh H E hr hgd =>
    ⟨t__law_one_of K mg, by unfold t__law_one_of; exact (z_one (s_ret (w_ix (w_var 1) (w_cg G__law_roll hr (by decide) Gu.no (takes_of rfl rfl rfl rfl) (a_cons (w_var 0) (a_cons (c_len (fr "len" (.tail _ (.tail _ (.head _)))) (a_cons (w_var 1) a_nil)) a_nil)))))), hp⟩
/-! ### _law_lowest -/
abbrev N__law_lowest : List Str := ["_law_top", "_law_bottom", "_law_one", "_law_other"]
theorem nd__law_lowest : N__law_lowest.Nodup := by decide +kernel
def t__law_lowest (K : PySem.W.Frag) (mg : Str → Option Value) : SemS := (sSeq (sPar 2 3 (sCB oAbs (sCons (sVar 0) sNil)) (sVar 1)) (sSeq (sWhile (sTest (sOp oNe2 (sVar 3) (sC (.int 0)))) (sPar 2 3 (sVar 3) (sOp oMod (sVar 2) (sVar 3)))) (sRet (sTup (sCons (sOp oDiv (sVar 0) (sVar 2)) (sCons (sOp oDiv (sVar 1) (sVar 2)) sNil))))))
theorem g__law_lowest (fr : Fr mg frees) (F : Fc K mg "_law_lowest" (df 31) [])  (hlen : ∀ pvs st Q PX, S__law_lowest mg pvs st Q PX → pvs.length = 2) (hp : ∀ pvs st Q PX, S__law_lowest mg pvs st Q PX → t__law_lowest K mg (endOf Q PX) (ini N__law_lowest pvs) st) :
    Gd P w K T mg base false 1 "_law_lowest" ["_law_top", "_law_bottom"] [] (S__law_lowest mg) :=
  g_def (gd := false) (k := 0) (N := N__law_lowest) F ⟨rfl, rfl, rfl, nd__law_lowest, rfl, by decide +kernel, by decide +kernel⟩ (fun _ _ _ _ _ _ us hl => match us, hl with | [_, _], _ => rfl) hlen fun f cdv A outer sh H E hr hgd =>
    ⟨t__law_lowest K mg, by unfold t__law_lowest; exact (z_cons (s_par rfl nd__law_lowest rfl rfl (by decide) rfl rfl (c_abs (fr "abs" (.tail _ (.tail _ (.tail _ (.head _))))) (a_cons (w_var 0) a_nil)) (w_var 1)) (z_cons (s_while (passes_of rfl) (t_cmp (OpR.or op_ne (op_neD (hu_of4 hr))) os_ne2 (w_var 3) w_int (nomark _)) (z_one (s_par rfl nd__law_lowest rfl rfl (by decide) rfl rfl (w_var 3) (w_mod (w_var 2) (w_var 3))))) (z_one (s_ret (w_tup (a_cons (w_div (w_var 0) (w_var 2)) (a_cons (w_div (w_var 1) (w_var 2)) a_nil))))))), hp⟩
/-! ### _law_integer -/
abbrev N__law_integer : List Str := ["_law_dice_here", "_law_lot"]
theorem nd__law_integer : N__law_integer.Nodup := by decide +kernel
def t__law_integer (K : PySem.W.Frag) (mg : Str → Option Value) : SemS := (sSeq (sAsg (sCall (S__law_roll mg) [] (sCons (sVar 0) (sCons (sC (.int 8)) sNil))) 1) (sSeq (sIfS (sTest (sOp oEq2 (sVar 1) (sC (.int 0)))) (sRet (sCall (S__law_one_of mg) [] (sCons (sVar 0) (sCons (sLst (sCons (sOp oPow (sC (.int 10)) (sC (.int 59))) (sCons (sOp oSub (sOp oPow (sC (.int 10)) (sC (.int 60))) (sC (.int 1))) (sCons (sOp oAdd (sOp oPow (sC (.int 10)) (sC (.int 58))) (sCall (S__law_roll mg) [] (sCons (sVar 0) (sCons (sOp oPow (sC (.int 10)) (sC (.int 6))) sNil)))) sNil)))) sNil)))) sSkip) (sRet (sIf (sTest (sOp oLt (sVar 1) (sC (.int 5)))) (sCall (S__law_roll mg) [] (sCons (sVar 0) (sCons (sC (.int 10)) sNil))) (sCall (S__law_roll mg) [] (sCons (sVar 0) (sCons (sC (.int 2000)) sNil)))))))
theorem g__law_integer (fr : Fr mg frees) (F : Fc K mg "_law_integer" (df 32) []) (G__law_roll : Gd P w K T mg base false 1 "_law_roll" ["_law_dice_here", "_law_total"] [] (S__law_roll mg)) (G__law_one_of : Gd P w K T mg base false 2 "_law_one_of" ["_law_dice_here", "_law_items"] [] (S__law_one_of mg)) (hlen : ∀ pvs st Q PX, S__law_integer mg pvs st Q PX → pvs.length = 1) (hp : ∀ pvs st Q PX, S__law_integer mg pvs st Q PX → t__law_integer K mg (endOf Q PX) (ini N__law_integer pvs) st) :
    Gd P w K T mg base false 3 "_law_integer" ["_law_dice_here"] [] (S__law_integer mg) :=
  g_def (gd := false) (k := 2) (N := N__law_integer) F ⟨rfl, rfl, rfl, nd__law_integer, rfl, by decide +kernel, by decide +kernel⟩ (fun _ _ _ _ _ _ us hl => match us, hl with | [_], _ => rfl) hlen fun f cdv A outer sh H E hr hgd =>
    ⟨t__law_integer K mg, by unfold t__law_integer; exact (z_cons (s_asg nd__law_integer rfl (.inl rfl) (w_cg G__law_roll hr (by decide) Gu.no (takes_of rfl rfl rfl rfl) (a_cons (w_var 0) (a_cons w_int a_nil)))) (z_cons (s_if (t_cmp (OpR.or op_eq (op_eqD (hu_of4 hr))) os_eq2 (w_var 1) w_int (nomark _)) (z_one (s_ret (w_cg G__law_one_of hr (by decide) Gu.no (takes_of rfl rfl rfl rfl) (a_cons (w_var 0) (a_cons (w_lst (a_cons (w_pow w_int w_int) (a_cons (w_sub (w_pow w_int w_int) w_int) (a_cons (w_add (w_pow w_int w_int) (w_cg G__law_roll hr (by decide) Gu.no (takes_of rfl rfl rfl rfl) (a_cons (w_var 0) (a_cons (w_pow w_int w_int) a_nil)))) a_nil)))) a_nil))))) z_nil) (z_one (s_ret (w_if (t_cmp op_lt os_B0 (w_var 1) w_int (nomark _)) (w_cg G__law_roll hr (by decide) Gu.no (takes_of rfl rfl rfl rfl) (a_cons (w_var 0) (a_cons w_int a_nil))) (w_cg G__law_roll hr (by decide) Gu.no (takes_of rfl rfl rfl rfl) (a_cons (w_var 0) (a_cons w_int a_nil)))))))), hp⟩
/-! ### _law_written -/
abbrev N__law_written : List Str := ["_law_number", "_law_text_here"]
theorem nd__law_written : N__law_written.Nodup := by decide +kernel
def t__law_written (K : PySem.W.Frag) (mg : Str → Option Value) : SemS := (sSeq (sAsg (sCB oStr (sCons (sOp oIx (sVar 0) (sC (.int 0))) sNil)) 1) (sRet (sIf (sTest (sOp oEq2 (sOp oIx (sVar 0) (sC (.int 1))) (sC (.int 1)))) (sVar 1) (sOp oAdd (sOp oAdd (sVar 1) (sC (.str "/"))) (sCB oStr (sCons (sOp oIx (sVar 0) (sC (.int 1))) sNil))))))
theorem g__law_written (fr : Fr mg frees) (F : Fc K mg "_law_written" (df 33) [])  (hlen : ∀ pvs st Q PX, S__law_written mg pvs st Q PX → pvs.length = 1) (hp : ∀ pvs st Q PX, S__law_written mg pvs st Q PX → t__law_written K mg (endOf Q PX) (ini N__law_written pvs) st) :
    Gd P w K T mg base false 1 "_law_written" ["_law_number"] [] (S__law_written mg) :=
  g_def (gd := false) (k := 0) (N := N__law_written) F ⟨rfl, rfl, rfl, nd__law_written, rfl, by decide +kernel, by decide +kernel⟩ (fun _ _ _ _ _ _ us hl => match us, hl with | [_], _ => rfl) hlen fun f cdv A outer sh H E hr hgd =>
    ⟨t__law_written K mg, by unfold t__law_written; exact (z_cons (s_asg nd__law_written rfl (.inl rfl) (c_str (fr "str" (.tail _ (.tail _ (.tail _ (.tail _ (.tail _ (.head _))))))) (a_cons (w_ix (w_var 0) w_int) a_nil))) (z_one (s_ret (w_if (t_cmp (OpR.or op_eq (op_eqD (hu_of4 hr))) os_eq2 (w_ix (w_var 0) w_int) w_int (nomark _)) (w_var 1) (w_add (w_add (w_var 1) w_str) (c_str (fr "str" (.tail _ (.tail _ (.tail _ (.tail _ (.tail _ (.head _))))))) (a_cons (w_ix (w_var 0) w_int) a_nil))))))), hp⟩
/-! ### _law_is_row -/
abbrev N__law_is_row : List Str := ["_law_text_here", "_law_sign"]
theorem nd__law_is_row : N__law_is_row.Nodup := by decide +kernel
def t__law_is_row (K : PySem.W.Frag) (mg : Str → Option Value) : SemS := (sRet (sAnd (sOp oNe2 (sVar 0) (sC (.str ""))) (sOp oEq2 (sLc itemsS (sVar 0) 1 (sTest (sOp (oInS true) (sVar 1) (sC (.str "0123456789")))) (sVar 1)) (sLst sNil))))
theorem g__law_is_row (fr : Fr mg frees) (F : Fc K mg "_law_is_row" (df 34) [])  (hlen : ∀ pvs st Q PX, S__law_is_row mg pvs st Q PX → pvs.length = 1) (hp : ∀ pvs st Q PX, S__law_is_row mg pvs st Q PX → t__law_is_row K mg (endOf Q PX) (ini N__law_is_row pvs) st) :
    Gd P w K T mg base false 1 "_law_is_row" ["_law_text_here"] [] (S__law_is_row mg) :=
  g_def (gd := false) (k := 0) (N := N__law_is_row) F ⟨rfl, rfl, rfl, nd__law_is_row, rfl, by decide +kernel, by decide +kernel⟩ (fun _ _ _ _ _ _ us hl => match us, hl with | [_], _ => rfl) hlen fun f cdv A outer sh H E hr hgd =>
    ⟨t__law_is_row K mg, by unfold t__law_is_row; exact (z_one (s_ret (w_andV (w_ne2 (hu_of4 hr) (w_var 0) w_str) (w_and1 (w_eq2 (hu_of4 hr) (w_lcS rfl nd__law_is_row (w_var 0) (blkOk_by (N := N__law_is_row) (sc := (df 34).2.2) (by decide +kernel)) (fun s H C cl fp => pg_name nd__law_is_row rfl (.inl rfl)) (blk_if fun s H C cl fp => (t_cmp op_notIn_sign os_niS (w_var 1) w_str rfl)) (fun s H C cl fp => (w_var 1))) (w_lst a_nil)))))), hp⟩
/-! ### _law_can_begin -/
abbrev N__law_can_begin : List Str := ["_law_text_here", "_law_rest", "_law_parts"]
theorem nd__law_can_begin : N__law_can_begin.Nodup := by decide +kernel
def t__law_can_begin (K : PySem.W.Frag) (mg : Str → Option Value) : SemS := (sSeq (sIfS (sTest (sOp oEq2 (sSl (sC (.str "nothing")) sPN (sPt (sCB oLen (sCons (sVar 0) sNil)))) (sVar 0))) (sRet (sC (.bl true))) sSkip) (sSeq (sAsg (sIf (sTest (sOp oEq2 (sSl (sVar 0) sPN (sPt (sC (.int 1)))) (sC (.str "-")))) (sSl (sVar 0) (sPt (sC (.int 1))) sPN) (sVar 0)) 1) (sSeq (sAsg (sM1 oSplit (sVar 1) (sC (.str "/"))) 2) (sSeq (sIfS (sTest (sOp oGt (sCB oLen (sCons (sVar 2) sNil)) (sC (.int 2)))) (sRet (sC (.bl false))) sSkip) (sSeq (sIfS (sTest (sOp oEq2 (sOp oIx (sVar 2) (sC (.int 0))) (sC (.str "")))) (sRet (sOp oEq2 (sCB oLen (sCons (sVar 2) sNil)) (sC (.int 1)))) sSkip) (sSeq (sIfS (sOrT (sNotT (sTest (sCall (S__law_is_row mg) [] (sCons (sOp oIx (sVar 2) (sC (.int 0))) sNil)))) (sTest (sOp oGt (sCB oLen (sCons (sOp oIx (sVar 2) (sC (.int 0))) sNil)) (sC (.int 60))))) (sRet (sC (.bl false))) sSkip) (sSeq (sIfS (sAndT (sTest (sOp oEq2 (sOp oIx (sOp oIx (sVar 2) (sC (.int 0))) (sC (.int 0))) (sC (.str "0")))) (sOrT (sTest (sOp oGt (sCB oLen (sCons (sOp oIx (sVar 2) (sC (.int 0))) sNil)) (sC (.int 1)))) (sTest (sOp oNe2 (sVar 1) (sVar 0))))) (sRet (sC (.bl false))) sSkip) (sSeq (sIfS (sOrT (sTest (sOp oEq2 (sCB oLen (sCons (sVar 2) sNil)) (sC (.int 1)))) (sTest (sOp oEq2 (sOp oIx (sVar 2) (sC (.int 1))) (sC (.str ""))))) (sRet (sC (.bl true))) sSkip) (sRet (sAnd (sCall (S__law_is_row mg) [] (sCons (sOp oIx (sVar 2) (sC (.int 1))) sNil)) (sAnd (sOp oNe2 (sOp oIx (sOp oIx (sVar 2) (sC (.int 1))) (sC (.int 0))) (sC (.str "0"))) (sOp oLe (sCB oLen (sCons (sOp oIx (sVar 2) (sC (.int 1))) sNil)) (sC (.int 60))))))))))))))
theorem g__law_can_begin (fr : Fr mg frees) (F : Fc K mg "_law_can_begin" (df 35) []) (G__law_is_row : Gd P w K T mg base false 1 "_law_is_row" ["_law_text_here"] [] (S__law_is_row mg)) (hlen : ∀ pvs st Q PX, S__law_can_begin mg pvs st Q PX → pvs.length = 1) (hp : ∀ pvs st Q PX, S__law_can_begin mg pvs st Q PX → t__law_can_begin K mg (endOf Q PX) (ini N__law_can_begin pvs) st) :
    Gd P w K T mg base false 2 "_law_can_begin" ["_law_text_here"] [] (S__law_can_begin mg) :=
  g_def (gd := false) (k := 1) (N := N__law_can_begin) F ⟨rfl, rfl, rfl, nd__law_can_begin, rfl, by decide +kernel, by decide +kernel⟩ (fun _ _ _ _ _ _ us hl => match us, hl with | [_], _ => rfl) hlen fun f cdv A outer sh H E hr hgd =>
    ⟨t__law_can_begin K mg, by unfold t__law_can_begin; exact (z_cons (s_if (t_cmp (OpR.or op_eq (op_eqD (hu_of4 hr))) os_eq2 (w_sl w_str o_none (o_some (c_len (fr "len" (.tail _ (.tail _ (.head _)))) (a_cons (w_var 0) a_nil)))) (w_var 0) (nomark _)) (z_one (s_ret w_bl)) z_nil) (z_cons (s_asg nd__law_can_begin rfl (.inl rfl) (w_if (t_cmp (OpR.or op_eq (op_eqD (hu_of4 hr))) os_eq2 (w_sl (w_var 0) o_none (o_some w_int)) w_str (nomark _)) (w_sl (w_var 0) (o_some w_int) o_none) (w_var 0))) (z_cons (s_asg nd__law_can_begin rfl (.inl rfl) (w_split (w_var 1) w_str)) (z_cons (s_if (t_cmp op_gt os_B0 (c_len (fr "len" (.tail _ (.tail _ (.head _)))) (a_cons (w_var 2) a_nil)) w_int (nomark _)) (z_one (s_ret w_bl)) z_nil) (z_cons (s_if (t_cmp (OpR.or op_eq (op_eqD (hu_of4 hr))) os_eq2 (w_ix (w_var 2) w_int) w_str (nomark _)) (z_one (s_ret (w_eq2 (hu_of4 hr) (c_len (fr "len" (.tail _ (.tail _ (.head _)))) (a_cons (w_var 2) a_nil)) w_int))) z_nil) (z_cons (s_if (t_w (t_or (t_not (t_val (w_cg G__law_is_row hr (by decide) Gu.no (takes_of rfl rfl rfl rfl) (a_cons (w_ix (w_var 2) w_int) a_nil)))) (t_or1 (t_cmp op_gt os_B0 (c_len (fr "len" (.tail _ (.tail _ (.head _)))) (a_cons (w_ix (w_var 2) w_int) a_nil)) w_int (nomark _))))) (z_one (s_ret w_bl)) z_nil) (z_cons (s_if (t_w (t_and (t_cmp (OpR.or op_eq (op_eqD (hu_of4 hr))) os_eq2 (w_ix (w_ix (w_var 2) w_int) w_int) w_str (nomark _)) (t_and1 (t_w (t_or (t_cmp op_gt os_B0 (c_len (fr "len" (.tail _ (.tail _ (.head _)))) (a_cons (w_ix (w_var 2) w_int) a_nil)) w_int (nomark _)) (t_or1 (t_cmp (OpR.or op_ne (op_neD (hu_of4 hr))) os_ne2 (w_var 1) (w_var 0) (nomark _)))))))) (z_one (s_ret w_bl)) z_nil) (z_cons (s_if (t_w (t_or (t_cmp (OpR.or op_eq (op_eqD (hu_of4 hr))) os_eq2 (c_len (fr "len" (.tail _ (.tail _ (.head _)))) (a_cons (w_var 2) a_nil)) w_int (nomark _)) (t_or1 (t_cmp (OpR.or op_eq (op_eqD (hu_of4 hr))) os_eq2 (w_ix (w_var 2) w_int) w_str (nomark _))))) (z_one (s_ret w_bl)) z_nil) (z_one (s_ret (w_andV (w_cg G__law_is_row hr (by decide) Gu.no (takes_of rfl rfl rfl rfl) (a_cons (w_ix (w_var 2) w_int) a_nil)) (w_andV (w_ne2 (hu_of4 hr) (w_ix (w_ix (w_var 2) w_int) w_int) w_str) (w_and1 (w_le (c_len (fr "len" (.tail _ (.tail _ (.head _)))) (a_cons (w_ix (w_var 2) w_int) a_nil)) w_int)))))))))))))), hp⟩
/-! ### _law_due -/
abbrev N__law_due : List Str := ["_law_text_here", "_law_at", "_law_parts"]
theorem nd__law_due : N__law_due.Nodup := by decide +kernel
def t__law_due (K : PySem.W.Frag) (mg : Str → Option Value) : SemS := (sSeq (sForR1 (sCB oLen (sCons (sVar 0) sNil)) (kName 1) (sIfS (sNotT (sTest (sCall (S__law_can_begin mg) [] (sCons (sSl (sVar 0) sPN (sPt (sOp oAdd (sVar 1) (sC (.int 1))))) sNil)))) (sRet (sVar 1)) sSkip)) (sSeq (sIfS (sTest (sOp oEq2 (sVar 0) (sC (.str "nothing")))) (sRet (sLst (sCons (sC .non) sNil))) sSkip) (sSeq (sAsg (sM1 oSplit (sVar 0) (sC (.str "/"))) 2) (sSeq (sIfS (sOrT (sTest (sOp oEq2 (sSl (sVar 0) sPN (sPt (sC (.int 1)))) (sC (.str "n")))) (sTest (sOp (oInT false) (sOp oIx (sVar 2) (sNeg (sC (.int 1)))) (sTup (sCons (sC (.str "")) (sCons (sC (.str "-")) sNil)))))) (sRet (sCB oLen (sCons (sVar 0) sNil))) sSkip) (sRet (sLst (sCons (sCall (S__law_lowest mg) [] (sCons (sCB oInt2 (sCons (sOp oIx (sVar 2) (sC (.int 0))) sNil)) (sCons (sIf (sTest (sOp oGt (sCB oLen (sCons (sVar 2) sNil)) (sC (.int 1)))) (sCB oInt2 (sCons (sOp oIx (sVar 2) (sC (.int 1))) sNil)) (sC (.int 1))) sNil))) sNil)))))))
theorem g__law_due (fr : Fr mg frees) (F : Fc K mg "_law_due" (df 36) []) (G__law_lowest : Gd P w K T mg base false 1 "_law_lowest" ["_law_top", "_law_bottom"] [] (S__law_lowest mg)) (G__law_can_begin : Gd P w K T mg base false 2 "_law_can_begin" ["_law_text_here"] [] (S__law_can_begin mg)) (hlen : ∀ pvs st Q PX, S__law_due mg pvs st Q PX → pvs.length = 1) (hp : ∀ pvs st Q PX, S__law_due mg pvs st Q PX → t__law_due K mg (endOf Q PX) (ini N__law_due pvs) st) :
    Gd P w K T mg base false 3 "_law_due" ["_law_text_here"] [] (S__law_due mg) :=
  g_def (gd := false) (k := 2) (N := N__law_due) F ⟨rfl, rfl, rfl, nd__law_due, rfl, by decide +kernel, by decide +kernel⟩ (fun _ _ _ _ _ _ us hl => match us, hl with | [_], _ => rfl) hlen fun f cdv A outer sh H E hr hgd =>
    ⟨t__law_due K mg, by unfold t__law_due; exact (z_cons (s_forR1 (passes_of rfl) rfl rfl (fr "range" (.tail _ (.tail _ (.tail _ (.tail _ (.head _)))))) (c_len (fr "len" (.tail _ (.tail _ (.head _)))) (a_cons (w_var 0) a_nil)) (g_name nd__law_due rfl (.inl rfl)) (z_one (s_if (t_not (t_val (w_cg G__law_can_begin hr (by decide) Gu.no (takes_of rfl rfl rfl rfl) (a_cons (w_sl (w_var 0) o_none (o_some (w_add (w_var 1) w_int))) a_nil)))) (z_one (s_ret (w_var 1))) z_nil))) (z_cons (s_if (t_cmp (OpR.or op_eq (op_eqD (hu_of4 hr))) os_eq2 (w_var 0) w_str (nomark _)) (z_one (s_ret (w_lst (a_cons w_non a_nil)))) z_nil) (z_cons (s_asg nd__law_due rfl (.inl rfl) (w_split (w_var 0) w_str)) (z_cons (s_if (t_w (t_or (t_cmp (OpR.or op_eq (op_eqD (hu_of4 hr))) os_eq2 (w_sl (w_var 0) o_none (o_some w_int)) w_str (nomark _)) (t_or1 (t_cmp op_in_seq os_inT (w_ix (w_var 2) (w_neg w_int)) (w_tup (a_cons w_str (a_cons w_str a_nil))) rfl)))) (z_one (s_ret (c_len (fr "len" (.tail _ (.tail _ (.head _)))) (a_cons (w_var 0) a_nil)))) z_nil) (z_one (s_ret (w_lst (a_cons (w_cg G__law_lowest hr (by decide) Gu.no (takes_of rfl rfl rfl rfl) (a_cons (c_int2 (fr "int" (.tail _ (.head _))) (a_cons (w_ix (w_var 2) w_int) a_nil)) (a_cons (w_if (t_cmp op_gt os_B0 (c_len (fr "len" (.tail _ (.tail _ (.head _)))) (a_cons (w_var 2) a_nil)) w_int (nomark _)) (c_int2 (fr "int" (.tail _ (.head _))) (a_cons (w_ix (w_var 2) w_int) a_nil)) w_int) a_nil))) a_nil)))))))), hp⟩
/-! ### _law_told -/
abbrev N__law_told : List Str := ["_law_text_here", "e"]
theorem nd__law_told : N__law_told.Nodup := by decide +kernel
def t__law_told (K : PySem.W.Frag) (mg : Str → Option Value) : SemS := (sTry K (sRet (sLst (sCons (sCall (S_read_worth mg) [] (sCons (sVar 0) sNil)) sNil))) [(.ref (ad mg "ParseError"), some 1, fun a cls d => (sRet (sXf a cls d (ad mg "ParseError") "spot" (sVar 1))))])
theorem g__law_told (fr : Fr mg frees) (F : Fc K mg "_law_told" (df 37) []) (y_ParseError : XfI K mg "ParseError" "spot") (G_read_worth : Gd P w K T mg base false 3 "read_worth" ["text"] [] (S_read_worth mg)) (hlen : ∀ pvs st Q PX, S__law_told mg pvs st Q PX → pvs.length = 1) (hp : ∀ pvs st Q PX, S__law_told mg pvs st Q PX → t__law_told K mg (endOf Q PX) (ini N__law_told pvs) st) :
    Gd P w K T mg base false 4 "_law_told" ["_law_text_here"] [] (S__law_told mg) :=
  g_def (gd := false) (k := 3) (N := N__law_told) F ⟨rfl, rfl, rfl, nd__law_told, rfl, by decide +kernel, by decide +kernel⟩ (fun _ _ _ _ _ _ us hl => match us, hl with | [_], _ => rfl) hlen fun f cdv A outer sh H E hr hgd =>
    ⟨t__law_told K mg, by unfold t__law_told; exact (z_one (s_try rfl rfl (takes_of rfl rfl rfl rfl) (fun W_ pn_ xe_ tk_ hpx_ => (z_one (s_ret (w_lst (a_cons (w_cg G_read_worth hr (by decide) Gu.no tk_ (a_cons (w_var 0) a_nil)) a_nil))))) (.named (i := 1) (nm_own (y_ParseError.2.2) rfl) nd__law_told rfl rfl (fun a oe cls d pn hz hf => (z_one (s_ret (w_xf y_ParseError.1 y_ParseError.2.1 hz hf (w_var 1))))) .nil))), hp⟩
/-! ### _law_spoilt -/
abbrev N__law_spoilt : List Str := ["_law_dice_here", "_law_text_here", "_law_way", "_law_at", "_law_sign"]
theorem nd__law_spoilt : N__law_spoilt.Nodup := by decide +kernel
def t__law_spoilt (K : PySem.W.Frag) (mg : Str → Option Value) : SemS := (sSeq (sPar 3 4 (sCall (S__law_roll mg) [] (sCons (sVar 0) (sCons (sOp oAdd (sCB oLen (sCons (sVar 1) sNil)) (sC (.int 1))) sNil))) (sCall (S__law_one_of mg) [] (sCons (sVar 0) (sCons (sCB oList (sCons (sC (.str "0123456789--//0 +.nx")) sNil)) sNil)))) (sSeq (sAsg (sCall (S__law_roll mg) [] (sCons (sVar 0) (sCons (sC (.int 5)) sNil))) 2) (sSeq (sIfS (sTest (sOp oEq2 (sVar 2) (sC (.int 0)))) (sRet (sSl (sVar 1) sPN (sPt (sVar 3)))) sSkip) (sSeq (sIfS (sTest (sOp oEq2 (sVar 2) (sC (.int 1)))) (sRet (sOp oAdd (sSl (sVar 1) sPN (sPt (sVar 3))) (sSl (sVar 1) (sPt (sOp oAdd (sVar 3) (sC (.int 1)))) sPN))) sSkip) (sSeq (sIfS (sTest (sOp oEq2 (sVar 2) (sC (.int 2)))) (sRet (sOp oAdd (sOp oAdd (sSl (sVar 1) sPN (sPt (sVar 3))) (sVar 4)) (sSl (sVar 1) (sPt (sVar 3)) sPN))) sSkip) (sRet (sOp oAdd (sOp oAdd (sSl (sVar 1) sPN (sPt (sVar 3))) (sVar 4)) (sSl (sVar 1) (sPt (sOp oAdd (sVar 3) (sC (.int 1)))) sPN))))))))
theorem g__law_spoilt (fr : Fr mg frees) (F : Fc K mg "_law_spoilt" (df 38) []) (G__law_roll : Gd P w K T mg base false 1 "_law_roll" ["_law_dice_here", "_law_total"] [] (S__law_roll mg)) (G__law_one_of : Gd P w K T mg base false 2 "_law_one_of" ["_law_dice_here", "_law_items"] [] (S__law_one_of mg)) (hlen : ∀ pvs st Q PX, S__law_spoilt mg pvs st Q PX → pvs.length = 2) (hp : ∀ pvs st Q PX, S__law_spoilt mg pvs st Q PX → t__law_spoilt K mg (endOf Q PX) (ini N__law_spoilt pvs) st) :
    Gd P w K T mg base false 3 "_law_spoilt" ["_law_dice_here", "_law_text_here"] [] (S__law_spoilt mg) :=
  g_def (gd := false) (k := 2) (N := N__law_spoilt) F ⟨rfl, rfl, rfl, nd__law_spoilt, rfl, by decide +kernel, by decide +kernel⟩ (fun _ _ _ _ _ _ us hl => match us, hl with | [_, _], _ => rfl) hlen fun f cdv A outer sh H E hr hgd =>
    ⟨t__law_spoilt K mg, by unfold t__law_spoilt; exact (z_cons (s_par rfl nd__law_spoilt rfl rfl (by decide) rfl rfl (w_cg G__law_roll hr (by decide) Gu.no (takes_of rfl rfl rfl rfl) (a_cons (w_var 0) (a_cons (w_add (c_len (fr "len" (.tail _ (.tail _ (.head _)))) (a_cons (w_var 1) a_nil)) w_int) a_nil))) (w_cg G__law_one_of hr (by decide) Gu.no (takes_of rfl rfl rfl rfl) (a_cons (w_var 0) (a_cons (c_list rfl (fr "list" (.tail _ (.tail _ (.tail _ (.tail _ (.tail _ (.tail _ (.tail _ (.tail _ (.head _)))))))))) (a_cons w_str a_nil)) a_nil)))) (z_cons (s_asg nd__law_spoilt rfl (.inl rfl) (w_cg G__law_roll hr (by decide) Gu.no (takes_of rfl rfl rfl rfl) (a_cons (w_var 0) (a_cons w_int a_nil)))) (z_cons (s_if (t_cmp (OpR.or op_eq (op_eqD (hu_of4 hr))) os_eq2 (w_var 2) w_int (nomark _)) (z_one (s_ret (w_sl (w_var 1) o_none (o_some (w_var 3))))) z_nil) (z_cons (s_if (t_cmp (OpR.or op_eq (op_eqD (hu_of4 hr))) os_eq2 (w_var 2) w_int (nomark _)) (z_one (s_ret (w_add (w_sl (w_var 1) o_none (o_some (w_var 3))) (w_sl (w_var 1) (o_some (w_add (w_var 3) w_int)) o_none)))) z_nil) (z_cons (s_if (t_cmp (OpR.or op_eq (op_eqD (hu_of4 hr))) os_eq2 (w_var 2) w_int (nomark _)) (z_one (s_ret (w_add (w_add (w_sl (w_var 1) o_none (o_some (w_var 3))) (w_var 4)) (w_sl (w_var 1) (o_some (w_var 3)) o_none)))) z_nil) (z_one (s_ret (w_add (w_add (w_sl (w_var 1) o_none (o_some (w_var 3))) (w_var 4)) (w_sl (w_var 1) (o_some (w_add (w_var 3) w_int)) o_none))))))))), hp⟩
/-! ### _law_text -/
abbrev N__law_text : List Str := ["_law_dice_here", "_law_text_here"]
theorem nd__law_text : N__law_text.Nodup := by decide +kernel
def t__law_text (K : PySem.W.Frag) (mg : Str → Option Value) : SemS := (sSeq (sIfS (sTest (sOp oEq2 (sCall (S__law_roll mg) [] (sCons (sVar 0) (sCons (sC (.int 6)) sNil))) (sC (.int 0)))) (sRet (sC (.str "nothing"))) sSkip) (sSeq (sAsg (sCB oStr (sCons (sCall (S__law_integer mg) [] (sCons (sVar 0) sNil)) sNil)) 1) (sSeq (sIfS (sAndT (sTest (sOp oEq2 (sCall (S__law_roll mg) [] (sCons (sVar 0) (sCons (sC (.int 3)) sNil))) (sC (.int 0)))) (sTest (sOp oNe2 (sVar 1) (sC (.str "0"))))) (sAsg (sOp oAdd (sC (.str "-")) (sVar 1)) 1) sSkip) (sRet (sIf (sTest (sOp oEq2 (sCall (S__law_roll mg) [] (sCons (sVar 0) (sCons (sC (.int 2)) sNil))) (sC (.int 0)))) (sVar 1) (sOp oAdd (sOp oAdd (sVar 1) (sC (.str "/"))) (sSl (sCB oStr (sCons (sOp oAdd (sC (.int 1)) (sCall (S__law_integer mg) [] (sCons (sVar 0) sNil))) sNil)) sPN (sPt (sC (.int 60))))))))))
theorem g__law_text (fr : Fr mg frees) (F : Fc K mg "_law_text" (df 39) []) (G__law_roll : Gd P w K T mg base false 1 "_law_roll" ["_law_dice_here", "_law_total"] [] (S__law_roll mg)) (G__law_integer : Gd P w K T mg base false 3 "_law_integer" ["_law_dice_here"] [] (S__law_integer mg)) (hlen : ∀ pvs st Q PX, S__law_text mg pvs st Q PX → pvs.length = 1) (hp : ∀ pvs st Q PX, S__law_text mg pvs st Q PX → t__law_text K mg (endOf Q PX) (ini N__law_text pvs) st) :
    Gd P w K T mg base false 4 "_law_text" ["_law_dice_here"] [] (S__law_text mg) :=
  g_def (gd := false) (k := 3) (N := N__law_text) F ⟨rfl, rfl, rfl, nd__law_text, rfl, by decide +kernel, by decide +kernel⟩ (fun _ _ _ _ _ _ us hl => match us, hl with | [_], _ => rfl) hlen fun f cdv A outer sh H E hr hgd =>
    ⟨t__law_text K mg, by unfold t__law_text; exact (z_cons (s_if (t_cmp (OpR.or op_eq (op_eqD (hu_of4 hr))) os_eq2 (w_cg G__law_roll hr (by decide) Gu.no (takes_of rfl rfl rfl rfl) (a_cons (w_var 0) (a_cons w_int a_nil))) w_int (nomark _)) (z_one (s_ret w_str)) z_nil) (z_cons (s_asg nd__law_text rfl (.inl rfl) (c_str (fr "str" (.tail _ (.tail _ (.tail _ (.tail _ (.tail _ (.head _))))))) (a_cons (w_cg G__law_integer hr (by decide) Gu.no (takes_of rfl rfl rfl rfl) (a_cons (w_var 0) a_nil)) a_nil))) (z_cons (s_if (t_w (t_and (t_cmp (OpR.or op_eq (op_eqD (hu_of4 hr))) os_eq2 (w_cg G__law_roll hr (by decide) Gu.no (takes_of rfl rfl rfl rfl) (a_cons (w_var 0) (a_cons w_int a_nil))) w_int (nomark _)) (t_and1 (t_cmp (OpR.or op_ne (op_neD (hu_of4 hr))) os_ne2 (w_var 1) w_str (nomark _))))) (z_one (s_asg nd__law_text rfl (.inl rfl) (w_add w_str (w_var 1)))) z_nil) (z_one (s_ret (w_if (t_cmp (OpR.or op_eq (op_eqD (hu_of4 hr))) os_eq2 (w_cg G__law_roll hr (by decide) Gu.no (takes_of rfl rfl rfl rfl) (a_cons (w_var 0) (a_cons w_int a_nil))) w_int (nomark _)) (w_var 1) (w_add (w_add (w_var 1) w_str) (w_sl (c_str (fr "str" (.tail _ (.tail _ (.tail _ (.tail _ (.tail _ (.head _))))))) (a_cons (w_add w_int (w_cg G__law_integer hr (by decide) Gu.no (takes_of rfl rfl rfl rfl) (a_cons (w_var 0) a_nil))) a_nil)) o_none (o_some w_int))))))))), hp⟩
/-! ### _law_right -/
abbrev N__law_right : List Str := ["_law_dice_here", "_law_number", "_law_great", "_law_turn", "_law_odd", "_law_text_here", "_law_more"]
theorem nd__law_right : N__law_right.Nodup := by decide +kernel
def t__law_right (K : PySem.W.Frag) (mg : Str → Option Value) : SemS := (sSeq (sAsg (sCall (S__law_lowest mg) [] (sCons (sOp oMul (sCall (S__law_one_of mg) [] (sCons (sVar 0) (sCons (sLst (sCons (sNeg (sC (.int 1))) (sCons (sC (.int 1)) sNil))) sNil))) (sCall (S__law_integer mg) [] (sCons (sVar 0) sNil))) (sCons (sCall (S__law_one_of mg) [] (sCons (sVar 0) (sCons (sLst (sCons (sC (.int 1)) (sCons (sC (.int 1)) (sCons (sC (.int 2)) (sCons (sC (.int 30)) (sCons (sOp oAdd (sOp oPow (sC (.int 10)) (sC (.int 40))) (sC (.int 7))) sNil)))))) sNil))) sNil))) 1) (sSeq (sIfS (sOrT (sTest (sOp oNe2 (sCall (S_worth_text mg) [] (sCons (sVar 1) sNil)) (sCall (S__law_written mg) [] (sCons (sVar 1) sNil)))) (sTest (sOp oNe2 (sCall (S_worth_text mg) [] (sCons (sC .non) sNil)) (sC (.str "nothing"))))) (sRet (sC (.bl false))) sSkip) (sSeq (sIfS (sTest (sOp oNe2 (sCall (S_read_worth mg) [] (sCons (sCall (S_worth_text mg) [] (sCons (sVar 1) sNil)) sNil)) (sVar 1))) (sRet (sC (.bl false))) sSkip) (sSeq (sAsg (sTup (sCons (sOp oAdd (sOp oPow (sC (.int 10)) (sC (.int 60))) (sCall (S__law_roll mg) [] (sCons (sVar 0) (sCons (sC (.int 9)) sNil)))) (sCons (sC (.int 1)) sNil))) 2) (sSeq (sIfS (sOrT (sTest (sOp oNe2 (sCall (S__law_told mg) [] (sCons (sCall (S_worth_text mg) [] (sCons (sVar 2) sNil)) sNil)) (sC (.int 60)))) (sTest (sOp oNe2 (sCall (S__law_told mg) [] (sCons (sCall (S_worth_text mg) [] (sCons (sCall (S_plus mg) [] (sCons (sVar 2) (sCons (sTup (sCons (sC (.int 1)) (sCons (sC (.int 7)) sNil))) sNil))) sNil)) sNil)) (sC (.int 60))))) (sRet (sC (.bl false))) sSkip) (sSeq (sForR1 (sC (.int 6)) (kName 3) (sSeq (sAsg (sCall (S__law_text mg) [] (sCons (sVar 0) sNil)) 5) (sSeq (sIfS (sTest (sOp oNe2 (sCall (S__law_told mg) [] (sCons (sVar 5) sNil)) (sCall (S__law_due mg) [] (sCons (sVar 5) sNil)))) (sRet (sC (.bl false))) sSkip) (sForR1 (sOp oAdd (sC (.int 1)) (sCall (S__law_roll mg) [] (sCons (sVar 0) (sCons (sC (.int 2)) sNil)))) (kName 6) (sSeq (sAsg (sCall (S__law_spoilt mg) [] (sCons (sVar 0) (sCons (sVar 5) sNil))) 5) (sIfS (sTest (sOp oNe2 (sCall (S__law_told mg) [] (sCons (sVar 5) sNil)) (sCall (S__law_due mg) [] (sCons (sVar 5) sNil)))) (sRet (sC (.bl false))) sSkip)))))) (sSeq (sAsg (sCall (S__law_one_of mg) [] (sCons (sVar 0) (sCons (sLst (sCons (sC .non) (sCons (sC (.int 5)) (sCons (sTup (sCons (sC (.str "1")) sNil)) (sCons (sLst (sCons (sC (.str "1")) sNil)) (sCons (sC (.bl true)) (sCons (sTup (sCons (sC (.int 1)) (sCons (sC (.int 2)) sNil))) sNil))))))) sNil))) 4) (sSeq (sIfS (sTest (sOp (oIs true) (sCall (S__law_told mg) [] (sCons (sVar 4) sNil)) (sC .non))) (sRet (sC (.bl false))) sSkip) (sSeq (sTry K (sDrop (sCall (S_worth_text mg) [] (sCons (sCall (S__law_one_of mg) [] (sCons (sVar 0) (sCons (sLst (sCons (sTup (sCons (sC (.int 2)) (sCons (sC (.int 4)) sNil))) (sCons (sC (.str "1/2")) (sCons (sC (.int 5)) (sCons (sTup (sCons (sC (.int 1)) (sCons (sC (.int 0)) sNil))) (sCons (sTup (sCons (sC (.bl true)) (sCons (sC (.int 1)) sNil))) (sCons (sTup sNil) sNil))))))) sNil))) sNil))) [(.ref (ad mg "InvalidWorth"), none, fun a cls d => (sRet (sC (.bl true))))]) (sRet (sC (.bl false))))))))))))
theorem g__law_right (fr : Fr mg frees) (F : Fc K mg "_law_right" (df 40) []) (x_InvalidWorth : ExI K mg "InvalidWorth" "message") (G__law_lowest : Gd P w K T mg base false 1 "_law_lowest" ["_law_top", "_law_bottom"] [] (S__law_lowest mg)) (G__law_one_of : Gd P w K T mg base false 2 "_law_one_of" ["_law_dice_here", "_law_items"] [] (S__law_one_of mg)) (G_read_worth : Gd P w K T mg base false 3 "read_worth" ["text"] [] (S_read_worth mg)) (G__law_text : Gd P w K T mg base false 4 "_law_text" ["_law_dice_here"] [] (S__law_text mg)) (G__law_told : Gd P w K T mg base false 4 "_law_told" ["_law_text_here"] [] (S__law_told mg)) (G_worth_text : Gd P w K T mg base false 5 "worth_text" ["worth"] [] (S_worth_text mg)) (G__law_integer : Gd P w K T mg base false 3 "_law_integer" ["_law_dice_here"] [] (S__law_integer mg)) (G__law_written : Gd P w K T mg base false 1 "_law_written" ["_law_number"] [] (S__law_written mg)) (G__law_roll : Gd P w K T mg base false 1 "_law_roll" ["_law_dice_here", "_law_total"] [] (S__law_roll mg)) (G__law_due : Gd P w K T mg base false 3 "_law_due" ["_law_text_here"] [] (S__law_due mg)) (G__law_spoilt : Gd P w K T mg base false 3 "_law_spoilt" ["_law_dice_here", "_law_text_here"] [] (S__law_spoilt mg)) (G_plus : Gd P w K T mg base false 6 "plus" ["one", "other"] [] (S_plus mg)) (hlen : ∀ pvs st Q PX, S__law_right mg pvs st Q PX → pvs.length = 1) (hp : ∀ pvs st Q PX, S__law_right mg pvs st Q PX → t__law_right K mg (endOf Q PX) (ini N__law_right pvs) st) :
    Gd P w K T mg base false 7 "_law_right" ["_law_dice_here"] [] (S__law_right mg) :=
  g_def (gd := false) (k := 6) (N := N__law_right) F ⟨rfl, rfl, rfl, nd__law_right, rfl, by decide +kernel, by decide +kernel⟩ (fun _ _ _ _ _ _ us hl => match us, hl with | [_], _ => rfl) hlen fun f cdv A outer sh H E hr hgd =>
    ⟨t__law_right K mg, by unfold t__law_right; exact (z_cons (s_asg nd__law_right rfl (.inl rfl) (w_cg G__law_lowest hr (by decide) Gu.no (takes_of rfl rfl rfl rfl) (a_cons (w_mul (w_cg G__law_one_of hr (by decide) Gu.no (takes_of rfl rfl rfl rfl) (a_cons (w_var 0) (a_cons (w_lst (a_cons (w_neg w_int) (a_cons w_int a_nil))) a_nil))) (w_cg G__law_integer hr (by decide) Gu.no (takes_of rfl rfl rfl rfl) (a_cons (w_var 0) a_nil))) (a_cons (w_cg G__law_one_of hr (by decide) Gu.no (takes_of rfl rfl rfl rfl) (a_cons (w_var 0) (a_cons (w_lst (a_cons w_int (a_cons w_int (a_cons w_int (a_cons w_int (a_cons (w_add (w_pow w_int w_int) w_int) a_nil)))))) a_nil))) a_nil)))) (z_cons (s_if (t_w (t_or (t_cmp (OpR.or op_ne (op_neD (hu_of4 hr))) os_ne2 (w_cg G_worth_text hr (by decide) Gu.no (takes_of rfl rfl rfl rfl) (a_cons (w_var 1) a_nil)) (w_cg G__law_written hr (by decide) Gu.no (takes_of rfl rfl rfl rfl) (a_cons (w_var 1) a_nil)) (nomark _)) (t_or1 (t_cmp (OpR.or op_ne (op_neD (hu_of4 hr))) os_ne2 (w_cg G_worth_text hr (by decide) Gu.no (takes_of rfl rfl rfl rfl) (a_cons w_non a_nil)) w_str (nomark _))))) (z_one (s_ret w_bl)) z_nil) (z_cons (s_if (t_cmp (OpR.or op_ne (op_neD (hu_of4 hr))) os_ne2 (w_cg G_read_worth hr (by decide) Gu.no (takes_of rfl rfl rfl rfl) (a_cons (w_cg G_worth_text hr (by decide) Gu.no (takes_of rfl rfl rfl rfl) (a_cons (w_var 1) a_nil)) a_nil)) (w_var 1) (nomark _)) (z_one (s_ret w_bl)) z_nil) (z_cons (s_asg nd__law_right rfl (.inl rfl) (w_tup (a_cons (w_add (w_pow w_int w_int) (w_cg G__law_roll hr (by decide) Gu.no (takes_of rfl rfl rfl rfl) (a_cons (w_var 0) (a_cons w_int a_nil)))) (a_cons w_int a_nil)))) (z_cons (s_if (t_w (t_or (t_cmp (OpR.or op_ne (op_neD (hu_of4 hr))) os_ne2 (w_cg G__law_told hr (by decide) Gu.no (takes_of rfl rfl rfl rfl) (a_cons (w_cg G_worth_text hr (by decide) Gu.no (takes_of rfl rfl rfl rfl) (a_cons (w_var 2) a_nil)) a_nil)) w_int (nomark _)) (t_or1 (t_cmp (OpR.or op_ne (op_neD (hu_of4 hr))) os_ne2 (w_cg G__law_told hr (by decide) Gu.no (takes_of rfl rfl rfl rfl) (a_cons (w_cg G_worth_text hr (by decide) Gu.no (takes_of rfl rfl rfl rfl) (a_cons (w_cg G_plus hr (by decide) Gu.no (takes_of rfl rfl rfl rfl) (a_cons (w_var 2) (a_cons (w_tup (a_cons w_int (a_cons w_int a_nil))) a_nil))) a_nil)) a_nil)) w_int (nomark _))))) (z_one (s_ret w_bl)) z_nil) (z_cons (s_forR1 (passes_of rfl) rfl rfl (fr "range" (.tail _ (.tail _ (.tail _ (.tail _ (.head _)))))) w_int (g_name nd__law_right rfl (.inl rfl)) (z_cons (s_asg nd__law_right rfl (.inl rfl) (w_cg G__law_text hr (by decide) Gu.no (takes_of rfl rfl rfl rfl) (a_cons (w_var 0) a_nil))) (z_cons (s_if (t_cmp (OpR.or op_ne (op_neD (hu_of4 hr))) os_ne2 (w_cg G__law_told hr (by decide) Gu.no (takes_of rfl rfl rfl rfl) (a_cons (w_var 5) a_nil)) (w_cg G__law_due hr (by decide) Gu.no (takes_of rfl rfl rfl rfl) (a_cons (w_var 5) a_nil)) (nomark _)) (z_one (s_ret w_bl)) z_nil) (z_one (s_forR1 (passes_of rfl) rfl rfl (fr "range" (.tail _ (.tail _ (.tail _ (.tail _ (.head _)))))) (w_add w_int (w_cg G__law_roll hr (by decide) Gu.no (takes_of rfl rfl rfl rfl) (a_cons (w_var 0) (a_cons w_int a_nil)))) (g_name nd__law_right rfl (.inl rfl)) (z_cons (s_asg nd__law_right rfl (.inl rfl) (w_cg G__law_spoilt hr (by decide) Gu.no (takes_of rfl rfl rfl rfl) (a_cons (w_var 0) (a_cons (w_var 5) a_nil)))) (z_one (s_if (t_cmp (OpR.or op_ne (op_neD (hu_of4 hr))) os_ne2 (w_cg G__law_told hr (by decide) Gu.no (takes_of rfl rfl rfl rfl) (a_cons (w_var 5) a_nil)) (w_cg G__law_due hr (by decide) Gu.no (takes_of rfl rfl rfl rfl) (a_cons (w_var 5) a_nil)) (nomark _)) (z_one (s_ret w_bl)) z_nil)))))))) (z_cons (s_asg nd__law_right rfl (.inl rfl) (w_cg G__law_one_of hr (by decide) Gu.no (takes_of rfl rfl rfl rfl) (a_cons (w_var 0) (a_cons (w_lst (a_cons w_non (a_cons w_int (a_cons (w_tup (a_cons w_str a_nil)) (a_cons (w_lst (a_cons w_str a_nil)) (a_cons w_bl (a_cons (w_tup (a_cons w_int (a_cons w_int a_nil))) a_nil))))))) a_nil)))) (z_cons (s_if (t_cmp (OpR.or op_notN op_notTyB) os_isnot (w_cg G__law_told hr (by decide) Gu.no (takes_of rfl rfl rfl rfl) (a_cons (w_var 4) a_nil)) w_non (nomark _)) (z_one (s_ret w_bl)) z_nil) (z_cons (s_try rfl rfl (takes_of rfl rfl rfl rfl) (fun W_ pn_ xe_ tk_ hpx_ => (z_one (s_drop (w_cg G_worth_text hr (by decide) Gu.no tk_ (a_cons (w_cg G__law_one_of hr (by decide) Gu.no tk_ (a_cons (w_var 0) (a_cons (w_lst (a_cons (w_tup (a_cons w_int (a_cons w_int a_nil))) (a_cons w_str (a_cons w_int (a_cons (w_tup (a_cons w_int (a_cons w_int a_nil))) (a_cons (w_tup (a_cons w_bl (a_cons w_int a_nil))) (a_cons (w_tup a_nil) a_nil))))))) a_nil))) a_nil))))) (.cons (nm_own (exi_mg x_InvalidWorth) rfl) (fun a oe cls d pn hz hf => (z_one (s_ret w_bl))) .nil)) (z_one (s_ret w_bl))))))))))), hp⟩
/-! ### law -/
abbrev N_law : List Str := ["_law_script", "_law_at"]
theorem nd_law : N_law.Nodup := by decide +kernel
def t_law (K : PySem.W.Frag) (mg : Str → Option Value) : SemS := (sSeq (sForR1 (sCB oMax (sCons (sC (.int 1)) (sCons (sCB oMin (sCons (sC (.int 4)) (sCons (sCB oLen (sCons (sVar 0) sNil)) sNil))) sNil))) (kName 1) (sIfS (sNotT (sTest (sCall (S__law_right mg) [] (sCons (sCall (S__law_dice mg) [] (sCons (sVar 0) (sCons (sVar 1) sNil))) sNil)))) (sRet (sC (.bl false))) sSkip)) (sRet (sC (.bl true))))
theorem g_law (fr : Fr mg frees) (F : Fc K mg "law" (df 41) []) (G__law_right : Gd P w K T mg base false 7 "_law_right" ["_law_dice_here"] [] (S__law_right mg)) (G__law_dice : Gd P w K T mg base false 1 "_law_dice" ["_law_script", "_law_at"] [] (S__law_dice mg)) (hlen : ∀ pvs st Q PX, S_law mg pvs st Q PX → pvs.length = 1) (hp : ∀ pvs st Q PX, S_law mg pvs st Q PX → t_law K mg (endOf Q PX) (ini N_law pvs) st) :
    Gd P w K T mg base false 8 "law" ["_law_script"] [] (S_law mg) :=
  g_def (gd := false) (k := 7) (N := N_law) F ⟨rfl, rfl, rfl, nd_law, rfl, by decide +kernel, by decide +kernel⟩ (fun _ _ _ _ _ _ us hl => match us, hl with | [_], _ => rfl) hlen fun f cdv A outer sh H E hr hgd =>
    ⟨t_law K mg, by unfold t_law; exact (z_cons (s_forR1 (passes_of rfl) rfl rfl (fr "range" (.tail _ (.tail _ (.tail _ (.tail _ (.head _)))))) (c_max rfl (fr "max" (.tail _ (.tail _ (.tail _ (.tail _ (.tail _ (.tail _ (.head _)))))))) (a_cons w_int (a_cons (c_min rfl (fr "min" (.tail _ (.tail _ (.tail _ (.tail _ (.tail _ (.tail _ (.tail _ (.head _))))))))) (a_cons w_int (a_cons (c_len (fr "len" (.tail _ (.tail _ (.head _)))) (a_cons (w_var 0) a_nil)) a_nil))) a_nil))) (g_name nd_law rfl (.inl rfl)) (z_one (s_if (t_not (t_val (w_cg G__law_right hr (by decide) Gu.no (takes_of rfl rfl rfl rfl) (a_cons (w_cg G__law_dice hr (by decide) Gu.no (takes_of rfl rfl rfl rfl) (a_cons (w_var 0) (a_cons (w_var 1) a_nil))) a_nil)))) (z_one (s_ret w_bl)) z_nil))) (z_one (s_ret w_bl))), hp⟩
end
end K1
set_option Elab.async false
set_option linter.all false
set_option maxRecDepth 100000
set_option maxHeartbeats 1000000
namespace K1
open PySem PySem.Spec PyProof.Rows L2 Sm Wm Cm Kt Tm
section
variable {K : PySem.W.Frag} {mg : Str → Option Value}
theorem b1000 {n : Nat} (h : n ≤ 1000) : n ≤ 100000 := by omega
theorem mem_z (c : Nat) (z : Bool) : decide (c ∈ (if z = true then D10 else D9)) = (dig c && (z || decide (c ≠ 48))) := by
  cases z
  · exact mem9 c
  · rw [if_pos rfl]
    show decide (c ∈ D10) = (dig c && (true || decide (c ≠ 48)))
    rw [Bool.true_or, Bool.and_true]
    exact mem10 c
theorem cnt_cons (k i c : Nat) (r : List Nat) : Kt.cnt k i (c :: r) = if dig c = true then (if k = 60 then .inl i else Kt.cnt (k + 1) (i + 1) r) else .inr i := rfl
theorem dig_loop (Q : Sm.PK) (PX : Sm.XP) (l : List Nat) (b : Nat) (fs : PV) (st : Store) (hl : l.length ≤ 1000) :
    (∀ i, cnt 1 (b + 1) (l.drop (b + 1)) = .inl i → PX (exP mg (.int (i : Nat))) st) → (∀ e, cnt 1 (b + 1) (l.drop (b + 1)) = .inr e → Q (.int (e : Nat)) st) → b < l.length →
    sWhile (sAndT (sTest (sOp oLt (sVar 3) (sCB oLen (sCons (sVar 0) sNil)))) (sTest (sOp (oInS false) (sOp oIx (sVar 0) (sVar 3)) (sC (.str (SX.S [48, 49, 50, 51, 52, 53, 54, 55, 56, 57])))))) (sSeq (sIfS (sTest (sOp oEq2 (sOp oSub (sVar 3) (sVar 1)) (sC (.int 60)))) (sRaise (ad mg "ParseError") "spot" (sCons (sVar 3) sNil)) sSkip) (sAug 3 (oI0 fun i j => .int (i + j)) (sC (.int 1))))
      { endOf Q PX with nx := sRet (sVar 3) (endOf Q PX) } [some (tx l), some (.int b), some fs, some (.int ((b : Int) + 1))] st := by
  intro hx hq hb
  refine ⟨fun n ρ s => ∃ e : Nat, n = l.length - e ∧ b < e ∧ e ≤ l.length ∧ e - b ≤ 60 ∧ ρ = [some (tx l), some (.int b), some fs, some (.int (e : Nat))] ∧ s = st ∧ cnt (e - b) e (l.drop e) = cnt 1 (b + 1) (l.drop (b + 1)), ⟨_, b + 1, rfl, by omega, by omega, by omega, rfl, rfl, by rw [show b + 1 - b = 1 by omega]⟩, ?_⟩
  rintro n ρ s ⟨e, rfl, h1, h2, h3, rfl, rfl, hc⟩
  simp only [sRet, sSeq, sAsg, sIfS, sSkip, sPar, sAsgG, sDrop, sRaise, sOp, sCB, sCons, sNil, sVar, sC, sTup, sLst, sNew, sNeg, sNot, sTest, sNotT, sAndT, sOrT, sAnd, sOr, sIf, sChain, sBits, sCall, ini, endOf, kName, kTup2, oAdd, oI, oI0, oIs, isNon_non, isNon_tup, isNon_int, oIx, oLen, oAbs, oInt, oGcd, oType, oEq_ii, oNe_ii, oEq_enc, oNe_enc, oEq_tt, oNe_tt, atI_0, atI_1, List.map_cons, List.map_nil, List.length_cons, List.length_nil, List.cons_append, List.nil_append, List.append_nil, List.replicate_succ, List.replicate_zero, List.getElem?_cons_zero, List.getElem?_cons_succ, List.set_cons_zero, List.set_cons_succ, Bool.false_eq_true, decide_true, decide_false, Bool.not_true, Bool.not_false, ↓reduceIte, Nat.reduceAdd, Nat.reduceSub, Nat.zero_add, Option.isSome, eq_x, ne_x, eq2_ii, ne2_ii, eq2_enc, ne2_enc, len_x, sSl, sPt, sPN, oSl, sFs, sJs, sFmt, sAug, l_minus, l_slash, l_zero, l_n, l_nothing, l_empty, l_digits, SX.S_len, true_and, atI_n]
  refine ⟨b1000 hl, ?_⟩
  by_cases he : e < l.length
  · rw [decide_eq_true (show ((e : Nat) : Int) < (l.length : Int) by omega)]
    have hg : l[e]? = some l[e] := List.getElem?_eq_getElem he
    have hd : l.drop e = l[e] :: l.drop (e + 1) := List.drop_eq_getElem_cons he
    simp only [hg]
    refine ⟨b1000 hl, in_x _ _ _ _ ?_⟩
    rw [mem10]
    rw [hd] at hc
    rw [cnt_cons] at hc
    by_cases hdg : dig l[e] = true
    · rw [hdg]
      rw [if_pos hdg] at hc
      simp only [sRet, sSeq, sAsg, sIfS, sSkip, sPar, sAsgG, sDrop, sRaise, sOp, sCB, sCons, sNil, sVar, sC, sTup, sLst, sNew, sNeg, sNot, sTest, sNotT, sAndT, sOrT, sAnd, sOr, sIf, sChain, sBits, sCall, ini, endOf, kName, kTup2, oAdd, oI, oI0, oIs, isNon_non, isNon_tup, isNon_int, oIx, oLen, oAbs, oInt, oGcd, oType, oEq_ii, oNe_ii, oEq_enc, oNe_enc, oEq_tt, oNe_tt, atI_0, atI_1, List.map_cons, List.map_nil, List.length_cons, List.length_nil, List.cons_append, List.nil_append, List.append_nil, List.replicate_succ, List.replicate_zero, List.getElem?_cons_zero, List.getElem?_cons_succ, List.set_cons_zero, List.set_cons_succ, Bool.false_eq_true, decide_true, decide_false, Bool.not_true, Bool.not_false, ↓reduceIte, Nat.reduceAdd, Nat.reduceSub, Nat.zero_add, Option.isSome, eq_x, ne_x, eq2_ii, ne2_ii, eq2_enc, ne2_enc, len_x, sSl, sPt, sPN, oSl, sFs, sJs, sFmt, sAug, l_minus, l_slash, l_zero, l_n, l_nothing, l_empty, l_digits, SX.S_len, true_and, atI_n]
      by_cases h60 : e - b = 60
      · rw [decide_eq_true (show ((e : Nat) : Int) - (b : Int) = 60 by omega)]
        rw [if_pos h60] at hc
        exact hx e hc.symm
      · rw [decide_eq_false (show ¬ ((e : Nat) : Int) - (b : Int) = 60 by omega)]
        rw [if_neg h60] at hc
        refine ⟨l.length - (e + 1), by omega, e + 1, rfl, by omega, by omega, by omega, ?_⟩
        exact ⟨rfl, by rw [show e + 1 - b = e - b + 1 by omega]; exact hc⟩
    · rw [if_neg hdg] at hc
      rw [show dig l[e] = false by simpa using hdg]
      exact hq e hc.symm
  · rw [decide_eq_false (show ¬ ((e : Nat) : Int) < (l.length : Int) by omega)]
    have hd : l.drop e = [] := List.drop_eq_nil_of_le (by omega)
    rw [hd] at hc
    exact hq e hc.symm
theorem p__read_digits : ∀ pvs st Q PX, S__read_digits mg pvs st Q PX → t__read_digits K mg (endOf Q PX) (ini N__read_digits pvs) st := by
  rintro pvs st Q PX ⟨l, b, z, rfl, hb, hl, hx, hq⟩
  simp only [t__read_digits, sRet, sSeq, sAsg, sIfS, sSkip, sPar, sAsgG, sDrop, sRaise, sOp, sCB, sCons, sNil, sVar, sC, sTup, sLst, sNew, sNeg, sNot, sTest, sNotT, sAndT, sOrT, sAnd, sOr, sIf, sChain, sBits, sCall, ini, endOf, kName, kTup2, oAdd, oI, oI0, oIs, isNon_non, isNon_tup, isNon_int, oIx, oLen, oAbs, oInt, oGcd, oType, oEq_ii, oNe_ii, oEq_enc, oNe_enc, oEq_tt, oNe_tt, atI_0, atI_1, List.map_cons, List.map_nil, List.length_cons, List.length_nil, List.cons_append, List.nil_append, List.append_nil, List.replicate_succ, List.replicate_zero, List.getElem?_cons_zero, List.getElem?_cons_succ, List.set_cons_zero, List.set_cons_succ, Bool.false_eq_true, decide_true, decide_false, Bool.not_true, Bool.not_false, ↓reduceIte, Nat.reduceAdd, Nat.reduceSub, Nat.zero_add, Option.isSome, eq_x, ne_x, eq2_ii, ne2_ii, eq2_enc, ne2_enc, len_x, sSl, sPt, sPN, oSl, sFs, sJs, sFmt, sAug, l_minus, l_slash, l_zero, l_n, l_nothing, l_empty, l_digits, SX.S_len, true_and, atI_n]
  refine ⟨b1000 hl, ?_⟩
  by_cases hlt : b < l.length
  · rw [decide_eq_false (show ¬ ((b : Nat) : Int) = (l.length : Int) by omega)]
    have hg : l[b]? = some l[b] := List.getElem?_eq_getElem hlt
    have hd : l.drop b = l[b] :: l.drop (b + 1) := List.drop_eq_getElem_cons hlt
    rw [hd] at hx hq
    dsimp only [rdD] at hx hq
    simp only [hg]
    refine ⟨b1000 hl, ni_x _ _ _ _ ?_⟩
    rw [mem_z]
    by_cases hc : dig l[b] = true ∧ (z = true ∨ l[b] ≠ 48)
    · have e : (dig l[b] && (z || decide (l[b] ≠ 48))) = true := by
        rw [hc.1, Bool.true_and, Bool.or_eq_true, decide_eq_true_eq]
        exact hc.2
      rw [e]
      rw [if_pos hc] at hx hq
      simp only [hg, sRet, sSeq, sAsg, sIfS, sSkip, sPar, sAsgG, sDrop, sRaise, sOp, sCB, sCons, sNil, sVar, sC, sTup, sLst, sNew, sNeg, sNot, sTest, sNotT, sAndT, sOrT, sAnd, sOr, sIf, sChain, sBits, sCall, ini, endOf, kName, kTup2, oAdd, oI, oI0, oIs, isNon_non, isNon_tup, isNon_int, oIx, oLen, oAbs, oInt, oGcd, oType, oEq_ii, oNe_ii, oEq_enc, oNe_enc, oEq_tt, oNe_tt, atI_0, atI_1, List.map_cons, List.map_nil, List.length_cons, List.length_nil, List.cons_append, List.nil_append, List.append_nil, List.replicate_succ, List.replicate_zero, List.getElem?_cons_zero, List.getElem?_cons_succ, List.set_cons_zero, List.set_cons_succ, Bool.false_eq_true, decide_true, decide_false, Bool.not_true, Bool.not_false, ↓reduceIte, Nat.reduceAdd, Nat.reduceSub, Nat.zero_add, Option.isSome, eq_x, ne_x, eq2_ii, ne2_ii, eq2_enc, ne2_enc, len_x, sSl, sPt, sPN, oSl, sFs, sJs, sFmt, sAug, l_minus, l_slash, l_zero, l_n, l_nothing, l_empty, l_digits, SX.S_len, true_and, atI_n]
      refine ⟨b1000 hl, ?_⟩
      by_cases h0 : l[b] = 48
      · rw [decide_eq_true (show [l[b]] = [48] by rw [h0])]
        rw [if_pos h0] at hq
        exact hq (b + 1) rfl
      · rw [decide_eq_false (show ¬ [l[b]] = [48] by simpa using h0)]
        rw [if_neg h0] at hx hq
        exact dig_loop Q PX l b _ st hl hx hq hlt
    · have e : (dig l[b] && (z || decide (l[b] ≠ 48))) = false := by
        rw [Bool.eq_false_iff]
        intro h
        rw [Bool.and_eq_true, Bool.or_eq_true, decide_eq_true_eq] at h
        exact hc h
      rw [e]
      rw [if_neg hc] at hx
      exact hx b rfl
  · rw [decide_eq_true (show ((b : Nat) : Int) = (l.length : Int) by omega)]
    have hd : l.drop b = [] := List.drop_eq_nil_of_le (by omega)
    rw [hd] at hx
    exact hx b rfl
theorem nothing_loop (Q : Sm.PK) (PX : Sm.XP) (l : List Nat) (st : Store) (hl : l.length ≤ 1000) (D : EndP) (hD : D = { endOf Q PX with nx := (sIfS (sTest (sOp oGt (sCB oLen (sCons (sVar 0) sNil)) (sCB oLen (sCons (sC (.str (SX.S nothing))) sNil)))) (sRaise (ad mg "ParseError") "spot" (sCons (sCB oLen (sCons (sC (.str (SX.S nothing))) sNil)) sNil)) sSkip) (endOf Q PX) }) :
    ∀ (es : List Nat) (i : Nat) (x y : Option PV), es.length + i = 7 → i ≤ l.length → (∀ j, rnL i es (l.drop i) = .inl j → PX (exP mg (.int (j : Nat))) st) → (rnL i es (l.drop i) = .inr () → Q .non st) →
    loopL (kTup2 1 2) (sIfS (sOrT (sTest (sOp oEq2 (sVar 1) (sCB oLen (sCons (sVar 0) sNil)))) (sTest (sOp oNe2 (sOp oIx (sVar 0) (sVar 1)) (sVar 2)))) (sRaise (ad mg "ParseError") "spot" (sCons (sVar 1) sNil)) sSkip) D (enumS i es) [some (tx l), x, y] st
  | [], i, x, y, hi, hil, hx, hq => by
    subst hD
    have h7 : i = 7 := by simpa using hi
    subst h7
    have hn : ((nothing.length : Nat) : Int) = 7 := rfl
    simp only [loopL, enumS, sRet, sSeq, sAsg, sIfS, sSkip, sPar, sAsgG, sDrop, sRaise, sOp, sCB, sCons, sNil, sVar, sC, sTup, sLst, sNew, sNeg, sNot, sTest, sNotT, sAndT, sOrT, sAnd, sOr, sIf, sChain, sBits, sCall, ini, endOf, kName, kTup2, oAdd, oI, oI0, oIs, isNon_non, isNon_tup, isNon_int, oIx, oLen, oAbs, oInt, oGcd, oType, oEq_ii, oNe_ii, oEq_enc, oNe_enc, oEq_tt, oNe_tt, atI_0, atI_1, List.map_cons, List.map_nil, List.length_cons, List.length_nil, List.cons_append, List.nil_append, List.append_nil, List.replicate_succ, List.replicate_zero, List.getElem?_cons_zero, List.getElem?_cons_succ, List.set_cons_zero, List.set_cons_succ, Bool.false_eq_true, decide_true, decide_false, Bool.not_true, Bool.not_false, ↓reduceIte, Nat.reduceAdd, Nat.reduceSub, Nat.zero_add, Option.isSome, eq_x, ne_x, eq2_ii, ne2_ii, eq2_enc, ne2_enc, len_x, sSl, sPt, sPN, oSl, sFs, sJs, sFmt, sAug, l_minus, l_slash, l_zero, l_n, l_nothing, l_empty, l_digits, SX.S_len, true_and, atI_n]
    refine ⟨b1000 hl, by decide, ?_⟩
    rw [hn]
    by_cases h : 7 < l.length
    · rw [decide_eq_true (show (7 : Int) < (l.length : Int) by omega)]
      simp only [sRet, sSeq, sAsg, sIfS, sSkip, sPar, sAsgG, sDrop, sRaise, sOp, sCB, sCons, sNil, sVar, sC, sTup, sLst, sNew, sNeg, sNot, sTest, sNotT, sAndT, sOrT, sAnd, sOr, sIf, sChain, sBits, sCall, ini, endOf, kName, kTup2, oAdd, oI, oI0, oIs, isNon_non, isNon_tup, isNon_int, oIx, oLen, oAbs, oInt, oGcd, oType, oEq_ii, oNe_ii, oEq_enc, oNe_enc, oEq_tt, oNe_tt, atI_0, atI_1, List.map_cons, List.map_nil, List.length_cons, List.length_nil, List.cons_append, List.nil_append, List.append_nil, List.replicate_succ, List.replicate_zero, List.getElem?_cons_zero, List.getElem?_cons_succ, List.set_cons_zero, List.set_cons_succ, Bool.false_eq_true, decide_true, decide_false, Bool.not_true, Bool.not_false, ↓reduceIte, Nat.reduceAdd, Nat.reduceSub, Nat.zero_add, Option.isSome, eq_x, ne_x, eq2_ii, ne2_ii, eq2_enc, ne2_enc, len_x, sSl, sPt, sPN, oSl, sFs, sJs, sFmt, sAug, l_minus, l_slash, l_zero, l_n, l_nothing, l_empty, l_digits, SX.S_len, true_and, atI_n]
      rw [List.drop_eq_getElem_cons h] at hx
      exact ⟨by decide, hx 7 rfl⟩
    · rw [decide_eq_false (show ¬ (7 : Int) < (l.length : Int) by omega)]
      rw [List.drop_eq_nil_of_le (by omega)] at hq
      exact hq rfl
  | e :: es, i, x, y, hi, hil, hx, hq => by
    simp only [loopL, enumS, sRet, sSeq, sAsg, sIfS, sSkip, sPar, sAsgG, sDrop, sRaise, sOp, sCB, sCons, sNil, sVar, sC, sTup, sLst, sNew, sNeg, sNot, sTest, sNotT, sAndT, sOrT, sAnd, sOr, sIf, sChain, sBits, sCall, ini, endOf, kName, kTup2, oAdd, oI, oI0, oIs, isNon_non, isNon_tup, isNon_int, oIx, oLen, oAbs, oInt, oGcd, oType, oEq_ii, oNe_ii, oEq_enc, oNe_enc, oEq_tt, oNe_tt, atI_0, atI_1, List.map_cons, List.map_nil, List.length_cons, List.length_nil, List.cons_append, List.nil_append, List.append_nil, List.replicate_succ, List.replicate_zero, List.getElem?_cons_zero, List.getElem?_cons_succ, List.set_cons_zero, List.set_cons_succ, Bool.false_eq_true, decide_true, decide_false, Bool.not_true, Bool.not_false, ↓reduceIte, Nat.reduceAdd, Nat.reduceSub, Nat.zero_add, Option.isSome, eq_x, ne_x, eq2_ii, ne2_ii, eq2_enc, ne2_enc, len_x, sSl, sPt, sPN, oSl, sFs, sJs, sFmt, sAug, l_minus, l_slash, l_zero, l_n, l_nothing, l_empty, l_digits, SX.S_len, true_and, atI_n]
    refine ⟨b1000 hl, ?_⟩
    by_cases h : i < l.length
    · rw [decide_eq_false (show ¬ ((i : Nat) : Int) = (l.length : Int) by omega)]
      have hg : l[i]? = some l[i] := List.getElem?_eq_getElem h
      have hd : l.drop i = l[i] :: l.drop (i + 1) := List.drop_eq_getElem_cons h
      rw [hd] at hx hq
      unfold rnL at hx hq
      simp only [hg]
      refine ⟨b1000 hl, ?_⟩
      by_cases he : l[i] = e
      · rw [decide_eq_true (show [l[i]] = [e] by rw [he])]
        rw [if_pos he] at hx hq
        have := nothing_loop Q PX l st hl D hD es (i + 1) (some (.int (i : Nat))) (some (tx [e])) (by simp only [List.length_cons] at hi; omega) (by omega) hx hq
        subst hD
        exact this
      · rw [decide_eq_false (show ¬ [l[i]] = [e] by simpa using he)]
        rw [if_neg he] at hx
        subst hD
        exact hx i rfl
    · rw [decide_eq_true (show ((i : Nat) : Int) = (l.length : Int) by omega)]
      rw [List.drop_eq_nil_of_le (by omega)] at hx
      subst hD
      exact hx i rfl
theorem p__read_nothing : ∀ pvs st Q PX, S__read_nothing mg pvs st Q PX → t__read_nothing K mg (endOf Q PX) (ini N__read_nothing pvs) st := by
  rintro pvs st Q PX ⟨l, rfl, hl, hx, hq⟩
  simp only [t__read_nothing, sForES, sRet, sSeq, sAsg, sIfS, sSkip, sPar, sAsgG, sDrop, sRaise, sOp, sCB, sCons, sNil, sVar, sC, sTup, sLst, sNew, sNeg, sNot, sTest, sNotT, sAndT, sOrT, sAnd, sOr, sIf, sChain, sBits, sCall, ini, endOf, kName, kTup2, oAdd, oI, oI0, oIs, isNon_non, isNon_tup, isNon_int, oIx, oLen, oAbs, oInt, oGcd, oType, oEq_ii, oNe_ii, oEq_enc, oNe_enc, oEq_tt, oNe_tt, atI_0, atI_1, List.map_cons, List.map_nil, List.length_cons, List.length_nil, List.cons_append, List.nil_append, List.append_nil, List.replicate_succ, List.replicate_zero, List.getElem?_cons_zero, List.getElem?_cons_succ, List.set_cons_zero, List.set_cons_succ, Bool.false_eq_true, decide_true, decide_false, Bool.not_true, Bool.not_false, ↓reduceIte, Nat.reduceAdd, Nat.reduceSub, Nat.zero_add, Option.isSome, eq_x, ne_x, eq2_ii, ne2_ii, eq2_enc, ne2_enc, len_x, sSl, sPt, sPN, oSl, sFs, sJs, sFmt, sAug, l_minus, l_slash, l_zero, l_n, l_nothing, l_empty, l_digits, SX.S_len, true_and, atI_n, tl_S]
  have := nothing_loop Q PX l st hl _ rfl nothing 0 none none rfl (Nat.zero_le _) hx hq
  simpa only [sRet, sSeq, sAsg, sIfS, sSkip, sPar, sAsgG, sDrop, sRaise, sOp, sCB, sCons, sNil, sVar, sC, sTup, sLst, sNew, sNeg, sNot, sTest, sNotT, sAndT, sOrT, sAnd, sOr, sIf, sChain, sBits, sCall, ini, endOf, kName, kTup2, oAdd, oI, oI0, oIs, isNon_non, isNon_tup, isNon_int, oIx, oLen, oAbs, oInt, oGcd, oType, oEq_ii, oNe_ii, oEq_enc, oNe_enc, oEq_tt, oNe_tt, atI_0, atI_1, List.map_cons, List.map_nil, List.length_cons, List.length_nil, List.cons_append, List.nil_append, List.append_nil, List.replicate_succ, List.replicate_zero, List.getElem?_cons_zero, List.getElem?_cons_succ, List.set_cons_zero, List.set_cons_succ, Bool.false_eq_true, decide_true, decide_false, Bool.not_true, Bool.not_false, ↓reduceIte, Nat.reduceAdd, Nat.reduceSub, Nat.zero_add, Option.isSome, eq_x, ne_x, eq2_ii, ne2_ii, eq2_enc, ne2_enc, len_x, sSl, sPt, sPN, oSl, sFs, sJs, sFmt, sAug, l_minus, l_slash, l_zero, l_n, l_nothing, l_empty, l_digits, SX.S_len, true_and, atI_n] using this
end
end K1
set_option Elab.async false
set_option linter.all false
set_option maxRecDepth 100000
set_option maxHeartbeats 1000000
namespace K1
open PySem PySem.Spec PyProof.Rows L2 Sm Wm Cm Kt Tm
theorem sl_1 (l : List Nat) (b : Nat) (hb : b ≤ l.length) : Txt.slice (SX.S l) (some ((b : Nat) : Int)) (some (((b : Nat) : Int) + 1)) = SX.S ((l.drop b).take 1) := by
  have := sl_mid l b (b + 1) hb (by omega)
  rw [show b + 1 - b = 1 by omega] at this
  exact this
theorem sl_01 (l : List Nat) : Txt.slice (SX.S l) none (some 1) = SX.S (l.take 1) := sl_to l 1
theorem sl_from1 (l : List Nat) : Txt.slice (SX.S l) (some 1) none = SX.S (l.drop 1) := sl_from l 1
theorem take1 (l : List Nat) (c : Nat) : decide (l.take 1 = [c]) = decide (l.head? = some c) := by
  refine decide_eq_decide.mpr ?_
  cases l <;> simp
theorem fold_lt : ∀ (cs : List Nat) (a : Nat), (∀ c ∈ cs, dig c = true) → cs.foldl (fun acc c => acc * 10 + (c - 48)) a < (a + 1) * 10 ^ cs.length
  | [], a, _ => by simp
  | c :: cs, a, h => by
    have h1 := fold_lt cs (a * 10 + (c - 48)) fun d hd => h d (List.mem_cons_of_mem _ hd)
    have h2 := h c (List.mem_cons_self ..)
    unfold dig at h2
    rw [Bool.and_eq_true, decide_eq_true_eq, decide_eq_true_eq] at h2
    rw [List.foldl_cons, List.length_cons, Nat.pow_succ]
    have h3 : (a * 10 + (c - 48) + 1) * 10 ^ cs.length ≤ ((a + 1) * 10) * 10 ^ cs.length := Nat.mul_le_mul_right _ (by omega)
    have h4 : ((a + 1) * 10) * 10 ^ cs.length = (a + 1) * (10 ^ cs.length * 10) := by rw [Nat.mul_assoc, Nat.mul_comm 10]
    omega
theorem digitsVal_lt (cs : List Nat) (h : ∀ c ∈ cs, dig c = true) : NumText.digitsVal cs < 10 ^ cs.length := by
  have := fold_lt cs 0 h
  rw [Nat.zero_add, Nat.one_mul] at this
  exact this
theorem all_dig {ds : List Nat} (h : ∀ c ∈ ds, dig c = true) : NumText.AllDigits ds := fun c hc => by
  have h2 := h c hc
  unfold dig at h2
  rw [Bool.and_eq_true, decide_eq_true_eq, decide_eq_true_eq] at h2
  exact h2
theorem iv_dig {ds : List Nat} (h : ∀ c ∈ ds, dig c = true) : iv ds = ((NumText.digitsVal ds : Nat) : Int) := by
  cases ds with
  | nil => rfl
  | cons c r =>
    have hc := h c (List.mem_cons_self ..)
    unfold iv
    split
    · rename_i e
      cases e
      exact absurd hc (by decide)
    · rfl
theorem ten60 : (10 : Nat) ^ 60 ≤ 2 ^ 200 := by decide +kernel
theorem b_val {ds : List Nat} {k : Nat} (o : ok60 ds k) : B 200 ((NumText.digitsVal ds : Nat) : Int) := by
  have h1 := digitsVal_lt ds o.1
  have h2 : 10 ^ ds.length ≤ 10 ^ 60 := Nat.pow_le_pow_right (by decide) (by rw [o.2.1]; exact o.2.2.2.1)
  have h3 := ten60
  show ((NumText.digitsVal ds : Nat) : Int).natAbs < 2 ^ 200
  rw [Int.natAbs_natCast]
  omega
structure IntOk (A : List Nat) : Prop where
  rd : PySem.intText? (SX.S A) = some (iv A)
  le : A.length ≤ 61
  bd : B 200 (iv A)
theorem int_ok {ds : List Nat} {k : Nat} (o : ok60 ds k) : IntOk ds ∧ iv ds ≠ 0 := by
  have hne : ds ≠ [] := by
    intro z
    subst z
    have := o.2.1
    have := o.2.2.1
    simp at *
    omega
  have hl : ds.length ≤ 60 := by rw [o.2.1]; exact o.2.2.2.1
  refine ⟨⟨?_, by omega, ?_⟩, ?_⟩
  · rw [iv_dig o.1]
    exact intText_digits (x := SX.S ds) (by rw [tl_S]; exact all_dig o.1) (by rw [tl_S]; exact hne) (by rw [SX.S_len]; omega) |>.trans (by rw [tl_S])
  · rw [iv_dig o.1]
    exact b_val o
  · rw [iv_dig o.1]
    cases ds with
    | nil => exact absurd rfl hne
    | cons c r =>
      have hc := all_dig o.1 c (List.mem_cons_self ..)
      have h48 : c ≠ 48 := by
        intro z
        exact o.2.2.2.2 (by rw [z]; rfl)
      have := NumText.digitsVal_pos (c := c) (cs := r) (by omega)
      omega
theorem int_top {A : List Nat} (h : Top A) : IntOk A := by
  rcases h with rfl | ⟨sg, ds, k, rfl, hs, o⟩
  · exact ⟨by decide +kernel, by decide, by unfold B; decide +kernel⟩
  · rcases hs with rfl | rfl
    · exact (int_ok o).1
    · have hne : ds ≠ [] := by
        intro z
        subst z
        have := o.2.1
        have := o.2.2.1
        simp at *
        omega
      have hl : ds.length ≤ 60 := by rw [o.2.1]; exact o.2.2.2.1
      refine ⟨?_, by simp; omega, ?_⟩
      · exact intText_neg (x := SX.S ([45] ++ ds)) (cs := ds) (by rw [tl_S]; rfl) (all_dig o.1) hne (by rw [SX.S_len]; simp; omega)
      · exact (b_val o).neg
theorem rdD_le {z : Bool} {i e : Nat} {l : List Nat} (hi : i ≤ l.length) (h : rdD z i (l.drop i) = .inr e) : i < e ∧ e ≤ l.length := by
  obtain ⟨ds, r', h1, h2, h3⟩ := rdD_inr h
  have h4 := congrArg List.length h1
  rw [List.length_drop, List.length_append] at h4
  have h5 : 0 < ds.length := by
    rcases h3 with ⟨rfl, _⟩ | ⟨k, o, _⟩
    · decide
    · rw [o.2.1]; exact o.2.2.1
  omega
theorem take_of {l A r : List Nat} {b e : Nat} (h : l.drop b = A ++ r) (he : e = b + A.length) : (l.drop b).take (e - b) = A := by
  rw [h, he, show b + A.length - b = A.length by omega]
  exact List.take_left
section
variable {K : PySem.W.Frag} {mg : Str → Option Value}
def wf4 (K : PySem.W.Frag) (mg : Str → Option Value) : SemS := (sSeq (sIfS (sTest (sOp oNe2 (sSl (sVar 0) (sPt (sVar 4)) (sPt (sOp oAdd (sVar 4) (sC (.int 1))))) (sC (.str "/")))) (sRet (sTup (sCons (sTup (sCons (sCB oInt2 (sCons (sSl (sVar 0) (sPt (sVar 1)) (sPt (sVar 4))) sNil)) (sCons (sC (.int 1)) sNil))) (sCons (sVar 4) sNil)))) sSkip) (sSeq (sAsg (sCall (S__read_digits mg) [] (sCons (sVar 0) (sCons (sOp oAdd (sVar 4) (sC (.int 1))) (sCons (sSl (sC (.str "0123456789")) (sPt (sC (.int 1))) sPN) sNil)))) 5) (sRet (sTup (sCons (sCall (S_lowest mg) [] (sCons (sCB oInt2 (sCons (sSl (sVar 0) (sPt (sVar 1)) (sPt (sVar 4))) sNil)) (sCons (sCB oInt2 (sCons (sSl (sVar 0) (sPt (sOp oAdd (sVar 4) (sC (.int 1)))) (sPt (sVar 5))) sNil)) sNil))) (sCons (sVar 5) sNil))))))
def wf3 (K : PySem.W.Frag) (mg : Str → Option Value) : SemS := (sSeq (sAsg (sCall (S__read_digits mg) [] (sCons (sVar 0) (sCons (sVar 2) (sCons (sVar 3) sNil)))) 4) (sSeq (sIfS (sTest (sOp oNe2 (sSl (sVar 0) (sPt (sVar 4)) (sPt (sOp oAdd (sVar 4) (sC (.int 1))))) (sC (.str "/")))) (sRet (sTup (sCons (sTup (sCons (sCB oInt2 (sCons (sSl (sVar 0) (sPt (sVar 1)) (sPt (sVar 4))) sNil)) (sCons (sC (.int 1)) sNil))) (sCons (sVar 4) sNil)))) sSkip) (sSeq (sAsg (sCall (S__read_digits mg) [] (sCons (sVar 0) (sCons (sOp oAdd (sVar 4) (sC (.int 1))) (sCons (sSl (sC (.str "0123456789")) (sPt (sC (.int 1))) sPN) sNil)))) 5) (sRet (sTup (sCons (sCall (S_lowest mg) [] (sCons (sCB oInt2 (sCons (sSl (sVar 0) (sPt (sVar 1)) (sPt (sVar 4))) sNil)) (sCons (sCB oInt2 (sCons (sSl (sVar 0) (sPt (sOp oAdd (sVar 4) (sC (.int 1)))) (sPt (sVar 5))) sNil)) sNil))) (sCons (sVar 5) sNil)))))))
theorem d9 : (List.drop 1 [48, 49, 50, 51, 52, 53, 54, 55, 56, 57] : List Nat) = D9 := rfl
theorem wf3_eq : wf3 K mg = sSeq (sAsg (sCall (S__read_digits mg) [] (sCons (sVar 0) (sCons (sVar 2) (sCons (sVar 3) sNil)))) 4) (wf4 K mg) := rfl
theorem wf_eq : t_worth_from K mg = sSeq (sAsg (sVar 1) 2) (sSeq (sAsg (sC (.str "0123456789")) 3) (sSeq (sIfS (sTest (sOp oEq2 (sSl (sVar 0) (sPt (sVar 1)) (sPt (sOp oAdd (sVar 1) (sC (.int 1))))) (sC (.str "-")))) (sSeq (sAsg (sOp oAdd (sVar 1) (sC (.int 1))) 2) (sAsg (sSl (sC (.str "0123456789")) (sPt (sC (.int 1))) sPN) 3)) sSkip) (wf3 K mg))) := rfl
theorem wf_tail (Q : Sm.PK) (PX : Sm.XP) (l : List Nat) (b e : Nat) (x2 x3 : PV) (st : Store) (A r : List Nat) (q : Kt.Q) (hb : b ≤ l.length) (hl : l.length ≤ 1000) (T : TopAt b l A r e q) (hle : e ≤ l.length)
    (hx : ∀ i, (l[e]? = some 47 ∧ rdD false (e + 1) (l.drop (e + 1)) = .inl i) → PX (exP mg (.int (i : Nat))) st)
    (h1 : l[e]? ≠ some 47 → Q (.tup [enc (some (vOf A none)), .int (e : Nat)]) st) (h2 : ∀ e', l[e]? = some 47 → rdD false (e + 1) (l.drop (e + 1)) = .inr e' → Q (.tup [enc (some (vOf A (some ((l.drop (e + 1)).take (e' - (e + 1)))))), .int (e' : Nat)]) st) :
    wf4 K mg
      (endOf Q PX) [some (tx l), some (.int b), some x2, some x3, some (.int (e : Nat)), none] st := by
  have hbe : b ≤ e := by rw [T.e]; omega
  have I := int_top T.top
  have hA := take_of T.eq T.e
  have sA : Txt.slice (SX.S l) (some ((b : Nat) : Int)) (some ((e : Nat) : Int)) = SX.S A := by rw [sl_mid l b e hb hbe, hA]
  simp only [wf4, sRet, sSeq, sAsg, sIfS, sSkip, sPar, sAsgG, sDrop, sRaise, sOp, sCB, sCons, sNil, sVar, sC, sTup, sLst, sNew, sNeg, sNot, sTest, sNotT, sAndT, sOrT, sAnd, sOr, sIf, sChain, sBits, sCall, ini, endOf, kName, kTup2, oAdd, oI, oI0, oIs, isNon_non, isNon_tup, isNon_int, oIx, oLen, oAbs, oInt, oGcd, oType, oEq_ii, oNe_ii, oEq_enc, oNe_enc, oEq_tt, oNe_tt, atI_0, atI_1, List.map_cons, List.map_nil, List.length_cons, List.length_nil, List.cons_append, List.nil_append, List.append_nil, List.replicate_succ, List.replicate_zero, List.getElem?_cons_zero, List.getElem?_cons_succ, List.set_cons_zero, List.set_cons_succ, Bool.false_eq_true, decide_true, decide_false, Bool.not_true, Bool.not_false, ↓reduceIte, Nat.reduceAdd, Nat.reduceSub, Nat.zero_add, Option.isSome, eq_x, ne_x, eq2_ii, ne2_ii, eq2_enc, ne2_enc, len_x, sSl, sPt, sPN, oSl, sFs, sJs, sFmt, sAug, l_minus, l_slash, l_zero, l_n, l_nothing, l_empty, l_digits, SX.S_len, true_and, atI_n, sl_1 l e hle, take1, sl_from1, d9]
  refine ⟨b1000 hl, ?_⟩
  rw [List.head?_drop]
  by_cases h47 : l[e]? = some 47
  · rw [decide_eq_true h47]
    have hlt : e < l.length := (List.getElem?_eq_some_iff.mp h47).1
    refine ⟨by decide, l, e + 1, false, rfl, hlt, hl, fun i hi => hx i ⟨h47, hi⟩, fun e' he' => ?_⟩
    obtain ⟨ds, k, o, d1, d2, d3, d4⟩ := bot_at hlt he'
    have hD := take_of d1 d2
    have sB : Txt.slice (SX.S l) (some (((e : Nat) : Int) + 1)) (some ((e' : Nat) : Int)) = SX.S ds := by
      have := sl_mid l (e + 1) e' hlt (by omega)
      rw [hD] at this
      exact this
    have O := int_ok o
    refine ⟨b1000 hl, ?_⟩
    rw [sA]
    refine int_x _ _ (by have := I.le; omega) I.rd ?_
    refine ⟨b1000 hl, ?_⟩
    rw [sB]
    refine int_x _ _ (by have := O.1.le; omega) O.1.rd ?_
    refine ⟨_, _, rfl, O.2, I.bd.mono (by decide), O.1.bd.mono (by decide), by decide, ?_⟩
    have := h2 e' h47 he'
    rw [hD] at this
    exact this
  · rw [decide_eq_false h47]
    refine ⟨b1000 hl, ?_⟩
    rw [sA]
    refine int_x _ _ (by have := I.le; omega) I.rd ?_
    exact ⟨by decide, by decide, h1 h47⟩
theorem p_worth_from : ∀ pvs st Q PX, S_worth_from mg pvs st Q PX → t_worth_from K mg (endOf Q PX) (ini N_worth_from pvs) st := by
  rintro pvs st Q PX ⟨l, b, rfl, hb, hl, hx, hq⟩
  rw [wf_eq]
  simp only [sRet, sSeq, sAsg, sIfS, sSkip, sPar, sAsgG, sDrop, sRaise, sOp, sCB, sCons, sNil, sVar, sC, sTup, sLst, sNew, sNeg, sNot, sTest, sNotT, sAndT, sOrT, sAnd, sOr, sIf, sChain, sBits, sCall, ini, endOf, kName, kTup2, oAdd, oI, oI0, oIs, isNon_non, isNon_tup, isNon_int, oIx, oLen, oAbs, oInt, oGcd, oType, oEq_ii, oNe_ii, oEq_enc, oNe_enc, oEq_tt, oNe_tt, atI_0, atI_1, List.map_cons, List.map_nil, List.length_cons, List.length_nil, List.cons_append, List.nil_append, List.append_nil, List.replicate_succ, List.replicate_zero, List.getElem?_cons_zero, List.getElem?_cons_succ, List.set_cons_zero, List.set_cons_succ, Bool.false_eq_true, decide_true, decide_false, Bool.not_true, Bool.not_false, ↓reduceIte, Nat.reduceAdd, Nat.reduceSub, Nat.zero_add, Option.isSome, eq_x, ne_x, eq2_ii, ne2_ii, eq2_enc, ne2_enc, len_x, sSl, sPt, sPN, oSl, sFs, sJs, sFmt, sAug, l_minus, l_slash, l_zero, l_n, l_nothing, l_empty, l_digits, SX.S_len, true_and, atI_n, sl_1 l b hb, take1, sl_from1, d9]
  refine ⟨b1000 hl, ?_⟩
  have go : ∀ (sg : List Nat) (z : Bool) (f : Nat), f = b + sg.length → ((sg = [] ∧ z = true ∧ (l.drop b).head? ≠ some 45) ∨ (sg = [45] ∧ z = false)) → l.drop b = sg ++ l.drop f → f ≤ l.length → (if decide ((l.drop b).head? = some 45) = true then b + 1 else b) = f → (!decide ((l.drop b).head? = some 45)) = z →
      wf3 K mg (endOf Q PX) [some (tx l), some (.int b), some (.int (f : Nat)), some (tx (if z = true then D10 else D9)), none, none] st := by
    intro sg z f hf hz hs hfl e1 e2
    have wfe : wf b l = match rdD z f (l.drop f) with
        | .inl i => .inl i
        | .inr e => if l[e]? = some 47 then
            match rdD false (e + 1) (l.drop (e + 1)) with
            | .inl i => .inl i
            | .inr e' => .inr ((l.drop b).take (e - b), some ((l.drop (e + 1)).take (e' - (e + 1))), e')
          else .inr ((l.drop b).take (e - b), none, e) := by
      unfold wf
      simp only [e1, e2]
      try rfl
    rw [wf3_eq]
    simp only [sRet, sSeq, sAsg, sIfS, sSkip, sPar, sAsgG, sDrop, sRaise, sOp, sCB, sCons, sNil, sVar, sC, sTup, sLst, sNew, sNeg, sNot, sTest, sNotT, sAndT, sOrT, sAnd, sOr, sIf, sChain, sBits, sCall, ini, endOf, kName, kTup2, oAdd, oI, oI0, oIs, isNon_non, isNon_tup, isNon_int, oIx, oLen, oAbs, oInt, oGcd, oType, oEq_ii, oNe_ii, oEq_enc, oNe_enc, oEq_tt, oNe_tt, atI_0, atI_1, List.map_cons, List.map_nil, List.length_cons, List.length_nil, List.cons_append, List.nil_append, List.append_nil, List.replicate_succ, List.replicate_zero, List.getElem?_cons_zero, List.getElem?_cons_succ, List.set_cons_zero, List.set_cons_succ, Bool.false_eq_true, decide_true, decide_false, Bool.not_true, Bool.not_false, ↓reduceIte, Nat.reduceAdd, Nat.reduceSub, Nat.zero_add, Option.isSome, eq_x, ne_x, eq2_ii, ne2_ii, eq2_enc, ne2_enc, len_x, sSl, sPt, sPN, oSl, sFs, sJs, sFmt, sAug, l_minus, l_slash, l_zero, l_n, l_nothing, l_empty, l_digits, SX.S_len, true_and, atI_n]
    refine ⟨l, f, z, rfl, hfl, hl, fun i hi => hx i (by rw [wfe, hi]), fun e he => ?_⟩
    obtain ⟨A, r, q, T, hle, hr⟩ := top_at hf hz hs he
    have hA := take_of T.eq T.e
    refine wf_tail Q PX l b e _ _ st A r q hb hl T hle (fun i hi => hx i ?_) (fun hn => hq _ _ _ ?_) (fun e' h47 he' => hq _ _ _ ?_)
    · rw [wfe, he]
      simp only [hi.1, if_true, hi.2]
    · rw [wfe, he]
      simp only [if_neg hn, hA]
    · rw [wfe, he]
      simp only [h47, if_true, he', hA]
  by_cases h45 : (l.drop b).head? = some 45
  · rw [decide_eq_true h45]
    have hbl : b < l.length := by
      rw [List.head?_drop] at h45
      exact (List.getElem?_eq_some_iff.mp h45).1
    have hs : l.drop b = [45] ++ l.drop (b + 1) := by
      rw [List.drop_eq_getElem_cons hbl]
      rw [List.head?_drop, List.getElem?_eq_getElem hbl] at h45
      rw [Option.some.inj h45]
      rfl
    have := go [45] false (b + 1) rfl (.inr ⟨rfl, rfl⟩) hs hbl (by rw [decide_eq_true h45]; rfl) (by rw [decide_eq_true h45]; rfl)
    exact ⟨by decide, this⟩
  · rw [decide_eq_false h45]
    have := go [] true b rfl (.inl ⟨rfl, rfl, h45⟩) rfl hb (by rw [decide_eq_false h45]; rfl) (by rw [decide_eq_false h45]; rfl)
    exact this
end
end K1
set_option Elab.async false
set_option linter.all false
set_option maxRecDepth 100000
set_option maxHeartbeats 1000000
namespace K1
open PySem PySem.Spec PyProof.Rows L2 Sm Wm Cm Kt Tm
theorem log_lt {i : Int} {n : Nat} (h : B n i) (hn : n ≤ 1919) : i.natAbs.log2 < 1920 := by
  by_cases h0 : i.natAbs = 0
  · rw [h0]; decide
  · have := (Nat.log2_lt h0).mpr h
    omega
theorem S_num (i : Int) : (Str.ofString (toString i) : Str) = SX.S (num i) := (S_tl _).symm
theorem p572 : (2 : Nat) ^ 1900 ≤ 10 ^ 573 := by decide +kernel
theorem num_len {i : Int} {k : Nat} (hk : 0 < k) (h : i.natAbs < 10 ^ k) : (num i).length ≤ k + 1 := by
  by_cases h0 : 0 ≤ i
  · obtain ⟨m, rfl⟩ := Int.eq_ofNat_of_zero_le h0
    rw [num_nat]
    have := TL.numL_len hk (n := m) (by simpa using h)
    omega
  · obtain ⟨m, hm⟩ : ∃ m : Nat, i = -(m : Int) := ⟨i.natAbs, by omega⟩
    subst hm
    rw [num_neg m (by omega), List.length_cons]
    have := TL.numL_len hk (n := m) (by simpa using h)
    omega
theorem num_len' {i : Int} (h : B 1900 i) : (num i).length ≤ 574 := num_len (k := 573) (by decide) (Nat.lt_of_lt_of_le h p572)
theorem S_emp : Str.empty = SX.S [] := rfl
section
variable {K : PySem.W.Frag} {mg : Str → Option Value}
theorem p_read_worth : ∀ pvs st Q PX, S_read_worth mg pvs st Q PX → t_read_worth K mg (endOf Q PX) (ini N_read_worth pvs) st := by
  rintro pvs st Q PX ⟨v, rfl, ht, hn, hs⟩
  by_cases h : isStr v = true
  · cases v with
    | str s =>
      obtain ⟨l, hv, hl, hx, hq⟩ := hs s rfl
      cases hv
      simp only [t_read_worth, tyName, sl_01, take1, sRet, sSeq, sAsg, sIfS, sSkip, sPar, sAsgG, sDrop, sRaise, sOp, sCB, sCons, sNil, sVar, sC, sTup, sLst, sNew, sNeg, sNot, sTest, sNotT, sAndT, sOrT, sAnd, sOr, sIf, sChain, sBits, sCall, ini, endOf, kName, kTup2, oAdd, oI, oI0, oIs, isNon_non, isNon_tup, isNon_int, oIx, oLen, oAbs, oInt, oGcd, oType, oEq_ii, oNe_ii, oEq_enc, oNe_enc, oEq_tt, oNe_tt, atI_0, atI_1, List.map_cons, List.map_nil, List.length_cons, List.length_nil, List.cons_append, List.nil_append, List.append_nil, List.replicate_succ, List.replicate_zero, List.getElem?_cons_zero, List.getElem?_cons_succ, List.set_cons_zero, List.set_cons_succ, Bool.false_eq_true, decide_true, decide_false, Bool.not_true, Bool.not_false, ↓reduceIte, Nat.reduceAdd, Nat.reduceSub, Nat.zero_add, Option.isSome, eq_x, ne_x, eq2_ii, ne2_ii, eq2_enc, ne2_enc, len_x, sSl, sPt, sPN, oSl, sFs, sJs, sFmt, sAug, l_minus, l_slash, l_zero, l_n, l_nothing, l_empty, l_digits, SX.S_len, true_and, atI_n]
      refine ⟨b1000 hl, ?_⟩
      by_cases h110 : l.head? = some 110
      · rw [decide_eq_true h110]
        rw [rnL_res h110] at hx hq
        refine ⟨l, rfl, hl, fun i hi => hx i (by rw [hi]), fun hi => ?_⟩
        exact hq none (by rw [hi])
      · rw [decide_eq_false h110]
        rw [← rwE_res h110] at hx hq
        unfold rwE at hx hq
        refine ⟨l, 0, rfl, Nat.zero_le _, hl, fun i hi => hx i (by rw [hi]), fun A C e he => ?_⟩
        rw [he] at hx hq
        simp only [sRet, sSeq, sAsg, sIfS, sSkip, sPar, sAsgG, sDrop, sRaise, sOp, sCB, sCons, sNil, sVar, sC, sTup, sLst, sNew, sNeg, sNot, sTest, sNotT, sAndT, sOrT, sAnd, sOr, sIf, sChain, sBits, sCall, ini, endOf, kName, kTup2, oAdd, oI, oI0, oIs, isNon_non, isNon_tup, isNon_int, oIx, oLen, oAbs, oInt, oGcd, oType, oEq_ii, oNe_ii, oEq_enc, oNe_enc, oEq_tt, oNe_tt, atI_0, atI_1, List.map_cons, List.map_nil, List.length_cons, List.length_nil, List.cons_append, List.nil_append, List.append_nil, List.replicate_succ, List.replicate_zero, List.getElem?_cons_zero, List.getElem?_cons_succ, List.set_cons_zero, List.set_cons_succ, Bool.false_eq_true, decide_true, decide_false, Bool.not_true, Bool.not_false, ↓reduceIte, Nat.reduceAdd, Nat.reduceSub, Nat.zero_add, Option.isSome, eq_x, ne_x, eq2_ii, ne2_ii, eq2_enc, ne2_enc, len_x, sSl, sPt, sPN, oSl, sFs, sJs, sFmt, sAug, l_minus, l_slash, l_zero, l_n, l_nothing, l_empty, l_digits, SX.S_len, true_and, atI_n]
        refine ⟨b1000 hl, ?_⟩
        by_cases hlt : e < l.length
        · rw [decide_eq_true (show ((e : Nat) : Int) < (l.length : Int) by omega)]
          exact hx e (if_pos hlt)
        · rw [decide_eq_false (show ¬ ((e : Nat) : Int) < (l.length : Int) by omega)]
          exact hq (some (vOf A C)) (if_neg hlt)
    | _ => cases h
  · have h' : isStr v = false := by simpa using h
    have := hn h'
    cases v <;> first | exact absurd rfl h | exact this | exact Bool.noConfusion ht
theorem p_worth_text : ∀ pvs st Q PX, S_worth_text mg pvs st Q PX → t_worth_text K mg (endOf Q PX) (ini N_worth_text pvs) st := by
  rintro pvs st Q PX ⟨v, rfl, hf, h1, h2, h3⟩
  simp only [t_worth_text, sRet, sSeq, sAsg, sIfS, sSkip, sPar, sAsgG, sDrop, sRaise, sOp, sCB, sCons, sNil, sVar, sC, sTup, sLst, sNew, sNeg, sNot, sTest, sNotT, sAndT, sOrT, sAnd, sOr, sIf, sChain, sBits, sCall, ini, endOf, kName, kTup2, oAdd, oI, oI0, oIs, isNon_non, isNon_tup, isNon_int, oIx, oLen, oAbs, oInt, oGcd, oType, oEq_ii, oNe_ii, oEq_enc, oNe_enc, oEq_tt, oNe_tt, atI_0, atI_1, List.map_cons, List.map_nil, List.length_cons, List.length_nil, List.cons_append, List.nil_append, List.append_nil, List.replicate_succ, List.replicate_zero, List.getElem?_cons_zero, List.getElem?_cons_succ, List.set_cons_zero, List.set_cons_succ, Bool.false_eq_true, decide_true, decide_false, Bool.not_true, Bool.not_false, ↓reduceIte, Nat.reduceAdd, Nat.reduceSub, Nat.zero_add, Option.isSome, eq_x, ne_x, eq2_ii, ne2_ii, eq2_enc, ne2_enc, len_x, sSl, sPt, sPN, oSl, sFs, sJs, sFmt, sAug, l_minus, l_slash, l_zero, l_n, l_nothing, l_empty, l_digits, SX.S_len, true_and, atI_n]
  cases hN : Sm.isNon v with
  | true => exact h1 hN
  | false =>
    refine ⟨v, rfl, hf, fun hk => ?_, h2 hN⟩
    obtain ⟨a, b, rfl, hb, hc, _, _⟩ := k_cases hk
    obtain ⟨ba, bb, hq⟩ := h3 a b rfl hk
    have la := num_len' ba
    have lb := num_len' bb
    simp only [sRet, sSeq, sAsg, sIfS, sSkip, sPar, sAsgG, sDrop, sRaise, sOp, sCB, sCons, sNil, sVar, sC, sTup, sLst, sNew, sNeg, sNot, sTest, sNotT, sAndT, sOrT, sAnd, sOr, sIf, sChain, sBits, sCall, ini, endOf, kName, kTup2, oAdd, oI, oI0, oIs, isNon_non, isNon_tup, isNon_int, oIx, oLen, oAbs, oInt, oGcd, oType, oEq_ii, oNe_ii, oEq_enc, oNe_enc, oEq_tt, oNe_tt, atI_0, atI_1, List.map_cons, List.map_nil, List.length_cons, List.length_nil, List.cons_append, List.nil_append, List.append_nil, List.replicate_succ, List.replicate_zero, List.getElem?_cons_zero, List.getElem?_cons_succ, List.set_cons_zero, List.set_cons_succ, Bool.false_eq_true, decide_true, decide_false, Bool.not_true, Bool.not_false, ↓reduceIte, Nat.reduceAdd, Nat.reduceSub, Nat.zero_add, Option.isSome, eq_x, ne_x, eq2_ii, ne2_ii, eq2_enc, ne2_enc, len_x, sSl, sPt, sPN, oSl, sFs, sJs, sFmt, sAug, l_minus, l_slash, l_zero, l_n, l_nothing, l_empty, l_digits, SX.S_len, true_and, atI_n]
    by_cases h : b = 1
    · rw [decide_eq_true h]
      unfold wt at hq
      rw [if_pos h] at hq
      exact Tm.str_x a st Q (log_lt ba (by decide)) hq
    · rw [decide_eq_false h]
      unfold wt at hq
      rw [if_neg h] at hq
      refine ⟨log_lt ba (by decide), ?_⟩
      rw [S_num, S_emp, S_add, SX.S_len, S_add, SX.S_len]
      refine ⟨by simp; omega, by simp; omega, log_lt bb (by decide), ?_⟩
      rw [S_num, S_add, SX.S_len]
      refine ⟨by simp; omega, ?_⟩
      simpa using hq
end
end K1
set_option Elab.async false
set_option linter.all false
set_option maxRecDepth 100000
set_option maxHeartbeats 1000000
namespace K1
open PySem PySem.Spec PyProof.Rows L2 Sm Wm Cm Kt Tm
theorem dats0_str : ∀ l : List Str, dats0 (l.map .str) = some (l.map .str)
  | [] => rfl
  | x :: l => by
    simp only [List.map_cons, dats0, dat0, dats0_str l]
theorem ok_S {l : List Nat} (h : okc l) : PyData.strOk (SX.S l) = true := by
  unfold PyData.strOk
  rw [← Array.all_toList, tl_S, List.all_eq_true]
  intro c hc
  exact decide_eq_true (h c hc)
theorem shaped_strs {l : List Str} (h : ∀ x ∈ l, PyData.strOk x = true) : SeqAt.shaped (.list (l.map .str)) = true := by
  unfold SeqAt.shaped
  rw [Bool.and_eq_true]
  refine ⟨?_, decide_eq_true ?_⟩
  · simp only [PyData.canLay0]
    rw [canLayAll_strs', List.all_eq_true]
    exact h
  · simp only [PyData.depth]
    rw [depthAll_strs']
    decide
/-- signs, all of them as texts -/
abbrev sg1 (l : List Nat) : List PV := l.map fun c => .str ⟨#[c]⟩
theorem sg1_str (l : List Nat) : sg1 l = (l.map fun c => (⟨#[c]⟩ : Str)).map PV.str := by rw [List.map_map]; rfl
theorem nil_eq {l : List Nat} (h : okc l) {n : Nat} {st : Store} {P : Sm.PK} (hn : st[n]? = some (.lst (sg1 l))) (hp : P (.bl (decide (l = []))) st) : oEq2 (.hd n) (.lst []) st P := by
  show oEq (.hd n) (.lst []) st P
  unfold oEq
  have e : dat st (.hd n) = some (.list ((l.map fun c => (⟨#[c]⟩ : Str)).map .str)) := by
    simp only [dat, hn]
    rw [sg1_str, dats0_str]
    rfl
  have e2 : dat st (.lst []) = some (.list []) := rfl
  rw [e, e2]
  refine ⟨shaped_strs fun x hx => ?_, by decide +kernel, ?_⟩
  · obtain ⟨c, hc, rfl⟩ := List.mem_map.mp hx
    exact ok_S (l := [c]) fun d hd => by rw [List.mem_singleton.mp hd]; exact h c hc
  · cases l with
    | nil => exact hp
    | cons c r => exact hp
theorem comp_filter {i n : Nat} {t : SemT} {ρ : Sm.Env} {P : Sm.PK} (g : Nat → Bool) : ∀ (l acc : List Nat) (st : Store), st[n]? = some (.lst (sg1 acc)) → acc.length + l.length < 100000 → i < ρ.length →
    (∀ c ∈ l, ∀ (st : Store) (P : Bool → Store → Prop) (PX : Sm.XP), P (g c) st → t (ρ.set i (some (.str ⟨#[c]⟩))) st P PX) → P (.hd n) (st.set n (.lst (sg1 (acc ++ l.filter g)))) → compL i n t (sVar i) P (sg1 l) ρ st
  | [], acc, st, hn, hl, hi, hf, hp => by
    have hlt := (List.getElem?_eq_some_iff.mp hn).1
    rw [List.filter_nil, List.append_nil] at hp
    have e : st.set n (.lst (sg1 acc)) = st := by
      apply List.ext_getElem?
      intro j
      by_cases hj : n = j
      · subst hj
        rw [List.getElem?_set_self hlt, hn]
      · rw [List.getElem?_set_ne hj]
    rw [e] at hp
    exact hp
  | c :: l, acc, st, hn, hl, hi, hf, hp => by
    have hlt := (List.getElem?_eq_some_iff.mp hn).1
    simp only [List.length_cons] at hl
    refine hf c List.mem_cons_self st _ _ ?_
    by_cases hg : g c = true
    · rw [hg]
      have e : (ρ.set i (some (.str ⟨#[c]⟩)))[i]? = some (some (.str ⟨#[c]⟩)) := List.getElem?_set_self hi
      simp only [sVar, e, hn]
      refine ⟨by rw [List.length_map]; omega, ?_⟩
      have em : sg1 acc ++ [PV.str ⟨#[c]⟩] = sg1 (acc ++ [c]) := by simp
      rw [em]
      refine comp_filter g l (acc ++ [c]) _ (by rw [List.getElem?_set_self hlt]) (by simp only [List.length_append, List.length_cons, List.length_nil]; omega) hi (fun y hy => hf y (List.mem_cons_of_mem _ hy)) ?_
      rw [List.set_set, List.append_assoc]
      rw [List.filter_cons, if_pos hg] at hp
      exact hp
    · rw [show g c = false by simpa using hg]
      rw [List.filter_cons, if_neg hg] at hp
      exact comp_filter g l acc st hn (by omega) hi (fun y hy => hf y (List.mem_cons_of_mem _ hy)) hp
section
variable {K : PySem.W.Frag} {mg : Str → Option Value}
theorem p__law_lowest : ∀ pvs st Q PX, S__law_lowest mg pvs st Q PX → t__law_lowest K mg (endOf Q PX) (ini N__law_lowest pvs) st := by
  rintro pvs st Q PX ⟨a, b, rfl, hb, ba, bb, hq⟩
  have eA : ∀ n : Int, ((if n < 0 then -n else n)) = (n.natAbs : Int) := fun n => by split <;> omega
  have hg : 0 < Int.gcd a b := Int.gcd_pos_of_ne_zero_right a (by omega)
  simp only [t__law_lowest, sWhile, eA, sRet, sSeq, sAsg, sIfS, sSkip, sPar, sAsgG, sDrop, sRaise, sOp, sCB, sCons, sNil, sVar, sC, sTup, sLst, sNew, sNeg, sNot, sTest, sNotT, sAndT, sOrT, sAnd, sOr, sIf, sChain, sBits, sCall, ini, endOf, kName, kTup2, oAdd, oI, oI0, oIs, isNon_non, isNon_tup, isNon_int, oIx, oLen, oAbs, oInt, oGcd, oType, oEq_ii, oNe_ii, oEq_enc, oNe_enc, oEq_tt, oNe_tt, atI_0, atI_1, List.map_cons, List.map_nil, List.length_cons, List.length_nil, List.cons_append, List.nil_append, List.append_nil, List.replicate_succ, List.replicate_zero, List.getElem?_cons_zero, List.getElem?_cons_succ, List.set_cons_zero, List.set_cons_succ, Bool.false_eq_true, decide_true, decide_false, Bool.not_true, Bool.not_false, ↓reduceIte, Nat.reduceAdd, Nat.reduceSub, Nat.zero_add, Option.isSome, eq_x, ne_x, eq2_ii, ne2_ii, eq2_enc, ne2_enc, len_x, sSl, sPt, sPN, oSl, sFs, sJs, sFmt, sAug, l_minus, l_slash, l_zero, l_n, l_nothing, l_empty, l_digits, SX.S_len, true_and, atI_n]
  refine ⟨fun n ρ s => ∃ x : Nat, ρ = [some (.int a), some (.int b), some (.int x), some (.int n)] ∧ s = st ∧ Nat.gcd x n = Int.gcd a b, ⟨b.natAbs, a.natAbs, by rw [show ((b.natAbs : Nat) : Int) = b by omega], rfl, rfl⟩, ?_⟩
  rintro n ρ s ⟨x, rfl, rfl, hx⟩
  simp only [sRet, sSeq, sAsg, sIfS, sSkip, sPar, sAsgG, sDrop, sRaise, sOp, sCB, sCons, sNil, sVar, sC, sTup, sLst, sNew, sNeg, sNot, sTest, sNotT, sAndT, sOrT, sAnd, sOr, sIf, sChain, sBits, sCall, ini, endOf, kName, kTup2, oAdd, oI, oI0, oIs, isNon_non, isNon_tup, isNon_int, oIx, oLen, oAbs, oInt, oGcd, oType, oEq_ii, oNe_ii, oEq_enc, oNe_enc, oEq_tt, oNe_tt, atI_0, atI_1, List.map_cons, List.map_nil, List.length_cons, List.length_nil, List.cons_append, List.nil_append, List.append_nil, List.replicate_succ, List.replicate_zero, List.getElem?_cons_zero, List.getElem?_cons_succ, List.set_cons_zero, List.set_cons_succ, Bool.false_eq_true, decide_true, decide_false, Bool.not_true, Bool.not_false, ↓reduceIte, Nat.reduceAdd, Nat.reduceSub, Nat.zero_add, Option.isSome, eq_x, ne_x, eq2_ii, ne2_ii, eq2_enc, ne2_enc, len_x, sSl, sPt, sPN, oSl, sFs, sJs, sFmt, sAug, l_minus, l_slash, l_zero, l_n, l_nothing, l_empty, l_digits, SX.S_len, true_and, atI_n]
  by_cases h0 : (n : Int) = 0
  · rw [decide_eq_true h0]
    have hn : n = 0 := by omega
    subst hn
    rw [Nat.gcd_zero_right] at hx
    subst hx
    simp only [Bool.not_true]
    have g0 : ((Int.gcd a b : Nat) : Int) ≠ 0 := by omega
    refine ⟨cdiv ba g0, cdiv bb g0, by decide, ?_⟩
    have h : ¬ b < 0 := by omega
    simp only [low, h, if_false, enc] at hq
    exact hq
  · rw [decide_eq_false h0]
    have hn : 0 < n := by omega
    refine ⟨cmod (by omega), x % n, Nat.mod_lt _ hn, n, ?_, ?_⟩
    · rw [Int.fmod_eq_emod_of_nonneg _ (by omega)]
      simp
    · rw [← gcd_step]
      exact hx
theorem cp10 (j : Int) (h : 0 < j) (h2 : j ≤ 1000) : CPowG 10 j := cp j h h2
theorem p59 : (10 : Int) ^ Int.toNat 59 = 10 ^ 59 := rfl
theorem p60 : (10 : Int) ^ Int.toNat 60 = 10 ^ 60 := rfl
theorem p58 : (10 : Int) ^ Int.toNat 58 = 10 ^ 58 := rfl
theorem p6 : (10 : Int) ^ Int.toNat 6 = 1000000 := by decide +kernel
theorem p__law_integer : ∀ pvs st Q PX, S__law_integer mg pvs st Q PX → t__law_integer K mg (endOf Q PX) (ini N__law_integer pvs) st := by
  rintro pvs st Q PX ⟨n, k, rfl, hd, hq⟩
  simp only [t__law_integer, sRet, sSeq, sAsg, sIfS, sSkip, sPar, sAsgG, sDrop, sRaise, sOp, sCB, sCons, sNil, sVar, sC, sTup, sLst, sNew, sNeg, sNot, sTest, sNotT, sAndT, sOrT, sAnd, sOr, sIf, sChain, sBits, sCall, ini, endOf, kName, kTup2, oAdd, oI, oI0, oIs, isNon_non, isNon_tup, isNon_int, oIx, oLen, oAbs, oInt, oGcd, oType, oEq_ii, oNe_ii, oEq_enc, oNe_enc, oEq_tt, oNe_tt, atI_0, atI_1, List.map_cons, List.map_nil, List.length_cons, List.length_nil, List.cons_append, List.nil_append, List.append_nil, List.replicate_succ, List.replicate_zero, List.getElem?_cons_zero, List.getElem?_cons_succ, List.set_cons_zero, List.set_cons_succ, Bool.false_eq_true, decide_true, decide_false, Bool.not_true, Bool.not_false, ↓reduceIte, Nat.reduceAdd, Nat.reduceSub, Nat.zero_add, Option.isSome, eq_x, ne_x, eq2_ii, ne2_ii, eq2_enc, ne2_enc, len_x, sSl, sPt, sPN, oSl, sFs, sJs, sFmt, sAug, l_minus, l_slash, l_zero, l_n, l_nothing, l_empty, l_digits, SX.S_len, true_and, atI_n]
  refine ⟨n, k + 3, 8, rfl, hd, by decide, b_of (by decide), fun r s1 r0 r9 hd1 a1 => ?_⟩
  simp only [sRet, sSeq, sAsg, sIfS, sSkip, sPar, sAsgG, sDrop, sRaise, sOp, sCB, sCons, sNil, sVar, sC, sTup, sLst, sNew, sNeg, sNot, sTest, sNotT, sAndT, sOrT, sAnd, sOr, sIf, sChain, sBits, sCall, ini, endOf, kName, kTup2, oAdd, oI, oI0, oIs, isNon_non, isNon_tup, isNon_int, oIx, oLen, oAbs, oInt, oGcd, oType, oEq_ii, oNe_ii, oEq_enc, oNe_enc, oEq_tt, oNe_tt, atI_0, atI_1, List.map_cons, List.map_nil, List.length_cons, List.length_nil, List.cons_append, List.nil_append, List.append_nil, List.replicate_succ, List.replicate_zero, List.getElem?_cons_zero, List.getElem?_cons_succ, List.set_cons_zero, List.set_cons_succ, Bool.false_eq_true, decide_true, decide_false, Bool.not_true, Bool.not_false, ↓reduceIte, Nat.reduceAdd, Nat.reduceSub, Nat.zero_add, Option.isSome, eq_x, ne_x, eq2_ii, ne2_ii, eq2_enc, ne2_enc, len_x, sSl, sPt, sPN, oSl, sFs, sJs, sFmt, sAug, l_minus, l_slash, l_zero, l_n, l_nothing, l_empty, l_digits, SX.S_len, true_and, atI_n]
  by_cases h0 : r = 0
  · rw [decide_eq_true h0]
    refine ⟨cp10 59 (by decide) (by decide), cp10 60 (by decide) (by decide), cp10 58 (by decide) (by decide), cp10 6 (by decide) (by decide), n, k + 2, _, rfl, hd1.mono (by omega), by rw [p6]; decide, by rw [p6]; exact b_of (by decide), fun x s2 x0 x9 hd2 a2 => ?_⟩
    rw [p6] at x9
    refine ⟨by decide, n, k, _, rfl, hd2.mono (by omega), by simp, by simp, fun v hv s3 hd3 a3 => ?_⟩
    simp only [List.mem_cons, List.not_mem_nil, or_false] at hv
    have a13 := (a1.trans a2).trans a3
    rcases hv with rfl | rfl | rfl
    · exact hq _ _ (by rw [p59]; decide) (by rw [p59]; decide) hd3 a13
    · exact hq _ _ (by rw [p60]; decide) (by rw [p60]; decide) hd3 a13
    · refine hq _ _ ?_ ?_ hd3 a13
      · rw [p58]; omega
      · rw [p58]; omega
  · rw [decide_eq_false h0]
    simp only [sRet, sSeq, sAsg, sIfS, sSkip, sPar, sAsgG, sDrop, sRaise, sOp, sCB, sCons, sNil, sVar, sC, sTup, sLst, sNew, sNeg, sNot, sTest, sNotT, sAndT, sOrT, sAnd, sOr, sIf, sChain, sBits, sCall, ini, endOf, kName, kTup2, oAdd, oI, oI0, oIs, isNon_non, isNon_tup, isNon_int, oIx, oLen, oAbs, oInt, oGcd, oType, oEq_ii, oNe_ii, oEq_enc, oNe_enc, oEq_tt, oNe_tt, atI_0, atI_1, List.map_cons, List.map_nil, List.length_cons, List.length_nil, List.cons_append, List.nil_append, List.append_nil, List.replicate_succ, List.replicate_zero, List.getElem?_cons_zero, List.getElem?_cons_succ, List.set_cons_zero, List.set_cons_succ, Bool.false_eq_true, decide_true, decide_false, Bool.not_true, Bool.not_false, ↓reduceIte, Nat.reduceAdd, Nat.reduceSub, Nat.zero_add, Option.isSome, eq_x, ne_x, eq2_ii, ne2_ii, eq2_enc, ne2_enc, len_x, sSl, sPt, sPN, oSl, sFs, sJs, sFmt, sAug, l_minus, l_slash, l_zero, l_n, l_nothing, l_empty, l_digits, SX.S_len, true_and, atI_n]
    by_cases h5 : r < 5
    · rw [decide_eq_true h5]
      exact ⟨n, k + 2, 10, rfl, hd1.mono (by omega), by decide, b_of (by decide), fun x s2 x0 x9 hd2 a2 => hq _ _ x0 (by omega) (hd2.mono (by omega)) (a1.trans a2)⟩
    · rw [decide_eq_false h5]
      exact ⟨n, k + 2, 2000, rfl, hd1.mono (by omega), by decide, b_of (by decide), fun x s2 x0 x9 hd2 a2 => hq _ _ x0 (by omega) (hd2.mono (by omega)) (a1.trans a2)⟩
theorem p__law_written : ∀ pvs st Q PX, S__law_written mg pvs st Q PX → t__law_written K mg (endOf Q PX) (ini N__law_written pvs) st := by
  rintro pvs st Q PX ⟨a, b, rfl, ba, bb, hq⟩
  have la := num_len' ba
  have lb := num_len' bb
  simp only [t__law_written, enc, sRet, sSeq, sAsg, sIfS, sSkip, sPar, sAsgG, sDrop, sRaise, sOp, sCB, sCons, sNil, sVar, sC, sTup, sLst, sNew, sNeg, sNot, sTest, sNotT, sAndT, sOrT, sAnd, sOr, sIf, sChain, sBits, sCall, ini, endOf, kName, kTup2, oAdd, oI, oI0, oIs, isNon_non, isNon_tup, isNon_int, oIx, oLen, oAbs, oInt, oGcd, oType, oEq_ii, oNe_ii, oEq_enc, oNe_enc, oEq_tt, oNe_tt, atI_0, atI_1, List.map_cons, List.map_nil, List.length_cons, List.length_nil, List.cons_append, List.nil_append, List.append_nil, List.replicate_succ, List.replicate_zero, List.getElem?_cons_zero, List.getElem?_cons_succ, List.set_cons_zero, List.set_cons_succ, Bool.false_eq_true, decide_true, decide_false, Bool.not_true, Bool.not_false, ↓reduceIte, Nat.reduceAdd, Nat.reduceSub, Nat.zero_add, Option.isSome, eq_x, ne_x, eq2_ii, ne2_ii, eq2_enc, ne2_enc, len_x, sSl, sPt, sPN, oSl, sFs, sJs, sFmt, sAug, l_minus, l_slash, l_zero, l_n, l_nothing, l_empty, l_digits, SX.S_len, true_and, atI_n]
  refine Tm.str_x a st _ (log_lt ba (by decide)) ?_
  simp only [sRet, sSeq, sAsg, sIfS, sSkip, sPar, sAsgG, sDrop, sRaise, sOp, sCB, sCons, sNil, sVar, sC, sTup, sLst, sNew, sNeg, sNot, sTest, sNotT, sAndT, sOrT, sAnd, sOr, sIf, sChain, sBits, sCall, ini, endOf, kName, kTup2, oAdd, oI, oI0, oIs, isNon_non, isNon_tup, isNon_int, oIx, oLen, oAbs, oInt, oGcd, oType, oEq_ii, oNe_ii, oEq_enc, oNe_enc, oEq_tt, oNe_tt, atI_0, atI_1, List.map_cons, List.map_nil, List.length_cons, List.length_nil, List.cons_append, List.nil_append, List.append_nil, List.replicate_succ, List.replicate_zero, List.getElem?_cons_zero, List.getElem?_cons_succ, List.set_cons_zero, List.set_cons_succ, Bool.false_eq_true, decide_true, decide_false, Bool.not_true, Bool.not_false, ↓reduceIte, Nat.reduceAdd, Nat.reduceSub, Nat.zero_add, Option.isSome, eq_x, ne_x, eq2_ii, ne2_ii, eq2_enc, ne2_enc, len_x, sSl, sPt, sPN, oSl, sFs, sJs, sFmt, sAug, l_minus, l_slash, l_zero, l_n, l_nothing, l_empty, l_digits, SX.S_len, true_and, atI_n]
  unfold wt at hq
  by_cases h : b = 1
  · rw [decide_eq_true h]
    rw [if_pos h] at hq
    exact hq
  · rw [decide_eq_false h]
    rw [if_neg h] at hq
    refine ⟨Nat.le_trans (show (num a).length + [47].length ≤ 100000 by simp; omega) (by decide), ?_⟩
    rw [S_add]
    refine Tm.str_x b st _ (log_lt bb (by decide)) ?_
    simp only [sRet, sSeq, sAsg, sIfS, sSkip, sPar, sAsgG, sDrop, sRaise, sOp, sCB, sCons, sNil, sVar, sC, sTup, sLst, sNew, sNeg, sNot, sTest, sNotT, sAndT, sOrT, sAnd, sOr, sIf, sChain, sBits, sCall, ini, endOf, kName, kTup2, oAdd, oI, oI0, oIs, isNon_non, isNon_tup, isNon_int, oIx, oLen, oAbs, oInt, oGcd, oType, oEq_ii, oNe_ii, oEq_enc, oNe_enc, oEq_tt, oNe_tt, atI_0, atI_1, List.map_cons, List.map_nil, List.length_cons, List.length_nil, List.cons_append, List.nil_append, List.append_nil, List.replicate_succ, List.replicate_zero, List.getElem?_cons_zero, List.getElem?_cons_succ, List.set_cons_zero, List.set_cons_succ, Bool.false_eq_true, decide_true, decide_false, Bool.not_true, Bool.not_false, ↓reduceIte, Nat.reduceAdd, Nat.reduceSub, Nat.zero_add, Option.isSome, eq_x, ne_x, eq2_ii, ne2_ii, eq2_enc, ne2_enc, len_x, sSl, sPt, sPN, oSl, sFs, sJs, sFmt, sAug, l_minus, l_slash, l_zero, l_n, l_nothing, l_empty, l_digits, SX.S_len, true_and, atI_n]
    rw [S_add]
    refine ⟨Nat.le_trans (show (num a ++ [47]).length + (num b).length ≤ 100000 by simp; omega) (by decide), ?_⟩
    simpa using hq
theorem p__law_is_row : ∀ pvs st Q PX, S__law_is_row mg pvs st Q PX → t__law_is_row K mg (endOf Q PX) (ini N__law_is_row pvs) st := by
  rintro pvs st Q PX ⟨l, rfl, hl, ho, hq⟩
  have e0 : Ext st st := ⟨[], by simp⟩
  simp only [t__law_is_row, sLc, itemsS, sRet, sSeq, sAsg, sIfS, sSkip, sPar, sAsgG, sDrop, sRaise, sOp, sCB, sCons, sNil, sVar, sC, sTup, sLst, sNew, sNeg, sNot, sTest, sNotT, sAndT, sOrT, sAnd, sOr, sIf, sChain, sBits, sCall, ini, endOf, kName, kTup2, oAdd, oI, oI0, oIs, isNon_non, isNon_tup, isNon_int, oIx, oLen, oAbs, oInt, oGcd, oType, oEq_ii, oNe_ii, oEq_enc, oNe_enc, oEq_tt, oNe_tt, atI_0, atI_1, List.map_cons, List.map_nil, List.length_cons, List.length_nil, List.cons_append, List.nil_append, List.append_nil, List.replicate_succ, List.replicate_zero, List.getElem?_cons_zero, List.getElem?_cons_succ, List.set_cons_zero, List.set_cons_succ, Bool.false_eq_true, decide_true, decide_false, Bool.not_true, Bool.not_false, ↓reduceIte, Nat.reduceAdd, Nat.reduceSub, Nat.zero_add, Option.isSome, eq_x, ne_x, eq2_ii, ne2_ii, eq2_enc, ne2_enc, len_x, sSl, sPt, sPN, oSl, sFs, sJs, sFmt, sAug, l_minus, l_slash, l_zero, l_n, l_nothing, l_empty, l_digits, SX.S_len, true_and, atI_n]
  by_cases hn : l = []
  · subst hn
    exact hq st e0
  · rw [decide_eq_false hn]
    simp only [signsOf, tl_S, sRet, sSeq, sAsg, sIfS, sSkip, sPar, sAsgG, sDrop, sRaise, sOp, sCB, sCons, sNil, sVar, sC, sTup, sLst, sNew, sNeg, sNot, sTest, sNotT, sAndT, sOrT, sAnd, sOr, sIf, sChain, sBits, sCall, ini, endOf, kName, kTup2, oAdd, oI, oI0, oIs, isNon_non, isNon_tup, isNon_int, oIx, oLen, oAbs, oInt, oGcd, oType, oEq_ii, oNe_ii, oEq_enc, oNe_enc, oEq_tt, oNe_tt, atI_0, atI_1, List.map_cons, List.map_nil, List.length_cons, List.length_nil, List.cons_append, List.nil_append, List.append_nil, List.replicate_succ, List.replicate_zero, List.getElem?_cons_zero, List.getElem?_cons_succ, List.set_cons_zero, List.set_cons_succ, Bool.false_eq_true, decide_true, decide_false, Bool.not_true, Bool.not_false, ↓reduceIte, Nat.reduceAdd, Nat.reduceSub, Nat.zero_add, Option.isSome, eq_x, ne_x, eq2_ii, ne2_ii, eq2_enc, ne2_enc, len_x, sSl, sPt, sPN, oSl, sFs, sJs, sFmt, sAug, l_minus, l_slash, l_zero, l_n, l_nothing, l_empty, l_digits, SX.S_len, true_and, atI_n]
    refine comp_filter (fun c => !dig c) l [] _ (get_end st _) (by simp; omega) (by simp [wipeE]) (fun c hc st P PX hp => ?_) ?_
    · simp only [wipeE, sRet, sSeq, sAsg, sIfS, sSkip, sPar, sAsgG, sDrop, sRaise, sOp, sCB, sCons, sNil, sVar, sC, sTup, sLst, sNew, sNeg, sNot, sTest, sNotT, sAndT, sOrT, sAnd, sOr, sIf, sChain, sBits, sCall, ini, endOf, kName, kTup2, oAdd, oI, oI0, oIs, isNon_non, isNon_tup, isNon_int, oIx, oLen, oAbs, oInt, oGcd, oType, oEq_ii, oNe_ii, oEq_enc, oNe_enc, oEq_tt, oNe_tt, atI_0, atI_1, List.map_cons, List.map_nil, List.length_cons, List.length_nil, List.cons_append, List.nil_append, List.append_nil, List.replicate_succ, List.replicate_zero, List.getElem?_cons_zero, List.getElem?_cons_succ, List.set_cons_zero, List.set_cons_succ, Bool.false_eq_true, decide_true, decide_false, Bool.not_true, Bool.not_false, ↓reduceIte, Nat.reduceAdd, Nat.reduceSub, Nat.zero_add, Option.isSome, eq_x, ne_x, eq2_ii, ne2_ii, eq2_enc, ne2_enc, len_x, sSl, sPt, sPN, oSl, sFs, sJs, sFmt, sAug, l_minus, l_slash, l_zero, l_n, l_nothing, l_empty, l_digits, SX.S_len, true_and, atI_n]
      refine ni_x c _ _ _ ?_
      rw [mem10]
      exact hp
    · rw [set_end, List.nil_append]
      refine ⟨by decide, ?_⟩
      refine nil_eq (l := l.filter fun c => !dig c) (fun c hc => ho c (List.mem_filter.mp hc).1) (get_end st _) ?_
      have := hq (st ++ [Ob.lst (sg1 (l.filter fun c => !dig c))]) ⟨_, rfl⟩
      have e : decide (l.filter (fun c => !dig c) = []) = isRow l := by
        unfold isRow
        rw [decide_eq_true hn, Bool.true_and, Bool.eq_iff_iff, decide_eq_true_eq, List.filter_eq_nil_iff, List.all_eq_true]
        simp
      rw [e]
      exact this
end
end K1
set_option Elab.async false
set_option linter.all false
set_option maxRecDepth 100000
set_option maxHeartbeats 1000000
namespace K1
open PySem PySem.Spec PyProof.Rows L2 Sm Wm Cm Kt Tm
theorem ext_trans {a b c : Store} (h : Ext a b) (h' : Ext b c) : Ext a c := by
  obtain ⟨e, rfl⟩ := h
  obtain ⟨e', rfl⟩ := h'
  exact ⟨e ++ e', by simp⟩
theorem ext_refl (a : Store) : Ext a a := ⟨[], by simp⟩
/-- the parts' signs stand in the text -/
theorem parts_mem : ∀ (n : Nat) (p : List Nat), p.length ≤ n → ∀ a ∈ parts p, (∀ c ∈ a, c ∈ p) ∧ a.length ≤ p.length
  | 0, p, h, a, ha => by
    have : p = [] := List.length_eq_zero_iff.mp (by omega)
    subst this
    rw [parts_no (by simp)] at ha
    rw [List.mem_singleton.mp ha]
    simp
  | n + 1, p, h, a, ha => by
    by_cases h47 : 47 ∈ p
    · obtain ⟨x, y, rfl, hx⟩ := List.eq_append_cons_of_mem h47
      rw [parts_cut hx] at ha
      rcases List.mem_cons.mp ha with rfl | ha
      · exact ⟨fun c hc => List.mem_append_left _ hc, by simp⟩
      · simp only [List.length_append, List.length_cons] at h
        obtain ⟨h1, h2⟩ := parts_mem n y (by omega) a ha
        exact ⟨fun c hc => List.mem_append_right _ (List.mem_cons_of_mem _ (h1 c hc)), by simp only [List.length_append, List.length_cons]; omega⟩
    · rw [parts_no h47] at ha
      rw [List.mem_singleton.mp ha]
      exact ⟨fun c hc => hc, Nat.le_refl _⟩
theorem parts_len : ∀ (n : Nat) (p : List Nat), p.length ≤ n → (parts p).length ≤ p.length + 1
  | 0, p, h => by
    have : p = [] := List.length_eq_zero_iff.mp (by omega)
    subst this
    rw [parts_no (by simp)]
    simp
  | n + 1, p, h => by
    by_cases h47 : 47 ∈ p
    · obtain ⟨x, y, rfl, hx⟩ := List.eq_append_cons_of_mem h47
      rw [parts_cut hx]
      simp only [List.length_append, List.length_cons] at h ⊢
      have := parts_len n y (by omega)
      omega
    · rw [parts_no h47]
      simp
theorem hd48 (a : List Nat) (c : Nat) (r : List Nat) (h : a = c :: r) : (a.head? = some 48) = ([c] = [48]) := by
  subst h
  simp
section
variable {K : PySem.W.Frag} {mg : Str → Option Value}
def cb3 (K : PySem.W.Frag) (mg : Str → Option Value) : SemS := (sSeq (sIfS (sTest (sOp oGt (sCB oLen (sCons (sVar 2) sNil)) (sC (.int 2)))) (sRet (sC (.bl false))) sSkip) (sSeq (sIfS (sTest (sOp oEq2 (sOp oIx (sVar 2) (sC (.int 0))) (sC (.str "")))) (sRet (sOp oEq2 (sCB oLen (sCons (sVar 2) sNil)) (sC (.int 1)))) sSkip) (sSeq (sIfS (sOrT (sNotT (sTest (sCall (S__law_is_row mg) [] (sCons (sOp oIx (sVar 2) (sC (.int 0))) sNil)))) (sTest (sOp oGt (sCB oLen (sCons (sOp oIx (sVar 2) (sC (.int 0))) sNil)) (sC (.int 60))))) (sRet (sC (.bl false))) sSkip) (sSeq (sIfS (sAndT (sTest (sOp oEq2 (sOp oIx (sOp oIx (sVar 2) (sC (.int 0))) (sC (.int 0))) (sC (.str "0")))) (sOrT (sTest (sOp oGt (sCB oLen (sCons (sOp oIx (sVar 2) (sC (.int 0))) sNil)) (sC (.int 1)))) (sTest (sOp oNe2 (sVar 1) (sVar 0))))) (sRet (sC (.bl false))) sSkip) (sSeq (sIfS (sOrT (sTest (sOp oEq2 (sCB oLen (sCons (sVar 2) sNil)) (sC (.int 1)))) (sTest (sOp oEq2 (sOp oIx (sVar 2) (sC (.int 1))) (sC (.str ""))))) (sRet (sC (.bl true))) sSkip) (sRet (sAnd (sCall (S__law_is_row mg) [] (sCons (sOp oIx (sVar 2) (sC (.int 1))) sNil)) (sAnd (sOp oNe2 (sOp oIx (sOp oIx (sVar 2) (sC (.int 1))) (sC (.int 0))) (sC (.str "0"))) (sOp oLe (sCB oLen (sCons (sOp oIx (sVar 2) (sC (.int 1))) sNil)) (sC (.int 60)))))))))))
def cb5 (K : PySem.W.Frag) (mg : Str → Option Value) : SemS := (sSeq (sIfS (sOrT (sNotT (sTest (sCall (S__law_is_row mg) [] (sCons (sOp oIx (sVar 2) (sC (.int 0))) sNil)))) (sTest (sOp oGt (sCB oLen (sCons (sOp oIx (sVar 2) (sC (.int 0))) sNil)) (sC (.int 60))))) (sRet (sC (.bl false))) sSkip) (sSeq (sIfS (sAndT (sTest (sOp oEq2 (sOp oIx (sOp oIx (sVar 2) (sC (.int 0))) (sC (.int 0))) (sC (.str "0")))) (sOrT (sTest (sOp oGt (sCB oLen (sCons (sOp oIx (sVar 2) (sC (.int 0))) sNil)) (sC (.int 1)))) (sTest (sOp oNe2 (sVar 1) (sVar 0))))) (sRet (sC (.bl false))) sSkip) (sSeq (sIfS (sOrT (sTest (sOp oEq2 (sCB oLen (sCons (sVar 2) sNil)) (sC (.int 1)))) (sTest (sOp oEq2 (sOp oIx (sVar 2) (sC (.int 1))) (sC (.str ""))))) (sRet (sC (.bl true))) sSkip) (sRet (sAnd (sCall (S__law_is_row mg) [] (sCons (sOp oIx (sVar 2) (sC (.int 1))) sNil)) (sAnd (sOp oNe2 (sOp oIx (sOp oIx (sVar 2) (sC (.int 1))) (sC (.int 0))) (sC (.str "0"))) (sOp oLe (sCB oLen (sCons (sOp oIx (sVar 2) (sC (.int 1))) sNil)) (sC (.int 60)))))))))
def cb6 (K : PySem.W.Frag) (mg : Str → Option Value) : SemS := (sSeq (sIfS (sAndT (sTest (sOp oEq2 (sOp oIx (sOp oIx (sVar 2) (sC (.int 0))) (sC (.int 0))) (sC (.str "0")))) (sOrT (sTest (sOp oGt (sCB oLen (sCons (sOp oIx (sVar 2) (sC (.int 0))) sNil)) (sC (.int 1)))) (sTest (sOp oNe2 (sVar 1) (sVar 0))))) (sRet (sC (.bl false))) sSkip) (sSeq (sIfS (sOrT (sTest (sOp oEq2 (sCB oLen (sCons (sVar 2) sNil)) (sC (.int 1)))) (sTest (sOp oEq2 (sOp oIx (sVar 2) (sC (.int 1))) (sC (.str ""))))) (sRet (sC (.bl true))) sSkip) (sRet (sAnd (sCall (S__law_is_row mg) [] (sCons (sOp oIx (sVar 2) (sC (.int 1))) sNil)) (sAnd (sOp oNe2 (sOp oIx (sOp oIx (sVar 2) (sC (.int 1))) (sC (.int 0))) (sC (.str "0"))) (sOp oLe (sCB oLen (sCons (sOp oIx (sVar 2) (sC (.int 1))) sNil)) (sC (.int 60))))))))
def cb7 (K : PySem.W.Frag) (mg : Str → Option Value) : SemS := (sSeq (sIfS (sOrT (sTest (sOp oEq2 (sCB oLen (sCons (sVar 2) sNil)) (sC (.int 1)))) (sTest (sOp oEq2 (sOp oIx (sVar 2) (sC (.int 1))) (sC (.str ""))))) (sRet (sC (.bl true))) sSkip) (sRet (sAnd (sCall (S__law_is_row mg) [] (sCons (sOp oIx (sVar 2) (sC (.int 1))) sNil)) (sAnd (sOp oNe2 (sOp oIx (sOp oIx (sVar 2) (sC (.int 1))) (sC (.int 0))) (sC (.str "0"))) (sOp oLe (sCB oLen (sCons (sOp oIx (sVar 2) (sC (.int 1))) sNil)) (sC (.int 60)))))))
theorem cb_eq : t__law_can_begin K mg = sSeq (sIfS (sTest (sOp oEq2 (sSl (sC (.str "nothing")) sPN (sPt (sCB oLen (sCons (sVar 0) sNil)))) (sVar 0))) (sRet (sC (.bl true))) sSkip) (sSeq (sAsg (sIf (sTest (sOp oEq2 (sSl (sVar 0) sPN (sPt (sC (.int 1)))) (sC (.str "-")))) (sSl (sVar 0) (sPt (sC (.int 1))) sPN) (sVar 0)) 1) (sSeq (sAsg (sM1 oSplit (sVar 1) (sC (.str "/"))) 2) (cb3 K mg))) := rfl
theorem cb3_eq : cb3 K mg = sSeq (sIfS (sTest (sOp oGt (sCB oLen (sCons (sVar 2) sNil)) (sC (.int 2)))) (sRet (sC (.bl false))) sSkip) (sSeq (sIfS (sTest (sOp oEq2 (sOp oIx (sVar 2) (sC (.int 0))) (sC (.str "")))) (sRet (sOp oEq2 (sCB oLen (sCons (sVar 2) sNil)) (sC (.int 1)))) sSkip) (cb5 K mg)) := rfl
theorem cb5_eq : cb5 K mg = sSeq (sIfS (sOrT (sNotT (sTest (sCall (S__law_is_row mg) [] (sCons (sOp oIx (sVar 2) (sC (.int 0))) sNil)))) (sTest (sOp oGt (sCB oLen (sCons (sOp oIx (sVar 2) (sC (.int 0))) sNil)) (sC (.int 60))))) (sRet (sC (.bl false))) sSkip) (cb6 K mg) := rfl
theorem cb6_eq : cb6 K mg = sSeq (sIfS (sAndT (sTest (sOp oEq2 (sOp oIx (sOp oIx (sVar 2) (sC (.int 0))) (sC (.int 0))) (sC (.str "0")))) (sOrT (sTest (sOp oGt (sCB oLen (sCons (sOp oIx (sVar 2) (sC (.int 0))) sNil)) (sC (.int 1)))) (sTest (sOp oNe2 (sVar 1) (sVar 0))))) (sRet (sC (.bl false))) sSkip) (cb7 K mg) := rfl
def canC (bs : List (List Nat)) : Bool := match bs with
  | [] => true
  | b :: _ => if b = [] then true else isRow b && decide (b.head? ≠ some 48) && decide (b.length ≤ 60)
theorem cb7_ok (Q : Sm.PK) (PX : Sm.XP) (p r a : List Nat) (bs : List (List Nat)) (st : Store) (hb : bs.length ≤ 1) (hl : ∀ b ∈ bs, b.length ≤ 1000 ∧ okc b) (hq : ∀ st', Ext st st' → Q (.bl (canC bs)) st') :
    cb7 K mg (endOf Q PX) [some (tx p), some (tx r), some (.lst ((a :: bs).map tx))] st := by
  match bs, hb, hl, hq with
  | [], hb, hl, hq =>
    simp only [cb7, sRet, sSeq, sAsg, sIfS, sSkip, sPar, sAsgG, sDrop, sRaise, sOp, sCB, sCons, sNil, sVar, sC, sTup, sLst, sNew, sNeg, sNot, sTest, sNotT, sAndT, sOrT, sAnd, sOr, sIf, sChain, sBits, sCall, ini, endOf, kName, kTup2, oAdd, oI, oI0, oIs, isNon_non, isNon_tup, isNon_int, oIx, oLen, oAbs, oInt, oGcd, oType, oEq_ii, oNe_ii, oEq_enc, oNe_enc, oEq_tt, oNe_tt, atI_0, atI_1, List.map_cons, List.map_nil, List.length_cons, List.length_nil, List.cons_append, List.nil_append, List.append_nil, List.replicate_succ, List.replicate_zero, List.getElem?_cons_zero, List.getElem?_cons_succ, List.set_cons_zero, List.set_cons_succ, Bool.false_eq_true, decide_true, decide_false, Bool.not_true, Bool.not_false, ↓reduceIte, Nat.reduceAdd, Nat.reduceSub, Nat.zero_add, Option.isSome, eq_x, ne_x, eq2_ii, ne2_ii, eq2_enc, ne2_enc, len_x, sSl, sPt, sPN, oSl, sFs, sJs, sFmt, sAug, l_minus, l_slash, l_zero, l_n, l_nothing, l_empty, l_digits, SX.S_len, true_and, atI_n]
    exact hq st (ext_refl st)
  | [b], hb, hl, hq =>
    obtain ⟨h1, h2⟩ := hl b (List.mem_singleton.mpr rfl)
    have e2 : decide (((0 + 1 + 1 : Nat) : Int) = 1) = false := by decide
    have e2' : decide (((2 : Nat) : Int) = 1) = false := by decide
    simp only [cb7, e2, e2', sRet, sSeq, sAsg, sIfS, sSkip, sPar, sAsgG, sDrop, sRaise, sOp, sCB, sCons, sNil, sVar, sC, sTup, sLst, sNew, sNeg, sNot, sTest, sNotT, sAndT, sOrT, sAnd, sOr, sIf, sChain, sBits, sCall, ini, endOf, kName, kTup2, oAdd, oI, oI0, oIs, isNon_non, isNon_tup, isNon_int, oIx, oLen, oAbs, oInt, oGcd, oType, oEq_ii, oNe_ii, oEq_enc, oNe_enc, oEq_tt, oNe_tt, atI_0, atI_1, List.map_cons, List.map_nil, List.length_cons, List.length_nil, List.cons_append, List.nil_append, List.append_nil, List.replicate_succ, List.replicate_zero, List.getElem?_cons_zero, List.getElem?_cons_succ, List.set_cons_zero, List.set_cons_succ, Bool.false_eq_true, decide_true, decide_false, Bool.not_true, Bool.not_false, ↓reduceIte, Nat.reduceAdd, Nat.reduceSub, Nat.zero_add, Option.isSome, eq_x, ne_x, eq2_ii, ne2_ii, eq2_enc, ne2_enc, len_x, sSl, sPt, sPN, oSl, sFs, sJs, sFmt, sAug, l_minus, l_slash, l_zero, l_n, l_nothing, l_empty, l_digits, SX.S_len, true_and, atI_n]
    cases b with
    | nil => exact hq st (ext_refl st)
    | cons c r' =>
      rw [decide_eq_false (show ¬ c :: r' = [] by simp)]
      refine ⟨_, rfl, h1, h2, fun st1 e1 => ?_⟩
      have hq1 := hq st1 e1
      rw [show canC [c :: r'] = (isRow (c :: r') && decide ((c :: r').head? ≠ some 48) && decide ((c :: r').length ≤ 60)) by simp [canC]] at hq1
      simp only [sRet, sSeq, sAsg, sIfS, sSkip, sPar, sAsgG, sDrop, sRaise, sOp, sCB, sCons, sNil, sVar, sC, sTup, sLst, sNew, sNeg, sNot, sTest, sNotT, sAndT, sOrT, sAnd, sOr, sIf, sChain, sBits, sCall, ini, endOf, kName, kTup2, oAdd, oI, oI0, oIs, isNon_non, isNon_tup, isNon_int, oIx, oLen, oAbs, oInt, oGcd, oType, oEq_ii, oNe_ii, oEq_enc, oNe_enc, oEq_tt, oNe_tt, atI_0, atI_1, List.map_cons, List.map_nil, List.length_cons, List.length_nil, List.cons_append, List.nil_append, List.append_nil, List.replicate_succ, List.replicate_zero, List.getElem?_cons_zero, List.getElem?_cons_succ, List.set_cons_zero, List.set_cons_succ, Bool.false_eq_true, decide_true, decide_false, Bool.not_true, Bool.not_false, ↓reduceIte, Nat.reduceAdd, Nat.reduceSub, Nat.zero_add, Option.isSome, eq_x, ne_x, eq2_ii, ne2_ii, eq2_enc, ne2_enc, len_x, sSl, sPt, sPN, oSl, sFs, sJs, sFmt, sAug, l_minus, l_slash, l_zero, l_n, l_nothing, l_empty, l_digits, SX.S_len, true_and, atI_n]
      cases hr : isRow (c :: r') with
      | false =>
        rw [hr] at hq1
        exact hq1
      | true =>
        rw [hr, Bool.true_and] at hq1
        simp only [List.length_cons] at h1
        refine ⟨by omega, ?_⟩
        by_cases h48 : c = 48
        · rw [decide_eq_true (show [c] = [48] by rw [h48])]
          rw [decide_eq_false (show ¬ (c :: r').head? ≠ some 48 from fun z => z (by rw [h48]; rfl)), Bool.false_and] at hq1
          exact hq1
        · rw [decide_eq_false (show ¬ [c] = [48] by simpa using h48)]
          rw [decide_eq_true (show (c :: r').head? ≠ some 48 by simpa using h48), Bool.true_and] at hq1
          refine ⟨by omega, ?_⟩
          have : decide (((r'.length + 1 : Nat) : Int) ≤ 60) = decide ((c :: r').length ≤ 60) := decide_eq_decide.mpr (by simp only [List.length_cons]; omega)
          rw [this]
          exact hq1
theorem p__law_can_begin : ∀ pvs st Q PX, S__law_can_begin mg pvs st Q PX → t__law_can_begin K mg (endOf Q PX) (ini N__law_can_begin pvs) st := by
  rintro pvs st Q PX ⟨p, rfl, hl, ho, hq⟩
  rw [cb_eq]
  simp only [sM1, sl_01, sl_from1, sl_to, take1, sRet, sSeq, sAsg, sIfS, sSkip, sPar, sAsgG, sDrop, sRaise, sOp, sCB, sCons, sNil, sVar, sC, sTup, sLst, sNew, sNeg, sNot, sTest, sNotT, sAndT, sOrT, sAnd, sOr, sIf, sChain, sBits, sCall, ini, endOf, kName, kTup2, oAdd, oI, oI0, oIs, isNon_non, isNon_tup, isNon_int, oIx, oLen, oAbs, oInt, oGcd, oType, oEq_ii, oNe_ii, oEq_enc, oNe_enc, oEq_tt, oNe_tt, atI_0, atI_1, List.map_cons, List.map_nil, List.length_cons, List.length_nil, List.cons_append, List.nil_append, List.append_nil, List.replicate_succ, List.replicate_zero, List.getElem?_cons_zero, List.getElem?_cons_succ, List.set_cons_zero, List.set_cons_succ, Bool.false_eq_true, decide_true, decide_false, Bool.not_true, Bool.not_false, ↓reduceIte, Nat.reduceAdd, Nat.reduceSub, Nat.zero_add, Option.isSome, eq_x, ne_x, eq2_ii, ne2_ii, eq2_enc, ne2_enc, len_x, sSl, sPt, sPN, oSl, sFs, sJs, sFmt, sAug, l_minus, l_slash, l_zero, l_n, l_nothing, l_empty, l_digits, SX.S_len, true_and, atI_n]
  refine ⟨b1000 hl, by decide, ?_⟩
  by_cases hN : nothing.take p.length = p
  · rw [decide_eq_true hN]
    have := hq st (ext_refl st)
    unfold canB at this
    rw [if_pos hN] at this
    exact this
  · rw [decide_eq_false hN]
    simp only [sRet, sSeq, sAsg, sIfS, sSkip, sPar, sAsgG, sDrop, sRaise, sOp, sCB, sCons, sNil, sVar, sC, sTup, sLst, sNew, sNeg, sNot, sTest, sNotT, sAndT, sOrT, sAnd, sOr, sIf, sChain, sBits, sCall, ini, endOf, kName, kTup2, oAdd, oI, oI0, oIs, isNon_non, isNon_tup, isNon_int, oIx, oLen, oAbs, oInt, oGcd, oType, oEq_ii, oNe_ii, oEq_enc, oNe_enc, oEq_tt, oNe_tt, atI_0, atI_1, List.map_cons, List.map_nil, List.length_cons, List.length_nil, List.cons_append, List.nil_append, List.append_nil, List.replicate_succ, List.replicate_zero, List.getElem?_cons_zero, List.getElem?_cons_succ, List.set_cons_zero, List.set_cons_succ, Bool.false_eq_true, decide_true, decide_false, Bool.not_true, Bool.not_false, ↓reduceIte, Nat.reduceAdd, Nat.reduceSub, Nat.zero_add, Option.isSome, eq_x, ne_x, eq2_ii, ne2_ii, eq2_enc, ne2_enc, len_x, sSl, sPt, sPN, oSl, sFs, sJs, sFmt, sAug, l_minus, l_slash, l_zero, l_n, l_nothing, l_empty, l_digits, SX.S_len, true_and, atI_n]
    refine ⟨b1000 hl, ?_⟩
    have hrl : (Kt.rest p).length ≤ p.length := by
      unfold Kt.rest
      split
      · simp
      · exact Nat.le_refl _
    have hro : okc (Kt.rest p) := by
      unfold Kt.rest
      split
      · exact fun c hc => ho c (List.mem_of_mem_tail hc)
      · exact ho
    have tail : sSeq (sAsg (sM1 oSplit (sVar 1) (sC (.str "/"))) 2) (cb3 K mg) (endOf Q PX) [some (tx p), some (tx (Kt.rest p)), none] st := by
      simp only [sM1, sRet, sSeq, sAsg, sIfS, sSkip, sPar, sAsgG, sDrop, sRaise, sOp, sCB, sCons, sNil, sVar, sC, sTup, sLst, sNew, sNeg, sNot, sTest, sNotT, sAndT, sOrT, sAnd, sOr, sIf, sChain, sBits, sCall, ini, endOf, kName, kTup2, oAdd, oI, oI0, oIs, isNon_non, isNon_tup, isNon_int, oIx, oLen, oAbs, oInt, oGcd, oType, oEq_ii, oNe_ii, oEq_enc, oNe_enc, oEq_tt, oNe_tt, atI_0, atI_1, List.map_cons, List.map_nil, List.length_cons, List.length_nil, List.cons_append, List.nil_append, List.append_nil, List.replicate_succ, List.replicate_zero, List.getElem?_cons_zero, List.getElem?_cons_succ, List.set_cons_zero, List.set_cons_succ, Bool.false_eq_true, decide_true, decide_false, Bool.not_true, Bool.not_false, ↓reduceIte, Nat.reduceAdd, Nat.reduceSub, Nat.zero_add, Option.isSome, eq_x, ne_x, eq2_ii, ne2_ii, eq2_enc, ne2_enc, len_x, sSl, sPt, sPN, oSl, sFs, sJs, sFmt, sAug, l_minus, l_slash, l_zero, l_n, l_nothing, l_empty, l_digits, SX.S_len, true_and, atI_n]
      refine ⟨⟨_, rfl⟩, spl_x (Kt.rest p) 47 (by decide) _ _ (by omega) ?_⟩
      obtain ⟨a, bs, hp⟩ := List.exists_cons_of_ne_nil (parts_ne (Kt.rest p))
      have hmem := parts_mem _ (Kt.rest p) (Nat.le_refl _)
      rw [show TL.spl [47] 0 [] (Kt.rest p) = a :: bs from hp]
      have hq' := hq
      rw [canB_eq hN hp] at hq'
      rw [hp] at hmem
      have ha := hmem a (List.mem_cons_self ..)
      rw [cb3_eq]
      simp only [sRet, sSeq, sAsg, sIfS, sSkip, sPar, sAsgG, sDrop, sRaise, sOp, sCB, sCons, sNil, sVar, sC, sTup, sLst, sNew, sNeg, sNot, sTest, sNotT, sAndT, sOrT, sAnd, sOr, sIf, sChain, sBits, sCall, ini, endOf, kName, kTup2, oAdd, oI, oI0, oIs, isNon_non, isNon_tup, isNon_int, oIx, oLen, oAbs, oInt, oGcd, oType, oEq_ii, oNe_ii, oEq_enc, oNe_enc, oEq_tt, oNe_tt, atI_0, atI_1, List.map_cons, List.map_nil, List.length_cons, List.length_nil, List.cons_append, List.nil_append, List.append_nil, List.replicate_succ, List.replicate_zero, List.getElem?_cons_zero, List.getElem?_cons_succ, List.set_cons_zero, List.set_cons_succ, Bool.false_eq_true, decide_true, decide_false, Bool.not_true, Bool.not_false, ↓reduceIte, Nat.reduceAdd, Nat.reduceSub, Nat.zero_add, Option.isSome, eq_x, ne_x, eq2_ii, ne2_ii, eq2_enc, ne2_enc, len_x, sSl, sPt, sPN, oSl, sFs, sJs, sFmt, sAug, l_minus, l_slash, l_zero, l_n, l_nothing, l_empty, l_digits, SX.S_len, true_and, atI_n]
      by_cases h2 : 1 < bs.length
      · rw [if_pos h2] at hq'
        rw [decide_eq_true (show (2 : Int) < (((bs.map tx).length + 1 : Nat) : Int) by rw [List.length_map]; omega)]
        exact hq' st (ext_refl st)
      · rw [if_neg h2] at hq'
        rw [decide_eq_false (show ¬ (2 : Int) < (((bs.map tx).length + 1 : Nat) : Int) by rw [List.length_map]; omega)]
        simp only [sRet, sSeq, sAsg, sIfS, sSkip, sPar, sAsgG, sDrop, sRaise, sOp, sCB, sCons, sNil, sVar, sC, sTup, sLst, sNew, sNeg, sNot, sTest, sNotT, sAndT, sOrT, sAnd, sOr, sIf, sChain, sBits, sCall, ini, endOf, kName, kTup2, oAdd, oI, oI0, oIs, isNon_non, isNon_tup, isNon_int, oIx, oLen, oAbs, oInt, oGcd, oType, oEq_ii, oNe_ii, oEq_enc, oNe_enc, oEq_tt, oNe_tt, atI_0, atI_1, List.map_cons, List.map_nil, List.length_cons, List.length_nil, List.cons_append, List.nil_append, List.append_nil, List.replicate_succ, List.replicate_zero, List.getElem?_cons_zero, List.getElem?_cons_succ, List.set_cons_zero, List.set_cons_succ, Bool.false_eq_true, decide_true, decide_false, Bool.not_true, Bool.not_false, ↓reduceIte, Nat.reduceAdd, Nat.reduceSub, Nat.zero_add, Option.isSome, eq_x, ne_x, eq2_ii, ne2_ii, eq2_enc, ne2_enc, len_x, sSl, sPt, sPN, oSl, sFs, sJs, sFmt, sAug, l_minus, l_slash, l_zero, l_n, l_nothing, l_empty, l_digits, SX.S_len, true_and, atI_n]
        unfold canA at hq'
        by_cases ha0 : a = []
        · rw [if_pos ha0] at hq'
          rw [decide_eq_true ha0]
          have : decide (((bs.map tx).length + 1 : Nat) = (1 : Int)) = decide (bs = []) := decide_eq_decide.mpr (by
            rw [List.length_map]
            constructor
            · intro h
              exact List.length_eq_zero_iff.mp (by omega)
            · intro h
              subst h
              rfl)
          rw [this]
          exact hq' st (ext_refl st)
        · rw [if_neg ha0] at hq'
          rw [decide_eq_false ha0]
          obtain ⟨c, r', rfl⟩ := List.exists_cons_of_ne_nil ha0
          rw [cb5_eq]
          simp only [sRet, sSeq, sAsg, sIfS, sSkip, sPar, sAsgG, sDrop, sRaise, sOp, sCB, sCons, sNil, sVar, sC, sTup, sLst, sNew, sNeg, sNot, sTest, sNotT, sAndT, sOrT, sAnd, sOr, sIf, sChain, sBits, sCall, ini, endOf, kName, kTup2, oAdd, oI, oI0, oIs, isNon_non, isNon_tup, isNon_int, oIx, oLen, oAbs, oInt, oGcd, oType, oEq_ii, oNe_ii, oEq_enc, oNe_enc, oEq_tt, oNe_tt, atI_0, atI_1, List.map_cons, List.map_nil, List.length_cons, List.length_nil, List.cons_append, List.nil_append, List.append_nil, List.replicate_succ, List.replicate_zero, List.getElem?_cons_zero, List.getElem?_cons_succ, List.set_cons_zero, List.set_cons_succ, Bool.false_eq_true, decide_true, decide_false, Bool.not_true, Bool.not_false, ↓reduceIte, Nat.reduceAdd, Nat.reduceSub, Nat.zero_add, Option.isSome, eq_x, ne_x, eq2_ii, ne2_ii, eq2_enc, ne2_enc, len_x, sSl, sPt, sPN, oSl, sFs, sJs, sFmt, sAug, l_minus, l_slash, l_zero, l_n, l_nothing, l_empty, l_digits, SX.S_len, true_and, atI_n]
          refine ⟨_, rfl, by omega, fun d hd => hro d (ha.1 d hd), fun st1 e1 => ?_⟩
          have hq1 := fun st' (h : Ext st1 st') => hq' st' (ext_trans e1 h)
          simp only [sRet, sSeq, sAsg, sIfS, sSkip, sPar, sAsgG, sDrop, sRaise, sOp, sCB, sCons, sNil, sVar, sC, sTup, sLst, sNew, sNeg, sNot, sTest, sNotT, sAndT, sOrT, sAnd, sOr, sIf, sChain, sBits, sCall, ini, endOf, kName, kTup2, oAdd, oI, oI0, oIs, isNon_non, isNon_tup, isNon_int, oIx, oLen, oAbs, oInt, oGcd, oType, oEq_ii, oNe_ii, oEq_enc, oNe_enc, oEq_tt, oNe_tt, atI_0, atI_1, List.map_cons, List.map_nil, List.length_cons, List.length_nil, List.cons_append, List.nil_append, List.append_nil, List.replicate_succ, List.replicate_zero, List.getElem?_cons_zero, List.getElem?_cons_succ, List.set_cons_zero, List.set_cons_succ, Bool.false_eq_true, decide_true, decide_false, Bool.not_true, Bool.not_false, ↓reduceIte, Nat.reduceAdd, Nat.reduceSub, Nat.zero_add, Option.isSome, eq_x, ne_x, eq2_ii, ne2_ii, eq2_enc, ne2_enc, len_x, sSl, sPt, sPN, oSl, sFs, sJs, sFmt, sAug, l_minus, l_slash, l_zero, l_n, l_nothing, l_empty, l_digits, SX.S_len, true_and, atI_n]
          cases hr : isRow (c :: r') with
          | false =>
            rw [hr, if_pos (.inl rfl)] at hq1
            exact hq1 st1 (ext_refl _)
          | true =>
            rw [hr] at hq1
            have hal := ha.2
            simp only [List.length_cons] at hal
            simp only [sRet, sSeq, sAsg, sIfS, sSkip, sPar, sAsgG, sDrop, sRaise, sOp, sCB, sCons, sNil, sVar, sC, sTup, sLst, sNew, sNeg, sNot, sTest, sNotT, sAndT, sOrT, sAnd, sOr, sIf, sChain, sBits, sCall, ini, endOf, kName, kTup2, oAdd, oI, oI0, oIs, isNon_non, isNon_tup, isNon_int, oIx, oLen, oAbs, oInt, oGcd, oType, oEq_ii, oNe_ii, oEq_enc, oNe_enc, oEq_tt, oNe_tt, atI_0, atI_1, List.map_cons, List.map_nil, List.length_cons, List.length_nil, List.cons_append, List.nil_append, List.append_nil, List.replicate_succ, List.replicate_zero, List.getElem?_cons_zero, List.getElem?_cons_succ, List.set_cons_zero, List.set_cons_succ, Bool.false_eq_true, decide_true, decide_false, Bool.not_true, Bool.not_false, ↓reduceIte, Nat.reduceAdd, Nat.reduceSub, Nat.zero_add, Option.isSome, eq_x, ne_x, eq2_ii, ne2_ii, eq2_enc, ne2_enc, len_x, sSl, sPt, sPN, oSl, sFs, sJs, sFmt, sAug, l_minus, l_slash, l_zero, l_n, l_nothing, l_empty, l_digits, SX.S_len, true_and, atI_n]
            refine ⟨by omega, ?_⟩
            by_cases h60 : 60 < (c :: r').length
            · rw [if_pos (.inr h60)] at hq1
              simp only [List.length_cons] at h60
              rw [decide_eq_true (show (60 : Int) < ((r'.length + 1 : Nat) : Int) by omega)]
              exact hq1 st1 (ext_refl _)
            · rw [if_neg (by
                rintro (h | h)
                · cases h
                · exact h60 h)] at hq1
              simp only [List.length_cons] at h60
              rw [decide_eq_false (show ¬ (60 : Int) < ((r'.length + 1 : Nat) : Int) by omega)]
              have tail7 : ∀ st2, Ext st1 st2 → (∀ st', Ext st2 st' → Q (.bl (canC bs)) st') → cb7 K mg (endOf Q PX) [some (tx p), some (tx (Kt.rest p)), some (.lst (((c :: r') :: bs).map tx))] st2 := fun st2 h h' =>
                cb7_ok Q PX p (Kt.rest p) _ bs st2 (by omega) (fun b hb => ⟨by have := (hmem b (List.mem_cons_of_mem _ hb)).2; omega, fun d hd => hro d ((hmem b (List.mem_cons_of_mem _ hb)).1 d hd)⟩) h'
              rw [cb6_eq]
              simp only [sRet, sSeq, sAsg, sIfS, sSkip, sPar, sAsgG, sDrop, sRaise, sOp, sCB, sCons, sNil, sVar, sC, sTup, sLst, sNew, sNeg, sNot, sTest, sNotT, sAndT, sOrT, sAnd, sOr, sIf, sChain, sBits, sCall, ini, endOf, kName, kTup2, oAdd, oI, oI0, oIs, isNon_non, isNon_tup, isNon_int, oIx, oLen, oAbs, oInt, oGcd, oType, oEq_ii, oNe_ii, oEq_enc, oNe_enc, oEq_tt, oNe_tt, atI_0, atI_1, List.map_cons, List.map_nil, List.length_cons, List.length_nil, List.cons_append, List.nil_append, List.append_nil, List.replicate_succ, List.replicate_zero, List.getElem?_cons_zero, List.getElem?_cons_succ, List.set_cons_zero, List.set_cons_succ, Bool.false_eq_true, decide_true, decide_false, Bool.not_true, Bool.not_false, ↓reduceIte, Nat.reduceAdd, Nat.reduceSub, Nat.zero_add, Option.isSome, eq_x, ne_x, eq2_ii, ne2_ii, eq2_enc, ne2_enc, len_x, sSl, sPt, sPN, oSl, sFs, sJs, sFmt, sAug, l_minus, l_slash, l_zero, l_n, l_nothing, l_empty, l_digits, SX.S_len, true_and, atI_n]
              refine ⟨by omega, ?_⟩
              by_cases h48 : c = 48
              · rw [decide_eq_true (show [c] = [48] by rw [h48])]
                simp only [sRet, sSeq, sAsg, sIfS, sSkip, sPar, sAsgG, sDrop, sRaise, sOp, sCB, sCons, sNil, sVar, sC, sTup, sLst, sNew, sNeg, sNot, sTest, sNotT, sAndT, sOrT, sAnd, sOr, sIf, sChain, sBits, sCall, ini, endOf, kName, kTup2, oAdd, oI, oI0, oIs, isNon_non, isNon_tup, isNon_int, oIx, oLen, oAbs, oInt, oGcd, oType, oEq_ii, oNe_ii, oEq_enc, oNe_enc, oEq_tt, oNe_tt, atI_0, atI_1, List.map_cons, List.map_nil, List.length_cons, List.length_nil, List.cons_append, List.nil_append, List.append_nil, List.replicate_succ, List.replicate_zero, List.getElem?_cons_zero, List.getElem?_cons_succ, List.set_cons_zero, List.set_cons_succ, Bool.false_eq_true, decide_true, decide_false, Bool.not_true, Bool.not_false, ↓reduceIte, Nat.reduceAdd, Nat.reduceSub, Nat.zero_add, Option.isSome, eq_x, ne_x, eq2_ii, ne2_ii, eq2_enc, ne2_enc, len_x, sSl, sPt, sPN, oSl, sFs, sJs, sFmt, sAug, l_minus, l_slash, l_zero, l_n, l_nothing, l_empty, l_digits, SX.S_len, true_and, atI_n]
                refine ⟨by omega, ?_⟩
                by_cases hA : 1 < (c :: r').length
                · rw [if_pos ⟨by rw [h48]; rfl, .inl hA⟩] at hq1
                  simp only [List.length_cons] at hA
                  rw [decide_eq_true (show (1 : Int) < ((r'.length + 1 : Nat) : Int) by omega)]
                  exact hq1 st1 (ext_refl _)
                · have hA' := hA
                  simp only [List.length_cons] at hA'
                  rw [decide_eq_false (show ¬ (1 : Int) < ((r'.length + 1 : Nat) : Int) by omega)]
                  simp only [sRet, sSeq, sAsg, sIfS, sSkip, sPar, sAsgG, sDrop, sRaise, sOp, sCB, sCons, sNil, sVar, sC, sTup, sLst, sNew, sNeg, sNot, sTest, sNotT, sAndT, sOrT, sAnd, sOr, sIf, sChain, sBits, sCall, ini, endOf, kName, kTup2, oAdd, oI, oI0, oIs, isNon_non, isNon_tup, isNon_int, oIx, oLen, oAbs, oInt, oGcd, oType, oEq_ii, oNe_ii, oEq_enc, oNe_enc, oEq_tt, oNe_tt, atI_0, atI_1, List.map_cons, List.map_nil, List.length_cons, List.length_nil, List.cons_append, List.nil_append, List.append_nil, List.replicate_succ, List.replicate_zero, List.getElem?_cons_zero, List.getElem?_cons_succ, List.set_cons_zero, List.set_cons_succ, Bool.false_eq_true, decide_true, decide_false, Bool.not_true, Bool.not_false, ↓reduceIte, Nat.reduceAdd, Nat.reduceSub, Nat.zero_add, Option.isSome, eq_x, ne_x, eq2_ii, ne2_ii, eq2_enc, ne2_enc, len_x, sSl, sPt, sPN, oSl, sFs, sJs, sFmt, sAug, l_minus, l_slash, l_zero, l_n, l_nothing, l_empty, l_digits, SX.S_len, true_and, atI_n]
                  by_cases hR : Kt.rest p = p
                  · rw [if_neg (by
                      rintro ⟨_, h | h⟩
                      · exact hA h
                      · exact h hR)] at hq1
                    rw [decide_eq_true hR]
                    exact tail7 st1 (ext_refl _) hq1
                  · rw [if_pos ⟨by rw [h48]; rfl, .inr hR⟩] at hq1
                    rw [decide_eq_false hR]
                    exact hq1 st1 (ext_refl _)
              · rw [if_neg (by
                  rintro ⟨h, _⟩
                  exact h48 (by simpa using h))] at hq1
                rw [decide_eq_false (show ¬ [c] = [48] by simpa using h48)]
                exact tail7 st1 (ext_refl _) hq1
    by_cases h45 : p.head? = some 45
    · rw [decide_eq_true h45]
      refine ⟨b1000 hl, ?_⟩
      have e : Kt.rest p = p.drop 1 := by
        unfold Kt.rest
        rw [if_pos h45, List.drop_one]
      rw [← e]
      simpa only [sM1, sRet, sSeq, sAsg, sIfS, sSkip, sPar, sAsgG, sDrop, sRaise, sOp, sCB, sCons, sNil, sVar, sC, sTup, sLst, sNew, sNeg, sNot, sTest, sNotT, sAndT, sOrT, sAnd, sOr, sIf, sChain, sBits, sCall, ini, endOf, kName, kTup2, oAdd, oI, oI0, oIs, isNon_non, isNon_tup, isNon_int, oIx, oLen, oAbs, oInt, oGcd, oType, oEq_ii, oNe_ii, oEq_enc, oNe_enc, oEq_tt, oNe_tt, atI_0, atI_1, List.map_cons, List.map_nil, List.length_cons, List.length_nil, List.cons_append, List.nil_append, List.append_nil, List.replicate_succ, List.replicate_zero, List.getElem?_cons_zero, List.getElem?_cons_succ, List.set_cons_zero, List.set_cons_succ, Bool.false_eq_true, decide_true, decide_false, Bool.not_true, Bool.not_false, ↓reduceIte, Nat.reduceAdd, Nat.reduceSub, Nat.zero_add, Option.isSome, eq_x, ne_x, eq2_ii, ne2_ii, eq2_enc, ne2_enc, len_x, sSl, sPt, sPN, oSl, sFs, sJs, sFmt, sAug, l_minus, l_slash, l_zero, l_n, l_nothing, l_empty, l_digits, SX.S_len, true_and, atI_n] using tail
    · rw [decide_eq_false h45]
      have e : Kt.rest p = p := by
        unfold Kt.rest
        rw [if_neg h45]
      have t2 := tail
      rw [e] at t2
      simpa only [sM1, sRet, sSeq, sAsg, sIfS, sSkip, sPar, sAsgG, sDrop, sRaise, sOp, sCB, sCons, sNil, sVar, sC, sTup, sLst, sNew, sNeg, sNot, sTest, sNotT, sAndT, sOrT, sAnd, sOr, sIf, sChain, sBits, sCall, ini, endOf, kName, kTup2, oAdd, oI, oI0, oIs, isNon_non, isNon_tup, isNon_int, oIx, oLen, oAbs, oInt, oGcd, oType, oEq_ii, oNe_ii, oEq_enc, oNe_enc, oEq_tt, oNe_tt, atI_0, atI_1, List.map_cons, List.map_nil, List.length_cons, List.length_nil, List.cons_append, List.nil_append, List.append_nil, List.replicate_succ, List.replicate_zero, List.getElem?_cons_zero, List.getElem?_cons_succ, List.set_cons_zero, List.set_cons_succ, Bool.false_eq_true, decide_true, decide_false, Bool.not_true, Bool.not_false, ↓reduceIte, Nat.reduceAdd, Nat.reduceSub, Nat.zero_add, Option.isSome, eq_x, ne_x, eq2_ii, ne2_ii, eq2_enc, ne2_enc, len_x, sSl, sPt, sPN, oSl, sFs, sJs, sFmt, sAug, l_minus, l_slash, l_zero, l_n, l_nothing, l_empty, l_digits, SX.S_len, true_and, atI_n] using t2
end
end K1
set_option Elab.async false
set_option linter.all false
set_option maxRecDepth 100000
set_option maxHeartbeats 1000000
namespace K1
open PySem PySem.Spec PyProof.Rows L2 Sm Wm Cm Kt Tm
theorem pre_ok (l : List Nat) (j : Nat) (hj : j < l.length) : canB (l.take (j + 1)) = match scan .s 0 l with
    | .inl d => decide (j < d)
    | .inr _ => true := by
  rw [canB_scan]
  have hl : (l.take (j + 1)).length = j + 1 := by rw [List.length_take]; omega
  have e : scan .s 0 l = match scan .s 0 (l.take (j + 1)) with
      | .inl d => .inl d
      | .inr q => scan q (0 + (l.take (j + 1)).length) (l.drop (j + 1)) := by
    conv => lhs; rw [← List.take_append_drop (j + 1) l]
    exact scan_append _ _ _ _
  cases h : scan .s 0 (l.take (j + 1)) with
  | inl d =>
    rw [h] at e
    rw [e]
    obtain ⟨h1, h2, _⟩ := scan_lt _ _ _ _ h
    exact (decide_eq_false (by omega)).symm
  | inr q =>
    rw [h] at e
    dsimp only at e
    cases h2 : scan q (0 + (l.take (j + 1)).length) (l.drop (j + 1)) with
    | inl d =>
      rw [h2] at e
      rw [e]
      obtain ⟨h3, _⟩ := scan_lt _ _ _ _ h2
      exact (decide_eq_true (by omega)).symm
    | inr q' =>
      rw [h2] at e
      rw [e]
theorem atI_m1 {α : Type} (a : α) : atI [a] (-1) = some a := rfl
theorem atI_m2 {α : Type} (a b : α) : atI [a, b] (-1) = some b := rfl
theorem inT_two (l : List Nat) (st : Store) (P : Sm.PK) (q : P (.bl (decide (l = [] ∨ l = [45]))) st) : oInT false (tx l) (.tup [tx [], tx [45]]) st P := by
  show P (.bl (if false = true then !decide (SX.S l ∈ [SX.S [], SX.S [45]]) else decide (SX.S l ∈ [SX.S [], SX.S [45]]))) st
  rw [if_neg Bool.false_ne_true]
  have e : decide (SX.S l ∈ [SX.S [], SX.S [45]]) = decide (l = [] ∨ l = [45]) := decide_eq_decide.mpr (by simp only [List.mem_cons, List.not_mem_nil, or_false, S_iff])
  rw [e]
  exact q
structure ExmF (K : PySem.W.Frag) (mg : Str → Option Value) : Prop where
  pp : PySem.W.exmOne K (.ref (ad mg "ParseError")) (.ref (ad mg "ParseError")) = some true
  ww : PySem.W.exmOne K (.ref (ad mg "InvalidWorth")) (.ref (ad mg "InvalidWorth")) = some true
section
variable {K : PySem.W.Frag} {mg : Str → Option Value}
def du2 (K : PySem.W.Frag) (mg : Str → Option Value) : SemS := (sSeq (sIfS (sTest (sOp oEq2 (sVar 0) (sC (.str "nothing")))) (sRet (sLst (sCons (sC .non) sNil))) sSkip) (sSeq (sAsg (sM1 oSplit (sVar 0) (sC (.str "/"))) 2) (sSeq (sIfS (sOrT (sTest (sOp oEq2 (sSl (sVar 0) sPN (sPt (sC (.int 1)))) (sC (.str "n")))) (sTest (sOp (oInT false) (sOp oIx (sVar 2) (sNeg (sC (.int 1)))) (sTup (sCons (sC (.str "")) (sCons (sC (.str "-")) sNil)))))) (sRet (sCB oLen (sCons (sVar 0) sNil))) sSkip) (sRet (sLst (sCons (sCall (S__law_lowest mg) [] (sCons (sCB oInt2 (sCons (sOp oIx (sVar 2) (sC (.int 0))) sNil)) (sCons (sIf (sTest (sOp oGt (sCB oLen (sCons (sVar 2) sNil)) (sC (.int 1)))) (sCB oInt2 (sCons (sOp oIx (sVar 2) (sC (.int 1))) sNil)) (sC (.int 1))) sNil))) sNil))))))
def du3 (K : PySem.W.Frag) (mg : Str → Option Value) : SemS := (sSeq (sIfS (sOrT (sTest (sOp oEq2 (sSl (sVar 0) sPN (sPt (sC (.int 1)))) (sC (.str "n")))) (sTest (sOp (oInT false) (sOp oIx (sVar 2) (sNeg (sC (.int 1)))) (sTup (sCons (sC (.str "")) (sCons (sC (.str "-")) sNil)))))) (sRet (sCB oLen (sCons (sVar 0) sNil))) sSkip) (sRet (sLst (sCons (sCall (S__law_lowest mg) [] (sCons (sCB oInt2 (sCons (sOp oIx (sVar 2) (sC (.int 0))) sNil)) (sCons (sIf (sTest (sOp oGt (sCB oLen (sCons (sVar 2) sNil)) (sC (.int 1)))) (sCB oInt2 (sCons (sOp oIx (sVar 2) (sC (.int 1))) sNil)) (sC (.int 1))) sNil))) sNil))))
theorem du_eq : t__law_due K mg = sSeq (sForR1 (sCB oLen (sCons (sVar 0) sNil)) (kName 1) (sIfS (sNotT (sTest (sCall (S__law_can_begin mg) [] (sCons (sSl (sVar 0) sPN (sPt (sOp oAdd (sVar 1) (sC (.int 1))))) sNil)))) (sRet (sVar 1)) sSkip)) (du2 K mg) := rfl
theorem du2_eq : du2 K mg = sSeq (sIfS (sTest (sOp oEq2 (sVar 0) (sC (.str "nothing")))) (sRet (sLst (sCons (sC .non) sNil))) sSkip) (sSeq (sAsg (sM1 oSplit (sVar 0) (sC (.str "/"))) 2) (du3 K mg)) := rfl
theorem du3_len (Q : Sm.PK) (PX : Sm.XP) (l : List Nat) (x : Option PV) (ps : List PV) (lst : List Nat) (st : Store) (hl : l.length ≤ 1000) (hp : atI ps (-1) = some (tx lst)) (h : l.head? = some 110 ∨ lst = [] ∨ lst = [45]) (hq : Q (.int l.length) st) :
    du3 K mg (endOf Q PX) [some (tx l), x, some (.lst ps)] st := by
  simp only [du3, sl_01, take1, hp, sRet, sSeq, sAsg, sIfS, sSkip, sPar, sAsgG, sDrop, sRaise, sOp, sCB, sCons, sNil, sVar, sC, sTup, sLst, sNew, sNeg, sNot, sTest, sNotT, sAndT, sOrT, sAnd, sOr, sIf, sChain, sBits, sCall, ini, endOf, kName, kTup2, oAdd, oI, oI0, oIs, isNon_non, isNon_tup, isNon_int, oIx, oLen, oAbs, oInt, oGcd, oType, oEq_ii, oNe_ii, oEq_enc, oNe_enc, oEq_tt, oNe_tt, atI_0, atI_1, List.map_cons, List.map_nil, List.length_cons, List.length_nil, List.cons_append, List.nil_append, List.append_nil, List.replicate_succ, List.replicate_zero, List.getElem?_cons_zero, List.getElem?_cons_succ, List.set_cons_zero, List.set_cons_succ, Bool.false_eq_true, decide_true, decide_false, Bool.not_true, Bool.not_false, ↓reduceIte, Nat.reduceAdd, Nat.reduceSub, Nat.zero_add, Option.isSome, eq_x, ne_x, eq2_ii, ne2_ii, eq2_enc, ne2_enc, len_x, sSl, sPt, sPN, oSl, sFs, sJs, sFmt, sAug, l_minus, l_slash, l_zero, l_n, l_nothing, l_empty, l_digits, SX.S_len, true_and, atI_n]
  refine ⟨b1000 hl, ?_⟩
  by_cases h110 : l.head? = some 110
  · rw [decide_eq_true h110]
    exact ⟨b1000 hl, hq⟩
  · rw [decide_eq_false h110]
    refine ⟨by decide, inT_two _ _ _ ?_⟩
    rw [decide_eq_true (h.resolve_left h110)]
    exact ⟨b1000 hl, hq⟩
theorem du3_one (Q : Sm.PK) (PX : Sm.XP) (l : List Nat) (x : Option PV) (st : Store) (hl : l.length ≤ 1000) (hn : l.head? ≠ some 110) (h1 : l ≠ [] ∧ l ≠ [45]) (I : IntOk l) (hq : Q (.lst [enc (some (iv l, 1))]) st) :
    du3 K mg (endOf Q PX) [some (tx l), x, some (.lst [tx l])] st := by
  simp only [du3, sl_01, take1, atI_m1, sRet, sSeq, sAsg, sIfS, sSkip, sPar, sAsgG, sDrop, sRaise, sOp, sCB, sCons, sNil, sVar, sC, sTup, sLst, sNew, sNeg, sNot, sTest, sNotT, sAndT, sOrT, sAnd, sOr, sIf, sChain, sBits, sCall, ini, endOf, kName, kTup2, oAdd, oI, oI0, oIs, isNon_non, isNon_tup, isNon_int, oIx, oLen, oAbs, oInt, oGcd, oType, oEq_ii, oNe_ii, oEq_enc, oNe_enc, oEq_tt, oNe_tt, atI_0, atI_1, List.map_cons, List.map_nil, List.length_cons, List.length_nil, List.cons_append, List.nil_append, List.append_nil, List.replicate_succ, List.replicate_zero, List.getElem?_cons_zero, List.getElem?_cons_succ, List.set_cons_zero, List.set_cons_succ, Bool.false_eq_true, decide_true, decide_false, Bool.not_true, Bool.not_false, ↓reduceIte, Nat.reduceAdd, Nat.reduceSub, Nat.zero_add, Option.isSome, eq_x, ne_x, eq2_ii, ne2_ii, eq2_enc, ne2_enc, len_x, sSl, sPt, sPN, oSl, sFs, sJs, sFmt, sAug, l_minus, l_slash, l_zero, l_n, l_nothing, l_empty, l_digits, SX.S_len, true_and, atI_n]
  refine ⟨b1000 hl, ?_⟩
  rw [decide_eq_false hn]
  refine ⟨by decide, inT_two _ _ _ ?_⟩
  rw [decide_eq_false (by
    rintro (h | h)
    · exact h1.1 h
    · exact h1.2 h)]
  simp only [sRet, sSeq, sAsg, sIfS, sSkip, sPar, sAsgG, sDrop, sRaise, sOp, sCB, sCons, sNil, sVar, sC, sTup, sLst, sNew, sNeg, sNot, sTest, sNotT, sAndT, sOrT, sAnd, sOr, sIf, sChain, sBits, sCall, ini, endOf, kName, kTup2, oAdd, oI, oI0, oIs, isNon_non, isNon_tup, isNon_int, oIx, oLen, oAbs, oInt, oGcd, oType, oEq_ii, oNe_ii, oEq_enc, oNe_enc, oEq_tt, oNe_tt, atI_0, atI_1, List.map_cons, List.map_nil, List.length_cons, List.length_nil, List.cons_append, List.nil_append, List.append_nil, List.replicate_succ, List.replicate_zero, List.getElem?_cons_zero, List.getElem?_cons_succ, List.set_cons_zero, List.set_cons_succ, Bool.false_eq_true, decide_true, decide_false, Bool.not_true, Bool.not_false, ↓reduceIte, Nat.reduceAdd, Nat.reduceSub, Nat.zero_add, Option.isSome, eq_x, ne_x, eq2_ii, ne2_ii, eq2_enc, ne2_enc, len_x, sSl, sPt, sPN, oSl, sFs, sJs, sFmt, sAug, l_minus, l_slash, l_zero, l_n, l_nothing, l_empty, l_digits, SX.S_len, true_and, atI_n]
  refine int_x _ _ (by have := I.le; omega) I.rd ?_
  refine ⟨_, 1, rfl, by decide, I.bd.mono (by decide), b_of (by decide), by decide, ?_⟩
  rw [low_one]
  exact hq
theorem du3_two (Q : Sm.PK) (PX : Sm.XP) (l a ds : List Nat) (k : Nat) (x : Option PV) (st : Store) (hl : l.length ≤ 1000) (hn : l.head? ≠ some 110) (I : IntOk a) (o : ok60 ds k) (hq : Q (.lst [enc (some (low (iv a) (iv ds)))]) st) :
    du3 K mg (endOf Q PX) [some (tx l), x, some (.lst [tx a, tx ds])] st := by
  have O := int_ok o
  simp only [du3, sl_01, take1, atI_m2, sRet, sSeq, sAsg, sIfS, sSkip, sPar, sAsgG, sDrop, sRaise, sOp, sCB, sCons, sNil, sVar, sC, sTup, sLst, sNew, sNeg, sNot, sTest, sNotT, sAndT, sOrT, sAnd, sOr, sIf, sChain, sBits, sCall, ini, endOf, kName, kTup2, oAdd, oI, oI0, oIs, isNon_non, isNon_tup, isNon_int, oIx, oLen, oAbs, oInt, oGcd, oType, oEq_ii, oNe_ii, oEq_enc, oNe_enc, oEq_tt, oNe_tt, atI_0, atI_1, List.map_cons, List.map_nil, List.length_cons, List.length_nil, List.cons_append, List.nil_append, List.append_nil, List.replicate_succ, List.replicate_zero, List.getElem?_cons_zero, List.getElem?_cons_succ, List.set_cons_zero, List.set_cons_succ, Bool.false_eq_true, decide_true, decide_false, Bool.not_true, Bool.not_false, ↓reduceIte, Nat.reduceAdd, Nat.reduceSub, Nat.zero_add, Option.isSome, eq_x, ne_x, eq2_ii, ne2_ii, eq2_enc, ne2_enc, len_x, sSl, sPt, sPN, oSl, sFs, sJs, sFmt, sAug, l_minus, l_slash, l_zero, l_n, l_nothing, l_empty, l_digits, SX.S_len, true_and, atI_n]
  refine ⟨b1000 hl, ?_⟩
  rw [decide_eq_false hn]
  refine ⟨by decide, inT_two _ _ _ ?_⟩
  have hds : ¬ (ds = [] ∨ ds = [45]) := by
    rintro (h | h)
    · subst h
      have := o.2.1
      have := o.2.2.1
      simp at *
      omega
    · subst h
      exact absurd (o.1 45 (by simp)) (by decide)
  rw [decide_eq_false hds]
  simp only [sRet, sSeq, sAsg, sIfS, sSkip, sPar, sAsgG, sDrop, sRaise, sOp, sCB, sCons, sNil, sVar, sC, sTup, sLst, sNew, sNeg, sNot, sTest, sNotT, sAndT, sOrT, sAnd, sOr, sIf, sChain, sBits, sCall, ini, endOf, kName, kTup2, oAdd, oI, oI0, oIs, isNon_non, isNon_tup, isNon_int, oIx, oLen, oAbs, oInt, oGcd, oType, oEq_ii, oNe_ii, oEq_enc, oNe_enc, oEq_tt, oNe_tt, atI_0, atI_1, List.map_cons, List.map_nil, List.length_cons, List.length_nil, List.cons_append, List.nil_append, List.append_nil, List.replicate_succ, List.replicate_zero, List.getElem?_cons_zero, List.getElem?_cons_succ, List.set_cons_zero, List.set_cons_succ, Bool.false_eq_true, decide_true, decide_false, Bool.not_true, Bool.not_false, ↓reduceIte, Nat.reduceAdd, Nat.reduceSub, Nat.zero_add, Option.isSome, eq_x, ne_x, eq2_ii, ne2_ii, eq2_enc, ne2_enc, len_x, sSl, sPt, sPN, oSl, sFs, sJs, sFmt, sAug, l_minus, l_slash, l_zero, l_n, l_nothing, l_empty, l_digits, SX.S_len, true_and, atI_n]
  refine int_x _ _ (by have := I.le; omega) I.rd ?_
  refine int_x _ _ (by have := O.1.le; omega) O.1.rd ?_
  have hpos : 0 < iv ds := by
    have := O.2
    rw [iv_dig o.1] at this ⊢
    omega
  exact ⟨_, _, rfl, hpos, I.bd.mono (by decide), O.1.bd.mono (by decide), by decide, hq⟩
theorem du2_ok (Q : Sm.PK) (PX : Sm.XP) (l : List Nat) (x : Option PV) (st : Store) (q : Kt.Q) (hl : l.length ≤ 600) (hs : scan .s 0 l = .inr q) (hq : Q (vRes (res l)) st) : du2 K mg (endOf Q PX) [some (tx l), x, none] st := by
  have j := J_of hs
  have hr : res l = if Kt.fin q = true then .inr (valL l) else .inl l.length := by
    unfold Kt.res
    rw [hs]
  rw [hr] at hq
  rw [du2_eq]
  simp only [sM1, sRet, sSeq, sAsg, sIfS, sSkip, sPar, sAsgG, sDrop, sRaise, sOp, sCB, sCons, sNil, sVar, sC, sTup, sLst, sNew, sNeg, sNot, sTest, sNotT, sAndT, sOrT, sAnd, sOr, sIf, sChain, sBits, sCall, ini, endOf, kName, kTup2, oAdd, oI, oI0, oIs, isNon_non, isNon_tup, isNon_int, oIx, oLen, oAbs, oInt, oGcd, oType, oEq_ii, oNe_ii, oEq_enc, oNe_enc, oEq_tt, oNe_tt, atI_0, atI_1, List.map_cons, List.map_nil, List.length_cons, List.length_nil, List.cons_append, List.nil_append, List.append_nil, List.replicate_succ, List.replicate_zero, List.getElem?_cons_zero, List.getElem?_cons_succ, List.set_cons_zero, List.set_cons_succ, Bool.false_eq_true, decide_true, decide_false, Bool.not_true, Bool.not_false, ↓reduceIte, Nat.reduceAdd, Nat.reduceSub, Nat.zero_add, Option.isSome, eq_x, ne_x, eq2_ii, ne2_ii, eq2_enc, ne2_enc, len_x, sSl, sPt, sPN, oSl, sFs, sJs, sFmt, sAug, l_minus, l_slash, l_zero, l_n, l_nothing, l_empty, l_digits, SX.S_len, true_and, atI_n]
  by_cases hN : l = nothing
  · rw [decide_eq_true hN]
    refine ⟨by decide, ?_⟩
    have e : scan .s 0 l = .inr (.n 7) := by rw [hN]; rfl
    rw [hs] at e
    cases e
    rw [show Kt.fin (Kt.Q.n 7) = true from rfl, if_pos rfl] at hq
    unfold valL at hq
    rw [if_pos hN] at hq
    exact hq
  · rw [decide_eq_false hN]
    simp only [sRet, sSeq, sAsg, sIfS, sSkip, sPar, sAsgG, sDrop, sRaise, sOp, sCB, sCons, sNil, sVar, sC, sTup, sLst, sNew, sNeg, sNot, sTest, sNotT, sAndT, sOrT, sAnd, sOr, sIf, sChain, sBits, sCall, ini, endOf, kName, kTup2, oAdd, oI, oI0, oIs, isNon_non, isNon_tup, isNon_int, oIx, oLen, oAbs, oInt, oGcd, oType, oEq_ii, oNe_ii, oEq_enc, oNe_enc, oEq_tt, oNe_tt, atI_0, atI_1, List.map_cons, List.map_nil, List.length_cons, List.length_nil, List.cons_append, List.nil_append, List.append_nil, List.replicate_succ, List.replicate_zero, List.getElem?_cons_zero, List.getElem?_cons_succ, List.set_cons_zero, List.set_cons_succ, Bool.false_eq_true, decide_true, decide_false, Bool.not_true, Bool.not_false, ↓reduceIte, Nat.reduceAdd, Nat.reduceSub, Nat.zero_add, Option.isSome, eq_x, ne_x, eq2_ii, ne2_ii, eq2_enc, ne2_enc, len_x, sSl, sPt, sPN, oSl, sFs, sJs, sFmt, sAug, l_minus, l_slash, l_zero, l_n, l_nothing, l_empty, l_digits, SX.S_len, true_and, atI_n]
    refine ⟨⟨_, rfl⟩, spl_x l 47 (by decide) _ _ (by omega) ?_⟩
    have topCase : Top l → (Kt.fin q = true) → du3 K mg (endOf Q PX) [some (tx l), x, some (.lst ((parts l).map tx))] st := fun T hf => by
      obtain ⟨n1, n2, n3⟩ := top_no T
      rw [if_pos hf] at hq
      unfold valL at hq
      rw [if_neg n2, parts_no n1] at hq
      rw [parts_no n1]
      obtain ⟨ds, T'⟩ := top_r T
      refine du3_one Q PX l x st (by omega) n3 ⟨T'.ane, fun z => ?_⟩ (int_top T) hq
      have := T'.rs []
      rw [List.append_nil, List.append_nil, z] at this
      exact T'.ne this.symm
    cases q with
    | s =>
      cases j
      exact du3_len Q PX [] x _ [] st (by decide) rfl (.inr (.inl rfl)) hq
    | m =>
      cases j
      exact du3_len Q PX [45] x _ [45] st (by decide) rfl (.inr (.inr rfl)) hq
    | z => exact topCase (.inl j) rfl
    | t k =>
      obtain ⟨sg, ds, e, h1, o⟩ := j
      exact topCase (.inr ⟨sg, ds, k, e, h1, o⟩) rfl
    | b =>
      obtain ⟨a, rfl, ha⟩ := j
      obtain ⟨n1, n2, n3⟩ := top_no ha
      have hp : parts (a ++ [47]) = [a, []] := by rw [parts_cut n1, parts_no (by simp)]
      show du3 K mg (endOf Q PX) [some (tx (a ++ [47])), x, some (.lst ((parts (a ++ [47])).map tx))] st
      rw [hp]
      exact du3_len Q PX _ x _ [] st (by omega) rfl (.inr (.inl rfl)) hq
    | u k =>
      obtain ⟨a, ds, rfl, ha, o⟩ := j
      obtain ⟨n1, n2, n3⟩ := top_no ha
      have hp : parts (a ++ 47 :: ds) = [a, ds] := by rw [parts_cut n1, parts_no (dig47 o.1)]
      rw [show Kt.fin (Kt.Q.u k) = true from rfl, if_pos rfl] at hq
      unfold valL at hq
      rw [if_neg hN, hp] at hq
      show du3 K mg (endOf Q PX) [some (tx (a ++ 47 :: ds)), x, some (.lst ((parts (a ++ 47 :: ds)).map tx))] st
      rw [hp]
      refine du3_two Q PX _ a ds k x st (by omega) ?_ (int_top ha) o hq
      obtain ⟨ds', T'⟩ := top_r ha
      intro z
      exact T'.hd _ 110 z rfl
    | n k =>
      obtain ⟨h1, h2, e⟩ := j
      have hk : k ≠ 7 := by
        intro z
        subst z
        exact hN e
      rw [if_neg (by simpa [Kt.fin] using hk)] at hq
      obtain ⟨m, rfl⟩ : ∃ m, k = m + 1 := ⟨k - 1, by omega⟩
      obtain ⟨a, bs, hp⟩ := List.exists_cons_of_ne_nil (parts_ne l)
      have hlast : ∃ lst, atI ((parts l).map tx) (-1) = some (tx lst) := by
        rw [hp]
        have hlen : 0 < ((a :: bs).map tx).length := by simp
        refine ⟨(a :: bs)[(a :: bs).length - 1]'(by simp), ?_⟩
        unfold atI ixN
        rw [if_neg (by decide), if_pos (by omega)]
        show ((a :: bs).map tx)[(-1 + (((a :: bs).map tx).length : Int)).toNat]? = _
        have e1 : (-1 + (((a :: bs).map tx).length : Int)).toNat = (a :: bs).length - 1 := by rw [List.length_map]; omega
        rw [e1, List.getElem?_map, List.getElem?_eq_getElem (by simp)]
        rfl
      obtain ⟨lst, hlast⟩ := hlast
      exact du3_len Q PX l x _ lst st (by omega) hlast (.inl (by rw [e]; rfl)) hq
theorem due_loop (Q : Sm.PK) (PX : Sm.XP) (l : List Nat) (hl : l.length ≤ 600) (ho : okc l) : ∀ (c i : Nat) (x : Option PV) (st : Store), i + c = l.length → (∀ d, scan .s 0 l = .inl d → i ≤ d) → (∀ st', Ext st st' → Q (vRes (res l)) st') →
    loopL (kName 1) (sIfS (sNotT (sTest (sCall (S__law_can_begin mg) [] (sCons (sSl (sVar 0) sPN (sPt (sOp oAdd (sVar 1) (sC (.int 1))))) sNil)))) (sRet (sVar 1)) sSkip) { endOf Q PX with nx := du2 K mg (endOf Q PX) } (upto ((i : Nat) : Int) c) [some (tx l), x, none] st
  | 0, i, x, st, hi, hd, hq => by
    simp only [loopL, upto]
    cases h : scan .s 0 l with
    | inl d =>
      have := hd d h
      obtain ⟨_, h2, _⟩ := scan_lt _ _ _ _ h
      omega
    | inr q => exact du2_ok Q PX l x st q hl h (hq st (ext_refl st))
  | c + 1, i, x, st, hi, hd, hq => by
    simp only [loopL, upto, sRet, sSeq, sAsg, sIfS, sSkip, sPar, sAsgG, sDrop, sRaise, sOp, sCB, sCons, sNil, sVar, sC, sTup, sLst, sNew, sNeg, sNot, sTest, sNotT, sAndT, sOrT, sAnd, sOr, sIf, sChain, sBits, sCall, ini, endOf, kName, kTup2, oAdd, oI, oI0, oIs, isNon_non, isNon_tup, isNon_int, oIx, oLen, oAbs, oInt, oGcd, oType, oEq_ii, oNe_ii, oEq_enc, oNe_enc, oEq_tt, oNe_tt, atI_0, atI_1, List.map_cons, List.map_nil, List.length_cons, List.length_nil, List.cons_append, List.nil_append, List.append_nil, List.replicate_succ, List.replicate_zero, List.getElem?_cons_zero, List.getElem?_cons_succ, List.set_cons_zero, List.set_cons_succ, Bool.false_eq_true, decide_true, decide_false, Bool.not_true, Bool.not_false, ↓reduceIte, Nat.reduceAdd, Nat.reduceSub, Nat.zero_add, Option.isSome, eq_x, ne_x, eq2_ii, ne2_ii, eq2_enc, ne2_enc, len_x, sSl, sPt, sPN, oSl, sFs, sJs, sFmt, sAug, l_minus, l_slash, l_zero, l_n, l_nothing, l_empty, l_digits, SX.S_len, true_and, atI_n]
    refine ⟨by omega, ?_⟩
    have es : Txt.slice (SX.S l) none (some (((i : Nat) : Int) + 1)) = SX.S (l.take (i + 1)) := sl_to l (i + 1)
    rw [es]
    refine ⟨_, rfl, by rw [List.length_take]; omega, fun d hd => ho d (List.mem_of_mem_take hd), fun st1 e1 => ?_⟩
    have hp := pre_ok l i (by omega)
    rw [hp]
    cases h : scan .s 0 l with
    | inl d =>
      simp only [sRet, sSeq, sAsg, sIfS, sSkip, sPar, sAsgG, sDrop, sRaise, sOp, sCB, sCons, sNil, sVar, sC, sTup, sLst, sNew, sNeg, sNot, sTest, sNotT, sAndT, sOrT, sAnd, sOr, sIf, sChain, sBits, sCall, ini, endOf, kName, kTup2, oAdd, oI, oI0, oIs, isNon_non, isNon_tup, isNon_int, oIx, oLen, oAbs, oInt, oGcd, oType, oEq_ii, oNe_ii, oEq_enc, oNe_enc, oEq_tt, oNe_tt, atI_0, atI_1, List.map_cons, List.map_nil, List.length_cons, List.length_nil, List.cons_append, List.nil_append, List.append_nil, List.replicate_succ, List.replicate_zero, List.getElem?_cons_zero, List.getElem?_cons_succ, List.set_cons_zero, List.set_cons_succ, Bool.false_eq_true, decide_true, decide_false, Bool.not_true, Bool.not_false, ↓reduceIte, Nat.reduceAdd, Nat.reduceSub, Nat.zero_add, Option.isSome, eq_x, ne_x, eq2_ii, ne2_ii, eq2_enc, ne2_enc, len_x, sSl, sPt, sPN, oSl, sFs, sJs, sFmt, sAug, l_minus, l_slash, l_zero, l_n, l_nothing, l_empty, l_digits, SX.S_len, true_and, atI_n]
      have hid := hd d h
      by_cases hlt : i < d
      · rw [decide_eq_true hlt]
        have := due_loop Q PX l hl ho c (i + 1) (some (.int (i : Nat))) st1 (by omega) (fun d' hd' => by rw [h] at hd'; cases hd'; omega) (fun st' h' => hq st' (ext_trans e1 h'))
        exact this
      · rw [decide_eq_false hlt]
        have e : i = d := by omega
        have hq1 := hq st1 e1
        unfold Kt.res at hq1
        rw [h] at hq1
        rw [e]
        exact hq1
    | inr q =>
      simp only [sRet, sSeq, sAsg, sIfS, sSkip, sPar, sAsgG, sDrop, sRaise, sOp, sCB, sCons, sNil, sVar, sC, sTup, sLst, sNew, sNeg, sNot, sTest, sNotT, sAndT, sOrT, sAnd, sOr, sIf, sChain, sBits, sCall, ini, endOf, kName, kTup2, oAdd, oI, oI0, oIs, isNon_non, isNon_tup, isNon_int, oIx, oLen, oAbs, oInt, oGcd, oType, oEq_ii, oNe_ii, oEq_enc, oNe_enc, oEq_tt, oNe_tt, atI_0, atI_1, List.map_cons, List.map_nil, List.length_cons, List.length_nil, List.cons_append, List.nil_append, List.append_nil, List.replicate_succ, List.replicate_zero, List.getElem?_cons_zero, List.getElem?_cons_succ, List.set_cons_zero, List.set_cons_succ, Bool.false_eq_true, decide_true, decide_false, Bool.not_true, Bool.not_false, ↓reduceIte, Nat.reduceAdd, Nat.reduceSub, Nat.zero_add, Option.isSome, eq_x, ne_x, eq2_ii, ne2_ii, eq2_enc, ne2_enc, len_x, sSl, sPt, sPN, oSl, sFs, sJs, sFmt, sAug, l_minus, l_slash, l_zero, l_n, l_nothing, l_empty, l_digits, SX.S_len, true_and, atI_n]
      have := due_loop Q PX l hl ho c (i + 1) (some (.int (i : Nat))) st1 (by omega) (fun d' hd' => by rw [h] at hd'; cases hd') (fun st' h' => hq st' (ext_trans e1 h'))
      exact this
theorem p__law_due : ∀ pvs st Q PX, S__law_due mg pvs st Q PX → t__law_due K mg (endOf Q PX) (ini N__law_due pvs) st := by
  rintro pvs st Q PX ⟨l, rfl, hl, ho, hq⟩
  rw [du_eq]
  simp only [sForR1, sRet, sSeq, sAsg, sIfS, sSkip, sPar, sAsgG, sDrop, sRaise, sOp, sCB, sCons, sNil, sVar, sC, sTup, sLst, sNew, sNeg, sNot, sTest, sNotT, sAndT, sOrT, sAnd, sOr, sIf, sChain, sBits, sCall, ini, endOf, kName, kTup2, oAdd, oI, oI0, oIs, isNon_non, isNon_tup, isNon_int, oIx, oLen, oAbs, oInt, oGcd, oType, oEq_ii, oNe_ii, oEq_enc, oNe_enc, oEq_tt, oNe_tt, atI_0, atI_1, List.map_cons, List.map_nil, List.length_cons, List.length_nil, List.cons_append, List.nil_append, List.append_nil, List.replicate_succ, List.replicate_zero, List.getElem?_cons_zero, List.getElem?_cons_succ, List.set_cons_zero, List.set_cons_succ, Bool.false_eq_true, decide_true, decide_false, Bool.not_true, Bool.not_false, ↓reduceIte, Nat.reduceAdd, Nat.reduceSub, Nat.zero_add, Option.isSome, eq_x, ne_x, eq2_ii, ne2_ii, eq2_enc, ne2_enc, len_x, sSl, sPt, sPN, oSl, sFs, sJs, sFmt, sAug, l_minus, l_slash, l_zero, l_n, l_nothing, l_empty, l_digits, SX.S_len, true_and, atI_n]
  refine ⟨by omega, by omega, by omega, ?_⟩
  have := due_loop (K := K) (mg := mg) Q PX l hl ho l.length 0 none st (by omega) (fun d _ => Nat.zero_le _) hq
  exact this
theorem p__law_told (E : ExmF K mg) : ∀ pvs st Q PX, S__law_told mg pvs st Q PX → t__law_told K mg (endOf Q PX) (ini N__law_told pvs) st := by
  rintro pvs st Q PX ⟨v, rfl, ht, hn, hs⟩
  have hex : ∀ w, Q w st → hnd K (endOf Q PX) [(.ref (ad mg "ParseError"), some 1, fun a cls d => (sRet (sXf a cls d (ad mg "ParseError") "spot" (sVar 1))))] (exP mg w) [some v, none] st := fun w hw =>
    ⟨true, E.pp, fun _ a d => by
      simp only [exP, sXf, clrP, sRet, sSeq, sAsg, sIfS, sSkip, sPar, sAsgG, sDrop, sRaise, sOp, sCB, sCons, sNil, sVar, sC, sTup, sLst, sNew, sNeg, sNot, sTest, sNotT, sAndT, sOrT, sAnd, sOr, sIf, sChain, sBits, sCall, ini, endOf, kName, kTup2, oAdd, oI, oI0, oIs, isNon_non, isNon_tup, isNon_int, oIx, oLen, oAbs, oInt, oGcd, oType, oEq_ii, oNe_ii, oEq_enc, oNe_enc, oEq_tt, oNe_tt, atI_0, atI_1, List.map_cons, List.map_nil, List.length_cons, List.length_nil, List.cons_append, List.nil_append, List.append_nil, List.replicate_succ, List.replicate_zero, List.getElem?_cons_zero, List.getElem?_cons_succ, List.set_cons_zero, List.set_cons_succ, Bool.false_eq_true, decide_true, decide_false, Bool.not_true, Bool.not_false, ↓reduceIte, Nat.reduceAdd, Nat.reduceSub, Nat.zero_add, Option.isSome, eq_x, ne_x, eq2_ii, ne2_ii, eq2_enc, ne2_enc, len_x, sSl, sPt, sPN, oSl, sFs, sJs, sFmt, sAug, l_minus, l_slash, l_zero, l_n, l_nothing, l_empty, l_digits, SX.S_len, true_and, atI_n]
      exact hw, nofun⟩
  simp only [t__law_told, sTry, sRet, sSeq, sAsg, sIfS, sSkip, sPar, sAsgG, sDrop, sRaise, sOp, sCB, sCons, sNil, sVar, sC, sTup, sLst, sNew, sNeg, sNot, sTest, sNotT, sAndT, sOrT, sAnd, sOr, sIf, sChain, sBits, sCall, ini, endOf, kName, kTup2, oAdd, oI, oI0, oIs, isNon_non, isNon_tup, isNon_int, oIx, oLen, oAbs, oInt, oGcd, oType, oEq_ii, oNe_ii, oEq_enc, oNe_enc, oEq_tt, oNe_tt, atI_0, atI_1, List.map_cons, List.map_nil, List.length_cons, List.length_nil, List.cons_append, List.nil_append, List.append_nil, List.replicate_succ, List.replicate_zero, List.getElem?_cons_zero, List.getElem?_cons_succ, List.set_cons_zero, List.set_cons_succ, Bool.false_eq_true, decide_true, decide_false, Bool.not_true, Bool.not_false, ↓reduceIte, Nat.reduceAdd, Nat.reduceSub, Nat.zero_add, Option.isSome, eq_x, ne_x, eq2_ii, ne2_ii, eq2_enc, ne2_enc, len_x, sSl, sPt, sPN, oSl, sFs, sJs, sFmt, sAug, l_minus, l_slash, l_zero, l_n, l_nothing, l_empty, l_digits, SX.S_len, true_and, atI_n]
  refine ⟨v, rfl, ht, fun h => hex .non (hn h), fun s hv => ?_⟩
  obtain ⟨l, h1, h2, h3⟩ := hs s hv
  refine ⟨l, h1, h2, fun i hi => ?_, fun w hw => ⟨by decide, ?_⟩⟩
  · rw [hi] at h3
    exact hex _ h3
  · rw [hw] at h3
    exact h3
end
end K1
set_option Elab.async false
set_option linter.all false
set_option maxRecDepth 100000
set_option maxHeartbeats 1000000
namespace K1
open PySem PySem.Spec PyProof.Rows L2 Sm Wm Cm Kt Tm
/-! ### texts of numbers -/
theorem numL_head (n : Nat) (h : 0 < n) : ∃ c r, TL.numL n = c :: r ∧ 49 ≤ c ∧ c ≤ 57 := by
  induction n using Nat.strongRecOn with
  | _ n ih =>
    by_cases h10 : n < 10
    · exact ⟨48 + n, [], TL.numL_lt h10, by omega, by omega⟩
    · obtain ⟨c, r, e, h1, h2⟩ := ih (n / 10) (by omega) (by omega)
      rw [TL.numL_step (by omega), e]
      exact ⟨c, _, rfl, h1, h2⟩
theorem numL_dig (n : Nat) : ∀ c ∈ TL.numL n, dig c = true := fun c hc => by
  have := TL.numL_digits n c hc
  unfold dig
  rw [decide_eq_true this.1, decide_eq_true this.2]; rfl
theorem numL_ok {n : Nat} (h0 : 0 < n) (h : n < 10 ^ 60) : ok60 (TL.numL n) (TL.numL n).length := by
  refine ⟨numL_dig n, rfl, List.length_pos_iff.mpr (TL.numL_ne n), TL.numL_len (by decide) h, ?_⟩
  obtain ⟨c, r, e, h1, h2⟩ := numL_head n h0
  rw [e]
  simp
  omega
theorem numL_ge {n k : Nat} (h : 10 ^ k ≤ n) : k + 1 ≤ (TL.numL n).length := by
  have := digits10_ge (k := k) (n := n) h
  have e : TL.numL n = (Nat.toDigits 10 n).map Char.toNat := rfl
  rw [e, List.length_map]
  exact this
theorem iv_num (i : Int) : iv (num i) = i := by
  by_cases h0 : 0 ≤ i
  · obtain ⟨m, rfl⟩ := Int.eq_ofNat_of_zero_le h0
    rw [num_nat, iv_dig (numL_dig m), TL.numL_val]
  · obtain ⟨m, hm⟩ : ∃ m : Nat, i = -(m : Int) := ⟨i.natAbs, by omega⟩
    subst hm
    rw [num_neg m (by omega)]
    show -((NumText.digitsVal (TL.numL m) : Nat) : Int) = _
    rw [TL.numL_val]
theorem top_num {i : Int} (h : i.natAbs < 10 ^ 60) : Top (num i) ∧ ∃ q, scan .s 0 (num i) = .inr q ∧ Kt.fin q = true ∧ δ q 47 = some .b := by
  by_cases h0 : i = 0
  · subst h0
    have e : num 0 = [48] := by decide +kernel
    rw [e]
    exact ⟨.inl rfl, .z, rfl, rfl, rfl⟩
  · by_cases hp : 0 ≤ i
    · obtain ⟨m, rfl⟩ := Int.eq_ofNat_of_zero_le hp
      rw [num_nat]
      have o := numL_ok (n := m) (by omega) (by simpa using h)
      exact ⟨.inr ⟨[], _, _, rfl, .inl rfl, o⟩, .t _, scan_ok o .s 0 (.inl rfl), rfl, rfl⟩
    · obtain ⟨m, hm⟩ : ∃ m : Nat, i = -(m : Int) := ⟨i.natAbs, by omega⟩
      subst hm
      rw [num_neg m (by omega)]
      have o := numL_ok (n := m) (by omega) (by simpa using h)
      refine ⟨.inr ⟨[45], _, _, rfl, .inr rfl, o⟩, .t (TL.numL m).length, ?_, rfl, rfl⟩
      show scan .m 1 (TL.numL m) = _
      exact scan_ok o .m 1 (.inr rfl)
theorem res_wt {p q : Int} (hf : Wm.Fr (p, q)) (hp : p.natAbs < 10 ^ 60) (hq : q.natAbs < 10 ^ 60) : Kt.res (wt p q) = .inr (some (p, q)) := by
  obtain ⟨T, s, h1, h2, h3⟩ := top_num hp
  obtain ⟨n1, n2, n3⟩ := top_no T
  have q0 : 0 < q := hf.pos
  unfold wt
  by_cases h : q = 1
  · rw [if_pos h]
    unfold Kt.res valL
    rw [h1]
    simp only [h2, if_true]
    rw [if_neg n2, parts_no n1]
    simp only [iv_num, h]
  · rw [if_neg h]
    obtain ⟨m, rfl⟩ := Int.eq_ofNat_of_zero_le (Int.le_of_lt q0)
    have o := numL_ok (n := m) (by omega) (by simpa using hq)
    have es : scan .s 0 (num p ++ 47 :: num (m : Int)) = .inr (.u (TL.numL m).length) := by
      rw [scan_append, h1]
      show (match δ s 47 with | none => Sum.inl _ | some q' => scan q' _ (num (m : Int))) = _
      rw [h3, num_nat]
      exact scan_okb o _
    unfold Kt.res valL
    rw [es]
    show (if Kt.fin (.u (TL.numL m).length) = true then _ else _) = _
    rw [show Kt.fin (.u (TL.numL m).length) = true from rfl, if_pos rfl, if_neg (by
      intro z
      have : (47 : Nat) ∈ nothing := by rw [← z]; simp
      exact absurd this (by decide)), parts_cut n1, parts_no (by rw [num_nat]; exact dig47 o.1)]
    show Sum.inr (some (low (iv (num p)) (iv (num (m : Int))))) = _
    rw [iv_num, iv_num, low_self q0 hf.cop]
theorem res_long {n : Nat} (h : 10 ^ 60 ≤ n) (r : List Nat) : Kt.res (TL.numL n ++ r) = .inl 60 := by
  have hl := numL_ge h
  obtain ⟨c, t, e, h1, h2⟩ := numL_head n (Nat.lt_of_lt_of_le (by decide) h)
  have hd := numL_dig n
  have o : ok60 ((TL.numL n).take 60) 60 := by
    refine ⟨fun c hc => hd c (List.mem_of_mem_take hc), by rw [List.length_take]; omega, by decide, by decide, ?_⟩
    rw [e]
    simp
    omega
  have hlt : 60 < (TL.numL n).length := by omega
  have e2 : TL.numL n ++ r = (TL.numL n).take 60 ++ ((TL.numL n)[60] :: ((TL.numL n).drop 61 ++ r)) := by
    have e3 := List.take_append_drop 60 (TL.numL n)
    rw [List.drop_eq_getElem_cons hlt] at e3
    have e4 : TL.numL n ++ r = ((TL.numL n).take 60 ++ (TL.numL n)[60] :: (TL.numL n).drop 61) ++ r := by rw [e3]
    rw [e4, List.append_assoc]
    rfl
  unfold Kt.res
  rw [e2, scan_append, scan_ok o .s 0 (.inl rfl)]
  have hc := hd _ (List.getElem_mem hlt)
  have c47 : (TL.numL n)[60] ≠ 47 := by
    intro z
    rw [z] at hc
    exact absurd hc (by decide)
  have hdead : δ (.t 60) (TL.numL n)[60] = none := by
    dsimp only [δ]
    rw [if_neg c47, if_neg (by omega)]
  have hs : scan (.t 60) (0 + ((TL.numL n).take 60).length) ((TL.numL n)[60] :: ((TL.numL n).drop 61 ++ r)) = .inl 60 := by
    rw [dead_scan (c := (TL.numL n)[60]) rfl hdead, o.2.1]
  dsimp only
  rw [hs]
theorem low_le (a : Int) {b : Int} (hb : b ≠ 0) : (low a b).1.natAbs ≤ a.natAbs ∧ (low a b).2.natAbs ≤ b.natAbs := by
  obtain ⟨s, h0, h1, h2⟩ := (low_is a hb).sc
  have hs : 1 ≤ s.natAbs := by omega
  have e1 := congrArg Int.natAbs h1
  have e2 := congrArg Int.natAbs h2
  rw [Int.natAbs_mul] at e1 e2
  exact ⟨by rw [e1]; exact Nat.le_mul_of_pos_right _ hs, by rw [e2]; exact Nat.le_mul_of_pos_right _ hs⟩
theorem okc_num {i : Int} (h : 0 ≤ i) : okc (num i) := by
  obtain ⟨m, rfl⟩ := Int.eq_ofNat_of_zero_le h
  rw [num_nat]
  intro c hc
  have := TL.numL_digits m c hc
  omega
theorem okc_app {a b : List Nat} (h : okc a) (h' : okc b) : okc (a ++ b) := fun c hc => (List.mem_append.mp hc).elim (h c) (h' c)
theorem okc_take {a : List Nat} (h : okc a) (n : Nat) : okc (a.take n) := fun c hc => h c (List.mem_of_mem_take hc)
theorem okc_drop {a : List Nat} (h : okc a) (n : Nat) : okc (a.drop n) := fun c hc => h c (List.mem_of_mem_drop hc)
theorem num_le61 {i : Int} (h : 0 ≤ i) (h' : i ≤ 10 ^ 60) : (num i).length ≤ 62 := num_len (k := 61) (by decide) (by
  have : (10 : Nat) ^ 60 < 10 ^ 61 := by decide +kernel
  have e : ((10 : Int) ^ 60) = ((10 ^ 60 : Nat) : Int) := by decide +kernel
  omega)
theorem b_60 {i : Int} (h : 0 ≤ i) (h' : i ≤ 10 ^ 60) : B 201 i := by
  have := ten60
  have e : ((10 : Int) ^ 60) = ((10 ^ 60 : Nat) : Int) := by decide +kernel
  unfold B
  have : (2 : Nat) ^ 200 < 2 ^ 201 := by decide +kernel
  omega
theorem l_signs : (Str.ofString "0123456789--//0 +.nx" : Str) = SX.S [48, 49, 50, 51, 52, 53, 54, 55, 56, 57, 45, 45, 47, 47, 48, 32, 43, 46, 110, 120] := by decide +kernel
theorem sl_fromS (l : List Nat) (i : Nat) : Txt.slice (SX.S l) (some (((i : Nat) : Int) + 1)) none = SX.S (l.drop (i + 1)) := sl_from l (i + 1)
section
variable {K : PySem.W.Frag} {mg : Str → Option Value}
theorem p__law_spoilt : ∀ pvs st Q PX, S__law_spoilt mg pvs st Q PX → t__law_spoilt K mg (endOf Q PX) (ini N__law_spoilt pvs) st := by
  rintro pvs st Q PX ⟨n, k, l, rfl, hl, ho, hd, hq⟩
  simp only [t__law_spoilt, l_signs, sRet, sSeq, sAsg, sIfS, sSkip, sPar, sAsgG, sDrop, sRaise, sOp, sCB, sCons, sNil, sVar, sC, sTup, sLst, sNew, sNeg, sNot, sTest, sNotT, sAndT, sOrT, sAnd, sOr, sIf, sChain, sBits, sCall, ini, endOf, kName, kTup2, oAdd, oI, oI0, oIs, isNon_non, isNon_tup, isNon_int, oIx, oLen, oAbs, oInt, oGcd, oType, oEq_ii, oNe_ii, oEq_enc, oNe_enc, oEq_tt, oNe_tt, atI_0, atI_1, List.map_cons, List.map_nil, List.length_cons, List.length_nil, List.cons_append, List.nil_append, List.append_nil, List.replicate_succ, List.replicate_zero, List.getElem?_cons_zero, List.getElem?_cons_succ, List.set_cons_zero, List.set_cons_succ, Bool.false_eq_true, decide_true, decide_false, Bool.not_true, Bool.not_false, ↓reduceIte, Nat.reduceAdd, Nat.reduceSub, Nat.zero_add, Option.isSome, eq_x, ne_x, eq2_ii, ne2_ii, eq2_enc, ne2_enc, len_x, sSl, sPt, sPN, oSl, sFs, sJs, sFmt, sAug, l_minus, l_slash, l_zero, l_n, l_nothing, l_empty, l_digits, SX.S_len, true_and, atI_n]
  refine ⟨by omega, n, k + 2, _, rfl, hd, by omega, b_lt (by omega) (by omega), fun r s1 r0 r9 hd1 a1 => ?_⟩
  obtain ⟨i, rfl⟩ := Int.eq_ofNat_of_zero_le r0
  have hi : i ≤ l.length := by omega
  simp only [oList, SX.S_len, sRet, sSeq, sAsg, sIfS, sSkip, sPar, sAsgG, sDrop, sRaise, sOp, sCB, sCons, sNil, sVar, sC, sTup, sLst, sNew, sNeg, sNot, sTest, sNotT, sAndT, sOrT, sAnd, sOr, sIf, sChain, sBits, sCall, ini, endOf, kName, kTup2, oAdd, oI, oI0, oIs, isNon_non, isNon_tup, isNon_int, oIx, oLen, oAbs, oInt, oGcd, oType, oEq_ii, oNe_ii, oEq_enc, oNe_enc, oEq_tt, oNe_tt, atI_0, atI_1, List.map_cons, List.map_nil, List.length_cons, List.length_nil, List.cons_append, List.nil_append, List.append_nil, List.replicate_succ, List.replicate_zero, List.getElem?_cons_zero, List.getElem?_cons_succ, List.set_cons_zero, List.set_cons_succ, Bool.false_eq_true, decide_true, decide_false, Bool.not_true, Bool.not_false, ↓reduceIte, Nat.reduceAdd, Nat.reduceSub, Nat.zero_add, Option.isSome, eq_x, ne_x, eq2_ii, ne2_ii, eq2_enc, ne2_enc, len_x, sSl, sPt, sPN, oSl, sFs, sJs, sFmt, sAug, l_minus, l_slash, l_zero, l_n, l_nothing, l_empty, l_digits, SX.S_len, true_and, atI_n]
  refine ⟨by decide, n, k + 1, _, rfl, hd1, by simp [signsOf], by simp [signsOf], fun v hv s2 hd2 a2 => ?_⟩
  have hv' : ∃ c, v = tx [c] ∧ c < 1114112 := by
    obtain ⟨c, hc, rfl⟩ := List.mem_map.mp hv
    rw [tl_S] at hc
    refine ⟨c, rfl, ?_⟩
    simp only [List.mem_cons, List.not_mem_nil, or_false] at hc
    omega
  obtain ⟨c, rfl, hc⟩ := hv'
  have oc : okc [c] := fun d hd => by rw [List.mem_singleton.mp hd]; exact hc
  simp only [sRet, sSeq, sAsg, sIfS, sSkip, sPar, sAsgG, sDrop, sRaise, sOp, sCB, sCons, sNil, sVar, sC, sTup, sLst, sNew, sNeg, sNot, sTest, sNotT, sAndT, sOrT, sAnd, sOr, sIf, sChain, sBits, sCall, ini, endOf, kName, kTup2, oAdd, oI, oI0, oIs, isNon_non, isNon_tup, isNon_int, oIx, oLen, oAbs, oInt, oGcd, oType, oEq_ii, oNe_ii, oEq_enc, oNe_enc, oEq_tt, oNe_tt, atI_0, atI_1, List.map_cons, List.map_nil, List.length_cons, List.length_nil, List.cons_append, List.nil_append, List.append_nil, List.replicate_succ, List.replicate_zero, List.getElem?_cons_zero, List.getElem?_cons_succ, List.set_cons_zero, List.set_cons_succ, Bool.false_eq_true, decide_true, decide_false, Bool.not_true, Bool.not_false, ↓reduceIte, Nat.reduceAdd, Nat.reduceSub, Nat.zero_add, Option.isSome, eq_x, ne_x, eq2_ii, ne2_ii, eq2_enc, ne2_enc, len_x, sSl, sPt, sPN, oSl, sFs, sJs, sFmt, sAug, l_minus, l_slash, l_zero, l_n, l_nothing, l_empty, l_digits, SX.S_len, true_and, atI_n]
  refine ⟨n, k, 5, rfl, hd2, by decide, b_of (by decide), fun w s3 w0 w9 hd3 a3 => ?_⟩
  have a13 := (a1.trans a2).trans a3
  simp only [sl_to, sl_from, sl_fromS, S_add, SX.S_len, sRet, sSeq, sAsg, sIfS, sSkip, sPar, sAsgG, sDrop, sRaise, sOp, sCB, sCons, sNil, sVar, sC, sTup, sLst, sNew, sNeg, sNot, sTest, sNotT, sAndT, sOrT, sAnd, sOr, sIf, sChain, sBits, sCall, ini, endOf, kName, kTup2, oAdd, oI, oI0, oIs, isNon_non, isNon_tup, isNon_int, oIx, oLen, oAbs, oInt, oGcd, oType, oEq_ii, oNe_ii, oEq_enc, oNe_enc, oEq_tt, oNe_tt, atI_0, atI_1, List.map_cons, List.map_nil, List.length_cons, List.length_nil, List.cons_append, List.nil_append, List.append_nil, List.replicate_succ, List.replicate_zero, List.getElem?_cons_zero, List.getElem?_cons_succ, List.set_cons_zero, List.set_cons_succ, Bool.false_eq_true, decide_true, decide_false, Bool.not_true, Bool.not_false, ↓reduceIte, Nat.reduceAdd, Nat.reduceSub, Nat.zero_add, Option.isSome, eq_x, ne_x, eq2_ii, ne2_ii, eq2_enc, ne2_enc, len_x, sSl, sPt, sPN, oSl, sFs, sJs, sFmt, sAug, l_minus, l_slash, l_zero, l_n, l_nothing, l_empty, l_digits, SX.S_len, true_and, atI_n]
  by_cases h0 : w = 0
  · rw [decide_eq_true h0]
    exact ⟨by omega, hq _ _ (by rw [List.length_take]; omega) (okc_take ho i) hd3 a13⟩
  · rw [decide_eq_false h0]
    by_cases h1 : w = 1
    · rw [decide_eq_true h1]
      refine ⟨by omega, by omega, Nat.le_trans (show _ ≤ 100000 by simp; omega) (by decide), ?_⟩
      exact hq _ _ (by simp; omega) (okc_app (okc_take ho i) (okc_drop ho _)) hd3 a13
    · rw [decide_eq_false h1]
      by_cases h2 : w = 2
      · rw [decide_eq_true h2]
        refine ⟨by omega, Nat.le_trans (show _ ≤ 100000 by simp; omega) (by decide), by omega, Nat.le_trans (show _ ≤ 100000 by simp; omega) (by decide), ?_⟩
        exact hq _ _ (by simp; omega) (okc_app (okc_app (okc_take ho i) oc) (okc_drop ho _)) hd3 a13
      · rw [decide_eq_false h2]
        refine ⟨by omega, Nat.le_trans (show _ ≤ 100000 by simp; omega) (by decide), by omega, Nat.le_trans (show _ ≤ 100000 by simp; omega) (by decide), ?_⟩
        exact hq _ _ (by simp; omega) (okc_app (okc_app (okc_take ho i) oc) (okc_drop ho _)) hd3 a13
theorem okc_lit {l : List Nat} (h : l.all (fun c => decide (c < 1114112)) = true) : okc l := fun c hc => by
  have := List.all_eq_true.mp h c hc
  simpa using this
def tx9 (K : PySem.W.Frag) (mg : Str → Option Value) : SemS := (sRet (sIf (sTest (sOp oEq2 (sCall (S__law_roll mg) [] (sCons (sVar 0) (sCons (sC (.int 2)) sNil))) (sC (.int 0)))) (sVar 1) (sOp oAdd (sOp oAdd (sVar 1) (sC (.str "/"))) (sSl (sCB oStr (sCons (sOp oAdd (sC (.int 1)) (sCall (S__law_integer mg) [] (sCons (sVar 0) sNil))) sNil)) sPN (sPt (sC (.int 60)))))))
theorem tx_eq : t__law_text K mg = sSeq (sIfS (sTest (sOp oEq2 (sCall (S__law_roll mg) [] (sCons (sVar 0) (sCons (sC (.int 6)) sNil))) (sC (.int 0)))) (sRet (sC (.str "nothing"))) sSkip) (sSeq (sAsg (sCB oStr (sCons (sCall (S__law_integer mg) [] (sCons (sVar 0) sNil)) sNil)) 1) (sSeq (sIfS (sAndT (sTest (sOp oEq2 (sCall (S__law_roll mg) [] (sCons (sVar 0) (sCons (sC (.int 3)) sNil))) (sC (.int 0)))) (sTest (sOp oNe2 (sVar 1) (sC (.str "0"))))) (sAsg (sOp oAdd (sC (.str "-")) (sVar 1)) 1) sSkip) (tx9 K mg))) := rfl
theorem p__law_text : ∀ pvs st Q PX, S__law_text mg pvs st Q PX → t__law_text K mg (endOf Q PX) (ini N__law_text pvs) st := by
  rintro pvs st Q PX ⟨n, k, rfl, hd, hq⟩
  rw [tx_eq]
  simp only [sRet, sSeq, sAsg, sIfS, sSkip, sPar, sAsgG, sDrop, sRaise, sOp, sCB, sCons, sNil, sVar, sC, sTup, sLst, sNew, sNeg, sNot, sTest, sNotT, sAndT, sOrT, sAnd, sOr, sIf, sChain, sBits, sCall, ini, endOf, kName, kTup2, oAdd, oI, oI0, oIs, isNon_non, isNon_tup, isNon_int, oIx, oLen, oAbs, oInt, oGcd, oType, oEq_ii, oNe_ii, oEq_enc, oNe_enc, oEq_tt, oNe_tt, atI_0, atI_1, List.map_cons, List.map_nil, List.length_cons, List.length_nil, List.cons_append, List.nil_append, List.append_nil, List.replicate_succ, List.replicate_zero, List.getElem?_cons_zero, List.getElem?_cons_succ, List.set_cons_zero, List.set_cons_succ, Bool.false_eq_true, decide_true, decide_false, Bool.not_true, Bool.not_false, ↓reduceIte, Nat.reduceAdd, Nat.reduceSub, Nat.zero_add, Option.isSome, eq_x, ne_x, eq2_ii, ne2_ii, eq2_enc, ne2_enc, len_x, sSl, sPt, sPN, oSl, sFs, sJs, sFmt, sAug, l_minus, l_slash, l_zero, l_n, l_nothing, l_empty, l_digits, SX.S_len, true_and, atI_n]
  refine ⟨n, k + 11, 6, rfl, hd, by decide, b_of (by decide), fun r s1 r0 r9 hd1 a1 => ?_⟩
  simp only [sRet, sSeq, sAsg, sIfS, sSkip, sPar, sAsgG, sDrop, sRaise, sOp, sCB, sCons, sNil, sVar, sC, sTup, sLst, sNew, sNeg, sNot, sTest, sNotT, sAndT, sOrT, sAnd, sOr, sIf, sChain, sBits, sCall, ini, endOf, kName, kTup2, oAdd, oI, oI0, oIs, isNon_non, isNon_tup, isNon_int, oIx, oLen, oAbs, oInt, oGcd, oType, oEq_ii, oNe_ii, oEq_enc, oNe_enc, oEq_tt, oNe_tt, atI_0, atI_1, List.map_cons, List.map_nil, List.length_cons, List.length_nil, List.cons_append, List.nil_append, List.append_nil, List.replicate_succ, List.replicate_zero, List.getElem?_cons_zero, List.getElem?_cons_succ, List.set_cons_zero, List.set_cons_succ, Bool.false_eq_true, decide_true, decide_false, Bool.not_true, Bool.not_false, ↓reduceIte, Nat.reduceAdd, Nat.reduceSub, Nat.zero_add, Option.isSome, eq_x, ne_x, eq2_ii, ne2_ii, eq2_enc, ne2_enc, len_x, sSl, sPt, sPN, oSl, sFs, sJs, sFmt, sAug, l_minus, l_slash, l_zero, l_n, l_nothing, l_empty, l_digits, SX.S_len, true_and, atI_n]
  by_cases h0 : r = 0
  · rw [decide_eq_true h0]
    exact hq _ _ (by decide) (okc_lit (by decide)) (hd1.mono (by omega)) a1
  · rw [decide_eq_false h0]
    refine ⟨n, k + 7, rfl, hd1, fun x s2 x0 x9 hd2 a2 => ?_⟩
    have bx := b_60 x0 (by omega)
    refine str_x x _ _ (log_lt bx (by decide)) ?_
    have lx := num_le61 x0 (by omega)
    have ox := okc_num x0
    have tail : ∀ (l : List Nat) (s3 : Store), l.length ≤ 100 → okc l → DiceAt n (k + 6) s3 → Aft n st s3 → tx9 K mg (endOf Q PX) [some (.hd n), some (tx l)] s3 := by
      intro l s3 hl ho hd3 a3
      simp only [tx9, sRet, sSeq, sAsg, sIfS, sSkip, sPar, sAsgG, sDrop, sRaise, sOp, sCB, sCons, sNil, sVar, sC, sTup, sLst, sNew, sNeg, sNot, sTest, sNotT, sAndT, sOrT, sAnd, sOr, sIf, sChain, sBits, sCall, ini, endOf, kName, kTup2, oAdd, oI, oI0, oIs, isNon_non, isNon_tup, isNon_int, oIx, oLen, oAbs, oInt, oGcd, oType, oEq_ii, oNe_ii, oEq_enc, oNe_enc, oEq_tt, oNe_tt, atI_0, atI_1, List.map_cons, List.map_nil, List.length_cons, List.length_nil, List.cons_append, List.nil_append, List.append_nil, List.replicate_succ, List.replicate_zero, List.getElem?_cons_zero, List.getElem?_cons_succ, List.set_cons_zero, List.set_cons_succ, Bool.false_eq_true, decide_true, decide_false, Bool.not_true, Bool.not_false, ↓reduceIte, Nat.reduceAdd, Nat.reduceSub, Nat.zero_add, Option.isSome, eq_x, ne_x, eq2_ii, ne2_ii, eq2_enc, ne2_enc, len_x, sSl, sPt, sPN, oSl, sFs, sJs, sFmt, sAug, l_minus, l_slash, l_zero, l_n, l_nothing, l_empty, l_digits, SX.S_len, true_and, atI_n]
      refine ⟨n, k + 5, 2, rfl, hd3, by decide, b_of (by decide), fun w s4 w0 w9 hd4 a4 => ?_⟩
      simp only [sRet, sSeq, sAsg, sIfS, sSkip, sPar, sAsgG, sDrop, sRaise, sOp, sCB, sCons, sNil, sVar, sC, sTup, sLst, sNew, sNeg, sNot, sTest, sNotT, sAndT, sOrT, sAnd, sOr, sIf, sChain, sBits, sCall, ini, endOf, kName, kTup2, oAdd, oI, oI0, oIs, isNon_non, isNon_tup, isNon_int, oIx, oLen, oAbs, oInt, oGcd, oType, oEq_ii, oNe_ii, oEq_enc, oNe_enc, oEq_tt, oNe_tt, atI_0, atI_1, List.map_cons, List.map_nil, List.length_cons, List.length_nil, List.cons_append, List.nil_append, List.append_nil, List.replicate_succ, List.replicate_zero, List.getElem?_cons_zero, List.getElem?_cons_succ, List.set_cons_zero, List.set_cons_succ, Bool.false_eq_true, decide_true, decide_false, Bool.not_true, Bool.not_false, ↓reduceIte, Nat.reduceAdd, Nat.reduceSub, Nat.zero_add, Option.isSome, eq_x, ne_x, eq2_ii, ne2_ii, eq2_enc, ne2_enc, len_x, sSl, sPt, sPN, oSl, sFs, sJs, sFmt, sAug, l_minus, l_slash, l_zero, l_n, l_nothing, l_empty, l_digits, SX.S_len, true_and, atI_n]
      by_cases hw : w = 0
      · rw [decide_eq_true hw]
        exact hq _ _ (by omega) ho (hd4.mono (by omega)) (a3.trans a4)
      · rw [decide_eq_false hw]
        simp only [S_add, SX.S_len]
        refine ⟨Nat.le_trans (show _ ≤ 100000 by simp; omega) (by decide), n, k + 1, rfl, hd4, fun y s5 y0 y9 hd5 a5 => ?_⟩
        have by1 := b_60 (i := 1 + y) (by omega) (by omega)
        refine str_x (1 + y) _ _ (log_lt by1 (by decide)) ?_
        have ly := num_le61 (i := 1 + y) (by omega) (by omega)
        simp only [sRet, sSeq, sAsg, sIfS, sSkip, sPar, sAsgG, sDrop, sRaise, sOp, sCB, sCons, sNil, sVar, sC, sTup, sLst, sNew, sNeg, sNot, sTest, sNotT, sAndT, sOrT, sAnd, sOr, sIf, sChain, sBits, sCall, ini, endOf, kName, kTup2, oAdd, oI, oI0, oIs, isNon_non, isNon_tup, isNon_int, oIx, oLen, oAbs, oInt, oGcd, oType, oEq_ii, oNe_ii, oEq_enc, oNe_enc, oEq_tt, oNe_tt, atI_0, atI_1, List.map_cons, List.map_nil, List.length_cons, List.length_nil, List.cons_append, List.nil_append, List.append_nil, List.replicate_succ, List.replicate_zero, List.getElem?_cons_zero, List.getElem?_cons_succ, List.set_cons_zero, List.set_cons_succ, Bool.false_eq_true, decide_true, decide_false, Bool.not_true, Bool.not_false, ↓reduceIte, Nat.reduceAdd, Nat.reduceSub, Nat.zero_add, Option.isSome, eq_x, ne_x, eq2_ii, ne2_ii, eq2_enc, ne2_enc, len_x, sSl, sPt, sPN, oSl, sFs, sJs, sFmt, sAug, l_minus, l_slash, l_zero, l_n, l_nothing, l_empty, l_digits, SX.S_len, true_and, atI_n]
        refine ⟨by omega, ?_⟩
        rw [show Txt.slice (SX.S (num (1 + y))) none (some 60) = SX.S ((num (1 + y)).take 60) from sl_to _ 60]
        simp only [S_add, SX.S_len]
        refine ⟨Nat.le_trans (show _ ≤ 100000 by simp; omega) (by decide), ?_⟩
        exact hq _ _ (by simp; omega) (okc_app (okc_app ho (okc_lit (by decide))) (okc_take (okc_num (by omega)) 60)) (hd5.mono (by omega)) ((a3.trans a4).trans a5)
    simp only [sRet, sSeq, sAsg, sIfS, sSkip, sPar, sAsgG, sDrop, sRaise, sOp, sCB, sCons, sNil, sVar, sC, sTup, sLst, sNew, sNeg, sNot, sTest, sNotT, sAndT, sOrT, sAnd, sOr, sIf, sChain, sBits, sCall, ini, endOf, kName, kTup2, oAdd, oI, oI0, oIs, isNon_non, isNon_tup, isNon_int, oIx, oLen, oAbs, oInt, oGcd, oType, oEq_ii, oNe_ii, oEq_enc, oNe_enc, oEq_tt, oNe_tt, atI_0, atI_1, List.map_cons, List.map_nil, List.length_cons, List.length_nil, List.cons_append, List.nil_append, List.append_nil, List.replicate_succ, List.replicate_zero, List.getElem?_cons_zero, List.getElem?_cons_succ, List.set_cons_zero, List.set_cons_succ, Bool.false_eq_true, decide_true, decide_false, Bool.not_true, Bool.not_false, ↓reduceIte, Nat.reduceAdd, Nat.reduceSub, Nat.zero_add, Option.isSome, eq_x, ne_x, eq2_ii, ne2_ii, eq2_enc, ne2_enc, len_x, sSl, sPt, sPN, oSl, sFs, sJs, sFmt, sAug, l_minus, l_slash, l_zero, l_n, l_nothing, l_empty, l_digits, SX.S_len, true_and, atI_n]
    refine ⟨n, k + 6, 3, rfl, hd2, by decide, b_of (by decide), fun w s3 w0 w9 hd3 a3 => ?_⟩
    simp only [sRet, sSeq, sAsg, sIfS, sSkip, sPar, sAsgG, sDrop, sRaise, sOp, sCB, sCons, sNil, sVar, sC, sTup, sLst, sNew, sNeg, sNot, sTest, sNotT, sAndT, sOrT, sAnd, sOr, sIf, sChain, sBits, sCall, ini, endOf, kName, kTup2, oAdd, oI, oI0, oIs, isNon_non, isNon_tup, isNon_int, oIx, oLen, oAbs, oInt, oGcd, oType, oEq_ii, oNe_ii, oEq_enc, oNe_enc, oEq_tt, oNe_tt, atI_0, atI_1, List.map_cons, List.map_nil, List.length_cons, List.length_nil, List.cons_append, List.nil_append, List.append_nil, List.replicate_succ, List.replicate_zero, List.getElem?_cons_zero, List.getElem?_cons_succ, List.set_cons_zero, List.set_cons_succ, Bool.false_eq_true, decide_true, decide_false, Bool.not_true, Bool.not_false, ↓reduceIte, Nat.reduceAdd, Nat.reduceSub, Nat.zero_add, Option.isSome, eq_x, ne_x, eq2_ii, ne2_ii, eq2_enc, ne2_enc, len_x, sSl, sPt, sPN, oSl, sFs, sJs, sFmt, sAug, l_minus, l_slash, l_zero, l_n, l_nothing, l_empty, l_digits, SX.S_len, true_and, atI_n]
    have a13 := (a1.trans a2).trans a3
    have t1 := tail (num x) s3 (by omega) ox hd3 a13
    have t2 := tail ([45] ++ num x) s3 (by simp; omega) (okc_app (okc_lit (by decide)) ox) hd3 a13
    by_cases hw : w = 0
    · rw [decide_eq_true hw]
      simp only [sRet, sSeq, sAsg, sIfS, sSkip, sPar, sAsgG, sDrop, sRaise, sOp, sCB, sCons, sNil, sVar, sC, sTup, sLst, sNew, sNeg, sNot, sTest, sNotT, sAndT, sOrT, sAnd, sOr, sIf, sChain, sBits, sCall, ini, endOf, kName, kTup2, oAdd, oI, oI0, oIs, isNon_non, isNon_tup, isNon_int, oIx, oLen, oAbs, oInt, oGcd, oType, oEq_ii, oNe_ii, oEq_enc, oNe_enc, oEq_tt, oNe_tt, atI_0, atI_1, List.map_cons, List.map_nil, List.length_cons, List.length_nil, List.cons_append, List.nil_append, List.append_nil, List.replicate_succ, List.replicate_zero, List.getElem?_cons_zero, List.getElem?_cons_succ, List.set_cons_zero, List.set_cons_succ, Bool.false_eq_true, decide_true, decide_false, Bool.not_true, Bool.not_false, ↓reduceIte, Nat.reduceAdd, Nat.reduceSub, Nat.zero_add, Option.isSome, eq_x, ne_x, eq2_ii, ne2_ii, eq2_enc, ne2_enc, len_x, sSl, sPt, sPN, oSl, sFs, sJs, sFmt, sAug, l_minus, l_slash, l_zero, l_n, l_nothing, l_empty, l_digits, SX.S_len, true_and, atI_n]
      by_cases hx : num x = [48]
      · rw [decide_eq_true hx]
        exact t1
      · rw [decide_eq_false hx]
        refine ⟨Nat.le_trans (show 1 + (num x).length ≤ 100000 by omega) (by decide), ?_⟩
        rw [S_add]
        exact t2
    · rw [decide_eq_false hw]
      exact t1
end
end K1
set_option Elab.async false
set_option linter.all false
set_option maxRecDepth 100000
set_option maxHeartbeats 1000000
namespace K1
open PySem PySem.Spec PyProof.Rows L2 Sm Wm Cm Kt Tm
theorem plain_b {n : Nat} {i : Int} (h : B n i) (hn : n ≤ 100000) : plainB (.int i) = true := decide_eq_true (Nat.le_trans (bits_le h) hn)
theorem fine_some {a b : Int} (ha : B 1000 a) (hb : B 1000 b) : fineB (enc (some (a, b))) = true := by
  show (plainB (.int a) && (plainB (.int b) && true)) = true
  rw [plain_b ha (by decide), plain_b hb (by decide)]
  rfl
theorem lt4000 {i : Int} (h : B 1000 i) : i.natAbs < 10 ^ 4000 := by
  have h2 : (2 : Nat) ^ 1000 ≤ 10 ^ 4000 := by decide +kernel
  exact Nat.lt_of_lt_of_le h h2
theorem known_some {a b : Int} (hf : Wm.Fr (a, b)) (ha : B 1000 a) (hb : B 1000 b) : knownB (enc (some (a, b))) = true := by
  show (decide (1 ≤ b) && decide (Int.gcd a b = 1) && decide (a.natAbs < 10 ^ 4000) && decide (b.natAbs < 10 ^ 4000)) = true
  rw [decide_eq_true (show 1 ≤ b by have : 0 < b := hf.pos; omega), decide_eq_true (show Int.gcd a b = 1 from hf.cop), decide_eq_true (lt4000 ha), decide_eq_true (lt4000 hb)]
  rfl
theorem eqv_v (x : Wo) : PyData.eqv (.list [encD x]) (.list [encD x]) = true := by
  have : PyData.eqv (.list [encD x]) (.list [encD x]) = (PyData.eqv (encD x) (encD x) && true) := by simp [PyData.eqv, PyData.eqvAll]
  rw [this, eqv_enc]
  simp
theorem ne_res (r : Nat ⊕ Wo) (st : Store) (P : Sm.PK) (h : P (.bl false) st) : oNe2 (vRes r) (vRes r) st P := by
  cases r with
  | inl i =>
    show oNe2 (.int (i : Nat)) (.int (i : Nat)) st P
    rw [ne2_ii, decide_eq_true rfl]
    exact h
  | inr x =>
    show oNe (.lst [enc x]) (.lst [enc x]) st P
    unfold oNe
    have e : dat st (.lst [enc x]) = some (.list [encD x]) := by
      have h1 : dat0 (enc x) = some (encD x) := by cases x <;> rfl
      show (dats0 [enc x]).map PyData.list = _
      simp only [dats0, h1]
      rfl
    have hs : SeqAt.shaped (.list [encD x]) = true := by cases x <;> rfl
    rw [e]
    refine ⟨hs, hs, ?_⟩
    rw [eqv_v]
    exact h
section
variable {K : PySem.W.Frag} {mg : Str → Option Value}
theorem wt_ok {a b : Int} {st : Store} {Q : Sm.PK} {PX : Sm.XP} (hf : Wm.Fr (a, b)) (ha : B 1000 a) (hb : B 1000 b) (h : Q (tx (wt a b)) st) : S_worth_text mg [enc (some (a, b))] st Q PX := by
  refine ⟨_, rfl, fine_some ha hb, nofun, fun _ hk => ?_, fun c d e hk => ?_⟩
  · rw [known_some hf ha hb] at hk
    cases hk
  · cases e
    exact ⟨ha.mono (by decide), hb.mono (by decide), h⟩
theorem wt_none {st : Store} {Q : Sm.PK} {PX : Sm.XP} (h : Q (tx nothing) st) : S_worth_text mg [.non] st Q PX :=
  ⟨_, rfl, rfl, fun _ => h, nofun, nofun⟩
theorem wt_bad {v : PV} {st : Store} {Q : Sm.PK} {PX : Sm.XP} (hv : (fineB v && !Sm.isNon v && !knownB v) = true) (h : PX (exW mg v) st) : S_worth_text mg [v] st Q PX := by
  simp only [Bool.and_eq_true, Bool.not_eq_true'] at hv
  refine ⟨_, rfl, hv.1.1, fun e => ?_, fun _ _ => h, fun a b e hk => ?_⟩
  · rw [hv.1.2] at e
    cases e
  · rw [hv.2] at hk
    cases hk
theorem told_ok {l : List Nat} {st : Store} {Q : Sm.PK} {PX : Sm.XP} (hl : l.length ≤ 1000) (h : Q (vRes (Kt.res l)) st) : S__law_told mg [tx l] st Q PX :=
  ⟨_, rfl, rfl, nofun, fun s e => ⟨l, rfl, hl, h⟩⟩
def r2 (K : PySem.W.Frag) (mg : Str → Option Value) : SemS := (sSeq (sIfS (sOrT (sTest (sOp oNe2 (sCall (S_worth_text mg) [] (sCons (sVar 1) sNil)) (sCall (S__law_written mg) [] (sCons (sVar 1) sNil)))) (sTest (sOp oNe2 (sCall (S_worth_text mg) [] (sCons (sC .non) sNil)) (sC (.str "nothing"))))) (sRet (sC (.bl false))) sSkip) (sSeq (sIfS (sTest (sOp oNe2 (sCall (S_read_worth mg) [] (sCons (sCall (S_worth_text mg) [] (sCons (sVar 1) sNil)) sNil)) (sVar 1))) (sRet (sC (.bl false))) sSkip) (sSeq (sAsg (sTup (sCons (sOp oAdd (sOp oPow (sC (.int 10)) (sC (.int 60))) (sCall (S__law_roll mg) [] (sCons (sVar 0) (sCons (sC (.int 9)) sNil)))) (sCons (sC (.int 1)) sNil))) 2) (sSeq (sIfS (sOrT (sTest (sOp oNe2 (sCall (S__law_told mg) [] (sCons (sCall (S_worth_text mg) [] (sCons (sVar 2) sNil)) sNil)) (sC (.int 60)))) (sTest (sOp oNe2 (sCall (S__law_told mg) [] (sCons (sCall (S_worth_text mg) [] (sCons (sCall (S_plus mg) [] (sCons (sVar 2) (sCons (sTup (sCons (sC (.int 1)) (sCons (sC (.int 7)) sNil))) sNil))) sNil)) sNil)) (sC (.int 60))))) (sRet (sC (.bl false))) sSkip) (sSeq (sForR1 (sC (.int 6)) (kName 3) (sSeq (sAsg (sCall (S__law_text mg) [] (sCons (sVar 0) sNil)) 5) (sSeq (sIfS (sTest (sOp oNe2 (sCall (S__law_told mg) [] (sCons (sVar 5) sNil)) (sCall (S__law_due mg) [] (sCons (sVar 5) sNil)))) (sRet (sC (.bl false))) sSkip) (sForR1 (sOp oAdd (sC (.int 1)) (sCall (S__law_roll mg) [] (sCons (sVar 0) (sCons (sC (.int 2)) sNil)))) (kName 6) (sSeq (sAsg (sCall (S__law_spoilt mg) [] (sCons (sVar 0) (sCons (sVar 5) sNil))) 5) (sIfS (sTest (sOp oNe2 (sCall (S__law_told mg) [] (sCons (sVar 5) sNil)) (sCall (S__law_due mg) [] (sCons (sVar 5) sNil)))) (sRet (sC (.bl false))) sSkip)))))) (sSeq (sAsg (sCall (S__law_one_of mg) [] (sCons (sVar 0) (sCons (sLst (sCons (sC .non) (sCons (sC (.int 5)) (sCons (sTup (sCons (sC (.str "1")) sNil)) (sCons (sLst (sCons (sC (.str "1")) sNil)) (sCons (sC (.bl true)) (sCons (sTup (sCons (sC (.int 1)) (sCons (sC (.int 2)) sNil))) sNil))))))) sNil))) 4) (sSeq (sIfS (sTest (sOp (oIs true) (sCall (S__law_told mg) [] (sCons (sVar 4) sNil)) (sC .non))) (sRet (sC (.bl false))) sSkip) (sSeq (sTry K (sDrop (sCall (S_worth_text mg) [] (sCons (sCall (S__law_one_of mg) [] (sCons (sVar 0) (sCons (sLst (sCons (sTup (sCons (sC (.int 2)) (sCons (sC (.int 4)) sNil))) (sCons (sC (.str "1/2")) (sCons (sC (.int 5)) (sCons (sTup (sCons (sC (.int 1)) (sCons (sC (.int 0)) sNil))) (sCons (sTup (sCons (sC (.bl true)) (sCons (sC (.int 1)) sNil))) (sCons (sTup sNil) sNil))))))) sNil))) sNil))) [(.ref (ad mg "InvalidWorth"), none, fun a cls d => (sRet (sC (.bl true))))]) (sRet (sC (.bl false)))))))))))
def r3 (K : PySem.W.Frag) (mg : Str → Option Value) : SemS := (sSeq (sIfS (sTest (sOp oNe2 (sCall (S_read_worth mg) [] (sCons (sCall (S_worth_text mg) [] (sCons (sVar 1) sNil)) sNil)) (sVar 1))) (sRet (sC (.bl false))) sSkip) (sSeq (sAsg (sTup (sCons (sOp oAdd (sOp oPow (sC (.int 10)) (sC (.int 60))) (sCall (S__law_roll mg) [] (sCons (sVar 0) (sCons (sC (.int 9)) sNil)))) (sCons (sC (.int 1)) sNil))) 2) (sSeq (sIfS (sOrT (sTest (sOp oNe2 (sCall (S__law_told mg) [] (sCons (sCall (S_worth_text mg) [] (sCons (sVar 2) sNil)) sNil)) (sC (.int 60)))) (sTest (sOp oNe2 (sCall (S__law_told mg) [] (sCons (sCall (S_worth_text mg) [] (sCons (sCall (S_plus mg) [] (sCons (sVar 2) (sCons (sTup (sCons (sC (.int 1)) (sCons (sC (.int 7)) sNil))) sNil))) sNil)) sNil)) (sC (.int 60))))) (sRet (sC (.bl false))) sSkip) (sSeq (sForR1 (sC (.int 6)) (kName 3) (sSeq (sAsg (sCall (S__law_text mg) [] (sCons (sVar 0) sNil)) 5) (sSeq (sIfS (sTest (sOp oNe2 (sCall (S__law_told mg) [] (sCons (sVar 5) sNil)) (sCall (S__law_due mg) [] (sCons (sVar 5) sNil)))) (sRet (sC (.bl false))) sSkip) (sForR1 (sOp oAdd (sC (.int 1)) (sCall (S__law_roll mg) [] (sCons (sVar 0) (sCons (sC (.int 2)) sNil)))) (kName 6) (sSeq (sAsg (sCall (S__law_spoilt mg) [] (sCons (sVar 0) (sCons (sVar 5) sNil))) 5) (sIfS (sTest (sOp oNe2 (sCall (S__law_told mg) [] (sCons (sVar 5) sNil)) (sCall (S__law_due mg) [] (sCons (sVar 5) sNil)))) (sRet (sC (.bl false))) sSkip)))))) (sSeq (sAsg (sCall (S__law_one_of mg) [] (sCons (sVar 0) (sCons (sLst (sCons (sC .non) (sCons (sC (.int 5)) (sCons (sTup (sCons (sC (.str "1")) sNil)) (sCons (sLst (sCons (sC (.str "1")) sNil)) (sCons (sC (.bl true)) (sCons (sTup (sCons (sC (.int 1)) (sCons (sC (.int 2)) sNil))) sNil))))))) sNil))) 4) (sSeq (sIfS (sTest (sOp (oIs true) (sCall (S__law_told mg) [] (sCons (sVar 4) sNil)) (sC .non))) (sRet (sC (.bl false))) sSkip) (sSeq (sTry K (sDrop (sCall (S_worth_text mg) [] (sCons (sCall (S__law_one_of mg) [] (sCons (sVar 0) (sCons (sLst (sCons (sTup (sCons (sC (.int 2)) (sCons (sC (.int 4)) sNil))) (sCons (sC (.str "1/2")) (sCons (sC (.int 5)) (sCons (sTup (sCons (sC (.int 1)) (sCons (sC (.int 0)) sNil))) (sCons (sTup (sCons (sC (.bl true)) (sCons (sC (.int 1)) sNil))) (sCons (sTup sNil) sNil))))))) sNil))) sNil))) [(.ref (ad mg "InvalidWorth"), none, fun a cls d => (sRet (sC (.bl true))))]) (sRet (sC (.bl false))))))))))
def r4 (K : PySem.W.Frag) (mg : Str → Option Value) : SemS := (sSeq (sAsg (sTup (sCons (sOp oAdd (sOp oPow (sC (.int 10)) (sC (.int 60))) (sCall (S__law_roll mg) [] (sCons (sVar 0) (sCons (sC (.int 9)) sNil)))) (sCons (sC (.int 1)) sNil))) 2) (sSeq (sIfS (sOrT (sTest (sOp oNe2 (sCall (S__law_told mg) [] (sCons (sCall (S_worth_text mg) [] (sCons (sVar 2) sNil)) sNil)) (sC (.int 60)))) (sTest (sOp oNe2 (sCall (S__law_told mg) [] (sCons (sCall (S_worth_text mg) [] (sCons (sCall (S_plus mg) [] (sCons (sVar 2) (sCons (sTup (sCons (sC (.int 1)) (sCons (sC (.int 7)) sNil))) sNil))) sNil)) sNil)) (sC (.int 60))))) (sRet (sC (.bl false))) sSkip) (sSeq (sForR1 (sC (.int 6)) (kName 3) (sSeq (sAsg (sCall (S__law_text mg) [] (sCons (sVar 0) sNil)) 5) (sSeq (sIfS (sTest (sOp oNe2 (sCall (S__law_told mg) [] (sCons (sVar 5) sNil)) (sCall (S__law_due mg) [] (sCons (sVar 5) sNil)))) (sRet (sC (.bl false))) sSkip) (sForR1 (sOp oAdd (sC (.int 1)) (sCall (S__law_roll mg) [] (sCons (sVar 0) (sCons (sC (.int 2)) sNil)))) (kName 6) (sSeq (sAsg (sCall (S__law_spoilt mg) [] (sCons (sVar 0) (sCons (sVar 5) sNil))) 5) (sIfS (sTest (sOp oNe2 (sCall (S__law_told mg) [] (sCons (sVar 5) sNil)) (sCall (S__law_due mg) [] (sCons (sVar 5) sNil)))) (sRet (sC (.bl false))) sSkip)))))) (sSeq (sAsg (sCall (S__law_one_of mg) [] (sCons (sVar 0) (sCons (sLst (sCons (sC .non) (sCons (sC (.int 5)) (sCons (sTup (sCons (sC (.str "1")) sNil)) (sCons (sLst (sCons (sC (.str "1")) sNil)) (sCons (sC (.bl true)) (sCons (sTup (sCons (sC (.int 1)) (sCons (sC (.int 2)) sNil))) sNil))))))) sNil))) 4) (sSeq (sIfS (sTest (sOp (oIs true) (sCall (S__law_told mg) [] (sCons (sVar 4) sNil)) (sC .non))) (sRet (sC (.bl false))) sSkip) (sSeq (sTry K (sDrop (sCall (S_worth_text mg) [] (sCons (sCall (S__law_one_of mg) [] (sCons (sVar 0) (sCons (sLst (sCons (sTup (sCons (sC (.int 2)) (sCons (sC (.int 4)) sNil))) (sCons (sC (.str "1/2")) (sCons (sC (.int 5)) (sCons (sTup (sCons (sC (.int 1)) (sCons (sC (.int 0)) sNil))) (sCons (sTup (sCons (sC (.bl true)) (sCons (sC (.int 1)) sNil))) (sCons (sTup sNil) sNil))))))) sNil))) sNil))) [(.ref (ad mg "InvalidWorth"), none, fun a cls d => (sRet (sC (.bl true))))]) (sRet (sC (.bl false)))))))))
def r5 (K : PySem.W.Frag) (mg : Str → Option Value) : SemS := (sSeq (sIfS (sOrT (sTest (sOp oNe2 (sCall (S__law_told mg) [] (sCons (sCall (S_worth_text mg) [] (sCons (sVar 2) sNil)) sNil)) (sC (.int 60)))) (sTest (sOp oNe2 (sCall (S__law_told mg) [] (sCons (sCall (S_worth_text mg) [] (sCons (sCall (S_plus mg) [] (sCons (sVar 2) (sCons (sTup (sCons (sC (.int 1)) (sCons (sC (.int 7)) sNil))) sNil))) sNil)) sNil)) (sC (.int 60))))) (sRet (sC (.bl false))) sSkip) (sSeq (sForR1 (sC (.int 6)) (kName 3) (sSeq (sAsg (sCall (S__law_text mg) [] (sCons (sVar 0) sNil)) 5) (sSeq (sIfS (sTest (sOp oNe2 (sCall (S__law_told mg) [] (sCons (sVar 5) sNil)) (sCall (S__law_due mg) [] (sCons (sVar 5) sNil)))) (sRet (sC (.bl false))) sSkip) (sForR1 (sOp oAdd (sC (.int 1)) (sCall (S__law_roll mg) [] (sCons (sVar 0) (sCons (sC (.int 2)) sNil)))) (kName 6) (sSeq (sAsg (sCall (S__law_spoilt mg) [] (sCons (sVar 0) (sCons (sVar 5) sNil))) 5) (sIfS (sTest (sOp oNe2 (sCall (S__law_told mg) [] (sCons (sVar 5) sNil)) (sCall (S__law_due mg) [] (sCons (sVar 5) sNil)))) (sRet (sC (.bl false))) sSkip)))))) (sSeq (sAsg (sCall (S__law_one_of mg) [] (sCons (sVar 0) (sCons (sLst (sCons (sC .non) (sCons (sC (.int 5)) (sCons (sTup (sCons (sC (.str "1")) sNil)) (sCons (sLst (sCons (sC (.str "1")) sNil)) (sCons (sC (.bl true)) (sCons (sTup (sCons (sC (.int 1)) (sCons (sC (.int 2)) sNil))) sNil))))))) sNil))) 4) (sSeq (sIfS (sTest (sOp (oIs true) (sCall (S__law_told mg) [] (sCons (sVar 4) sNil)) (sC .non))) (sRet (sC (.bl false))) sSkip) (sSeq (sTry K (sDrop (sCall (S_worth_text mg) [] (sCons (sCall (S__law_one_of mg) [] (sCons (sVar 0) (sCons (sLst (sCons (sTup (sCons (sC (.int 2)) (sCons (sC (.int 4)) sNil))) (sCons (sC (.str "1/2")) (sCons (sC (.int 5)) (sCons (sTup (sCons (sC (.int 1)) (sCons (sC (.int 0)) sNil))) (sCons (sTup (sCons (sC (.bl true)) (sCons (sC (.int 1)) sNil))) (sCons (sTup sNil) sNil))))))) sNil))) sNil))) [(.ref (ad mg "InvalidWorth"), none, fun a cls d => (sRet (sC (.bl true))))]) (sRet (sC (.bl false))))))))
def r6 (K : PySem.W.Frag) (mg : Str → Option Value) : SemS := (sSeq (sForR1 (sC (.int 6)) (kName 3) (sSeq (sAsg (sCall (S__law_text mg) [] (sCons (sVar 0) sNil)) 5) (sSeq (sIfS (sTest (sOp oNe2 (sCall (S__law_told mg) [] (sCons (sVar 5) sNil)) (sCall (S__law_due mg) [] (sCons (sVar 5) sNil)))) (sRet (sC (.bl false))) sSkip) (sForR1 (sOp oAdd (sC (.int 1)) (sCall (S__law_roll mg) [] (sCons (sVar 0) (sCons (sC (.int 2)) sNil)))) (kName 6) (sSeq (sAsg (sCall (S__law_spoilt mg) [] (sCons (sVar 0) (sCons (sVar 5) sNil))) 5) (sIfS (sTest (sOp oNe2 (sCall (S__law_told mg) [] (sCons (sVar 5) sNil)) (sCall (S__law_due mg) [] (sCons (sVar 5) sNil)))) (sRet (sC (.bl false))) sSkip)))))) (sSeq (sAsg (sCall (S__law_one_of mg) [] (sCons (sVar 0) (sCons (sLst (sCons (sC .non) (sCons (sC (.int 5)) (sCons (sTup (sCons (sC (.str "1")) sNil)) (sCons (sLst (sCons (sC (.str "1")) sNil)) (sCons (sC (.bl true)) (sCons (sTup (sCons (sC (.int 1)) (sCons (sC (.int 2)) sNil))) sNil))))))) sNil))) 4) (sSeq (sIfS (sTest (sOp (oIs true) (sCall (S__law_told mg) [] (sCons (sVar 4) sNil)) (sC .non))) (sRet (sC (.bl false))) sSkip) (sSeq (sTry K (sDrop (sCall (S_worth_text mg) [] (sCons (sCall (S__law_one_of mg) [] (sCons (sVar 0) (sCons (sLst (sCons (sTup (sCons (sC (.int 2)) (sCons (sC (.int 4)) sNil))) (sCons (sC (.str "1/2")) (sCons (sC (.int 5)) (sCons (sTup (sCons (sC (.int 1)) (sCons (sC (.int 0)) sNil))) (sCons (sTup (sCons (sC (.bl true)) (sCons (sC (.int 1)) sNil))) (sCons (sTup sNil) sNil))))))) sNil))) sNil))) [(.ref (ad mg "InvalidWorth"), none, fun a cls d => (sRet (sC (.bl true))))]) (sRet (sC (.bl false)))))))
def r6b (K : PySem.W.Frag) (mg : Str → Option Value) : SemS := (sSeq (sAsg (sCall (S__law_text mg) [] (sCons (sVar 0) sNil)) 5) (sSeq (sIfS (sTest (sOp oNe2 (sCall (S__law_told mg) [] (sCons (sVar 5) sNil)) (sCall (S__law_due mg) [] (sCons (sVar 5) sNil)))) (sRet (sC (.bl false))) sSkip) (sForR1 (sOp oAdd (sC (.int 1)) (sCall (S__law_roll mg) [] (sCons (sVar 0) (sCons (sC (.int 2)) sNil)))) (kName 6) (sSeq (sAsg (sCall (S__law_spoilt mg) [] (sCons (sVar 0) (sCons (sVar 5) sNil))) 5) (sIfS (sTest (sOp oNe2 (sCall (S__law_told mg) [] (sCons (sVar 5) sNil)) (sCall (S__law_due mg) [] (sCons (sVar 5) sNil)))) (sRet (sC (.bl false))) sSkip)))))
def r6c (K : PySem.W.Frag) (mg : Str → Option Value) : SemS := (sSeq (sAsg (sCall (S__law_spoilt mg) [] (sCons (sVar 0) (sCons (sVar 5) sNil))) 5) (sIfS (sTest (sOp oNe2 (sCall (S__law_told mg) [] (sCons (sVar 5) sNil)) (sCall (S__law_due mg) [] (sCons (sVar 5) sNil)))) (sRet (sC (.bl false))) sSkip))
def r7 (K : PySem.W.Frag) (mg : Str → Option Value) : SemS := (sSeq (sAsg (sCall (S__law_one_of mg) [] (sCons (sVar 0) (sCons (sLst (sCons (sC .non) (sCons (sC (.int 5)) (sCons (sTup (sCons (sC (.str "1")) sNil)) (sCons (sLst (sCons (sC (.str "1")) sNil)) (sCons (sC (.bl true)) (sCons (sTup (sCons (sC (.int 1)) (sCons (sC (.int 2)) sNil))) sNil))))))) sNil))) 4) (sSeq (sIfS (sTest (sOp (oIs true) (sCall (S__law_told mg) [] (sCons (sVar 4) sNil)) (sC .non))) (sRet (sC (.bl false))) sSkip) (sSeq (sTry K (sDrop (sCall (S_worth_text mg) [] (sCons (sCall (S__law_one_of mg) [] (sCons (sVar 0) (sCons (sLst (sCons (sTup (sCons (sC (.int 2)) (sCons (sC (.int 4)) sNil))) (sCons (sC (.str "1/2")) (sCons (sC (.int 5)) (sCons (sTup (sCons (sC (.int 1)) (sCons (sC (.int 0)) sNil))) (sCons (sTup (sCons (sC (.bl true)) (sCons (sC (.int 1)) sNil))) (sCons (sTup sNil) sNil))))))) sNil))) sNil))) [(.ref (ad mg "InvalidWorth"), none, fun a cls d => (sRet (sC (.bl true))))]) (sRet (sC (.bl false))))))
def r8 (K : PySem.W.Frag) (mg : Str → Option Value) : SemS := (sSeq (sIfS (sTest (sOp (oIs true) (sCall (S__law_told mg) [] (sCons (sVar 4) sNil)) (sC .non))) (sRet (sC (.bl false))) sSkip) (sSeq (sTry K (sDrop (sCall (S_worth_text mg) [] (sCons (sCall (S__law_one_of mg) [] (sCons (sVar 0) (sCons (sLst (sCons (sTup (sCons (sC (.int 2)) (sCons (sC (.int 4)) sNil))) (sCons (sC (.str "1/2")) (sCons (sC (.int 5)) (sCons (sTup (sCons (sC (.int 1)) (sCons (sC (.int 0)) sNil))) (sCons (sTup (sCons (sC (.bl true)) (sCons (sC (.int 1)) sNil))) (sCons (sTup sNil) sNil))))))) sNil))) sNil))) [(.ref (ad mg "InvalidWorth"), none, fun a cls d => (sRet (sC (.bl true))))]) (sRet (sC (.bl false)))))
def r9 (K : PySem.W.Frag) (mg : Str → Option Value) : SemS := (sSeq (sTry K (sDrop (sCall (S_worth_text mg) [] (sCons (sCall (S__law_one_of mg) [] (sCons (sVar 0) (sCons (sLst (sCons (sTup (sCons (sC (.int 2)) (sCons (sC (.int 4)) sNil))) (sCons (sC (.str "1/2")) (sCons (sC (.int 5)) (sCons (sTup (sCons (sC (.int 1)) (sCons (sC (.int 0)) sNil))) (sCons (sTup (sCons (sC (.bl true)) (sCons (sC (.int 1)) sNil))) (sCons (sTup sNil) sNil))))))) sNil))) sNil))) [(.ref (ad mg "InvalidWorth"), none, fun a cls d => (sRet (sC (.bl true))))]) (sRet (sC (.bl false))))
theorem r1_eq : t__law_right K mg = sSeq (sAsg (sCall (S__law_lowest mg) [] (sCons (sOp oMul (sCall (S__law_one_of mg) [] (sCons (sVar 0) (sCons (sLst (sCons (sNeg (sC (.int 1))) (sCons (sC (.int 1)) sNil))) sNil))) (sCall (S__law_integer mg) [] (sCons (sVar 0) sNil))) (sCons (sCall (S__law_one_of mg) [] (sCons (sVar 0) (sCons (sLst (sCons (sC (.int 1)) (sCons (sC (.int 1)) (sCons (sC (.int 2)) (sCons (sC (.int 30)) (sCons (sOp oAdd (sOp oPow (sC (.int 10)) (sC (.int 40))) (sC (.int 7))) sNil)))))) sNil))) sNil))) 1) (r2 K mg) := rfl
theorem r2_eq : r2 K mg = sSeq (sIfS (sOrT (sTest (sOp oNe2 (sCall (S_worth_text mg) [] (sCons (sVar 1) sNil)) (sCall (S__law_written mg) [] (sCons (sVar 1) sNil)))) (sTest (sOp oNe2 (sCall (S_worth_text mg) [] (sCons (sC .non) sNil)) (sC (.str "nothing"))))) (sRet (sC (.bl false))) sSkip) (r3 K mg) := rfl
theorem r3_eq : r3 K mg = sSeq (sIfS (sTest (sOp oNe2 (sCall (S_read_worth mg) [] (sCons (sCall (S_worth_text mg) [] (sCons (sVar 1) sNil)) sNil)) (sVar 1))) (sRet (sC (.bl false))) sSkip) (r4 K mg) := rfl
theorem r4_eq : r4 K mg = sSeq (sAsg (sTup (sCons (sOp oAdd (sOp oPow (sC (.int 10)) (sC (.int 60))) (sCall (S__law_roll mg) [] (sCons (sVar 0) (sCons (sC (.int 9)) sNil)))) (sCons (sC (.int 1)) sNil))) 2) (r5 K mg) := rfl
theorem r5_eq : r5 K mg = sSeq (sIfS (sOrT (sTest (sOp oNe2 (sCall (S__law_told mg) [] (sCons (sCall (S_worth_text mg) [] (sCons (sVar 2) sNil)) sNil)) (sC (.int 60)))) (sTest (sOp oNe2 (sCall (S__law_told mg) [] (sCons (sCall (S_worth_text mg) [] (sCons (sCall (S_plus mg) [] (sCons (sVar 2) (sCons (sTup (sCons (sC (.int 1)) (sCons (sC (.int 7)) sNil))) sNil))) sNil)) sNil)) (sC (.int 60))))) (sRet (sC (.bl false))) sSkip) (r6 K mg) := rfl
theorem r6_eq : r6 K mg = sSeq (sForR1 (sC (.int 6)) (kName 3) (r6b K mg)) (r7 K mg) := rfl
theorem r6b_go {D : EndP} {ρ : Sm.Env} {st : Store} (h : (sSeq (sAsg (sCall (S__law_text mg) [] (sCons (sVar 0) sNil)) 5) (sSeq (sIfS (sTest (sOp oNe2 (sCall (S__law_told mg) [] (sCons (sVar 5) sNil)) (sCall (S__law_due mg) [] (sCons (sVar 5) sNil)))) (sRet (sC (.bl false))) sSkip) (sForR1 (sOp oAdd (sC (.int 1)) (sCall (S__law_roll mg) [] (sCons (sVar 0) (sCons (sC (.int 2)) sNil)))) (kName 6) (r6c K mg)))) D ρ st) : r6b K mg D ρ st := h
theorem r7_eq : r7 K mg = sSeq (sAsg (sCall (S__law_one_of mg) [] (sCons (sVar 0) (sCons (sLst (sCons (sC .non) (sCons (sC (.int 5)) (sCons (sTup (sCons (sC (.str "1")) sNil)) (sCons (sLst (sCons (sC (.str "1")) sNil)) (sCons (sC (.bl true)) (sCons (sTup (sCons (sC (.int 1)) (sCons (sC (.int 2)) sNil))) sNil))))))) sNil))) 4) (r8 K mg) := rfl
theorem r8_eq : r8 K mg = sSeq (sIfS (sTest (sOp (oIs true) (sCall (S__law_told mg) [] (sCons (sVar 4) sNil)) (sC .non))) (sRet (sC (.bl false))) sSkip) (r9 K mg) := rfl
variable {Q : Sm.PK} {PX : Sm.XP} {n : Nat} {e1 e2 e3 e4 e5 e6 : Option PV}
theorem ext_aft {n : Nat} {a b : Store} (h : Ext a b) : Aft n a b := by
  obtain ⟨e, rfl⟩ := h
  exact ⟨by simp, fun j _ hj => List.getElem?_append_left hj⟩
theorem ext_dice {n k : Nat} {a b : Store} (h : Ext a b) (d : DiceAt n k a) : DiceAt n k b := by
  obtain ⟨e, rfl⟩ := h
  obtain ⟨x, y, z, h1, h2⟩ := d
  exact ⟨x, y, z, by rw [List.getElem?_append_left (get_lt h1)]; exact h1, h2⟩
theorem ok_r9 (E : ExmF K mg) (hq : ∀ st', Q (.bl true) st') {st : Store} (hd : DiceAt n 5 st) : r9 K mg (endOf Q PX) [some (.hd n), e1, e2, e3, e4, e5, e6] st := by
  have hex : ∀ (w : PV) (st' : Store), hnd K { endOf Q PX with nx := sRet (sC (.bl false)) (endOf Q PX) } [(.ref (ad mg "InvalidWorth"), none, fun a cls d => (sRet (sC (.bl true))))] (exW mg w) [some (.hd n), e1, e2, e3, e4, e5, e6] st' := fun w st' =>
    ⟨true, E.ww, fun _ a d => hq st', nofun⟩
  simp only [r9, sTry, sRet, sSeq, sAsg, sIfS, sSkip, sPar, sAsgG, sDrop, sRaise, sOp, sCB, sCons, sNil, sVar, sC, sTup, sLst, sNew, sNeg, sNot, sTest, sNotT, sAndT, sOrT, sAnd, sOr, sIf, sChain, sBits, sCall, ini, endOf, kName, kTup2, oAdd, oI, oI0, oIs, isNon_non, isNon_tup, isNon_int, oIx, oLen, oAbs, oInt, oGcd, oType, oEq_ii, oNe_ii, oEq_enc, oNe_enc, oEq_tt, oNe_tt, atI_0, atI_1, List.map_cons, List.map_nil, List.length_cons, List.length_nil, List.cons_append, List.nil_append, List.append_nil, List.replicate_succ, List.replicate_zero, List.getElem?_cons_zero, List.getElem?_cons_succ, List.set_cons_zero, List.set_cons_succ, Bool.false_eq_true, decide_true, decide_false, Bool.not_true, Bool.not_false, ↓reduceIte, Nat.reduceAdd, Nat.reduceSub, Nat.zero_add, Option.isSome, eq_x, ne_x, eq2_ii, ne2_ii, eq2_enc, ne2_enc, len_x, sSl, sPt, sPN, oSl, sFs, sJs, sFmt, sAug, l_minus, l_slash, l_zero, l_n, l_nothing, l_empty, l_digits, SX.S_len, true_and, atI_n]
  refine ⟨by decide, by decide, by decide, by decide, by decide, n, 4, _, rfl, hd, by simp, by simp, fun v hv s1 hd1 a1 => ?_⟩
  have hv' : (fineB v && !Sm.isNon v && !knownB v) = true := by
    simp only [List.mem_cons, List.not_mem_nil, or_false] at hv
    rcases hv with rfl | rfl | rfl | rfl | rfl | rfl <;> decide +kernel
  exact wt_bad hv' (hex v s1)
theorem ok_r8 (E : ExmF K mg) (hq : ∀ st', Q (.bl true) st') {st : Store} {v : PV} (hv : ((tyName v).isSome && !isStr v) = true) (hd : DiceAt n 5 st) : r8 K mg (endOf Q PX) [some (.hd n), e1, e2, e3, some v, e5, e6] st := by
  rw [r8_eq]
  simp only [sRet, sSeq, sAsg, sIfS, sSkip, sPar, sAsgG, sDrop, sRaise, sOp, sCB, sCons, sNil, sVar, sC, sTup, sLst, sNew, sNeg, sNot, sTest, sNotT, sAndT, sOrT, sAnd, sOr, sIf, sChain, sBits, sCall, ini, endOf, kName, kTup2, oAdd, oI, oI0, oIs, isNon_non, isNon_tup, isNon_int, oIx, oLen, oAbs, oInt, oGcd, oType, oEq_ii, oNe_ii, oEq_enc, oNe_enc, oEq_tt, oNe_tt, atI_0, atI_1, List.map_cons, List.map_nil, List.length_cons, List.length_nil, List.cons_append, List.nil_append, List.append_nil, List.replicate_succ, List.replicate_zero, List.getElem?_cons_zero, List.getElem?_cons_succ, List.set_cons_zero, List.set_cons_succ, Bool.false_eq_true, decide_true, decide_false, Bool.not_true, Bool.not_false, ↓reduceIte, Nat.reduceAdd, Nat.reduceSub, Nat.zero_add, Option.isSome, eq_x, ne_x, eq2_ii, ne2_ii, eq2_enc, ne2_enc, len_x, sSl, sPt, sPN, oSl, sFs, sJs, sFmt, sAug, l_minus, l_slash, l_zero, l_n, l_nothing, l_empty, l_digits, SX.S_len, true_and, atI_n]
  simp only [Bool.and_eq_true, Bool.not_eq_true'] at hv
  refine ⟨v, rfl, hv.1, fun _ => ?_, fun s e => ?_⟩
  · exact ok_r9 E hq hd
  · subst e
    exact absurd hv.2 (by simp [isStr])
theorem ok_r7 (E : ExmF K mg) (hq : ∀ st', Q (.bl true) st') {st : Store} (hd : DiceAt n 10 st) : r7 K mg (endOf Q PX) [some (.hd n), e1, e2, e3, e4, e5, e6] st := by
  rw [r7_eq]
  simp only [sRet, sSeq, sAsg, sIfS, sSkip, sPar, sAsgG, sDrop, sRaise, sOp, sCB, sCons, sNil, sVar, sC, sTup, sLst, sNew, sNeg, sNot, sTest, sNotT, sAndT, sOrT, sAnd, sOr, sIf, sChain, sBits, sCall, ini, endOf, kName, kTup2, oAdd, oI, oI0, oIs, isNon_non, isNon_tup, isNon_int, oIx, oLen, oAbs, oInt, oGcd, oType, oEq_ii, oNe_ii, oEq_enc, oNe_enc, oEq_tt, oNe_tt, atI_0, atI_1, List.map_cons, List.map_nil, List.length_cons, List.length_nil, List.cons_append, List.nil_append, List.append_nil, List.replicate_succ, List.replicate_zero, List.getElem?_cons_zero, List.getElem?_cons_succ, List.set_cons_zero, List.set_cons_succ, Bool.false_eq_true, decide_true, decide_false, Bool.not_true, Bool.not_false, ↓reduceIte, Nat.reduceAdd, Nat.reduceSub, Nat.zero_add, Option.isSome, eq_x, ne_x, eq2_ii, ne2_ii, eq2_enc, ne2_enc, len_x, sSl, sPt, sPN, oSl, sFs, sJs, sFmt, sAug, l_minus, l_slash, l_zero, l_n, l_nothing, l_empty, l_digits, SX.S_len, true_and, atI_n]
  refine ⟨by decide, by decide, by decide, by decide, n, 9, _, rfl, hd, by simp, by simp, fun v hv s1 hd1 a1 => ?_⟩
  have hv' : ((tyName v).isSome && !isStr v) = true := by
    simp only [List.mem_cons, List.not_mem_nil, or_false] at hv
    rcases hv with rfl | rfl | rfl | rfl | rfl | rfl <;> rfl
  exact ok_r8 E hq hv' (hd1.mono (by omega))
theorem spoil_loop (k : Nat) (D : EndP) : ∀ (c : Nat) (lo : Int) (e6 : Option PV) (l : List Nat) (st : Store), l.length + c ≤ 390 → okc l → DiceAt n (k + 4 * c) st → (∀ (e5 e6 : Option PV) (st' : Store), DiceAt n k st' → D.nx [some (.hd n), e1, e2, e3, e4, e5, e6] st') →
    loopL (kName 6) (r6c K mg) D (upto lo c) [some (.hd n), e1, e2, e3, e4, some (tx l), e6] st
  | 0, lo, e6, l, st, hl, ho, hd, hn => hn _ _ st (hd.mono (by omega))
  | c + 1, lo, e6, l, st, hl, ho, hd, hn => by
    simp only [loopL, upto, r6c, sRet, sSeq, sAsg, sIfS, sSkip, sPar, sAsgG, sDrop, sRaise, sOp, sCB, sCons, sNil, sVar, sC, sTup, sLst, sNew, sNeg, sNot, sTest, sNotT, sAndT, sOrT, sAnd, sOr, sIf, sChain, sBits, sCall, ini, endOf, kName, kTup2, oAdd, oI, oI0, oIs, isNon_non, isNon_tup, isNon_int, oIx, oLen, oAbs, oInt, oGcd, oType, oEq_ii, oNe_ii, oEq_enc, oNe_enc, oEq_tt, oNe_tt, atI_0, atI_1, List.map_cons, List.map_nil, List.length_cons, List.length_nil, List.cons_append, List.nil_append, List.append_nil, List.replicate_succ, List.replicate_zero, List.getElem?_cons_zero, List.getElem?_cons_succ, List.set_cons_zero, List.set_cons_succ, Bool.false_eq_true, decide_true, decide_false, Bool.not_true, Bool.not_false, ↓reduceIte, Nat.reduceAdd, Nat.reduceSub, Nat.zero_add, Option.isSome, eq_x, ne_x, eq2_ii, ne2_ii, eq2_enc, ne2_enc, len_x, sSl, sPt, sPN, oSl, sFs, sJs, sFmt, sAug, l_minus, l_slash, l_zero, l_n, l_nothing, l_empty, l_digits, SX.S_len, true_and, atI_n]
    refine ⟨n, k + 4 * c + 1, l, rfl, by omega, ho, hd.mono (by omega), fun l' s1 h1 h2 hd1 a1 => ?_⟩
    simp only [sRet, sSeq, sAsg, sIfS, sSkip, sPar, sAsgG, sDrop, sRaise, sOp, sCB, sCons, sNil, sVar, sC, sTup, sLst, sNew, sNeg, sNot, sTest, sNotT, sAndT, sOrT, sAnd, sOr, sIf, sChain, sBits, sCall, ini, endOf, kName, kTup2, oAdd, oI, oI0, oIs, isNon_non, isNon_tup, isNon_int, oIx, oLen, oAbs, oInt, oGcd, oType, oEq_ii, oNe_ii, oEq_enc, oNe_enc, oEq_tt, oNe_tt, atI_0, atI_1, List.map_cons, List.map_nil, List.length_cons, List.length_nil, List.cons_append, List.nil_append, List.append_nil, List.replicate_succ, List.replicate_zero, List.getElem?_cons_zero, List.getElem?_cons_succ, List.set_cons_zero, List.set_cons_succ, Bool.false_eq_true, decide_true, decide_false, Bool.not_true, Bool.not_false, ↓reduceIte, Nat.reduceAdd, Nat.reduceSub, Nat.zero_add, Option.isSome, eq_x, ne_x, eq2_ii, ne2_ii, eq2_enc, ne2_enc, len_x, sSl, sPt, sPN, oSl, sFs, sJs, sFmt, sAug, l_minus, l_slash, l_zero, l_n, l_nothing, l_empty, l_digits, SX.S_len, true_and, atI_n]
    refine told_ok (by omega) ?_
    refine ⟨l', rfl, by omega, h2, fun s2 x2 => ?_⟩
    refine ne_res _ _ _ ?_
    simp only [sRet, sSeq, sAsg, sIfS, sSkip, sPar, sAsgG, sDrop, sRaise, sOp, sCB, sCons, sNil, sVar, sC, sTup, sLst, sNew, sNeg, sNot, sTest, sNotT, sAndT, sOrT, sAnd, sOr, sIf, sChain, sBits, sCall, ini, endOf, kName, kTup2, oAdd, oI, oI0, oIs, isNon_non, isNon_tup, isNon_int, oIx, oLen, oAbs, oInt, oGcd, oType, oEq_ii, oNe_ii, oEq_enc, oNe_enc, oEq_tt, oNe_tt, atI_0, atI_1, List.map_cons, List.map_nil, List.length_cons, List.length_nil, List.cons_append, List.nil_append, List.append_nil, List.replicate_succ, List.replicate_zero, List.getElem?_cons_zero, List.getElem?_cons_succ, List.set_cons_zero, List.set_cons_succ, Bool.false_eq_true, decide_true, decide_false, Bool.not_true, Bool.not_false, ↓reduceIte, Nat.reduceAdd, Nat.reduceSub, Nat.zero_add, Option.isSome, eq_x, ne_x, eq2_ii, ne2_ii, eq2_enc, ne2_enc, len_x, sSl, sPt, sPN, oSl, sFs, sJs, sFmt, sAug, l_minus, l_slash, l_zero, l_n, l_nothing, l_empty, l_digits, SX.S_len, true_and, atI_n]
    exact spoil_loop k D c (lo + 1) _ l' s2 (by omega) h2 (ext_dice x2 (hd1.mono (by omega))) hn
theorem text_loop (k : Nat) (D : EndP) : ∀ (c : Nat) (lo : Int) (e3 e5 e6 : Option PV) (st : Store), DiceAt n (k + 60 * c) st → (∀ (e3 e5 e6 : Option PV) (st' : Store), DiceAt n k st' → D.nx [some (.hd n), e1, e2, e3, e4, e5, e6] st') →
    loopL (kName 3) (r6b K mg) D (upto lo c) [some (.hd n), e1, e2, e3, e4, e5, e6] st
  | 0, lo, e3, e5, e6, st, hd, hn => hn _ _ _ st (hd.mono (by omega))
  | c + 1, lo, e3, e5, e6, st, hd, hn => by
    simp only [loopL, upto, kName]
    refine r6b_go ?_
    simp only [sForR1, sRet, sSeq, sAsg, sIfS, sSkip, sPar, sAsgG, sDrop, sRaise, sOp, sCB, sCons, sNil, sVar, sC, sTup, sLst, sNew, sNeg, sNot, sTest, sNotT, sAndT, sOrT, sAnd, sOr, sIf, sChain, sBits, sCall, ini, endOf, kName, kTup2, oAdd, oI, oI0, oIs, isNon_non, isNon_tup, isNon_int, oIx, oLen, oAbs, oInt, oGcd, oType, oEq_ii, oNe_ii, oEq_enc, oNe_enc, oEq_tt, oNe_tt, atI_0, atI_1, List.map_cons, List.map_nil, List.length_cons, List.length_nil, List.cons_append, List.nil_append, List.append_nil, List.replicate_succ, List.replicate_zero, List.getElem?_cons_zero, List.getElem?_cons_succ, List.set_cons_zero, List.set_cons_succ, Bool.false_eq_true, decide_true, decide_false, Bool.not_true, Bool.not_false, ↓reduceIte, Nat.reduceAdd, Nat.reduceSub, Nat.zero_add, Option.isSome, eq_x, ne_x, eq2_ii, ne2_ii, eq2_enc, ne2_enc, len_x, sSl, sPt, sPN, oSl, sFs, sJs, sFmt, sAug, l_minus, l_slash, l_zero, l_n, l_nothing, l_empty, l_digits, SX.S_len, true_and, atI_n]
    refine ⟨n, k + 60 * c + 40, rfl, hd.mono (by omega), fun l' s1 h1 h2 hd1 a1 => ?_⟩
    simp only [sRet, sSeq, sAsg, sIfS, sSkip, sPar, sAsgG, sDrop, sRaise, sOp, sCB, sCons, sNil, sVar, sC, sTup, sLst, sNew, sNeg, sNot, sTest, sNotT, sAndT, sOrT, sAnd, sOr, sIf, sChain, sBits, sCall, ini, endOf, kName, kTup2, oAdd, oI, oI0, oIs, isNon_non, isNon_tup, isNon_int, oIx, oLen, oAbs, oInt, oGcd, oType, oEq_ii, oNe_ii, oEq_enc, oNe_enc, oEq_tt, oNe_tt, atI_0, atI_1, List.map_cons, List.map_nil, List.length_cons, List.length_nil, List.cons_append, List.nil_append, List.append_nil, List.replicate_succ, List.replicate_zero, List.getElem?_cons_zero, List.getElem?_cons_succ, List.set_cons_zero, List.set_cons_succ, Bool.false_eq_true, decide_true, decide_false, Bool.not_true, Bool.not_false, ↓reduceIte, Nat.reduceAdd, Nat.reduceSub, Nat.zero_add, Option.isSome, eq_x, ne_x, eq2_ii, ne2_ii, eq2_enc, ne2_enc, len_x, sSl, sPt, sPN, oSl, sFs, sJs, sFmt, sAug, l_minus, l_slash, l_zero, l_n, l_nothing, l_empty, l_digits, SX.S_len, true_and, atI_n]
    refine told_ok (by omega) ?_
    refine ⟨l', rfl, by omega, h2, fun s2 x2 => ?_⟩
    refine ne_res _ _ _ ?_
    simp only [sRet, sSeq, sAsg, sIfS, sSkip, sPar, sAsgG, sDrop, sRaise, sOp, sCB, sCons, sNil, sVar, sC, sTup, sLst, sNew, sNeg, sNot, sTest, sNotT, sAndT, sOrT, sAnd, sOr, sIf, sChain, sBits, sCall, ini, endOf, kName, kTup2, oAdd, oI, oI0, oIs, isNon_non, isNon_tup, isNon_int, oIx, oLen, oAbs, oInt, oGcd, oType, oEq_ii, oNe_ii, oEq_enc, oNe_enc, oEq_tt, oNe_tt, atI_0, atI_1, List.map_cons, List.map_nil, List.length_cons, List.length_nil, List.cons_append, List.nil_append, List.append_nil, List.replicate_succ, List.replicate_zero, List.getElem?_cons_zero, List.getElem?_cons_succ, List.set_cons_zero, List.set_cons_succ, Bool.false_eq_true, decide_true, decide_false, Bool.not_true, Bool.not_false, ↓reduceIte, Nat.reduceAdd, Nat.reduceSub, Nat.zero_add, Option.isSome, eq_x, ne_x, eq2_ii, ne2_ii, eq2_enc, ne2_enc, len_x, sSl, sPt, sPN, oSl, sFs, sJs, sFmt, sAug, l_minus, l_slash, l_zero, l_n, l_nothing, l_empty, l_digits, SX.S_len, true_and, atI_n]
    have hd2 := ext_dice x2 hd1
    refine ⟨n, k + 60 * c + 39, 2, rfl, hd2.mono (by omega), by decide, b_of (by decide), fun r s3 r0 r9 hd3 a3 => ?_⟩
    refine ⟨by omega, by omega, ?_⟩
    refine spoil_loop (k + 60 * c) _ (1 + r).toNat 0 _ l' s3 (by omega) h2 (hd3.mono (by omega)) fun f5 f6 st' hd' => ?_
    exact text_loop k D c (lo + 1) _ _ _ st' hd' hn
theorem ok_r6 (E : ExmF K mg) (hq : ∀ st', Q (.bl true) st') {st : Store} (hd : DiceAt n 400 st) : r6 K mg (endOf Q PX) [some (.hd n), e1, e2, e3, e4, e5, e6] st := by
  rw [r6_eq]
  simp only [sForR1, sRet, sSeq, sAsg, sIfS, sSkip, sPar, sAsgG, sDrop, sRaise, sOp, sCB, sCons, sNil, sVar, sC, sTup, sLst, sNew, sNeg, sNot, sTest, sNotT, sAndT, sOrT, sAnd, sOr, sIf, sChain, sBits, sCall, ini, endOf, kName, kTup2, oAdd, oI, oI0, oIs, isNon_non, isNon_tup, isNon_int, oIx, oLen, oAbs, oInt, oGcd, oType, oEq_ii, oNe_ii, oEq_enc, oNe_enc, oEq_tt, oNe_tt, atI_0, atI_1, List.map_cons, List.map_nil, List.length_cons, List.length_nil, List.cons_append, List.nil_append, List.append_nil, List.replicate_succ, List.replicate_zero, List.getElem?_cons_zero, List.getElem?_cons_succ, List.set_cons_zero, List.set_cons_succ, Bool.false_eq_true, decide_true, decide_false, Bool.not_true, Bool.not_false, ↓reduceIte, Nat.reduceAdd, Nat.reduceSub, Nat.zero_add, Option.isSome, eq_x, ne_x, eq2_ii, ne2_ii, eq2_enc, ne2_enc, len_x, sSl, sPt, sPN, oSl, sFs, sJs, sFmt, sAug, l_minus, l_slash, l_zero, l_n, l_nothing, l_empty, l_digits, SX.S_len, true_and, atI_n]
  refine ⟨by decide, by decide, ?_⟩
  exact text_loop (K := K) (mg := mg) 10 _ 6 0 _ _ _ st (hd.mono (by omega)) fun f3 f5 f6 st' hd' => ok_r7 E hq hd'
theorem ok_r5 (E : ExmF K mg) (hq : ∀ st', Q (.bl true) st') {st : Store} {g : Nat} (hg : 10 ^ 60 ≤ g) (hg2 : g < 10 ^ 61) (hd : DiceAt n 400 st) : r5 K mg (endOf Q PX) [some (.hd n), e1, some (enc (some ((g : Int), 1))), e3, e4, e5, e6] st := by
  have p61 : (10 : Nat) ^ 61 < 2 ^ 300 := by decide +kernel
  have bg : B 1000 (g : Int) := by
    have : B 300 (g : Int) := by
      show ((g : Nat) : Int).natAbs < 2 ^ 300
      rw [Int.natAbs_natCast]
      omega
    exact this.mono (by decide)
  have b1 : B 1000 1 := b_of (by decide +kernel)
  have fg : Wm.Fr ((g : Int), 1) := ⟨(by decide : (0 : Int) < 1), by simp⟩
  have f7 : Wm.Fr ((1 : Int), 7) := ⟨(by decide : (0 : Int) < 7), by decide⟩
  have b7 : B 1000 7 := b_of (by decide +kernel)
  have fs : Wm.Fr ((g : Int) * 7 + 1, 7) := ⟨(by decide : (0 : Int) < 7), by
    show Int.gcd ((g : Int) * 7 + 1) 7 = 1
    rw [Int.gcd_comm]
    have : Int.gcd 7 ((g : Int) * 7 + 1) = Int.gcd 7 1 := by
      rw [show (g : Int) * 7 + 1 = 1 + 7 * g by omega]
      exact Int.gcd_add_mul_left_right 7 1 g
    rw [this]
    decide⟩
  have bs : B 1000 ((g : Int) * 7 + 1) := by
    have p62 : (10 : Nat) ^ 61 * 8 < 2 ^ 300 := by decide +kernel
    have : B 300 ((g : Int) * 7 + 1) := by
      unfold B
      omega
    exact this.mono (by decide)
  have hsum : addW (some ((g : Int), 1)) (some (1, 7)) = some ((g : Int) * 7 + 1, 7) := by
    have e : addW (some ((g : Int), 1)) (some (1, 7)) = some (low ((g : Int) * 7 + 1 * 1) (1 * 7)) := rfl
    rw [e]
    congr 1
    exact low_self (by decide) fs.cop
  have l1 : Kt.res (wt (g : Int) 1) = .inl 60 := by
    unfold wt
    rw [if_pos rfl, num_nat]
    have := res_long hg []
    rwa [List.append_nil] at this
  have l2 : Kt.res (wt ((g : Int) * 7 + 1) 7) = .inl 60 := by
    unfold wt
    rw [if_neg (by decide), show (g : Int) * 7 + 1 = ((g * 7 + 1 : Nat) : Int) by omega, num_nat]
    exact res_long (by omega) _
  have n1 : (wt (g : Int) 1).length ≤ 1000 := by
    have := num_len' (bg.mono (by decide : 1000 ≤ 1900))
    unfold wt
    rw [if_pos rfl]
    omega
  have n2 : (wt ((g : Int) * 7 + 1) 7).length ≤ 1000 := by
    have := num_len' (bs.mono (by decide : 1000 ≤ 1900))
    have h7 : num 7 = [55] := by decide +kernel
    unfold wt
    rw [if_neg (by decide), h7]
    simp
    omega
  rw [r5_eq]
  simp only [sRet, sSeq, sAsg, sIfS, sSkip, sPar, sAsgG, sDrop, sRaise, sOp, sCB, sCons, sNil, sVar, sC, sTup, sLst, sNew, sNeg, sNot, sTest, sNotT, sAndT, sOrT, sAnd, sOr, sIf, sChain, sBits, sCall, ini, endOf, kName, kTup2, oAdd, oI, oI0, oIs, isNon_non, isNon_tup, isNon_int, oIx, oLen, oAbs, oInt, oGcd, oType, oEq_ii, oNe_ii, oEq_enc, oNe_enc, oEq_tt, oNe_tt, atI_0, atI_1, List.map_cons, List.map_nil, List.length_cons, List.length_nil, List.cons_append, List.nil_append, List.append_nil, List.replicate_succ, List.replicate_zero, List.getElem?_cons_zero, List.getElem?_cons_succ, List.set_cons_zero, List.set_cons_succ, Bool.false_eq_true, decide_true, decide_false, Bool.not_true, Bool.not_false, ↓reduceIte, Nat.reduceAdd, Nat.reduceSub, Nat.zero_add, Option.isSome, eq_x, ne_x, eq2_ii, ne2_ii, eq2_enc, ne2_enc, len_x, sSl, sPt, sPN, oSl, sFs, sJs, sFmt, sAug, l_minus, l_slash, l_zero, l_n, l_nothing, l_empty, l_digits, SX.S_len, true_and, atI_n]
  refine wt_ok fg bg b1 ?_
  refine told_ok n1 ?_
  rw [l1]
  show oNe2 (.int 60) (.int 60) st _
  simp only [sRet, sSeq, sAsg, sIfS, sSkip, sPar, sAsgG, sDrop, sRaise, sOp, sCB, sCons, sNil, sVar, sC, sTup, sLst, sNew, sNeg, sNot, sTest, sNotT, sAndT, sOrT, sAnd, sOr, sIf, sChain, sBits, sCall, ini, endOf, kName, kTup2, oAdd, oI, oI0, oIs, isNon_non, isNon_tup, isNon_int, oIx, oLen, oAbs, oInt, oGcd, oType, oEq_ii, oNe_ii, oEq_enc, oNe_enc, oEq_tt, oNe_tt, atI_0, atI_1, List.map_cons, List.map_nil, List.length_cons, List.length_nil, List.cons_append, List.nil_append, List.append_nil, List.replicate_succ, List.replicate_zero, List.getElem?_cons_zero, List.getElem?_cons_succ, List.set_cons_zero, List.set_cons_succ, Bool.false_eq_true, decide_true, decide_false, Bool.not_true, Bool.not_false, ↓reduceIte, Nat.reduceAdd, Nat.reduceSub, Nat.zero_add, Option.isSome, eq_x, ne_x, eq2_ii, ne2_ii, eq2_enc, ne2_enc, len_x, sSl, sPt, sPN, oSl, sFs, sJs, sFmt, sAug, l_minus, l_slash, l_zero, l_n, l_nothing, l_empty, l_digits, SX.S_len, true_and, atI_n]
  refine ⟨by decide, ?_⟩
  have hk1 : opB (enc (some ((g : Int), 1))) = true := by
    unfold opB
    rw [known_some fg bg b1, Bool.or_true]
  have hk2 : opB (enc (some ((1 : Int), 7))) = true := by
    unfold opB
    rw [known_some f7 b1 b7, Bool.or_true]
  refine ⟨_, enc (some ((1 : Int), 7)), rfl, fine_some bg b1, fine_some b1 b7, fun h => ?_, fun _ h => ?_, fun _ _ => ⟨some ((g : Int), 1), some (1, 7), 1000, 1000, rfl, rfl, fg, f7, ⟨bg, b1⟩, ⟨b1, b7⟩, (show 1000 + 1000 + 1 ≤ 13500 by decide), ?_⟩⟩
  · rw [hk1] at h; cases h
  · rw [hk2] at h; cases h
  · rw [hsum]
    refine wt_ok fs bs b7 ?_
    refine told_ok n2 ?_
    rw [l2]
    show oNe2 (.int 60) (.int 60) st _
    simp only [sRet, sSeq, sAsg, sIfS, sSkip, sPar, sAsgG, sDrop, sRaise, sOp, sCB, sCons, sNil, sVar, sC, sTup, sLst, sNew, sNeg, sNot, sTest, sNotT, sAndT, sOrT, sAnd, sOr, sIf, sChain, sBits, sCall, ini, endOf, kName, kTup2, oAdd, oI, oI0, oIs, isNon_non, isNon_tup, isNon_int, oIx, oLen, oAbs, oInt, oGcd, oType, oEq_ii, oNe_ii, oEq_enc, oNe_enc, oEq_tt, oNe_tt, atI_0, atI_1, List.map_cons, List.map_nil, List.length_cons, List.length_nil, List.cons_append, List.nil_append, List.append_nil, List.replicate_succ, List.replicate_zero, List.getElem?_cons_zero, List.getElem?_cons_succ, List.set_cons_zero, List.set_cons_succ, Bool.false_eq_true, decide_true, decide_false, Bool.not_true, Bool.not_false, ↓reduceIte, Nat.reduceAdd, Nat.reduceSub, Nat.zero_add, Option.isSome, eq_x, ne_x, eq2_ii, ne2_ii, eq2_enc, ne2_enc, len_x, sSl, sPt, sPN, oSl, sFs, sJs, sFmt, sAug, l_minus, l_slash, l_zero, l_n, l_nothing, l_empty, l_digits, SX.S_len, true_and, atI_n]
    exact ok_r6 E hq hd
theorem ok_r4 (E : ExmF K mg) (hq : ∀ st', Q (.bl true) st') {st : Store} (hd : DiceAt n 401 st) : r4 K mg (endOf Q PX) [some (.hd n), e1, e2, e3, e4, e5, e6] st := by
  rw [r4_eq]
  simp only [sRet, sSeq, sAsg, sIfS, sSkip, sPar, sAsgG, sDrop, sRaise, sOp, sCB, sCons, sNil, sVar, sC, sTup, sLst, sNew, sNeg, sNot, sTest, sNotT, sAndT, sOrT, sAnd, sOr, sIf, sChain, sBits, sCall, ini, endOf, kName, kTup2, oAdd, oI, oI0, oIs, isNon_non, isNon_tup, isNon_int, oIx, oLen, oAbs, oInt, oGcd, oType, oEq_ii, oNe_ii, oEq_enc, oNe_enc, oEq_tt, oNe_tt, atI_0, atI_1, List.map_cons, List.map_nil, List.length_cons, List.length_nil, List.cons_append, List.nil_append, List.append_nil, List.replicate_succ, List.replicate_zero, List.getElem?_cons_zero, List.getElem?_cons_succ, List.set_cons_zero, List.set_cons_succ, Bool.false_eq_true, decide_true, decide_false, Bool.not_true, Bool.not_false, ↓reduceIte, Nat.reduceAdd, Nat.reduceSub, Nat.zero_add, Option.isSome, eq_x, ne_x, eq2_ii, ne2_ii, eq2_enc, ne2_enc, len_x, sSl, sPt, sPN, oSl, sFs, sJs, sFmt, sAug, l_minus, l_slash, l_zero, l_n, l_nothing, l_empty, l_digits, SX.S_len, true_and, atI_n]
  refine ⟨cp10 60 (by decide) (by decide), n, 400, 9, rfl, hd, by decide, b_of (by decide), fun r s1 r0 r9 hd1 a1 => ⟨by decide, ?_⟩⟩
  obtain ⟨i, rfl⟩ := Int.eq_ofNat_of_zero_le r0
  have e : (10 : Int) ^ Int.toNat 60 + ((i : Nat) : Int) = ((10 ^ 60 + i : Nat) : Int) := by
    rw [show (10 : Int) ^ Int.toNat 60 = ((10 ^ 60 : Nat) : Int) by decide +kernel]
    omega
  rw [e]
  have p61 : (10 : Nat) ^ 60 + 9 < 10 ^ 61 := by decide +kernel
  exact ok_r5 E hq (g := 10 ^ 60 + i) (by omega) (by omega) hd1
theorem ok_r2 (E : ExmF K mg) (hq : ∀ st', Q (.bl true) st') {st : Store} {p q : Int} (hf : Wm.Fr (p, q)) (hp : p.natAbs < 10 ^ 60) (hq2 : q.natAbs < 10 ^ 60) (hd : DiceAt n 401 st) : r2 K mg (endOf Q PX) [some (.hd n), some (enc (some (p, q))), e2, e3, e4, e5, e6] st := by
  have t60 := ten60
  have bp : B 1000 p := B.mono (m := 200) (by unfold B; omega) (by decide)
  have bq : B 1000 q := B.mono (m := 200) (by unfold B; omega) (by decide)
  have hl : (wt p q).length ≤ 1000 := by
    have h1 := num_len (k := 60) (by decide) hp
    have h2 := num_len (k := 60) (by decide) hq2
    unfold wt
    split
    · omega
    · simp; omega
  rw [r2_eq]
  simp only [sRet, sSeq, sAsg, sIfS, sSkip, sPar, sAsgG, sDrop, sRaise, sOp, sCB, sCons, sNil, sVar, sC, sTup, sLst, sNew, sNeg, sNot, sTest, sNotT, sAndT, sOrT, sAnd, sOr, sIf, sChain, sBits, sCall, ini, endOf, kName, kTup2, oAdd, oI, oI0, oIs, isNon_non, isNon_tup, isNon_int, oIx, oLen, oAbs, oInt, oGcd, oType, oEq_ii, oNe_ii, oEq_enc, oNe_enc, oEq_tt, oNe_tt, atI_0, atI_1, List.map_cons, List.map_nil, List.length_cons, List.length_nil, List.cons_append, List.nil_append, List.append_nil, List.replicate_succ, List.replicate_zero, List.getElem?_cons_zero, List.getElem?_cons_succ, List.set_cons_zero, List.set_cons_succ, Bool.false_eq_true, decide_true, decide_false, Bool.not_true, Bool.not_false, ↓reduceIte, Nat.reduceAdd, Nat.reduceSub, Nat.zero_add, Option.isSome, eq_x, ne_x, eq2_ii, ne2_ii, eq2_enc, ne2_enc, len_x, sSl, sPt, sPN, oSl, sFs, sJs, sFmt, sAug, l_minus, l_slash, l_zero, l_n, l_nothing, l_empty, l_digits, SX.S_len, true_and, atI_n]
  refine wt_ok hf bp bq ?_
  refine ⟨p, q, rfl, bp.mono (by decide), bq.mono (by decide), ?_⟩
  simp only [sRet, sSeq, sAsg, sIfS, sSkip, sPar, sAsgG, sDrop, sRaise, sOp, sCB, sCons, sNil, sVar, sC, sTup, sLst, sNew, sNeg, sNot, sTest, sNotT, sAndT, sOrT, sAnd, sOr, sIf, sChain, sBits, sCall, ini, endOf, kName, kTup2, oAdd, oI, oI0, oIs, isNon_non, isNon_tup, isNon_int, oIx, oLen, oAbs, oInt, oGcd, oType, oEq_ii, oNe_ii, oEq_enc, oNe_enc, oEq_tt, oNe_tt, atI_0, atI_1, List.map_cons, List.map_nil, List.length_cons, List.length_nil, List.cons_append, List.nil_append, List.append_nil, List.replicate_succ, List.replicate_zero, List.getElem?_cons_zero, List.getElem?_cons_succ, List.set_cons_zero, List.set_cons_succ, Bool.false_eq_true, decide_true, decide_false, Bool.not_true, Bool.not_false, ↓reduceIte, Nat.reduceAdd, Nat.reduceSub, Nat.zero_add, Option.isSome, eq_x, ne_x, eq2_ii, ne2_ii, eq2_enc, ne2_enc, len_x, sSl, sPt, sPN, oSl, sFs, sJs, sFmt, sAug, l_minus, l_slash, l_zero, l_n, l_nothing, l_empty, l_digits, SX.S_len, true_and, atI_n]
  refine wt_none ?_
  simp only [sRet, sSeq, sAsg, sIfS, sSkip, sPar, sAsgG, sDrop, sRaise, sOp, sCB, sCons, sNil, sVar, sC, sTup, sLst, sNew, sNeg, sNot, sTest, sNotT, sAndT, sOrT, sAnd, sOr, sIf, sChain, sBits, sCall, ini, endOf, kName, kTup2, oAdd, oI, oI0, oIs, isNon_non, isNon_tup, isNon_int, oIx, oLen, oAbs, oInt, oGcd, oType, oEq_ii, oNe_ii, oEq_enc, oNe_enc, oEq_tt, oNe_tt, atI_0, atI_1, List.map_cons, List.map_nil, List.length_cons, List.length_nil, List.cons_append, List.nil_append, List.append_nil, List.replicate_succ, List.replicate_zero, List.getElem?_cons_zero, List.getElem?_cons_succ, List.set_cons_zero, List.set_cons_succ, Bool.false_eq_true, decide_true, decide_false, Bool.not_true, Bool.not_false, ↓reduceIte, Nat.reduceAdd, Nat.reduceSub, Nat.zero_add, Option.isSome, eq_x, ne_x, eq2_ii, ne2_ii, eq2_enc, ne2_enc, len_x, sSl, sPt, sPN, oSl, sFs, sJs, sFmt, sAug, l_minus, l_slash, l_zero, l_n, l_nothing, l_empty, l_digits, SX.S_len, true_and, atI_n]
  rw [r3_eq]
  simp only [sRet, sSeq, sAsg, sIfS, sSkip, sPar, sAsgG, sDrop, sRaise, sOp, sCB, sCons, sNil, sVar, sC, sTup, sLst, sNew, sNeg, sNot, sTest, sNotT, sAndT, sOrT, sAnd, sOr, sIf, sChain, sBits, sCall, ini, endOf, kName, kTup2, oAdd, oI, oI0, oIs, isNon_non, isNon_tup, isNon_int, oIx, oLen, oAbs, oInt, oGcd, oType, oEq_ii, oNe_ii, oEq_enc, oNe_enc, oEq_tt, oNe_tt, atI_0, atI_1, List.map_cons, List.map_nil, List.length_cons, List.length_nil, List.cons_append, List.nil_append, List.append_nil, List.replicate_succ, List.replicate_zero, List.getElem?_cons_zero, List.getElem?_cons_succ, List.set_cons_zero, List.set_cons_succ, Bool.false_eq_true, decide_true, decide_false, Bool.not_true, Bool.not_false, ↓reduceIte, Nat.reduceAdd, Nat.reduceSub, Nat.zero_add, Option.isSome, eq_x, ne_x, eq2_ii, ne2_ii, eq2_enc, ne2_enc, len_x, sSl, sPt, sPN, oSl, sFs, sJs, sFmt, sAug, l_minus, l_slash, l_zero, l_n, l_nothing, l_empty, l_digits, SX.S_len, true_and, atI_n]
  refine wt_ok hf bp bq ?_
  refine ⟨_, rfl, rfl, nofun, fun s e => ⟨wt p q, rfl, hl, fun i hi => ?_, fun x hx => ?_⟩⟩
  · rw [res_wt hf hp hq2] at hi
    cases hi
  · rw [res_wt hf hp hq2] at hx
    cases hx
    simp only [sRet, sSeq, sAsg, sIfS, sSkip, sPar, sAsgG, sDrop, sRaise, sOp, sCB, sCons, sNil, sVar, sC, sTup, sLst, sNew, sNeg, sNot, sTest, sNotT, sAndT, sOrT, sAnd, sOr, sIf, sChain, sBits, sCall, ini, endOf, kName, kTup2, oAdd, oI, oI0, oIs, isNon_non, isNon_tup, isNon_int, oIx, oLen, oAbs, oInt, oGcd, oType, oEq_ii, oNe_ii, oEq_enc, oNe_enc, oEq_tt, oNe_tt, atI_0, atI_1, List.map_cons, List.map_nil, List.length_cons, List.length_nil, List.cons_append, List.nil_append, List.append_nil, List.replicate_succ, List.replicate_zero, List.getElem?_cons_zero, List.getElem?_cons_succ, List.set_cons_zero, List.set_cons_succ, Bool.false_eq_true, decide_true, decide_false, Bool.not_true, Bool.not_false, ↓reduceIte, Nat.reduceAdd, Nat.reduceSub, Nat.zero_add, Option.isSome, eq_x, ne_x, eq2_ii, ne2_ii, eq2_enc, ne2_enc, len_x, sSl, sPt, sPN, oSl, sFs, sJs, sFmt, sAug, l_minus, l_slash, l_zero, l_n, l_nothing, l_empty, l_digits, SX.S_len, true_and, atI_n]
    exact ok_r4 E hq hd
theorem p__law_right (E : ExmF K mg) : ∀ pvs st Q PX, S__law_right mg pvs st Q PX → t__law_right K mg (endOf Q PX) (ini N__law_right pvs) st := by
  rintro pvs st Q PX ⟨n, rfl, hd, hq⟩
  rw [r1_eq]
  simp only [sRet, sSeq, sAsg, sIfS, sSkip, sPar, sAsgG, sDrop, sRaise, sOp, sCB, sCons, sNil, sVar, sC, sTup, sLst, sNew, sNeg, sNot, sTest, sNotT, sAndT, sOrT, sAnd, sOr, sIf, sChain, sBits, sCall, ini, endOf, kName, kTup2, oAdd, oI, oI0, oIs, isNon_non, isNon_tup, isNon_int, oIx, oLen, oAbs, oInt, oGcd, oType, oEq_ii, oNe_ii, oEq_enc, oNe_enc, oEq_tt, oNe_tt, atI_0, atI_1, List.map_cons, List.map_nil, List.length_cons, List.length_nil, List.cons_append, List.nil_append, List.append_nil, List.replicate_succ, List.replicate_zero, List.getElem?_cons_zero, List.getElem?_cons_succ, List.set_cons_zero, List.set_cons_succ, Bool.false_eq_true, decide_true, decide_false, Bool.not_true, Bool.not_false, ↓reduceIte, Nat.reduceAdd, Nat.reduceSub, Nat.zero_add, Option.isSome, eq_x, ne_x, eq2_ii, ne2_ii, eq2_enc, ne2_enc, len_x, sSl, sPt, sPN, oSl, sFs, sJs, sFmt, sAug, l_minus, l_slash, l_zero, l_n, l_nothing, l_empty, l_digits, SX.S_len, true_and, atI_n]
  refine ⟨by decide, n, 1000, _, rfl, hd.mono (by decide), by simp, by simp, fun v hv s1 hd1 a1 => ?_⟩
  have hv' : ∃ j : Int, v = .int j ∧ j.natAbs = 1 := by
    simp only [List.mem_cons, List.not_mem_nil, or_false] at hv
    rcases hv with rfl | rfl <;> exact ⟨_, rfl, by decide⟩
  obtain ⟨j, rfl, hj⟩ := hv'
  refine ⟨n, 900, rfl, hd1.mono (by decide), fun r s2 r0 r60 hd2 a2 => ?_⟩
  have br := b_60 r0 (by omega)
  have bj : B 1 j := by unfold B; omega
  refine ⟨cmul bj br (by decide), cp10 40 (by decide) (by decide), by simp, n, 800, _, rfl, hd2.mono (by decide), by simp, by simp, fun w hw s3 hd3 a3 => ?_⟩
  have e40 : (10 : Int) ^ Int.toNat 40 = 10000000000000000000000000000000000000000 := by decide +kernel
  have hw' : ∃ b : Int, w = .int b ∧ 0 < b ∧ b < 10 ^ 41 := by
    simp only [List.mem_cons, List.not_mem_nil, or_false] at hw
    rcases hw with rfl | rfl | rfl | rfl | rfl
    · exact ⟨_, rfl, by decide, by decide⟩
    · exact ⟨_, rfl, by decide, by decide⟩
    · exact ⟨_, rfl, by decide, by decide⟩
    · exact ⟨_, rfl, by decide, by decide⟩
    · exact ⟨_, rfl, by rw [e40]; decide, by rw [e40]; decide⟩
  obtain ⟨b, rfl, hb, hb2⟩ := hw'
  have p60 : ((10 : Int) ^ 60) = ((10 ^ 60 : Nat) : Int) := by decide +kernel
  have p41 : ((10 : Int) ^ 41) = ((10 ^ 41 : Nat) : Int) := by decide +kernel
  have q41 : (10 : Nat) ^ 41 < 10 ^ 60 := by decide +kernel
  have bb : B 200 b := by
    have := ten60
    unfold B
    omega
  have ha : (j * r).natAbs < 10 ^ 60 := by
    rw [Int.natAbs_mul, hj, Nat.one_mul]
    omega
  have hb3 : b.natAbs < 10 ^ 60 := by omega
  refine ⟨j * r, b, rfl, hb, (bj.mul br).mono (by decide), bb.mono (by decide), ?_⟩
  have hle := low_le (j * r) (b := b) (by omega)
  exact ok_r2 E hq (p := (low (j * r) b).1) (q := (low (j * r) b).2) (fr_low _ (by omega)) (by omega) (by omega) (hd3.mono (by decide))
theorem p_law : ∀ pvs st Q PX, S_law mg pvs st Q PX → t_law K mg (endOf Q PX) (ini N_law pvs) st := by
  rintro pvs st Q PX ⟨l, rfl, hl, hlen, hq⟩
  simp only [t_law, sForR1, oMax, oMin, List.length_map, sRet, sSeq, sAsg, sIfS, sSkip, sPar, sAsgG, sDrop, sRaise, sOp, sCB, sCons, sNil, sVar, sC, sTup, sLst, sNew, sNeg, sNot, sTest, sNotT, sAndT, sOrT, sAnd, sOr, sIf, sChain, sBits, sCall, ini, endOf, kName, kTup2, oAdd, oI, oI0, oIs, isNon_non, isNon_tup, isNon_int, oIx, oLen, oAbs, oInt, oGcd, oType, oEq_ii, oNe_ii, oEq_enc, oNe_enc, oEq_tt, oNe_tt, atI_0, atI_1, List.map_cons, List.map_nil, List.length_cons, List.length_nil, List.cons_append, List.nil_append, List.append_nil, List.replicate_succ, List.replicate_zero, List.getElem?_cons_zero, List.getElem?_cons_succ, List.set_cons_zero, List.set_cons_succ, Bool.false_eq_true, decide_true, decide_false, Bool.not_true, Bool.not_false, ↓reduceIte, Nat.reduceAdd, Nat.reduceSub, Nat.zero_add, Option.isSome, eq_x, ne_x, eq2_ii, ne2_ii, eq2_enc, ne2_enc, len_x, sSl, sPt, sPN, oSl, sFs, sJs, sFmt, sAug, l_minus, l_slash, l_zero, l_n, l_nothing, l_empty, l_digits, SX.S_len, true_and, atI_n]
  have key : ∀ (c : Nat) (lo : Int) (e1 : Option PV) (st : Store), 0 ≤ lo → lo + c ≤ 10 → loopL (kName 1) (sIfS (sNotT (sTest (sCall (S__law_right mg) [] (sCons (sCall (S__law_dice mg) [] (sCons (sVar 0) (sCons (sVar 1) sNil))) sNil)))) (sRet (sC (.bl false))) sSkip) { endOf Q PX with nx := sRet (sC (.bl true)) (endOf Q PX) } (upto lo c) [some (.lst (l.map .int)), e1] st := by
    intro c
    induction c with
    | zero => exact fun lo e1 st _ _ => hq st
    | succ c ih =>
      intro lo e1 st h0 h1
      simp only [loopL, upto, sRet, sSeq, sAsg, sIfS, sSkip, sPar, sAsgG, sDrop, sRaise, sOp, sCB, sCons, sNil, sVar, sC, sTup, sLst, sNew, sNeg, sNot, sTest, sNotT, sAndT, sOrT, sAnd, sOr, sIf, sChain, sBits, sCall, ini, endOf, kName, kTup2, oAdd, oI, oI0, oIs, isNon_non, isNon_tup, isNon_int, oIx, oLen, oAbs, oInt, oGcd, oType, oEq_ii, oNe_ii, oEq_enc, oNe_enc, oEq_tt, oNe_tt, atI_0, atI_1, List.map_cons, List.map_nil, List.length_cons, List.length_nil, List.cons_append, List.nil_append, List.append_nil, List.replicate_succ, List.replicate_zero, List.getElem?_cons_zero, List.getElem?_cons_succ, List.set_cons_zero, List.set_cons_succ, Bool.false_eq_true, decide_true, decide_false, Bool.not_true, Bool.not_false, ↓reduceIte, Nat.reduceAdd, Nat.reduceSub, Nat.zero_add, Option.isSome, eq_x, ne_x, eq2_ii, ne2_ii, eq2_enc, ne2_enc, len_x, sSl, sPt, sPN, oSl, sFs, sJs, sFmt, sAug, l_minus, l_slash, l_zero, l_n, l_nothing, l_empty, l_digits, SX.S_len, true_and, atI_n]
      exact ⟨l, lo, rfl, h0, by omega, hl, fun st' hd => ⟨st.length, rfl, hd, fun st2 => ih (lo + 1) _ st2 (by omega) (by omega)⟩⟩
  generalize hm : (if (l.length : Int) < 4 then (l.length : Int) else 4) = m
  have hm2 : m ≤ 4 := by
    rw [← hm]
    split <;> omega
  generalize hM : (if m > 1 then m else 1) = M
  have hM2 : 1 ≤ M ∧ M ≤ 4 := by
    rw [← hM]
    split <;> omega
  exact ⟨by omega, by omega, key M.toNat 0 none st (by decide) (by omega)⟩
end
end K1
set_option Elab.async false
set_option linter.all false
set_option maxRecDepth 100000
set_option maxHeartbeats 1000000
namespace K1
open PySem PySem.Spec PyProof.Rows L2 Sm Wm Cm
theorem Gd_up {P : Program} {w : World} {K : PySem.W.Frag} {T : List (Addr × Str)} {mg : Str → Option Value} {base : Heap} {k : Nat} {x : Str} {ps : List Str} {dv : List PV} {S : SpecF} (G : Gd P w K T mg base false k x ps dv S) : Gd P w K T mg base true k x ps dv S := by
  obtain ⟨f, fd, ds, dvs, h1, h2, h3, h4, h5, F⟩ := G
  exact ⟨f, fd, ds, dvs, h1, h2, h3, h4, h5, ⟨F.len, fun A o s H a u v Q E hr _ => F.run A o s H a u v Q E hr Gu.no⟩⟩
structure Facts (K : PySem.W.Frag) (mg : Str → Option Value) : Prop where
  fr : Fr mg frees
  F_ten_to : Fc K mg "ten_to" (df 3) []
  F_has_more_digits : Fc K mg "has_more_digits" (df 4) []
  F_is_integer : Fc K mg "is_integer" (df 5) []
  F_lowest : Fc K mg "lowest" (df 7) []
  F_added : Fc K mg "added" (df 8) []
  F_is_worth : Fc K mg "is_worth" (df 17) []
  F__is_known : Fc K mg "_is_known" (df 18) []
  F__check_worth : Fc K mg "_check_worth" (df 19) []
  F__check_operands : Fc K mg "_check_operands" (df 20) []
  F_plus : Fc K mg "plus" (df 21) []
  F_worth_text : Fc K mg "worth_text" (df 22) []
  F__read_digits : Fc K mg "_read_digits" (df 23) []
  F__read_nothing : Fc K mg "_read_nothing" (df 24) []
  F_worth_from : Fc K mg "worth_from" (df 25) []
  F_read_worth : Fc K mg "read_worth" (df 26) []
  F__law_dice : Fc K mg "_law_dice" (df 28) []
  F__law_roll : Fc K mg "_law_roll" (df 29) []
  F__law_one_of : Fc K mg "_law_one_of" (df 30) []
  F__law_lowest : Fc K mg "_law_lowest" (df 31) []
  F__law_integer : Fc K mg "_law_integer" (df 32) []
  F__law_written : Fc K mg "_law_written" (df 33) []
  F__law_is_row : Fc K mg "_law_is_row" (df 34) []
  F__law_can_begin : Fc K mg "_law_can_begin" (df 35) []
  F__law_due : Fc K mg "_law_due" (df 36) []
  F__law_told : Fc K mg "_law_told" (df 37) []
  F__law_spoilt : Fc K mg "_law_spoilt" (df 38) []
  F__law_text : Fc K mg "_law_text" (df 39) []
  F__law_right : Fc K mg "_law_right" (df 40) []
  F_law : Fc K mg "law" (df 41) []
  E : ExmF K mg
  k_gcd : mg "gcd" = some (.builtin "math.gcd")
  k__LONGEST : ∃ t, mg "_LONGEST" = some (.int 4000 t)
  k__NOTHING : ∃ t, mg "_NOTHING" = some (.str "nothing" t)
  k__DIGITS : ∃ t, mg "_DIGITS" = some (.str "0123456789" t)
  k_MOST_PASSED : ∃ t, mg "MOST_PASSED" = some (.int 60 t)
  x_InvalidWorth : ExI K mg "InvalidWorth" "message"
  x_ParseError : ExI K mg "ParseError" "spot"
  y_ParseError : XfI K mg "ParseError" "spot"
section
variable {P : Program} {w : World} {K : PySem.W.Frag} {T : List (Addr × Str)} {mg : Str → Option Value} {base : Heap}
theorem law_ok (A : Facts K mg) : Gd P w K T mg base true 8 "law" ["_law_script"] [] (S_law mg) := by
  have G_ten_to := g_ten_to (P := P) (w := w) (K := K) (T := T) (base := base) A.fr A.F_ten_to  (by rintro pvs st Q PX ⟨_, rfl, _⟩; rfl) (p_ten_to)
  have G_has_more_digits := g_has_more_digits (P := P) (w := w) (K := K) (T := T) (base := base) A.fr A.F_has_more_digits G_ten_to (by rintro pvs st Q PX ⟨_, _, rfl, _⟩; rfl) (p_has_more_digits)
  have G_is_integer := g_is_integer (P := P) (w := w) (K := K) (T := T) (base := base) A.fr A.F_is_integer  (by rintro pvs st Q PX ⟨_, rfl, _⟩; rfl) (p_is_integer)
  have G_lowest := g_lowest (P := P) (w := w) (K := K) (T := T) (base := base) A.fr A.F_lowest A.k_gcd (by rintro pvs st Q PX ⟨_, _, rfl, _⟩; rfl) (p_lowest)
  have G_added := g_added (P := P) (w := w) (K := K) (T := T) (base := base) A.fr A.F_added G_lowest (by rintro pvs st Q PX ⟨_, _, _, _, rfl, _⟩; rfl) (p_added)
  have G_is_worth := g_is_worth (P := P) (w := w) (K := K) (T := T) (base := base) A.fr A.F_is_worth G_is_integer A.k_gcd (by rintro pvs st Q PX ⟨_, rfl, _⟩; rfl) (p_is_worth)
  have G__is_known := g__is_known (P := P) (w := w) (K := K) (T := T) (base := base) A.fr A.F__is_known G_is_worth G_has_more_digits A.k__LONGEST (by rintro pvs st Q PX ⟨_, rfl, _⟩; rfl) (p__is_known)
  have G__check_worth := g__check_worth (P := P) (w := w) (K := K) (T := T) (base := base) A.fr A.F__check_worth A.x_InvalidWorth G__is_known (by rintro pvs st Q PX ⟨_, rfl, _⟩; rfl) (p__check_worth)
  have G__check_operands := g__check_operands (P := P) (w := w) (K := K) (T := T) (base := base) A.fr A.F__check_operands G__check_worth (by rintro pvs st Q PX ⟨_, _, rfl, _⟩; rfl) (p__check_operands)
  have G_plus := g_plus (P := P) (w := w) (K := K) (T := T) (base := base) A.fr A.F_plus G__check_operands G_added (by rintro pvs st Q PX ⟨_, _, rfl, _⟩; rfl) (p_plus)
  have G_worth_text := g_worth_text (P := P) (w := w) (K := K) (T := T) (base := base) A.fr A.F_worth_text A.k__NOTHING G__check_worth (by rintro pvs st Q PX ⟨_, rfl, _⟩; rfl) (p_worth_text)
  have G__read_digits := g__read_digits (P := P) (w := w) (K := K) (T := T) (base := base) A.fr A.F__read_digits A.x_ParseError A.k__DIGITS A.k_MOST_PASSED (by rintro pvs st Q PX ⟨_, _, _, rfl, _⟩; rfl) (p__read_digits)
  have G__read_nothing := g__read_nothing (P := P) (w := w) (K := K) (T := T) (base := base) A.fr A.F__read_nothing A.x_ParseError A.k__NOTHING (by rintro pvs st Q PX ⟨_, rfl, _⟩; rfl) (p__read_nothing)
  have G_worth_from := g_worth_from (P := P) (w := w) (K := K) (T := T) (base := base) A.fr A.F_worth_from A.k__DIGITS G__read_digits G_lowest (by rintro pvs st Q PX ⟨_, _, rfl, _⟩; rfl) (p_worth_from)
  have G_read_worth := g_read_worth (P := P) (w := w) (K := K) (T := T) (base := base) A.fr A.F_read_worth A.x_ParseError G_worth_from G__read_nothing (by rintro pvs st Q PX ⟨_, rfl, _⟩; rfl) (p_read_worth)
  have G__law_dice := g__law_dice (P := P) (w := w) (K := K) (T := T) (base := base) A.fr A.F__law_dice  (by rintro pvs st Q PX ⟨_, _, rfl, _⟩; rfl) (p__law_dice)
  have G__law_roll := g__law_roll (P := P) (w := w) (K := K) (T := T) (base := base) A.fr A.F__law_roll  (by rintro pvs st Q PX ⟨_, _, _, rfl, _⟩; rfl) (p__law_roll)
  have G__law_one_of := g__law_one_of (P := P) (w := w) (K := K) (T := T) (base := base) A.fr A.F__law_one_of G__law_roll (by rintro pvs st Q PX ⟨_, _, _, rfl, _⟩; rfl) (p__law_one_of)
  have G__law_lowest := g__law_lowest (P := P) (w := w) (K := K) (T := T) (base := base) A.fr A.F__law_lowest  (by rintro pvs st Q PX ⟨_, _, rfl, _⟩; rfl) (p__law_lowest)
  have G__law_integer := g__law_integer (P := P) (w := w) (K := K) (T := T) (base := base) A.fr A.F__law_integer G__law_roll G__law_one_of (by rintro pvs st Q PX ⟨_, _, rfl, _⟩; rfl) (p__law_integer)
  have G__law_written := g__law_written (P := P) (w := w) (K := K) (T := T) (base := base) A.fr A.F__law_written  (by rintro pvs st Q PX ⟨_, _, rfl, _⟩; rfl) (p__law_written)
  have G__law_is_row := g__law_is_row (P := P) (w := w) (K := K) (T := T) (base := base) A.fr A.F__law_is_row  (by rintro pvs st Q PX ⟨_, rfl, _⟩; rfl) (p__law_is_row)
  have G__law_can_begin := g__law_can_begin (P := P) (w := w) (K := K) (T := T) (base := base) A.fr A.F__law_can_begin G__law_is_row (by rintro pvs st Q PX ⟨_, rfl, _⟩; rfl) (p__law_can_begin)
  have G__law_due := g__law_due (P := P) (w := w) (K := K) (T := T) (base := base) A.fr A.F__law_due G__law_lowest G__law_can_begin (by rintro pvs st Q PX ⟨_, rfl, _⟩; rfl) (p__law_due)
  have G__law_told := g__law_told (P := P) (w := w) (K := K) (T := T) (base := base) A.fr A.F__law_told A.y_ParseError G_read_worth (by rintro pvs st Q PX ⟨_, rfl, _⟩; rfl) (p__law_told A.E)
  have G__law_spoilt := g__law_spoilt (P := P) (w := w) (K := K) (T := T) (base := base) A.fr A.F__law_spoilt G__law_roll G__law_one_of (by rintro pvs st Q PX ⟨_, _, _, rfl, _⟩; rfl) (p__law_spoilt)
  have G__law_text := g__law_text (P := P) (w := w) (K := K) (T := T) (base := base) A.fr A.F__law_text G__law_roll G__law_integer (by rintro pvs st Q PX ⟨_, _, rfl, _⟩; rfl) (p__law_text)
  have G__law_right := g__law_right (P := P) (w := w) (K := K) (T := T) (base := base) A.fr A.F__law_right A.x_InvalidWorth G__law_lowest G__law_one_of G_read_worth G__law_text G__law_told G_worth_text G__law_integer G__law_written G__law_roll G__law_due G__law_spoilt G_plus (by rintro pvs st Q PX ⟨_, rfl, _⟩; rfl) (p__law_right A.E)
  have G_law := g_law (P := P) (w := w) (K := K) (T := T) (base := base) A.fr A.F_law G__law_right G__law_dice (by rintro pvs st Q PX ⟨_, rfl, _⟩; rfl) (p_law)
  exact Gd_up G_law
end
end K1
set_option Elab.async false
set_option linter.all false
set_option maxRecDepth 100000
set_option maxHeartbeats 0
namespace K1
open PySem PySem.Spec PyProof.Rows L2 Sm
def dg (i : Nat) (x : Str) (d : List He.Dv) : He.DefD := ⟨(x, none), x, x, defArgs (top i), defBody (top i), defScope (top i), d, []⟩
def meth (i j : Nat) : Stmt := match top i with
  | .ClassDef _ _ _ b _ _ _ _ _ _ _ => b.getD j (.Pass ⟨0, 0, 0, 0⟩)
  | _ => .Pass ⟨0, 0, 0, 0⟩
def di (x q : Str) (i : Nat) : He.DefD := ⟨(x, some "__init__"), "__init__", q, defArgs (meth i 0), defBody (meth i 0), defScope (meth i 0), [], []⟩
def fn0 : List He.DefD := [dg 3 "ten_to" [], dg 4 "has_more_digits" [], dg 5 "is_integer" [], dg 7 "lowest" [], dg 8 "added" [], dg 17 "is_worth" [], dg 18 "_is_known" [], dg 19 "_check_worth" [], dg 20 "_check_operands" [], dg 21 "plus" [], dg 22 "worth_text" [], dg 23 "_read_digits" [], dg 24 "_read_nothing" [], dg 25 "worth_from" []]
def fn1 : List He.DefD := [dg 26 "read_worth" [], dg 28 "_law_dice" [], dg 29 "_law_roll" [], dg 30 "_law_one_of" [], dg 31 "_law_lowest" [], dg 32 "_law_integer" [], dg 33 "_law_written" [], dg 34 "_law_is_row" [], dg 35 "_law_can_begin" [], dg 36 "_law_due" [], dg 37 "_law_told" [], dg 38 "_law_spoilt" [], dg 39 "_law_text" [], dg 40 "_law_right" []]
def fn2 : List He.DefD := [dg 41 "law" [], di "InvalidWorth" "CubeError.__init__" 10, di "ParseError" "ParseError.__init__" 12]
def fn : List He.DefD := fn0 ++ fn1 ++ fn2
def fa0 : List He.Fa := [.glo "ten_to", .glo "has_more_digits", .glo "is_integer", .glo "lowest", .glo "added", .glo "is_worth", .glo "_is_known", .glo "_check_worth", .glo "_check_operands", .glo "plus", .glo "worth_text", .glo "_read_digits", .glo "_read_nothing", .glo "worth_from"]
def fa1 : List He.Fa := [.glo "read_worth", .glo "_law_dice", .glo "_law_roll", .glo "_law_one_of", .glo "_law_lowest", .glo "_law_integer", .glo "_law_written", .glo "_law_is_row", .glo "_law_can_begin", .glo "_law_due", .glo "_law_told", .glo "_law_spoilt", .glo "_law_text", .glo "_law_right"]
def fa2 : List He.Fa := [.glo "law", .glo "InvalidWorth", .glo "ParseError", .free "type", .free "int", .free "len", .free "abs", .free "range", .free "str", .free "max", .free "min", .free "list", .free "enumerate", .free "tuple"]
def fa3 : List He.Fa := [.int "_LONGEST" 4000, .str "_NOTHING" "nothing", .str "_DIGITS" "0123456789", .int "MOST_PASSED" 60, .exm "ParseError" "ParseError" true, .exm "InvalidWorth" "InvalidWorth" true, .noat "ParseError" "spot"]
def fa : List He.Fa := fa0 ++ fa1 ++ fa2 ++ fa3
def loose0 : List PySem.Str := ["MOST_PASSED", "ten_to", "has_more_digits", "is_integer", "lowest", "added", "CubeError", "InvalidWorth", "ParseError", "_LONGEST", "_DIGITS", "_NOTHING", "is_worth", "_is_known"]
def loose1 : List PySem.Str := ["_check_worth", "_check_operands", "plus", "worth_text", "_read_digits", "_read_nothing", "worth_from", "read_worth", "_law_dice", "_law_roll", "_law_one_of", "_law_lowest", "_law_integer", "_law_written"]
def loose2 : List PySem.Str := ["_law_is_row", "_law_can_begin", "_law_due", "_law_told", "_law_spoilt", "_law_text", "_law_right"]
def loose : List PySem.Str := loose0 ++ loose1 ++ loose2
def ex (K : PySem.W.Frag) : Bool :=
  exB K "InvalidWorth" [.type "ValueError", .type "Exception", .type "BaseException", .type "object"] "ValueError.__new__" "message"
    && exB K "ParseError" [.type "ValueError", .type "Exception", .type "BaseException", .type "object"] "ValueError.__new__" "spot"
    && He.eqO (PySem.W.nsIn K mainGlobals "gcd") (some (some (.builtin "math.gcd")))
    && xfB K (He.ga K "ParseError")
abbrev R : PySem.W.OpenRow := PySem.W.OpenLaw.row PySem.Challenge.rw_sumstead_k01_whole_texts_of_worths
abbrev hk : PySem.W.Hook := He.hookX 5 fa fn [] [] ex
def ob (s : PySem.W.SharedT) : He.AlX := He.obsX 5 fa fn [] [] ex (HandSHeadRun.getT s)
theorem ob_eq (s : PySem.W.SharedT) : ob s = hk.obs s.abs := He.obsX_eq (HandSHeadRun.getT_eq s)
theorem run (w : World) : HandSHeadRun.RunEqI R (PySem.W.view R.prog [0, 41]) hk ob 6000 loose w := by
  unfold HandSHeadRun.RunEqI
  kernel_rfl
end K1
set_option Elab.async false
set_option linter.all false
set_option maxRecDepth 100000
set_option maxHeartbeats 0
namespace K1
open PySem PySem.Spec PyProof.Rows L2 Sm
theorem facts {w : World} {K : PySem.W.Frag} {h : Heap} {mg : Str → Option Value} (X : K.In h) (G : h.Ns mainGlobals mg) (c : He.SaysX fa fn [] [] ex w h K) : Facts K mg := by
  have hx := c.more
  unfold ex at hx
  simp only [Bool.and_eq_true] at hx
  obtain ⟨⟨⟨b1, b2⟩, b3⟩, b4⟩ := hx
  have m_ten_to := He.glo_ok X G (c.t.d.fact 0 (f := .glo "ten_to") rfl)
  have m_has_more_digits := He.glo_ok X G (c.t.d.fact 1 (f := .glo "has_more_digits") rfl)
  have m_is_integer := He.glo_ok X G (c.t.d.fact 2 (f := .glo "is_integer") rfl)
  have m_lowest := He.glo_ok X G (c.t.d.fact 3 (f := .glo "lowest") rfl)
  have m_added := He.glo_ok X G (c.t.d.fact 4 (f := .glo "added") rfl)
  have m_is_worth := He.glo_ok X G (c.t.d.fact 5 (f := .glo "is_worth") rfl)
  have m__is_known := He.glo_ok X G (c.t.d.fact 6 (f := .glo "_is_known") rfl)
  have m__check_worth := He.glo_ok X G (c.t.d.fact 7 (f := .glo "_check_worth") rfl)
  have m__check_operands := He.glo_ok X G (c.t.d.fact 8 (f := .glo "_check_operands") rfl)
  have m_plus := He.glo_ok X G (c.t.d.fact 9 (f := .glo "plus") rfl)
  have m_worth_text := He.glo_ok X G (c.t.d.fact 10 (f := .glo "worth_text") rfl)
  have m__read_digits := He.glo_ok X G (c.t.d.fact 11 (f := .glo "_read_digits") rfl)
  have m__read_nothing := He.glo_ok X G (c.t.d.fact 12 (f := .glo "_read_nothing") rfl)
  have m_worth_from := He.glo_ok X G (c.t.d.fact 13 (f := .glo "worth_from") rfl)
  have m_read_worth := He.glo_ok X G (c.t.d.fact 14 (f := .glo "read_worth") rfl)
  have m__law_dice := He.glo_ok X G (c.t.d.fact 15 (f := .glo "_law_dice") rfl)
  have m__law_roll := He.glo_ok X G (c.t.d.fact 16 (f := .glo "_law_roll") rfl)
  have m__law_one_of := He.glo_ok X G (c.t.d.fact 17 (f := .glo "_law_one_of") rfl)
  have m__law_lowest := He.glo_ok X G (c.t.d.fact 18 (f := .glo "_law_lowest") rfl)
  have m__law_integer := He.glo_ok X G (c.t.d.fact 19 (f := .glo "_law_integer") rfl)
  have m__law_written := He.glo_ok X G (c.t.d.fact 20 (f := .glo "_law_written") rfl)
  have m__law_is_row := He.glo_ok X G (c.t.d.fact 21 (f := .glo "_law_is_row") rfl)
  have m__law_can_begin := He.glo_ok X G (c.t.d.fact 22 (f := .glo "_law_can_begin") rfl)
  have m__law_due := He.glo_ok X G (c.t.d.fact 23 (f := .glo "_law_due") rfl)
  have m__law_told := He.glo_ok X G (c.t.d.fact 24 (f := .glo "_law_told") rfl)
  have m__law_spoilt := He.glo_ok X G (c.t.d.fact 25 (f := .glo "_law_spoilt") rfl)
  have m__law_text := He.glo_ok X G (c.t.d.fact 26 (f := .glo "_law_text") rfl)
  have m__law_right := He.glo_ok X G (c.t.d.fact 27 (f := .glo "_law_right") rfl)
  have m_law := He.glo_ok X G (c.t.d.fact 28 (f := .glo "law") rfl)
  have m_InvalidWorth := He.glo_ok X G (c.t.d.fact 29 (f := .glo "InvalidWorth") rfl)
  have m_ParseError := He.glo_ok X G (c.t.d.fact 30 (f := .glo "ParseError") rfl)
  obtain ⟨fd_ten_to, F_ten_to⟩ := c.t.d.def_ 0 (d := dg 3 "ten_to" []) rfl
  obtain ⟨fd_has_more_digits, F_has_more_digits⟩ := c.t.d.def_ 1 (d := dg 4 "has_more_digits" []) rfl
  obtain ⟨fd_is_integer, F_is_integer⟩ := c.t.d.def_ 2 (d := dg 5 "is_integer" []) rfl
  obtain ⟨fd_lowest, F_lowest⟩ := c.t.d.def_ 3 (d := dg 7 "lowest" []) rfl
  obtain ⟨fd_added, F_added⟩ := c.t.d.def_ 4 (d := dg 8 "added" []) rfl
  obtain ⟨fd_is_worth, F_is_worth⟩ := c.t.d.def_ 5 (d := dg 17 "is_worth" []) rfl
  obtain ⟨fd__is_known, F__is_known⟩ := c.t.d.def_ 6 (d := dg 18 "_is_known" []) rfl
  obtain ⟨fd__check_worth, F__check_worth⟩ := c.t.d.def_ 7 (d := dg 19 "_check_worth" []) rfl
  obtain ⟨fd__check_operands, F__check_operands⟩ := c.t.d.def_ 8 (d := dg 20 "_check_operands" []) rfl
  obtain ⟨fd_plus, F_plus⟩ := c.t.d.def_ 9 (d := dg 21 "plus" []) rfl
  obtain ⟨fd_worth_text, F_worth_text⟩ := c.t.d.def_ 10 (d := dg 22 "worth_text" []) rfl
  obtain ⟨fd__read_digits, F__read_digits⟩ := c.t.d.def_ 11 (d := dg 23 "_read_digits" []) rfl
  obtain ⟨fd__read_nothing, F__read_nothing⟩ := c.t.d.def_ 12 (d := dg 24 "_read_nothing" []) rfl
  obtain ⟨fd_worth_from, F_worth_from⟩ := c.t.d.def_ 13 (d := dg 25 "worth_from" []) rfl
  obtain ⟨fd_read_worth, F_read_worth⟩ := c.t.d.def_ 14 (d := dg 26 "read_worth" []) rfl
  obtain ⟨fd__law_dice, F__law_dice⟩ := c.t.d.def_ 15 (d := dg 28 "_law_dice" []) rfl
  obtain ⟨fd__law_roll, F__law_roll⟩ := c.t.d.def_ 16 (d := dg 29 "_law_roll" []) rfl
  obtain ⟨fd__law_one_of, F__law_one_of⟩ := c.t.d.def_ 17 (d := dg 30 "_law_one_of" []) rfl
  obtain ⟨fd__law_lowest, F__law_lowest⟩ := c.t.d.def_ 18 (d := dg 31 "_law_lowest" []) rfl
  obtain ⟨fd__law_integer, F__law_integer⟩ := c.t.d.def_ 19 (d := dg 32 "_law_integer" []) rfl
  obtain ⟨fd__law_written, F__law_written⟩ := c.t.d.def_ 20 (d := dg 33 "_law_written" []) rfl
  obtain ⟨fd__law_is_row, F__law_is_row⟩ := c.t.d.def_ 21 (d := dg 34 "_law_is_row" []) rfl
  obtain ⟨fd__law_can_begin, F__law_can_begin⟩ := c.t.d.def_ 22 (d := dg 35 "_law_can_begin" []) rfl
  obtain ⟨fd__law_due, F__law_due⟩ := c.t.d.def_ 23 (d := dg 36 "_law_due" []) rfl
  obtain ⟨fd__law_told, F__law_told⟩ := c.t.d.def_ 24 (d := dg 37 "_law_told" []) rfl
  obtain ⟨fd__law_spoilt, F__law_spoilt⟩ := c.t.d.def_ 25 (d := dg 38 "_law_spoilt" []) rfl
  obtain ⟨fd__law_text, F__law_text⟩ := c.t.d.def_ 26 (d := dg 39 "_law_text" []) rfl
  obtain ⟨fd__law_right, F__law_right⟩ := c.t.d.def_ 27 (d := dg 40 "_law_right" []) rfl
  obtain ⟨fd_law, F_law⟩ := c.t.d.def_ 28 (d := dg 41 "law" []) rfl
  obtain ⟨fi_InvalidWorth, I_InvalidWorth⟩ := c.t.d.def_ 29 (d := di "InvalidWorth" "CubeError.__init__" 10) rfl
  obtain ⟨fi_ParseError, I_ParseError⟩ := c.t.d.def_ 30 (d := di "ParseError" "ParseError.__init__" 12) rfl
  have a_InvalidWorth := ad_ga m_InvalidWorth
  have a_ParseError := ad_ga m_ParseError
  exact {
    fr := by
      intro x hx
      simp only [frees, List.mem_cons, List.not_mem_nil, or_false] at hx
      rcases hx with rfl | rfl | rfl | rfl | rfl | rfl | rfl | rfl | rfl | rfl | rfl
      · exact He.free_ok X G (c.t.d.fact 31 (f := .free "type") rfl)
      · exact He.free_ok X G (c.t.d.fact 32 (f := .free "int") rfl)
      · exact He.free_ok X G (c.t.d.fact 33 (f := .free "len") rfl)
      · exact He.free_ok X G (c.t.d.fact 34 (f := .free "abs") rfl)
      · exact He.free_ok X G (c.t.d.fact 35 (f := .free "range") rfl)
      · exact He.free_ok X G (c.t.d.fact 36 (f := .free "str") rfl)
      · exact He.free_ok X G (c.t.d.fact 37 (f := .free "max") rfl)
      · exact He.free_ok X G (c.t.d.fact 38 (f := .free "min") rfl)
      · exact He.free_ok X G (c.t.d.fact 39 (f := .free "list") rfl)
      · exact He.free_ok X G (c.t.d.fact 40 (f := .free "enumerate") rfl)
      · exact He.free_ok X G (c.t.d.fact 41 (f := .free "tuple") rfl)
    F_ten_to := ⟨_, _, F_ten_to, m_ten_to⟩
    F_has_more_digits := ⟨_, _, F_has_more_digits, m_has_more_digits⟩
    F_is_integer := ⟨_, _, F_is_integer, m_is_integer⟩
    F_lowest := ⟨_, _, F_lowest, m_lowest⟩
    F_added := ⟨_, _, F_added, m_added⟩
    F_is_worth := ⟨_, _, F_is_worth, m_is_worth⟩
    F__is_known := ⟨_, _, F__is_known, m__is_known⟩
    F__check_worth := ⟨_, _, F__check_worth, m__check_worth⟩
    F__check_operands := ⟨_, _, F__check_operands, m__check_operands⟩
    F_plus := ⟨_, _, F_plus, m_plus⟩
    F_worth_text := ⟨_, _, F_worth_text, m_worth_text⟩
    F__read_digits := ⟨_, _, F__read_digits, m__read_digits⟩
    F__read_nothing := ⟨_, _, F__read_nothing, m__read_nothing⟩
    F_worth_from := ⟨_, _, F_worth_from, m_worth_from⟩
    F_read_worth := ⟨_, _, F_read_worth, m_read_worth⟩
    F__law_dice := ⟨_, _, F__law_dice, m__law_dice⟩
    F__law_roll := ⟨_, _, F__law_roll, m__law_roll⟩
    F__law_one_of := ⟨_, _, F__law_one_of, m__law_one_of⟩
    F__law_lowest := ⟨_, _, F__law_lowest, m__law_lowest⟩
    F__law_integer := ⟨_, _, F__law_integer, m__law_integer⟩
    F__law_written := ⟨_, _, F__law_written, m__law_written⟩
    F__law_is_row := ⟨_, _, F__law_is_row, m__law_is_row⟩
    F__law_can_begin := ⟨_, _, F__law_can_begin, m__law_can_begin⟩
    F__law_due := ⟨_, _, F__law_due, m__law_due⟩
    F__law_told := ⟨_, _, F__law_told, m__law_told⟩
    F__law_spoilt := ⟨_, _, F__law_spoilt, m__law_spoilt⟩
    F__law_text := ⟨_, _, F__law_text, m__law_text⟩
    F__law_right := ⟨_, _, F__law_right, m__law_right⟩
    F_law := ⟨_, _, F_law, m_law⟩
    E := ⟨(by rw [a_ParseError]; exact of_decide_eq_true (c.t.d.fact 46 (f := .exm "ParseError" "ParseError" true) rfl)), (by rw [a_InvalidWorth]; exact of_decide_eq_true (c.t.d.fact 47 (f := .exm "InvalidWorth" "InvalidWorth" true) rfl))⟩
    k_gcd := PySem.W.mg_of X G (He.eqO_ok b3)
    k__LONGEST := He.int_ok X G (c.t.d.fact 42 (f := .int "_LONGEST" 4000) rfl)
    k__NOTHING := He.str_ok X G (c.t.d.fact 43 (f := .str "_NOTHING" "nothing") rfl)
    k__DIGITS := He.str_ok X G (c.t.d.fact 44 (f := .str "_DIGITS" "0123456789") rfl)
    k_MOST_PASSED := He.int_ok X G (c.t.d.fact 45 (f := .int "MOST_PASSED" 60) rfl)
    x_InvalidWorth := exI_of F.excBase_ValueError F.store_ValueError SxO.fld_message m_InvalidWorth b1 I_InvalidWorth
    x_ParseError := exI_of F.excBase_ValueError F.store_ValueError SxO.fld_spot m_ParseError b2 I_ParseError
    y_ParseError := ⟨by rw [a_ParseError]; exact xfB_ok b4, by rw [a_ParseError]; exact He.noat_ok (c.t.d.fact 48 (f := .noat "ParseError" "spot") rfl), by rw [a_ParseError]; exact m_ParseError⟩ }
end K1
set_option Elab.async false
set_option linter.all false
set_option maxRecDepth 100000
set_option maxHeartbeats 1000000
namespace Sm
open PySem PySem.Spec PyProof.Rows L2 LamX
section
variable {P : Program} {w : World} {K : PySem.W.Frag} {T : List (Addr × Str)} {mg mb : Str → Option Value} {k : Nat} {fa a : Addr} {nm x : Str} {S : SpecF} {s₁ : Shared} {vs : List Value} {ns : List Int}
theorem law_gd {cs : List (Addr × Addr)} (KX : K.In s₁.heap) (hns : s₁.heap.Ns mainGlobals mg) (hb : s₁.heap.Ns builtinsNs mb)
    (hbb : ∀ x : Str, x ≠ "__name__" → mb x = bootBuiltins x) (hlim : s₁.heap.NoLimit) (hg : s₁.gens = #[]) (Z : AtEnd K T s₁.heap mg cs)
    (ha : s₁.heap.get? a = some { cls := .type "list", data := .seq vs.toArray }) (hi : IntsAre vs ns)
    (hl : ns.length ≤ sizeLine) (hr : Room k callerA)
    (hm : mg nm = some (.ref fa))
    (F : ∀ base : Heap, K.In base → base.Ns mainGlobals mg → (∀ p ∈ cs, TabB base mg p.1 p.2) → Gd P w K T mg base true k nm [x] [] S)
    (hS : S [.lst (ns.map .int)] [] (fun v _ => v = .bl true) fun _ _ => False) :
    codeAny (model P w) callerA (.call (.ref fa) ⟨[.ref a], []⟩) (fun r s' => r = .ok (.ret (.bool true)) ∧ OldK s₁.heap s'.heap ∧ s'.os = s₁.os ∧ AllBare s'.gens) s₁ := by
  have rv := vals_ints hi
  have tbs : ∀ b ∈ cs.map (·.2), s₁.heap.get? b = some { cls := .none, data := .fields #[] } := by
    intro b hb
    obtain ⟨p, hp, rfl⟩ := List.mem_map.mp hb
    exact Z.tab p hp
  have na : a ∉ cs.map (·.2) := by
    intro z
    have q := tbs a z
    rw [ha] at q
    cases q
  let H : Hp := Hst K (cs.map (·.2)) a { cls := .type "list", data := .seq vs.toArray } (ns.map V.int)
  have Htb : ∀ b, b ∈ cs.map (·.2) → H b = some (.tbl #[]) := fun b hb => if_pos hb
  have Ha : H a = if (K.lookup a).isNone then some (.frz { cls := .type "list", data := .seq vs.toArray } (.lst (ns.map V.int))) else none := by
    show (if a ∈ cs.map (·.2) then _ else _) = _
    rw [if_neg na, if_pos rfl]
  have Hno : ∀ b, b ∉ cs.map (·.2) → b ≠ a → H b = none := by
    intro b h1 h2
    show (if b ∈ cs.map (·.2) then _ else _) = _
    rw [if_neg h1, if_neg h2]
  have hok : HOk P w H s₁.heap := by
    intro b u hu
    by_cases h1 : b ∈ cs.map (·.2)
    · rw [Htb b h1] at hu
      cases hu
      exact tbs b h1
    · by_cases h2 : b = a
      · subst h2
        rw [Ha] at hu
        split at hu
        · cases hu
          exact ⟨ha, by rw [List.length_map]; exact hl, vs, _, rv, ha⟩
        · cases hu
      · rw [Hno b h1 h2] at hu
        cases hu
  have keepK : ∀ b o, K.lookup b = some o → H b = none := by
    intro b o e
    by_cases h1 : b ∈ cs.map (·.2)
    · obtain ⟨p, hp, rfl⟩ := List.mem_map.mp h1
      rw [Z.out p hp] at e
      cases e
    · by_cases h2 : b = a
      · subst h2
        rw [Ha, e]
        rfl
      · exact Hno b h1 h2
  have hid : ∀ {b o}, s₁.heap.get? b = some o → (∀ us n, o.data ≠ .seq us n) → o.data ≠ .fields #[] → (hidT s₁.heap H).get? b = some o := by
    intro b o e h1 h2
    refine hidT_get e ?_
    by_cases h3 : b ∈ cs.map (·.2)
    · rw [tbs b h3] at e
      cases e
      exact absurd rfl h2
    · by_cases h4 : b = a
      · subst h4
        rw [ha] at e
        cases e
        exact absurd rfl (h1 _ _)
      · exact Hno b h3 h4
  have nsH : ∀ {b : Addr} {m : Str → Option Value}, s₁.heap.Ns b m → (hidT s₁.heap H).Ns b m := by
    rintro b m ⟨o, es, ep, e, d, r⟩
    exact ⟨o, es, ep, hid e (by rw [d]; nofun) (by rw [d]; nofun), d, r⟩
  have KH : K.In (hidT s₁.heap H) := fun b o e => hidT_get (KX b o e) (keepK b o e)
  have TB : ∀ p ∈ cs, TabB (hidT s₁.heap H) mg p.1 p.2 := by
    intro p hp
    have hp2 := Z.tab p hp
    refine ⟨?_, ?_, ?_⟩
    · obtain ⟨o, us, f1, t1, f2, t2, i1, tx, tt, e1, r1, r2, r3, rest⟩ := Z.hd p hp
      refine ⟨o, us, f1, t1, f2, t2, i1, tx, tt, hid e1 (by rw [r2]; nofun) ?_, r1, r2, r3, rest⟩
      rw [r2]
      intro z
      cases z
      simp at r3
    · obtain ⟨m, ob, b1, b2, b3, b4, b5, b6⟩ := Z.bm
      refine ⟨m, ob, b1, b2, ?_, ?_, hid b3 (by rw [b6]; nofun) (by rw [b6]; nofun), b4, b5, b6⟩
      · rintro rfl
        obtain ⟨o, es, ep, e, d, _⟩ := hns
        rw [b3] at e
        cases e
        rw [b6] at d
        cases d
      · rintro rfl
        rw [hp2] at b3
        cases b3
        cases b6
    · intro z
      obtain ⟨o, es, ep, e, d, _⟩ := hns
      rw [z, hp2] at e
      cases e
      cases d
  have hM : L2.Mod K mg (hidT s₁.heap H) := ⟨KH, nsH hns, ⟨mb, nsH hb, hbb⟩, by
    obtain ⟨mc, h1, h2⟩ := hlim
    exact ⟨mc, nsH h1, h2⟩⟩
  have e0 : Env0 P w K mg (hidT s₁.heap H) callerA [] s₁ H :=
    ⟨rfl, hM, fun b o e => of_hidT e, Nat.le_of_eq (hidT_size _ _), trivial, fun b hb => (List.not_mem_nil hb).elim, hok, .of_eq hg⟩
  have rel : Rel K T [] [] H := ⟨rfl, .nil, fun n b o h => by simp at h, fun q hq => TabS.nil (Htb _ (Z.sub q hq))⟩
  have hls : LsR K [] H a (ns.map V.int) := by
    cases hk : K.lookup a with
    | some o =>
      have e := KX a o hk
      rw [ha] at e
      cases e
      exact .inr ⟨_, vs.toArray, _, hk, rfl, rfl, rfl, by rw [List.size_toArray, hi.length]; exact hl, by simpa using rv⟩
    | none =>
      refine .inl ⟨.inr ⟨{ cls := .type "list", data := .seq vs.toArray }, ?_⟩, List.not_mem_nil⟩
      rw [Ha, hk]
      rfl
  have sp : spOf K T S [.ref a] H (fun v _ => v = .bl true) fun _ _ _ => False :=
    ⟨_, [], [], _, _, .cons (.lst hls (rvs_ints ns)) .nil, rel, hS, fun v st' hv y m' H' _ _ ry => by subst hv; cases ry; rfl, fun _ _ p => p.elim⟩
  obtain ⟨f, fd, ds, dvs, g1, _, g3, g4, g5, FG⟩ := (F _ KH (nsH hns) TB).ex
  rw [hm] at g1
  cases g1
  have dv0 : dvs = [] := by
    cases g5 [] H
    rfl
  subst dv0
  have ds0 : ds = [] := by
    cases g4
    rfl
  subst ds0
  have hbd : BindsTo s₁ fd ⟨[.ref a], []⟩ ([x].zip [.ref a]) := g3 s₁ [.ref a] KX rfl
  refine codeAny_mono (FG.run callerA [] s₁ H ⟨[.ref a], []⟩ [.ref a] [.ref a] _ _ hr (fun _ => rfl) e0 hbd (.cons rfl .nil) sp) ?_
  intro r s' hrs
  cases r with
  | error e =>
    obtain ⟨_, _, _, _, _, _, _, _, _, _, _, _, bad⟩ := hrs
    exact bad.elim
  | ok fl =>
    cases fl with
    | next => exact False.elim hrs
    | brk => exact False.elim hrs
    | cont => exact False.elim hrs
    | ret u =>
      obtain ⟨v, H', os, bare, un, hok', rr, q⟩ := hrs
      have q' : v = .bl true := q
      subst q'
      obtain rfl : u = Value.bool true := rr
      have same : ∀ b o, b ∉ cs.map (·.2) → s₁.heap.get? b = some o → s'.heap.get? b = some o := by
        intro b o nb e
        by_cases h2 : b = a
        · subst h2
          have hA := Ha
          split at hA
          · have z2 := un.frzs b _ _ hA
            obtain ⟨g1, _⟩ := hok b _ hA
            obtain ⟨g2, _⟩ := hok' b _ z2
            rw [e] at g1
            cases g1
            exact g2
          · exact un.keep b o e hA (fun z => (List.not_mem_nil z).elim) (by simp)
        · exact un.keep b o e (Hno b nb h2) (fun z => (List.not_mem_nil z).elim) (by simp)
      have more : ∀ p ∈ cs, ∃ m : Array Value, s'.heap.get? p.2 = some { cls := .none, data := .fields m } := by
        intro p hp
        obtain ⟨m, z⟩ := un.tbls p.2 #[] (Htb _ (List.mem_map.mpr ⟨p, hp, rfl⟩))
        exact ⟨_, hok' p.2 _ z⟩
      refine ⟨rfl, ⟨fun b o e => ?_, fun b o e => ?_⟩, os, bare⟩
      · by_cases h1 : b ∈ cs.map (·.2)
        · obtain ⟨p, hp, rfl⟩ := List.mem_map.mp h1
          obtain ⟨m, hm⟩ := more p hp
          rw [Z.tab p hp] at e
          cases e
          exact .inr (.inl ⟨((Z.hd p hp).tab (Z.tab p hp)).isCodeTable, rfl, #[], m, rfl, by rw [Array.empty_append]; exact hm⟩)
        · exact .inl (same b o h1 e)
      · by_cases h1 : b ∈ cs.map (·.2)
        · obtain ⟨p, hp, rfl⟩ := List.mem_map.mp h1
          obtain ⟨m, hm⟩ := more p hp
          exact ⟨_, hm⟩
        · exact ⟨o, same b o h1 e⟩
end
end Sm
set_option Elab.async false
set_option linter.all false
set_option maxRecDepth 100000
set_option maxHeartbeats 0
open PySem PySem.W PySem.Calls PyProof.Rows
theorem PySem.Challenge.cw_sumstead_k01_whole_texts_of_worths_holds : PySem.Challenge.rw_sumstead_k01_whole_texts_of_worths.Holds := by
  w_on; o_law
  refine HandSHeadRun.head_imp (r := OpenLaw.row PySem.Challenge.rw_sumstead_k01_whole_texts_of_worths) (q := view (OpenLaw.row PySem.Challenge.rw_sumstead_k01_whole_texts_of_worths).prog [0, 41]) (H := K1.hk) (ob := K1.ob) (M := 6000) (loose := K1.loose) (d := HandSHeadRun.topDef (OpenLaw.row PySem.Challenge.rw_sumstead_k01_whole_texts_of_worths).prog 41) (kwd := []) K1.ob_eq
    K1.run (by kernel_rfl) (by kernel_rfl) (by kernel_rfl) (by rfl) (by first | assumption | decide +kernel) (by decide +kernel) ⟨rfl, rfl, rfl, rfl, rfl, by decide +kernel⟩ ?hw ?hc
  case hw => w_witness2
  case hc =>
    refine Att.attach_callB (l := PySem.Challenge.rw_sumstead_k01_whole_texts_of_worths) rfl (by kernel_rfl) fun w s₀ s₁ mg mb fa o pm cd doc a vs ns G Y ho hd hcd hmg hobj hints hlen hbits hg => ?_
    obtain ⟨K, KX, c⟩ := Y
    have hmg2 : mg ("law" : PySem.Str) = some (.ref fa) := by
      have e : (HandSHeadRun.topDef (OpenLaw.row PySem.Challenge.rw_sumstead_k01_whole_texts_of_worths).prog 41).name = ("law" : PySem.Str) := by kernel_rfl
      rw [← e]
      exact hmg
    refine Sm.law_gd (T := []) (cs := []) (k := 8) (nm := "law") (x := "_law_script") (S := K1.S_law mg) KX G.T.g G.T.b G.T.builtins G.T.nolimit hg
      ⟨nofun, nofun, nofun, G.T.bmain, nofun⟩ hobj hints (Nat.le_trans hlen (by decide)) ⟨rfl, by decide, by decide⟩ hmg2 (fun base _ _ TB => K1.law_ok (K1.facts KX G.T.g c)) ⟨ns, rfl, hbits, Nat.le_trans hlen (by decide), fun _ => rfl⟩
