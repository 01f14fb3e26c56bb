import PyProof.Rows.All
import Wide.All
import OpenK.AllK
import Wide.FinOn
import HandS.ForMost
import HandS.IsInst
import HandS.Star
import HandS.TupAny
import HandS.TupMul
import HandS.Zip
import HandS.Wide
import HandS.WideBits
import HandS.Deep
import PyProof.P3In
import HandS.Style
import HandS.Ends
import HandS.Gcd
import HandS.DictComp
import HandS.Conv
import HandS.FStr
import HandS.WordsExc
import HandS.TryMany
import HandS.ExcOwn
import HandS.Text
import HandS.Lambda
import HandS.ExcInit
import HandS.ExcValue
import HandS.Flow
import KE.KExcInit
import PyProof.ExcBaseAll.LookupError
import PyProof.ExcBaseAll.IndexError
import HandS.ExcField
import HandS.EndTab
import HandS.ExcIs
import HandS.RaiseMore
import PyProof.ExcBaseAll.OverflowError
import PyProof.ExcBaseAll.ArithmeticError
import PyProof.InstStoreFacts
import PySem.Challenge.RW_fallorflow_k00_whole_classes_of_errors
set_option Elab.async false
set_option linter.all false
set_option maxRecDepth 100000
set_option maxHeartbeats 2000000
/-! data, what shows it, the handles, one step of the heap -/
namespace Mir
open PySem PySem.Spec PyProof.Rows L2

abbrev D := PyData
def kD : Key → D
  | .inl i => .int i
  | .inr x => .str x

mutual
/-- the value v shows the data d in the heap H; what it stands on is never changed -/
inductive Sh (K : PySem.W.Frag) (H : Hp) : V → D → Prop
  | non : Sh K H .non .none
  | bl (b : Bool) : Sh K H (.bl b) (.bool b)
  | int (i : Int) : Sh K H (.int i) (.int i)
  | str (x : Str) : Sh K H (.str x) (.str x)
  | lst {a : Addr} {xs : List V} {ds : List D} : H a = some (.lst xs) → ShA K H xs ds → Sh K H (.ref a) (.list ds)
  | tup {a : Addr} {xs : List V} {ds : List D} : SqT K H a xs → ShA K H xs ds → Sh K H (.ref a) (.tuple ds)
  | dic {a : Addr} {kvs : List (Key × V)} {ds : List (D × D)} : H a = some (.dK kvs) → ShD K H kvs ds → Sh K H (.ref a) (.dict ds)
inductive ShA (K : PySem.W.Frag) (H : Hp) : List V → List D → Prop
  | nil : ShA K H [] []
  | cons {v : V} {vs : List V} {d : D} {ds : List D} : Sh K H v d → ShA K H vs ds → ShA K H (v :: vs) (d :: ds)
inductive ShD (K : PySem.W.Frag) (H : Hp) : List (Key × V) → List (D × D) → Prop
  | nil : ShD K H [] []
  | cons {k : Key} {v : V} {kvs : List (Key × V)} {d : D} {ds : List (D × D)} : Sh K H v d → ShD K H kvs ds → ShD K H ((k, v) :: kvs) ((kD k, d) :: ds)
end

section
variable {K : PySem.W.Frag} {H H' : Hp}
theorem SqT.same {a : Addr} {xs : List V} (e : Same H H') (h : SqT K H a xs) : SqT K H' a xs := by
  rcases h with (h | ⟨o, h⟩) | h
  · exact .inl (.inl (e _ _ h))
  · exact .inl (.inr ⟨o, e _ _ h⟩)
  · exact .inr h
mutual
theorem Sh.mono (e : Same H H') : ∀ {v : V} {d : D}, Sh K H v d → Sh K H' v d
  | _, _, .non => .non
  | _, _, .bl b => .bl b
  | _, _, .int i => .int i
  | _, _, .str x => .str x
  | _, _, .lst h t => .lst (e _ _ h) (ShA.mono e t)
  | _, _, .tup h t => .tup (SqT.same e h) (ShA.mono e t)
  | _, _, .dic h t => .dic (e _ _ h) (ShD.mono e t)
theorem ShA.mono (e : Same H H') : ∀ {vs : List V} {ds : List D}, ShA K H vs ds → ShA K H' vs ds
  | _, _, .nil => .nil
  | _, _, .cons h t => .cons (Sh.mono e h) (ShA.mono e t)
theorem ShD.mono (e : Same H H') : ∀ {vs : List (Key × V)} {ds : List (D × D)}, ShD K H vs ds → ShD K H' vs ds
  | _, _, .nil => .nil
  | _, _, .cons h t => .cons (Sh.mono e h) (ShD.mono e t)
end
theorem ShA.length : ∀ {vs : List V} {ds : List D}, ShA K H vs ds → vs.length = ds.length
  | _, _, .nil => rfl
  | _, _, .cons _ t => congrArg (· + 1) (ShA.length t)
theorem ShA.get : ∀ {vs : List V} {ds : List D} {i : Nat} {d : D}, ShA K H vs ds → ds[i]? = some d → ∃ v, vs[i]? = some v ∧ Sh K H v d
  | _, _, _, _, .nil, e => by simp at e
  | _, _, 0, _, .cons h _, e => by
    simp at e
    subst e
    exact ⟨_, rfl, h⟩
  | _, _, i + 1, d, .cons _ t, e => by
    obtain ⟨v, h1, h2⟩ := ShA.get (i := i) (d := d) t (by simpa using e)
    exact ⟨v, by simpa using h1, h2⟩
theorem ShA.append : ∀ {vs ws : List V} {ds es : List D}, ShA K H vs ds → ShA K H ws es → ShA K H (vs ++ ws) (ds ++ es)
  | _, _, _, _, .nil, s => s
  | _, _, _, _, .cons h t, s => .cons h (ShA.append t s)
theorem ShA.take : ∀ {vs : List V} {ds : List D} (n : Nat), ShA K H vs ds → ShA K H (vs.take n) (ds.take n)
  | _, _, 0, _ => by simpa using ShA.nil
  | _, _, _ + 1, .nil => .nil
  | _, _, n + 1, .cons h t => .cons h (ShA.take n t)
theorem ShA.drop : ∀ {vs : List V} {ds : List D} (n : Nat), ShA K H vs ds → ShA K H (vs.drop n) (ds.drop n)
  | _, _, 0, t => t
  | _, _, _ + 1, .nil => .nil
  | _, _, n + 1, .cons _ t => ShA.drop n t
theorem ShA.set {v : V} {d : D} (h : Sh K H v d) : ∀ {vs : List V} {ds : List D} (i : Nat), ShA K H vs ds → ShA K H (vs.set i v) (ds.set i d)
  | _, _, _, .nil => .nil
  | _, _, 0, .cons _ t => .cons h t
  | _, _, i + 1, .cons q t => .cons q (ShA.set h i t)
theorem ShA.reverse : ∀ {vs : List V} {ds : List D}, ShA K H vs ds → ShA K H vs.reverse ds.reverse
  | _, _, .nil => .nil
  | _, _, .cons h t => by
    rw [List.reverse_cons, List.reverse_cons]
    exact ShA.append (ShA.reverse t) (.cons h .nil)
/-- a list of ints -/
def intsD : List D → Option (List Int)
  | [] => some []
  | .int i :: r => (intsD r).map (i :: ·)
  | _ => none
theorem ShA.ints : ∀ {vs : List V} {ds : List D} {ns : List Int}, ShA K H vs ds → intsD ds = some ns → vs = ns.map V.int
  | _, _, _, .nil, e => by
    cases e
    rfl
  | _, _, ns, .cons h t, e => by
    cases h with
    | int i =>
      unfold intsD at e
      cases q : intsD _ with
      | none =>
        rw [q] at e
        cases e
      | some ms =>
        rw [q] at e
        cases e
        rw [List.map_cons, ← ShA.ints t q]
    | _ => cases e
def boolsD : List D → Option (List Bool)
  | [] => some []
  | .bool i :: r => (boolsD r).map (i :: ·)
  | _ => none
theorem ShA.bools : ∀ {vs : List V} {ds : List D} {ns : List Bool}, ShA K H vs ds → boolsD ds = some ns → vs = ns.map V.bl
  | _, _, _, .nil, e => by
    cases e
    rfl
  | _, _, ns, .cons h t, e => by
    cases h with
    | bl i =>
      unfold boolsD at e
      cases q : boolsD _ with
      | none =>
        rw [q] at e
        cases e
      | some ms =>
        rw [q] at e
        cases e
        rw [List.map_cons, ← ShA.bools t q]
    | _ => cases e
end

/-! ### the handles: lists (and other things) that change -/
/-- what stands in a handle -/
inductive HC where
  | lst (ds : List D)

def hid (O : List Addr) (H : Hp) : Hp := fun b => if b ∈ O then none else H b
theorem hid_some {O : List Addr} {H : Hp} {b : Addr} {o : HO} : hid O H b = some o ↔ b ∉ O ∧ H b = some o := by
  unfold hid
  by_cases h : b ∈ O
  · simp [h]
  · simp [h]
def HcAt (K : PySem.W.Frag) (Hd H : Hp) (a : Addr) : HC → Prop
  | .lst ds => ∃ vs, H a = some (.lst vs) ∧ ShA K Hd vs ds
theorem HcAt.mono {K : PySem.W.Frag} {Hd Hd' H : Hp} {a : Addr} (e : Same Hd Hd') : ∀ {c : HC}, HcAt K Hd H a c → HcAt K Hd' H a c
  | .lst _, ⟨vs, h, t⟩ => ⟨vs, h, t.mono e⟩
theorem HcAt.some {K : PySem.W.Frag} {Hd H : Hp} {a : Addr} : ∀ {c : HC}, HcAt K Hd H a c → H a ≠ none
  | .lst _, ⟨vs, h, t⟩ => by rw [h]; exact fun z => by cases z

/-- the heap holds the handles A with what stands in them; O: what others hold -/
structure Ok (K : PySem.W.Frag) (O A : List Addr) (cs : List HC) (H : Hp) : Prop where
  out : ∀ o ∈ O, H o ≠ none ∧ o ∉ A
  len : A.length = cs.length
  nd : A.Nodup
  «at» : ∀ (k : Nat) (a : Addr) (c : HC), A[k]? = some a → cs[k]? = some c → HcAt K (hid (O ++ A) H) H a c
theorem Ok.tracked {K : PySem.W.Frag} {O A : List Addr} {cs : List HC} {H : Hp} (h : Ok K O A cs H) {a : Addr} (ha : a ∈ A) : H a ≠ none := by
  obtain ⟨k, hk, e⟩ := List.getElem_of_mem ha
  have h1 : A[k]? = some a := by rw [List.getElem?_eq_getElem hk, e]
  have hc : k < cs.length := h.len ▸ hk
  exact (h.at k a _ h1 (List.getElem?_eq_getElem hc)).some

/-- what came between two heaps: new handles behind the old ones; all that is no handle is kept -/
structure Stp (A : List Addr) (H : Hp) (A' : List Addr) (H' : Hp) : Prop where
  ex : ∃ B, A' = A ++ B ∧ ∀ b ∈ B, H b = none
  keep : ∀ b o, b ∉ A → H b = some o → H' b = some o
  live : ∀ a ∈ A, H' a ≠ none
theorem Stp.refl {K : PySem.W.Frag} {O A : List Addr} {cs : List HC} {H : Hp} (h : Ok K O A cs H) : Stp A H A H :=
  ⟨⟨[], by simp, by simp⟩, fun _ _ _ e => e, fun _ ha => h.tracked ha⟩
theorem Stp.fresh {A A' : List Addr} {H H' : Hp} (s : Stp A H A' H') {b : Addr} (h : H' b = none) : H b = none := by
  cases q : H b with
  | none => rfl
  | some o =>
    by_cases hb : b ∈ A
    · exact absurd h (s.live b hb)
    · rw [s.keep b o hb q] at h
      cases h
theorem Stp.trans {A A1 A2 : List Addr} {H H1 H2 : Hp} (a : Stp A H A1 H1) (b : Stp A1 H1 A2 H2) : Stp A H A2 H2 := by
  obtain ⟨⟨B, eB, fB⟩, kA, lA⟩ := id a
  obtain ⟨⟨C, eC, fC⟩, kB, lB⟩ := id b
  refine ⟨⟨B ++ C, by rw [eC, eB, List.append_assoc], fun x hx => ?_⟩, fun x o hx e => ?_, fun x hx => ?_⟩
  · rcases List.mem_append.mp hx with hx | hx
    · exact fB x hx
    · exact a.fresh (fC x hx)
  · refine kB x o (fun z => ?_) (kA x o hx e)
    rw [eB] at z
    rcases List.mem_append.mp z with z | z
    · exact hx z
    · rw [fB x z] at e
      cases e
  · exact lB x (by rw [eB]; exact List.mem_append_left _ hx)
theorem Stp.same {O A A' : List Addr} {H H' : Hp} (s : Stp A H A' H') : Same (hid (O ++ A) H) (hid (O ++ A') H') := by
  obtain ⟨⟨B, eB, fB⟩, kA, lA⟩ := s
  intro b o h
  obtain ⟨hb, e⟩ := hid_some.mp h
  have h1 : b ∉ O := fun z => hb (List.mem_append_left _ z)
  have h2 : b ∉ A := fun z => hb (List.mem_append_right _ z)
  refine hid_some.mpr ⟨fun z => ?_, kA b o h2 e⟩
  rcases List.mem_append.mp z with z | z
  · exact h1 z
  · rw [eB] at z
    rcases List.mem_append.mp z with z | z
    · exact h2 z
    · rw [fB b z] at e
      cases e

/-! ### values and handles -/
/-- what a name, an expression gives: data, or the k-th handle -/
inductive Sl where
  | d (d : D)
  | h (k : Nat)
  /-- a list of ints that is read alone (the script) -/
  | s (ns : List Int)
def ShS (K : PySem.W.Frag) (O A : List Addr) (H : Hp) (v : V) : Sl → Prop
  | .d d => Sh K (hid (O ++ A) H) v d
  | .h k => ∃ a, A[k]? = some a ∧ v = .ref a
  | .s ns => ∃ a, v = .ref a ∧ SqL K (hid (O ++ A) H) a (ns.map V.int)
theorem ShS.step {K : PySem.W.Frag} {O A A' : List Addr} {H H' : Hp} {v : V} (s : Stp A H A' H') : ∀ {sl : Sl}, ShS K O A H v sl → ShS K O A' H' v sl
  | .d _, h => Sh.mono s.same h
  | .s _, ⟨a, e, r⟩ => ⟨a, e, s.same.seq r⟩
  | .h k, ⟨a, e, r⟩ => by
    obtain ⟨⟨B, eB, _⟩, _, _⟩ := s
    refine ⟨a, ?_, r⟩
    obtain ⟨hk, _⟩ := List.getElem?_eq_some_iff.mp e
    rw [eB, List.getElem?_append_left hk]
    exact e
inductive ShSs (K : PySem.W.Frag) (O A : List Addr) (H : Hp) : List V → List Sl → Prop
  | nil : ShSs K O A H [] []
  | cons {v : V} {vs : List V} {d : Sl} {ds : List Sl} : ShS K O A H v d → ShSs K O A H vs ds → ShSs K O A H (v :: vs) (d :: ds)
theorem ShSs.step {K : PySem.W.Frag} {O A A' : List Addr} {H H' : Hp} (s : Stp A H A' H') : ∀ {vs : List V} {sl : List Sl}, ShSs K O A H vs sl → ShSs K O A' H' vs sl
  | _, _, .nil => .nil
  | _, _, .cons h t => .cons (h.step s) (t.step s)
theorem ShSs.length {K : PySem.W.Frag} {O A : List Addr} {H : Hp} : ∀ {vs : List V} {ds : List Sl}, ShSs K O A H vs ds → vs.length = ds.length
  | _, _, .nil => rfl
  | _, _, .cons _ t => congrArg (· + 1) (ShSs.length t)

/-- the names -/
abbrev Rho := List (Option Sl)
def RhoOk (K : PySem.W.Frag) (O A : List Addr) (ρ : Rho) (σ : L2.St) (H : Hp) : Prop :=
  ρ.length = σ.length ∧ ∀ (i : Nat) (sl : Sl), ρ[i]? = some (some sl) → ∃ v, σ[i]? = some (some v) ∧ ShS K O A H v sl
theorem RhoOk.step {K : PySem.W.Frag} {O A A' : List Addr} {ρ : Rho} {σ : L2.St} {H H' : Hp} (r : RhoOk K O A ρ σ H) (s : Stp A H A' H') : RhoOk K O A' ρ σ H' :=
  ⟨r.1, fun i sl e => by
    obtain ⟨v, h1, h2⟩ := r.2 i sl e
    exact ⟨v, h1, h2.step s⟩⟩
theorem RhoOk.set {K : PySem.W.Frag} {O A : List Addr} {ρ : Rho} {σ : L2.St} {H : Hp} (r : RhoOk K O A ρ σ H) {i : Nat} {v : V} {sl : Sl} (h : ShS K O A H v sl) : RhoOk K O A (ρ.set i (some sl)) (σ.set i (some v)) H := by
  refine ⟨by rw [List.length_set, List.length_set]; exact r.1, fun j sl' e => ?_⟩
  by_cases hj : i = j
  · subst hj
    rw [List.getElem?_set] at e
    simp only [if_true] at e
    split at e
    · rename_i hi
      cases e
      refine ⟨v, ?_, h⟩
      rw [List.getElem?_set]
      simp [r.1 ▸ hi]
    · cases e
  · rw [List.getElem?_set_ne hj] at e
    obtain ⟨w, h1, h2⟩ := r.2 j sl' e
    exact ⟨w, by rw [List.getElem?_set_ne hj]; exact h1, h2⟩

/-! ### results -/
/-- an exception: its class's name, what it keeps -/
structure Ex where
  cls : Str
  arg : Option D
inductive Res (α : Type) where
  | ok (a : α) (cs : List HC)
  | exc (x : Ex) (cs : List HC)
  | bad
abbrev M (α : Type) := List HC → Res α
def Res.bind {α β : Type} (r : Res α) (f : α → M β) : Res β := match r with
  | .ok a cs => f a cs
  | .exc x cs => .exc x cs
  | .bad => .bad
/-- what an exception that a def lets out looks like: told by the program -/
abbrev XR := Ex → Value → Option Addr → Hp → Prop
/-- the ways out of a piece of code -/
def PostX (K : PySem.W.Frag) (R : XR) (O A : List Addr) (H : Hp) {α : Type} (E : XK) (S : α → List HC → Prop) : Res α → Prop
  | .ok a cs => S a cs
  | .exc x cs => ∀ A' H' cls dx, Stp A H A' H' → Ok K O A' cs H' → R x cls dx (hid (O ++ A') H') → E cls dx H'
  | .bad => False
def Post (K : PySem.W.Frag) (R : XR) (O A : List Addr) (H : Hp) (Q : VK) (E : XK) : Res Sl → Prop :=
  PostX K R O A H E fun sl cs => ∀ v A' H', Stp A H A' H' → Ok K O A' cs H' → ShS K O A' H' v sl → Q v H'
def PostB (K : PySem.W.Frag) (R : XR) (O A : List Addr) (H : Hp) (Q : Bool → Hp → Prop) (E : XK) : Res Bool → Prop :=
  PostX K R O A H E fun b cs => ∀ A' H', Stp A H A' H' → Ok K O A' cs H' → Q b H'
def PostA (K : PySem.W.Frag) (R : XR) (O A : List Addr) (H : Hp) (Q : List V → Hp → Prop) (E : XK) : Res (List Sl) → Prop :=
  PostX K R O A H E fun sls cs => ∀ vs A' H', Stp A H A' H' → Ok K O A' cs H' → ShSs K O A' H' vs sls → Q vs H'
/-- a new list: a handle behind the others -/
def PostL (K : PySem.W.Frag) (R : XR) (O A : List Addr) (H : Hp) (Q : VK) (E : XK) : Res (List D) → Prop :=
  PostX K R O A H E fun ds cs => ∀ p A' H', Stp A H A' H' → Stp A H (A' ++ [p]) H' → Ok K O (A' ++ [p]) (cs ++ [.lst ds]) H' → Q (.ref p) H'
theorem PostX.step {K : PySem.W.Frag} {R : XR} {O A A1 : List Addr} {H H1 : Hp} {α : Type} {E : XK} {S S1 : α → List HC → Prop} (s : Stp A H A1 H1) (hS : ∀ a cs, S a cs → S1 a cs) : ∀ {r : Res α}, PostX K R O A H E S r → PostX K R O A1 H1 E S1 r
  | .ok a cs, h => hS a cs h
  | .exc x cs, h => fun A' H' cls dx s' ok r => h A' H' cls dx (s.trans s') ok r
  | .bad, h => h
theorem PostX.bind {K : PySem.W.Frag} {R : XR} {O A : List Addr} {H : Hp} {α β : Type} {E : XK} {S : β → List HC → Prop} {f : α → M β} {r : Res α} (h : PostX K R O A H E S (r.bind f)) :
    PostX K R O A H E (fun a cs => PostX K R O A H E S (f a cs)) r := by
  cases r with
  | ok a cs => exact h
  | exc x cs => exact h
  | bad => exact h

/-! ### the judgements -/
structure EM (X : Cx) (R : XR) (E : XK) (e : Expr) (m : Rho → M Sl) : Prop where
  ex : ∃ t, PE X e t ∧ ∀ O A ρ cs σ H, Ok X.K O A cs H → RhoOk X.K O A ρ σ H → ∀ Q, Post X.K R O A H Q E (m ρ cs) → t σ H Q
structure TM (X : Cx) (R : XR) (E : XK) (e : Expr) (m : Rho → M Bool) : Prop where
  ex : ∃ t, PT X e t ∧ ∀ O A ρ cs σ H, Ok X.K O A cs H → RhoOk X.K O A ρ σ H → ∀ Q, PostB X.K R O A H Q E (m ρ cs) → t σ H Q
structure WM (X : Cx) (R : XR) (E : XK) (e : Expr) (m : Rho → M Bool) : Prop where
  ex : ∃ t, PW X e t ∧ ∀ O A ρ cs σ H, Ok X.K O A cs H → RhoOk X.K O A ρ σ H → ∀ Q, PostB X.K R O A H Q E (m ρ cs) → t σ H Q
structure AM (X : Cx) (R : XR) (E : XK) (es : List Expr) (m : Rho → M (List Sl)) : Prop where
  ex : ∃ t, PA X es t ∧ ∀ O A ρ cs σ H, Ok X.K O A cs H → RhoOk X.K O A ρ σ H → ∀ Q, PostA X.K R O A H Q E (m ρ cs) → t σ H Q
structure LM (X : Cx) (R : XR) (E : XK) (e : Expr) (m : Rho → M (List D)) : Prop where
  ex : ∃ t, PE X e t ∧ ∀ O A ρ cs σ H, Ok X.K O A cs H → RhoOk X.K O A ρ σ H → ∀ Q, PostL X.K R O A H Q E (m ρ cs) → t σ H Q
/-- statements -/
inductive Fl where
  | nx (ρ : Rho)
  | rt (sl : Sl)
  | bk (ρ : Rho)
  | ct (ρ : Rho)
def PostS (K : PySem.W.Frag) (R : XR) (O A : List Addr) (H : Hp) (De : Ends) (E : XK) : Res Fl → Prop :=
  PostX K R O A H E fun f cs => match f with
    | .nx ρ => ∀ σ' A' H', Stp A H A' H' → Ok K O A' cs H' → RhoOk K O A' ρ σ' H' → De.nx σ' H'
    | .rt sl => ∀ v A' H', Stp A H A' H' → Ok K O A' cs H' → ShS K O A' H' v sl → De.rt v H'
    | .bk ρ => ∀ σ' A' H', Stp A H A' H' → Ok K O A' cs H' → RhoOk K O A' ρ σ' H' → De.bk σ' H'
    | .ct ρ => ∀ σ' A' H', Stp A H A' H' → Ok K O A' cs H' → RhoOk K O A' ρ σ' H' → De.ct σ' H'
structure SM (X : Cx) (R : XR) (E : XK) (st : Stmt) (m : Rho → M Fl) : Prop where
  ex : ∃ t, PS X st t ∧ ∀ O A ρ cs σ H, Ok X.K O A cs H → RhoOk X.K O A ρ σ H → ∀ De, PostS X.K R O A H De E (m ρ cs) → t De σ H
structure BM (X : Cx) (R : XR) (E : XK) (st : List Stmt) (m : Rho → M Fl) : Prop where
  ex : ∃ t, PSs X st t ∧ ∀ O A ρ cs σ H, Ok X.K O A cs H → RhoOk X.K O A ρ σ H → ∀ De, PostS X.K R O A H De E (m ρ cs) → t De σ H
end Mir
set_option maxHeartbeats 2000000
/-! expressions without calls of the program's own -/
namespace Mir
open PySem PySem.Spec PyProof.Rows L2

def SL : Nat := 16777216
theorem SL_eq : SL = sizeLine := sizeLine_eq.symm

section
variable {K : PySem.W.Frag} {R : XR} {O A : List Addr} {cs : List HC} {H : Hp} {Q : VK} {E : XK}
theorem hid_same : Same (hid O H) H := fun b o h => (hid_some.mp h).2
theorem Post.ret {sl : Sl} {v : V} (ok : Ok K O A cs H) (h : Post K R O A H Q E (.ok sl cs)) (r : ShS K O A H v sl) : Q v H := h v A H (Stp.refl ok) ok r
/-- a new object -/
theorem Ok.ne {p : Addr} (ok : Ok K O A cs H) (hp : H p = none) : p ∉ O ++ A := fun z => by
  rcases List.mem_append.mp z with z | z
  · exact (ok.out p z).1 hp
  · exact ok.tracked z hp
theorem Stp.new {p : Addr} {o : HO} (ok : Ok K O A cs H) (hp : H p = none) : Stp A H A (upd H p o) :=
  ⟨⟨[], by simp, by simp⟩, fun b u _ e => by rw [upd_ne (ne_of_none e hp)]; exact e, fun a ha => by
    have h := ok.tracked ha
    by_cases e : a = p
    · subst e
      exact absurd hp h
    · rw [upd_ne e]
      exact h⟩
theorem HcAt.at {Hd H H' : Hp} {a : Addr} (e : H' a = H a) : ∀ {c : HC}, HcAt K Hd H a c → HcAt K Hd H' a c
  | .lst _, ⟨vs, h, t⟩ => ⟨vs, by rw [e]; exact h, t⟩
theorem Ok.new {p : Addr} {o : HO} (ok : Ok K O A cs H) (hp : H p = none) : Ok K O A cs (upd H p o) := by
  have hs := (Stp.new (o := o) ok hp).same (O := O)
  refine ⟨fun x hx => ⟨?_, (ok.out x hx).2⟩, ok.len, ok.nd, fun k a c e1 e2 => ?_⟩
  · have h := (ok.out x hx).1
    by_cases e : x = p
    · subst e
      exact absurd hp h
    · rw [upd_ne e]
      exact h
  · have h := ok.at k a c e1 e2
    have ha : a ≠ p := fun z => h.some (z ▸ hp)
    exact HcAt.at (upd_ne ha) (h.mono hs)
/-- a new tuple is handed back -/
theorem Post.tup {ds : List D} {vs : List V} {p : Addr} (ok : Ok K O A cs H) (h : Post K R O A H Q E (.ok (.d (.tuple ds)) cs)) (hs : ShA K (hid (O ++ A) H) vs ds) (hp : H p = none) : Q (.ref p) (upd H p (.tup vs)) := by
  have st := Stp.new (o := .tup vs) ok hp
  refine h _ A _ st (ok.new hp) (.tup (.inl (.inl ?_)) (hs.mono st.same))
  exact hid_some.mpr ⟨ok.ne hp, upd_same⟩
theorem Post.lst {ds : List D} {vs : List V} {p : Addr} (ok : Ok K O A cs H) (h : Post K R O A H Q E (.ok (.d (.list ds)) cs)) (hs : ShA K (hid (O ++ A) H) vs ds) (hp : H p = none) : Q (.ref p) (upd H p (.lst vs)) := by
  have st := Stp.new (o := .lst vs) ok hp
  refine h _ A _ st (ok.new hp) (.lst ?_ (hs.mono st.same))
  exact hid_some.mpr ⟨ok.ne hp, upd_same⟩
theorem Stp.push {p : Addr} {o : HO} (ok : Ok K O A cs H) (hp : H p = none) : Stp A H (A ++ [p]) (upd H p o) := by
  have st := Stp.new (o := o) ok hp
  exact ⟨⟨[p], rfl, fun b hb => by
    have e : b = p := by simpa using hb
    rw [e]
    exact hp⟩, st.keep, st.live⟩
theorem Ok.push {p : Addr} {ds : List D} {vs : List V} (ok : Ok K O A cs H) (hs : ShA K (hid (O ++ A) H) vs ds) (hp : H p = none) : Ok K O (A ++ [p]) (cs ++ [.lst ds]) (upd H p (.lst vs)) := by
  have st := Stp.push (o := .lst vs) ok hp
  have hn := ok.ne hp
  have ok' := ok.new (o := .lst vs) hp
  refine ⟨fun x hx => ⟨(ok'.out x hx).1, fun z => ?_⟩, by rw [List.length_append, List.length_append, ok.len]; rfl, ?_, fun k a c e1 e2 => ?_⟩
  · rcases List.mem_append.mp z with z | z
    · exact (ok.out x hx).2 z
    · have e : x = p := by simpa using z
      subst e
      exact hn (List.mem_append_left _ hx)
  · refine List.nodup_append.mpr ⟨ok.nd, by simp, fun x hx y hy => ?_⟩
    have e : y = p := by simpa using hy
    subst e
    rintro rfl
    exact hn (List.mem_append_right _ hx)
  · by_cases hk : k < A.length
    · rw [List.getElem?_append_left hk] at e1
      rw [List.getElem?_append_left (ok.len ▸ hk)] at e2
      have h := ok.at k a c e1 e2
      have ha : a ≠ p := fun z => h.some (z ▸ hp)
      exact HcAt.at (upd_ne ha) (h.mono st.same)
    · rw [List.getElem?_append_right (by omega)] at e1
      rw [List.getElem?_append_right (by rw [← ok.len]; omega)] at e2
      have hk0 : k - A.length = 0 := by
        have := (List.getElem?_eq_some_iff.mp e1).1
        simp at this
        omega
      rw [← ok.len] at e2
      rw [hk0] at e1 e2
      cases e1
      cases e2
      exact ⟨vs, upd_same, hs.mono st.same⟩
theorem PostL.new {ds : List D} {vs : List V} {p : Addr} (ok : Ok K O A cs H) (h : PostL K R O A H Q E (.ok ds cs)) (hs : ShA K (hid (O ++ A) H) vs ds) (hp : H p = none) : Q (.ref p) (upd H p (.lst vs)) :=
  h p A _ (Stp.new ok hp) (Stp.push ok hp) (ok.push hs hp)
theorem postL_step {A1 : List Addr} {H1 : Hp} (s : Stp A H A1 H1) {r : Res (List D)} (h : PostL K R O A H Q E r) : PostL K R O A1 H1 Q E r :=
  PostX.step s (fun ds cs q p A' H' s' s'' => q p A' H' (s.trans s') (s.trans s'')) h
theorem post_step {A1 : List Addr} {H1 : Hp} (s : Stp A H A1 H1) {r : Res Sl} (h : Post K R O A H Q E r) : Post K R O A1 H1 Q E r :=
  PostX.step s (fun ds cs q v A' H' s' => q v A' H' (s.trans s')) h
/-- the last handle given up: its list is data -/
theorem Ok.pop {p : Addr} {ds : List D} (ok : Ok K O (A ++ [p]) (cs ++ [.lst ds]) H) : Ok K O A cs H ∧ Sh K (hid (O ++ A) H) (.ref p) (.list ds) := by
  have less : Same (hid (O ++ (A ++ [p])) H) (hid (O ++ A) H) := by
    intro b o h
    obtain ⟨hb, e⟩ := hid_some.mp h
    refine hid_some.mpr ⟨fun z => hb ?_, e⟩
    rcases List.mem_append.mp z with z | z
    · exact List.mem_append_left _ z
    · exact List.mem_append_right _ (List.mem_append_left _ z)
  have hl : A.length = cs.length := by
    have := ok.len
    simp at this
    exact this
  have nd := List.nodup_append.mp ok.nd
  refine ⟨⟨fun x hx => ⟨(ok.out x hx).1, fun z => (ok.out x hx).2 (List.mem_append_left _ z)⟩, hl, nd.1, fun k a c e1 e2 => ?_⟩, ?_⟩
  · refine (ok.at k a c ?_ ?_).mono less
    · rw [List.getElem?_append_left (List.getElem?_eq_some_iff.mp e1).1]
      exact e1
    · rw [List.getElem?_append_left (List.getElem?_eq_some_iff.mp e2).1]
      exact e2
  · obtain ⟨vs, h, t⟩ := ok.at A.length p (.lst ds) (by simp) (by rw [hl]; simp)
    refine .lst (hid_some.mpr ⟨fun z => ?_, h⟩) (t.mono less)
    rcases List.mem_append.mp z with z | z
    · exact (ok.out p z).2 (by simp)
    · exact nd.2.2 p z p (by simp) rfl
end

/-! ### a list as it stands, data or handle -/
def viewL : Sl → List HC → Option (List D)
  | .d (.list ds), _ => some ds
  | .h k, cs => match cs[k]? with
    | some (.lst ds) => some ds
    | none => none
  | .s ns, _ => some (ns.map PyData.int)
  | _, _ => none
/-- .. a list that is tracked -/
def viewT : Sl → List HC → Option (List D)
  | .d (.list ds), _ => some ds
  | .h k, cs => match cs[k]? with
    | some (.lst ds) => some ds
    | none => none
  | _, _ => none
theorem ShA.ofInts {K : PySem.W.Frag} {H : Hp} : ∀ ns : List Int, ShA K H (ns.map V.int) (ns.map PyData.int)
  | [] => .nil
  | n :: r => .cons (.int n) (ShA.ofInts r)
section
variable {K : PySem.W.Frag} {O A : List Addr} {cs : List HC} {H : Hp} {v : V} {sl : Sl} {ds : List D}
theorem Ok.hc (ok : Ok K O A cs H) {k : Nat} {a : Addr} (e : A[k]? = some a) : ∃ c, cs[k]? = some c ∧ HcAt K (hid (O ++ A) H) H a c := by
  obtain ⟨hk, _⟩ := List.getElem?_eq_some_iff.mp e
  have hc : k < cs.length := ok.len ▸ hk
  exact ⟨_, List.getElem?_eq_getElem hc, ok.at k a _ e (List.getElem?_eq_getElem hc)⟩
theorem view_l (ok : Ok K O A cs H) (s : ShS K O A H v sl) (e : viewL sl cs = some ds) : ∃ a vs, v = .ref a ∧ SqL K H a vs ∧ ShA K (hid (O ++ A) H) vs ds := by
  cases sl with
  | d d =>
    cases d with
    | list xs =>
      cases e
      cases s with
      | lst h t => exact ⟨_, _, rfl, .inl (.inl (hid_same _ _ h)), t⟩
    | _ => cases e
  | h k =>
    obtain ⟨a, ea, rfl⟩ := s
    obtain ⟨c, ec, hc⟩ := ok.hc ea
    simp only [viewL, ec] at e
    cases c with
    | lst xs =>
      cases e
      obtain ⟨vs, h, t⟩ := hc
      exact ⟨a, vs, rfl, .inl (.inl h), t⟩
  | s ns =>
    cases e
    obtain ⟨a, rfl, h⟩ := s
    exact ⟨a, _, rfl, hid_same.seq h, ShA.ofInts ns⟩
theorem view_t (ok : Ok K O A cs H) (s : ShS K O A H v sl) (e : viewT sl cs = some ds) : ∃ a vs, v = .ref a ∧ H a = some (.lst vs) ∧ ShA K (hid (O ++ A) H) vs ds := by
  cases sl with
  | d d =>
    cases d with
    | list xs =>
      cases e
      cases s with
      | lst h t => exact ⟨_, _, rfl, hid_same _ _ h, t⟩
    | _ => cases e
  | h k =>
    obtain ⟨a, ea, rfl⟩ := s
    obtain ⟨c, ec, hc⟩ := ok.hc ea
    simp only [viewT, ec] at e
    cases c with
    | lst xs =>
      cases e
      obtain ⟨vs, h, t⟩ := hc
      exact ⟨a, vs, rfl, h, t⟩
  | s ns => cases e
theorem sh_tup (s : Sh K (hid (O ++ A) H) v (.tuple ds)) : ∃ a vs, v = .ref a ∧ SqT K H a vs ∧ ShA K (hid (O ++ A) H) vs ds := by
  cases s with
  | tup h t => exact ⟨_, _, rfl, SqT.same hid_same h, t⟩
end

/-! ### names, constants -/
def mVar (i : Nat) : Rho → M Sl := fun ρ cs => match ρ[i]? with
  | some (some sl) => .ok sl cs
  | _ => .bad
def mC (d : D) : Rho → M Sl := fun _ cs => .ok (.d d) cs
section
variable {X : Cx} {R : XR} {E : XK} {pos : Pos}
theorem em_of {e : Expr} {m : Rho → M Sl} {t : TE} (h : PE X e t) (k : ∀ O A ρ cs σ H, Ok X.K O A cs H → RhoOk X.K O A ρ σ H → ∀ Q, Post X.K R O A H Q E (m ρ cs) → t σ H Q) : EM X R E e m := ⟨t, h, k⟩
theorem em_var (i : Nat) {x : Str} (hN : X.N[i]? = some x := by rfl) (hv : Vis X.env.scope x := by first | exact Or.inl rfl | exact Or.inr (Or.inl rfl) | exact Or.inr (Or.inr rfl)) (hd : (x == ("__debug__" : Str)) = false := by decide)
    (hcd : (x == ("__classdict__" : Str)) = false := by decide) : EM X R E (.Name x pos) (mVar i) :=
  em_of (pe_var hN hv hd hcd) fun O A ρ cs σ H ok rk Q h => by
    unfold mVar at h
    split at h
    · rename_i sl e
      obtain ⟨v, e1, e2⟩ := rk.2 i sl e
      exact ⟨v, e1, Post.ret ok h e2⟩
    · exact h.elim
theorem em_int {i : Int} {j : Nat} : EM X R E (.Constant (.int i) j pos) (mC (.int i)) := em_of pe_int fun O A ρ cs σ H ok rk Q h => Post.ret ok h (.int i)
theorem em_bl {b : Bool} {j : Nat} : EM X R E (.Constant (.bool b) j pos) (mC (.bool b)) := em_of pe_bl fun O A ρ cs σ H ok rk Q h => Post.ret ok h (.bl b)
theorem em_non {j : Nat} : EM X R E (.Constant .none j pos) (mC .none) := em_of pe_non fun O A ρ cs σ H ok rk Q h => Post.ret ok h .non
theorem em_str {x : Str} {j : Nat} : EM X R E (.Constant (.str x) j pos) (mC (.str x)) := em_of pe_str fun O A ρ cs σ H ok rk Q h => Post.ret ok h (.str x)
/-- a module's int -/
theorem em_globI {x : Str} {i : Int} (hg : Gl X x) (hm : ∃ t, X.mg x = some (.int i t)) (hd : (x == ("__debug__" : Str)) = false := by decide) : EM X R E (.Name x pos) (mC (.int i)) := by
  obtain ⟨t, hm⟩ := hm
  exact em_of (pe_glob (v := .int i) hg hm ⟨t, rfl⟩ hd) fun O A ρ cs σ H ok rk Q h => Post.ret ok h (.int i)
end

/-! ### operators -/
structure OpM (X : Cx) (R : XR) (E : XK) (f : Value → Value → Sem Value) (o : Sl → Sl → M Sl) : Prop where
  ex : ∃ r, OpR X f r ∧ ∀ O A cs H x y sx sy, Ok X.K O A cs H → ShS X.K O A H x sx → ShS X.K O A H y sy → ∀ Q, Post X.K R O A H Q E (o sx sy cs) → r x y H Q
def mBin (o : Sl → Sl → M Sl) (ma mb : Rho → M Sl) : Rho → M Sl := fun ρ cs => (ma ρ cs).bind fun x cs1 => (mb ρ cs1).bind fun y cs2 => o x y cs2
section
variable {X : Cx} {R : XR} {E : XK} {pos : Pos} {a b c : Expr} {ma mb mc : Rho → M Sl} {o o' : Sl → Sl → M Sl}
/-- two readings, one behind the other -/
theorem two {ta tb : TE} {O A : List Addr} {ρ : Rho} {cs : List HC} {σ : L2.St} {H : Hp} (ka : ∀ O A ρ cs σ H, Ok X.K O A cs H → RhoOk X.K O A ρ σ H → ∀ Q, Post X.K R O A H Q E (ma ρ cs) → ta σ H Q)
    (kb : ∀ O A ρ cs σ H, Ok X.K O A cs H → RhoOk X.K O A ρ σ H → ∀ Q, Post X.K R O A H Q E (mb ρ cs) → tb σ H Q) (ok : Ok X.K O A cs H) (rk : RhoOk X.K O A ρ σ H) {S : Sl → Sl → List HC → Prop} {W : V → V → Hp → Prop}
    (h : PostX X.K R O A H E (fun x cs1 => PostX X.K R O A H E (fun y cs2 => S x y cs2) (mb ρ cs1)) (ma ρ cs))
    (hS : ∀ x y sx sy A2 cs2 H2, Stp A H A2 H2 → Ok X.K O A2 cs2 H2 → ShS X.K O A2 H2 x sx → ShS X.K O A2 H2 y sy → S sx sy cs2 → W x y H2) : ta σ H fun x H1 => tb σ H1 fun y H2 => W x y H2 := by
  refine ka O A ρ cs σ H ok rk _ (h.step (Stp.refl ok) fun sx cs1 h1 x A1 H1 s1 ok1 r1 => ?_)
  refine kb O A1 ρ cs1 σ H1 ok1 (rk.step s1) _ (h1.step s1 fun sy cs2 h2 y A2 H2 s2 ok2 r2 => ?_)
  exact hS x y sx sy A2 cs2 H2 (s1.trans s2) ok2 (r1.step s2) r2 h2
theorem em_bin {op : Operator} (ho : OpM X R E (binaryOp op) o) (ha : EM X R E a ma) (hb : EM X R E b mb) : EM X R E (.BinOp a op b pos) (mBin o ma mb) := by
  obtain ⟨r, hr, kr⟩ := ho
  obtain ⟨ta, pa, ka⟩ := ha
  obtain ⟨tb, pb, kb⟩ := hb
  refine em_of (pe_op hr pa pb) fun O A ρ cs σ H ok rk Q h => ?_
  refine two ka kb ok rk (S := fun x y cs2 => Post X.K R O A H Q E (o x y cs2)) ((PostX.bind h).step (Stp.refl ok) fun x cs1 h1 => PostX.bind h1) fun x y sx sy A2 cs2 H2 s ok2 r1 r2 hS => ?_
  exact kr O A2 cs2 H2 x y sx sy ok2 r1 r2 Q (hS.step s fun sl cs3 q v A' H' s' => q v A' H' (s.trans s'))
theorem em_cmp {op : CmpOp} (ho : OpM X R E (compareOp op) o) (ha : EM X R E a ma) (hb : EM X R E b mb) (hm : behindInMarks op b = false := by first | exact nomark _ | with_unfolding_all rfl) : EM X R E (.Compare a [op] [b] pos) (mBin o ma mb) := by
  obtain ⟨r, hr, kr⟩ := ho
  obtain ⟨ta, pa, ka⟩ := ha
  obtain ⟨tb, pb, kb⟩ := hb
  refine em_of (pe_cmpR hr pa pb hm) fun O A ρ cs σ H ok rk Q h => ?_
  refine two ka kb ok rk (S := fun x y cs2 => Post X.K R O A H Q E (o x y cs2)) ((PostX.bind h).step (Stp.refl ok) fun x cs1 h1 => PostX.bind h1) fun x y sx sy A2 cs2 H2 s ok2 r1 r2 hS => ?_
  exact kr O A2 cs2 H2 x y sx sy ok2 r1 r2 Q (hS.step s fun sl cs3 q v A' H' s' => q v A' H' (s.trans s'))
/-- a value that is a bool -/
def toB : Sl → M Bool
  | .d (.bool b), cs => .ok b cs
  | _, _ => .bad
def mTest (m : Rho → M Sl) : Rho → M Bool := fun ρ cs => (m ρ cs).bind toB
theorem toB_ok {K : PySem.W.Frag} {O A : List Addr} {H : Hp} {v : V} {sl : Sl} {cs : List HC} {S : Bool → List HC → Prop} {R : XR} (r : ShS K O A H v sl) {A0 : List Addr} {H0 : Hp} (h : PostX K R O A0 H0 E S (toB sl cs)) : ∃ b, v = .bl b ∧ S b cs := by
  cases sl with
  | d d =>
    cases d with
    | bool b =>
      cases r
      exact ⟨b, rfl, h⟩
    | _ => exact h.elim
  | h k => exact h.elim
  | s ns => exact h.elim
theorem tm_val (h : EM X R E a ma) (he : ∀ whole, isTrue a X.env whole = (do let v ← whole; standAt a.pos; holding [v] (truthy v)) := by intro _; rfl) : TM X R E a (mTest ma) := by
  obtain ⟨ta, pa, ka⟩ := h
  refine ⟨tB ta, pt_val pa he, fun O A ρ cs σ H ok rk Q h => ?_⟩
  refine ka O A ρ cs σ H ok rk _ ((PostX.bind h).step (Stp.refl ok) fun sx cs1 h1 x A1 H1 s1 ok1 r1 => ?_)
  obtain ⟨b, e, q⟩ := toB_ok r1 h1
  exact ⟨b, e, q A1 H1 s1 ok1⟩
theorem tm_cmp {op : CmpOp} (ho : OpM X R E (compareOp op) o) (ha : EM X R E a ma) (hb : EM X R E b mb) (hm : behindInMarks op b = false := by first | exact nomark _ | with_unfolding_all rfl) : TM X R E (.Compare a [op] [b] pos) (mTest (mBin o ma mb)) := by
  obtain ⟨r, hr, kr⟩ := ho
  obtain ⟨ta, pa, ka⟩ := ha
  obtain ⟨tb, pb, kb⟩ := hb
  refine ⟨_, pt_cmpR hr pa pb hm, fun O A ρ cs σ H ok rk Q h => ?_⟩
  have h' := PostX.bind h
  refine two ka kb ok rk (S := fun x y cs2 => PostX X.K R O A H E (fun sl cs3 => PostB X.K R O A H Q E (toB sl cs3)) (o x y cs2)) ((PostX.bind h').step (Stp.refl ok) fun x cs1 h1 => PostX.bind h1) fun x y sx sy A2 cs2 H2 s ok2 r1 r2 hS => ?_
  refine kr O A2 cs2 H2 x y sx sy ok2 r1 r2 _ (hS.step s fun sl cs3 q v A' H' s' ok' r' => ?_)
  obtain ⟨b, e, q'⟩ := toB_ok r' q
  exact ⟨b, e, q' A' H' (s.trans s') ok'⟩
/-- a op b op' c -/
def mChain (o o' : Sl → Sl → M Sl) (ma mb mc : Rho → M Sl) : Rho → M Sl := fun ρ cs => (ma ρ cs).bind fun x cs1 => (mb ρ cs1).bind fun y cs2 => (o x y cs2).bind fun z cs3 => (toB z cs3).bind fun k cs4 =>
  if k = true then (mc ρ cs4).bind fun w cs5 => o' y w cs5 else .ok (.d (.bool false)) cs4
theorem chain_run {op op' : CmpOp} {ta tb tc : TE} {r r' : R2} {O A : List Addr} {ρ : Rho} {cs : List HC} {σ : L2.St} {H : Hp}
    (ka : ∀ O A ρ cs σ H, Ok X.K O A cs H → RhoOk X.K O A ρ σ H → ∀ Q, Post X.K R O A H Q E (ma ρ cs) → ta σ H Q)
    (kb : ∀ O A ρ cs σ H, Ok X.K O A cs H → RhoOk X.K O A ρ σ H → ∀ Q, Post X.K R O A H Q E (mb ρ cs) → tb σ H Q)
    (kc : ∀ O A ρ cs σ H, Ok X.K O A cs H → RhoOk X.K O A ρ σ H → ∀ Q, Post X.K R O A H Q E (mc ρ cs) → tc σ H Q)
    (kr : ∀ O A cs H x y sx sy, Ok X.K O A cs H → ShS X.K O A H x sx → ShS X.K O A H y sy → ∀ Q, Post X.K R O A H Q E (o sx sy cs) → r x y H Q)
    (kr' : ∀ O A cs H x y sx sy, Ok X.K O A cs H → ShS X.K O A H x sx → ShS X.K O A H y sy → ∀ Q, Post X.K R O A H Q E (o' sx sy cs) → r' x y H Q)
    (ok : Ok X.K O A cs H) (rk : RhoOk X.K O A ρ σ H) {Q : VK} (h : Post X.K R O A H Q E (mChain o o' ma mb mc ρ cs)) : tChain r r' ta tb tc σ H Q := by
  refine two ka kb ok rk (S := fun x y cs2 => Post X.K R O A H Q E ((o x y cs2).bind fun z cs3 => (toB z cs3).bind fun k cs4 => if k = true then (mc ρ cs4).bind fun w cs5 => o' y w cs5 else .ok (.d (.bool false)) cs4))
    ((PostX.bind h).step (Stp.refl ok) fun x cs1 h1 => PostX.bind h1) fun x y sx sy A2 cs2 H2 s ok2 r1 r2 hS => ?_
  refine kr O A2 cs2 H2 x y sx sy ok2 r1 r2 _ ((PostX.bind hS).step s fun z cs3 q v A3 H3 s3 ok3 r3 => ?_)
  obtain ⟨k, e, q'⟩ := toB_ok r3 (PostX.bind q)
  refine ⟨k, e, ?_⟩
  cases k with
  | false =>
    rw [if_neg Bool.false_ne_true] at q' ⊢
    exact q' _ A3 H3 (s.trans s3) ok3 (.bl false)
  | true =>
    rw [if_pos rfl] at q' ⊢
    refine kc O A3 ρ cs3 σ H3 ok3 (rk.step (s.trans s3)) _ ((PostX.bind q').step (s.trans s3) fun sw cs5 q5 w A5 H5 s5 ok5 r5 => ?_)
    exact kr' O A5 cs5 H5 y w sy sw ok5 (r2.step (s3.trans s5)) r5 Q (q5.step ((s.trans s3).trans s5) fun sl cs6 q6 v' A' H' s' => q6 v' A' H' (((s.trans s3).trans s5).trans s'))
theorem em_chain {op op' : CmpOp} (ho : OpM X R E (compareOp op) o) (ho' : OpM X R E (compareOp op') o') (ha : EM X R E a ma) (hb : EM X R E b mb) (hc : EM X R E c mc) (hm : lastMarks [op, op'] [b, c] = false := by with_unfolding_all rfl) :
    EM X R E (.Compare a [op, op'] [b, c] pos) (mChain o o' ma mb mc) := by
  obtain ⟨r, hr, kr⟩ := ho
  obtain ⟨r', hr', kr'⟩ := ho'
  obtain ⟨ta, pa, ka⟩ := ha
  obtain ⟨tb, pb, kb⟩ := hb
  obtain ⟨tc, pc, kc⟩ := hc
  exact em_of (pe_chain hr hr' pa pb pc hm) fun O A ρ cs σ H ok rk Q h => chain_run (op := op) (op' := op') ka kb kc kr kr' ok rk h
theorem tm_chain {op op' : CmpOp} (ho : OpM X R E (compareOp op) o) (ho' : OpM X R E (compareOp op') o') (ha : EM X R E a ma) (hb : EM X R E b mb) (hc : EM X R E c mc) (hm : lastMarks [op, op'] [b, c] = false := by with_unfolding_all rfl) :
    TM X R E (.Compare a [op, op'] [b, c] pos) (mTest (mChain o o' ma mb mc)) := by
  obtain ⟨r, hr, kr⟩ := ho
  obtain ⟨r', hr', kr'⟩ := ho'
  obtain ⟨ta, pa, ka⟩ := ha
  obtain ⟨tb, pb, kb⟩ := hb
  obtain ⟨tc, pc, kc⟩ := hc
  refine ⟨_, pt_chain hr hr' pa pb pc hm, fun O A ρ cs σ H ok rk Q h => ?_⟩
  refine chain_run (op := op) (op' := op') ka kb kc kr kr' ok rk ((PostX.bind h).step (Stp.refl ok) fun sl cs3 q v A' H' s' ok' r' => ?_)
  obtain ⟨b', e, q'⟩ := toB_ok r' q
  exact ⟨b', e, q' A' H' s' ok'⟩

/-! ### and, or, not, if -/
variable {e : Expr} {rest : List Expr} {mt mu : Rho → M Bool}
def mAndT (mt mu : Rho → M Bool) : Rho → M Bool := fun ρ cs => (mt ρ cs).bind fun k cs1 => if k = true then mu ρ cs1 else .ok false cs1
def mOrT (mt mu : Rho → M Bool) : Rho → M Bool := fun ρ cs => (mt ρ cs).bind fun k cs1 => if k = true then .ok true cs1 else mu ρ cs1
def mNotT (mt : Rho → M Bool) : Rho → M Bool := fun ρ cs => (mt ρ cs).bind fun k cs1 => .ok (!k) cs1
theorem wm_and1 (h : TM X R E a mt) : WM X R E (.BoolOp .And [a] pos) mt := by
  obtain ⟨t, p, k⟩ := h
  exact ⟨t, pw_and1 p, k⟩
theorem wm_or1 (h : TM X R E a mt) : WM X R E (.BoolOp .Or [a] pos) mt := by
  obtain ⟨t, p, k⟩ := h
  exact ⟨t, pw_or1 p, k⟩
theorem wm_and (h : TM X R E a mt) (h2 : WM X R E (.BoolOp .And (b :: rest) pos) mu) : WM X R E (.BoolOp .And (a :: b :: rest) pos) (mAndT mt mu) := by
  obtain ⟨t, p, k⟩ := h
  obtain ⟨u, p2, k2⟩ := h2
  refine ⟨_, pw_and p p2, fun O A ρ cs σ H ok rk Q h => ?_⟩
  refine k O A ρ cs σ H ok rk _ ((PostX.bind h).step (Stp.refl ok) fun c cs1 q A1 H1 s1 ok1 => ?_)
  cases c with
  | true => exact k2 O A1 ρ cs1 σ H1 ok1 (rk.step s1) Q (PostX.step s1 (fun b cs2 q2 A' H' s' => q2 A' H' (s1.trans s')) q)
  | false => exact q A1 H1 s1 ok1
theorem wm_or (h : TM X R E a mt) (h2 : WM X R E (.BoolOp .Or (b :: rest) pos) mu) : WM X R E (.BoolOp .Or (a :: b :: rest) pos) (mOrT mt mu) := by
  obtain ⟨t, p, k⟩ := h
  obtain ⟨u, p2, k2⟩ := h2
  refine ⟨_, pw_or p p2, fun O A ρ cs σ H ok rk Q h => ?_⟩
  refine k O A ρ cs σ H ok rk _ ((PostX.bind h).step (Stp.refl ok) fun c cs1 q A1 H1 s1 ok1 => ?_)
  cases c with
  | false => exact k2 O A1 ρ cs1 σ H1 ok1 (rk.step s1) Q (PostX.step s1 (fun b cs2 q2 A' H' s' => q2 A' H' (s1.trans s')) q)
  | true => exact q A1 H1 s1 ok1
theorem WM.tm (h : WM X R E e mt) : TM X R E e mt := by
  obtain ⟨t, p, k⟩ := h
  exact ⟨t, p.pt, k⟩
theorem tm_not (h : TM X R E a mt) : TM X R E (.UnaryOp .Not a pos) (mNotT mt) := by
  obtain ⟨t, p, k⟩ := h
  refine ⟨_, pt_not p, fun O A ρ cs σ H ok rk Q h => ?_⟩
  exact k O A ρ cs σ H ok rk _ ((PostX.bind h).step (Stp.refl ok) fun c cs1 q A1 H1 s1 ok1 => q A1 H1 s1 ok1)
def mAnd (ma mb : Rho → M Sl) : Rho → M Sl := fun ρ cs => (ma ρ cs).bind fun x cs1 => (toB x cs1).bind fun k cs2 => if k = true then mb ρ cs2 else .ok (.d (.bool false)) cs2
def mOr (ma mb : Rho → M Sl) : Rho → M Sl := fun ρ cs => (ma ρ cs).bind fun x cs1 => (toB x cs1).bind fun k cs2 => if k = true then .ok (.d (.bool true)) cs2 else mb ρ cs2
def mNot (ma : Rho → M Sl) : Rho → M Sl := fun ρ cs => (ma ρ cs).bind fun x cs1 => (toB x cs1).bind fun k cs2 => .ok (.d (.bool (!k))) cs2
theorem em_one {op : BoolOp} (h : EM X R E a ma) : EM X R E (.BoolOp op [a] pos) ma := by
  obtain ⟨t, p, k⟩ := h
  exact ⟨t, pe_one p, k⟩
theorem em_and (h : EM X R E a ma) (h2 : EM X R E (.BoolOp .And (b :: rest) pos) mb) : EM X R E (.BoolOp .And (a :: b :: rest) pos) (mAnd ma mb) := by
  obtain ⟨t, p, k⟩ := h
  obtain ⟨u, p2, k2⟩ := h2
  refine em_of (pe_and p p2) fun O A ρ cs σ H ok rk Q h => ?_
  refine k O A ρ cs σ H ok rk _ ((PostX.bind h).step (Stp.refl ok) fun sx cs1 q x A1 H1 s1 ok1 r1 => ?_)
  obtain ⟨c, e, q'⟩ := toB_ok r1 (PostX.bind q)
  refine ⟨c, e, ?_⟩
  cases c with
  | true => exact k2 O A1 ρ cs1 σ H1 ok1 (rk.step s1) Q (PostX.step s1 (fun b cs2 q2 v A' H' s' => q2 v A' H' (s1.trans s')) q')
  | false => exact q' _ A1 H1 s1 ok1 (.bl false)
theorem em_or (h : EM X R E a ma) (h2 : EM X R E (.BoolOp .Or (b :: rest) pos) mb) : EM X R E (.BoolOp .Or (a :: b :: rest) pos) (mOr ma mb) := by
  obtain ⟨t, p, k⟩ := h
  obtain ⟨u, p2, k2⟩ := h2
  refine em_of (pe_or p p2) fun O A ρ cs σ H ok rk Q h => ?_
  refine k O A ρ cs σ H ok rk _ ((PostX.bind h).step (Stp.refl ok) fun sx cs1 q x A1 H1 s1 ok1 r1 => ?_)
  obtain ⟨c, e, q'⟩ := toB_ok r1 (PostX.bind q)
  refine ⟨c, e, ?_⟩
  cases c with
  | false => exact k2 O A1 ρ cs1 σ H1 ok1 (rk.step s1) Q (PostX.step s1 (fun b cs2 q2 v A' H' s' => q2 v A' H' (s1.trans s')) q')
  | true => exact q' _ A1 H1 s1 ok1 (.bl true)
theorem em_not (h : EM X R E a ma) : EM X R E (.UnaryOp .Not a pos) (mNot ma) := by
  obtain ⟨t, p, k⟩ := h
  refine em_of (pe_not p) fun O A ρ cs σ H ok rk Q h => ?_
  refine k O A ρ cs σ H ok rk _ ((PostX.bind h).step (Stp.refl ok) fun sx cs1 q x A1 H1 s1 ok1 r1 => ?_)
  obtain ⟨c, e, q'⟩ := toB_ok r1 (PostX.bind q)
  exact ⟨c, e, q' _ A1 H1 s1 ok1 (.bl _)⟩
def mIf {α : Type} (mt : Rho → M Bool) (ma mb : Rho → M α) : Rho → M α := fun ρ cs => (mt ρ cs).bind fun k cs1 => if k = true then ma ρ cs1 else mb ρ cs1
theorem em_if (h : TM X R E c mt) (ha : EM X R E a ma) (hb : EM X R E b mb) : EM X R E (.IfExp c a b pos) (mIf mt ma mb) := by
  obtain ⟨t, p, k⟩ := h
  obtain ⟨ta, pa, ka⟩ := ha
  obtain ⟨tb, pb, kb⟩ := hb
  refine em_of (pe_ifExp p pa pb) fun O A ρ cs σ H ok rk Q h => ?_
  refine k O A ρ cs σ H ok rk _ ((PostX.bind h).step (Stp.refl ok) fun c cs1 q A1 H1 s1 ok1 => ?_)
  cases c with
  | true => exact ka O A1 ρ cs1 σ H1 ok1 (rk.step s1) Q (PostX.step s1 (fun b cs2 q2 v A' H' s' => q2 v A' H' (s1.trans s')) q)
  | false => exact kb O A1 ρ cs1 σ H1 ok1 (rk.step s1) Q (PostX.step s1 (fun b cs2 q2 v A' H' s' => q2 v A' H' (s1.trans s')) q)
end
end Mir
set_option maxHeartbeats 4000000
/-! tuple * int whatever the int -/
namespace Mir
open PySem PySem.Spec PyProof.Rows L2
theorem tuple_mulS (l : Addr) (items : Array Value) (n : Nat) (dd : Option Addr) (sl : Array (Option Value)) (x : Int) (u : Tok) (c0 : (decide (x < -(2 ^ 63)) || decide (x ≥ 2 ^ 63)) = false) (c1 : (items.isEmpty || x == 1) = true) :
    Meets (Builtin.«tuple.__mul__» ⟨[.ref l, .int x u], []⟩) (fun _ R s => s.heap.get? l = some { cls := .type "tuple", dict := dd, data := .seq items n, slots := sl } ∧ R (.ok (.ret (Value.ref l))) s) :=
  .of_wp fun prog w A R s h => by
    obtain ⟨hp, g, d, tk, os⟩ := s
    obtain ⟨hl, h⟩ := h
    have f1 := AutoSeq1.idx_int
    wp_walk using wpAny_loadPart' hl
    repeat (first
      | (refine wpAny_ite_false (decide_eq_false (by rw [c0]; exact Bool.false_ne_true)) ?_; wp_walk using wpAny_loadPart' hl)
      | (refine wpAny_ite_true (decide_eq_true c1) ?_; wp_walk using wpAny_loadPart' hl))
    exact ⟨_, rfl, h⟩
theorem tuple_mul0 (l : Addr) (items : Array Value) (n : Nat) (dd : Option Addr) (sl : Array (Option Value)) (x : Int) (u : Tok) (c0 : (decide (x < -(2 ^ 63)) || decide (x ≥ 2 ^ 63)) = false) (c1 : (items.isEmpty || x == 1) = false) (c2 : (decide (x ≤ 0) || items.isEmpty) = true) :
    Meets (Builtin.«tuple.__mul__» ⟨[.ref l, .int x u], []⟩) (fun _ R s => s.heap.get? l = some { cls := .type "tuple", dict := dd, data := .seq items n, slots := sl } ∧
      R (.ok (.ret (Value.ref s.heap.objs.size))) { s with heap := s.heap.push { cls := Value.type "tuple", data := Data.seq #[] }, toks := s.toks }) :=
  .of_wp fun prog w A R s h => by
    obtain ⟨hp, g, d, tk, os⟩ := s
    obtain ⟨hl, h⟩ := h
    have f1 := AutoSeq1.idx_int
    wp_walk using wpAny_loadPart' hl
    repeat (first
      | (refine wpAny_ite_false (decide_eq_false (by rw [c0]; exact Bool.false_ne_true)) ?_; wp_walk using wpAny_loadPart' hl)
      | (refine wpAny_ite_false (decide_eq_false (by rw [c1]; exact Bool.false_ne_true)) ?_; wp_walk using wpAny_loadPart' hl)
      | (refine wpAny_ite_true (decide_eq_true c2) ?_; wp_walk using wpAny_loadPart' hl))
    exact ⟨_, rfl, h⟩
def rRepA (K : PySem.W.Frag) : R2 := fun x y H Q => ∃ l k xs, x = .ref l ∧ y = .int k ∧ SqT K H l xs ∧ -1000 ≤ k ∧ k ≤ 1000 ∧ xs.length ≤ 1000 ∧
  (xs = [] ∨ k = 1 → Q (.ref l) H) ∧ (xs ≠ [] → k ≠ 1 → ∀ p, H p = none → Q (.ref p) (upd H p (.tup (List.replicate k.toNat xs).flatten)))
section
variable {X : Cx}
theorem op_repA : OpR X (binaryOp .Mult) (rRepA X.K) := by
  intro pins s σ H x y v u Q I rx ry h
  obtain ⟨l, k, xs, rfl, rfl, hT, h0, h1, hz, q1, q2⟩ := h
  by_cases hc : xs ≠ [] ∧ 2 ≤ k
  · exact op_repT pins s σ H _ _ v u Q I rx ry ⟨l, k, xs, rfl, rfl, hT, hc.1, hc.2, h1, hz, q2 hc.1 (by omega)⟩
  cases rx
  obtain ⟨t, rfl⟩ := ry
  obtain ⟨its, r, ⟨⟨cls, dd, data, sl⟩, ho, hcl, n, hd⟩, hs⟩ := I.tuple hT
  simp only at hcl hd
  subst hcl hd
  have hle : its.length = xs.length := r.length.symm
  have c0 : (decide (k < -(2 ^ 63)) || decide (k ≥ 2 ^ 63)) = false := by
    rw [decide_eq_false (by omega), decide_eq_false (by omega)] <;> rfl
  by_cases hs1 : xs = [] ∨ k = 1
  · have c1 : (its.toArray.isEmpty || k == 1) = true := by
      rcases hs1 with e | e
      · rw [e] at hle
        rw [List.eq_nil_of_length_eq_zero hle]
        rfl
      · subst e
        simp
    exact wpAny_binaryOp_repeat_ref (T := "tuple") (U := "int") (by decide) ⟨_, ho, rfl⟩ (fun s' => typeIs_int s' k t) noFill_tuple_mul F.fills_int_mul F.slot_int_rmul repeat_tuple F.slot_int_index.lookup
      (call_meets F.slot_int_rmul (typeIs_int s k t) F.entry_int_rmul (F.args_int_rmul_2 _ _) (int_rmul_tuple k t l its.toArray n dd sl)
        ⟨ho, rfl, ⟨_, ho, rfl⟩, call_meets F.slot_tuple_mul ⟨_, ho, rfl⟩ F.entry_tuple_mul (F.args_tuple_mul_2 _ _) (tuple_mulS l its.toArray n dd sl k t c0 c1) ⟨ho, .ref l, H, I, rfl, q1 hs1⟩⟩)
  · have hne : xs ≠ [] := fun e => hs1 (.inl e)
    have hk1 : k ≠ 1 := fun e => hs1 (.inr e)
    have hk : k ≤ 0 := by
      by_cases z : 2 ≤ k
      · exact absurd ⟨hne, z⟩ hc
      · omega
    have hn : its ≠ [] := fun e => hne (by
      rw [e] at hle
      exact List.eq_nil_of_length_eq_zero hle.symm)
    have hi : its.toArray.isEmpty = false := by
      cases its with
      | nil => exact absurd rfl hn
      | cons a b => rfl
    have c1 : (its.toArray.isEmpty || k == 1) = false := by
      rw [hi, Bool.false_or]
      exact beq_eq_false_iff_ne.mpr hk1
    have c2 : (decide (k ≤ 0) || its.toArray.isEmpty) = true := by
      rw [decide_eq_true hk]
      rfl
    have ek : k.toNat = 0 := by omega
    refine wpAny_binaryOp_repeat_ref (T := "tuple") (U := "int") (by decide) ⟨_, ho, rfl⟩ (fun s' => typeIs_int s' k t) noFill_tuple_mul F.fills_int_mul F.slot_int_rmul repeat_tuple F.slot_int_index.lookup
      (call_meets F.slot_int_rmul (typeIs_int s k t) F.entry_int_rmul (F.args_int_rmul_2 _ _) (int_rmul_tuple k t l its.toArray n dd sl)
        ⟨ho, rfl, ⟨_, ho, rfl⟩, call_meets F.slot_tuple_mul ⟨_, ho, rfl⟩ F.entry_tuple_mul (F.args_tuple_mul_2 _ _) (tuple_mul0 l its.toArray n dd sl k t c0 c1 c2) ⟨ho, ?_⟩⟩)
    refine ⟨.ref s.heap.objs.size, _, I.laid (t' := s.toks) (o := .tup (List.replicate k.toNat xs).flatten) (fun b ob q => Heap.get?_push_of_some _ q) (Nat.le_refl _) ?_, rfl, q2 hne hk1 _ (I.hok.fresh (Nat.le_refl _))⟩
    rw [ek]
    exact ⟨by rw [sizeLine_eq]; simp, _, .nil, IsTup.new _ _⟩
end
end Mir
set_option maxHeartbeats 2000000
/-! operators on data; displays; subscripts; the built-in functions -/
namespace Mir
open PySem PySem.Spec PyProof.Rows L2

/-! ### operators -/
def oAdd : Sl → Sl → M Sl := fun x y cs => match x, y with
  | .d (.int i), .d (.int j) => .ok (.d (.int (i + j))) cs
  | .d (.str a), .d (.str b) => if a.length + b.length ≤ SL then .ok (.d (.str (a ++ b))) cs else .bad
  | .d (.tuple a), .d (.tuple b) => if a.length + b.length ≤ SL then .ok (.d (.tuple (a ++ b))) cs else .bad
  | x, y => match viewT x cs, viewT y cs with
    | some a, some b => if a.length + b.length ≤ SL then .ok (.d (.list (a ++ b))) cs else .bad
    | _, _ => .bad
def oSub : Sl → Sl → M Sl := fun x y cs => match x, y with
  | .d (.int i), .d (.int j) => .ok (.d (.int (i - j))) cs
  | _, _ => .bad
def oMul : Sl → Sl → M Sl := fun x y cs => match x, y with
  | .d (.int i), .d (.int j) => if i.natAbs.log2 + j.natAbs.log2 < 1000000 then .ok (.d (.int (i * j))) cs else .bad
  | .d (.tuple a), .d (.int k) => if -1000 ≤ k ∧ k ≤ 1000 ∧ a.length ≤ 1000 then .ok (.d (.tuple (List.replicate k.toNat a).flatten)) cs else .bad
  | x, .d (.int k) => match viewT x cs with
    | some a => if -(2 ^ 63) ≤ k ∧ k < 2 ^ 63 ∧ a.length * k.toNat ≤ SL then .ok (.d (.list (List.replicate k.toNat a).flatten)) cs else .bad
    | none => .bad
  | _, _ => .bad
def oFdiv : Sl → Sl → M Sl := fun x y cs => match x, y with
  | .d (.int i), .d (.int j) => if 0 < j ∧ j.natAbs.log2 < 9000 then .ok (.d (.int (i / j))) cs else .bad
  | _, _ => .bad
def oMod : Sl → Sl → M Sl := fun x y cs => match x, y with
  | .d (.int i), .d (.int j) => if 0 < j then .ok (.d (.int (i % j))) cs else .bad
  | _, _ => .bad
def oPow : Sl → Sl → M Sl := fun x y cs => match x, y with
  | .d (.int i), .d (.int j) => if 0 ≤ j ∧ (Builtin.Int.intBits i : Int) * j ≤ 2 ^ 27 then .ok (.d (.int (i ^ j.toNat))) cs else .bad
  | _, _ => .bad
def oCmp (p : Int → Int → Bool) (q : Str → Str → Option Bool) : Sl → Sl → M Sl := fun x y cs => match x, y with
  | .d (.int i), .d (.int j) => .ok (.d (.bool (p i j))) cs
  | .d (.str i), .d (.str j) => match q i j with
    | some b => .ok (.d (.bool b)) cs
    | none => .bad
  | _, _ => .bad
def oLt := oCmp (fun i j => decide (i < j)) fun i j => some (decide (i.cps.toList < j.cps.toList))
def oLe := oCmp (fun i j => decide (i ≤ j)) fun i j => some (!decide (j.cps.toList < i.cps.toList))
def oGt := oCmp (fun i j => decide (j < i)) fun _ _ => none
def oGe := oCmp (fun i j => decide (j ≤ i)) fun _ _ => none
/-- what a value or a handle is as data -/
def viewD : Sl → List HC → Option D
  | .d d, _ => some d
  | .h k, cs => (viewL (.h k) cs).map .list
  | .s ns, _ => some (.list (ns.map PyData.int))
def eqD (d e : D) : Option Bool :=
  if SeqAt.shaped d = true ∧ SeqAt.shaped e = true then some (PyData.eqv d e)
  else match d, e with
    | .list a, .list b => if a.length ≠ b.length then some false else none
    | _, _ => none
def oEq : Sl → Sl → M Sl := fun x y cs => match viewD x cs, viewD y cs with
  | some d, some e => match eqD d e with
    | some b => .ok (.d (.bool b)) cs
    | none => .bad
  | _, _ => .bad
def oNe : Sl → Sl → M Sl := fun x y cs => match viewD x cs, viewD y cs with
  | some d, some e => match eqD d e with
    | some b => .ok (.d (.bool (!b))) cs
    | none => .bad
  | _, _ => .bad
def oIsN : Sl → Sl → M Sl := fun x y cs => match x, y with
  | .d d, .d .none => .ok (.d (.bool (match d with | .none => true | _ => false))) cs
  | .h _, .d .none => .ok (.d (.bool false)) cs
  | _, _ => .bad
def oNotN : Sl → Sl → M Sl := fun x y cs => match x, y with
  | .d d, .d .none => .ok (.d (.bool (match d with | .none => false | _ => true))) cs
  | .h _, .d .none => .ok (.d (.bool true)) cs
  | _, _ => .bad
def oIn : Sl → Sl → M Sl := fun x y cs => match viewD x cs, viewD y cs with
  | some d, some (.list ds) => if SeqAt.shaped d = true ∧ SeqAt.shaped (.list ds) = true then .ok (.d (.bool (ds.any fun z => PyData.eqv z d))) cs else .bad
  | some d, some (.tuple ds) => if SeqAt.shaped d = true ∧ SeqAt.shaped (.tuple ds) = true then .ok (.d (.bool (ds.any fun z => PyData.eqv z d))) cs else .bad
  | _, _ => .bad
def oNotIn : Sl → Sl → M Sl := fun x y cs => match viewD x cs, viewD y cs with
  | some d, some (.list ds) => if SeqAt.shaped d = true ∧ SeqAt.shaped (.list ds) = true then .ok (.d (.bool (!ds.any fun z => PyData.eqv z d))) cs else .bad
  | some d, some (.tuple ds) => if SeqAt.shaped d = true ∧ SeqAt.shaped (.tuple ds) = true then .ok (.d (.bool (!ds.any fun z => PyData.eqv z d))) cs else .bad
  | _, _ => .bad

mutual
theorem Sh.dp {K : PySem.W.Frag} {H0 H : Hp} (e : Same H0 H) : ∀ {d : D} {v : V}, Sh K H0 v d → d.canLay0 = true → Dp K H v d
  | _, _, .non, _ => .non
  | _, _, .bl b, _ => .bl b
  | _, _, .int i, _ => .int i
  | _, _, .str x, _ => .str x
  | _, _, .lst h t, c => .lst (.inl (.inl (e _ _ h))) (ShA.dp e t (by simpa [PyData.canLay0] using c))
  | _, _, .tup h t, c => .tup (SqT.same e h) (ShA.dp e t (by simpa [PyData.canLay0] using c))
  | _, _, .dic h t, c => by simp [PyData.canLay0] at c
theorem ShA.dp {K : PySem.W.Frag} {H0 H : Hp} (e : Same H0 H) : ∀ {ds : List D} {vs : List V}, ShA K H0 vs ds → PyData.canLayAll0 ds = true → DpAll K H vs ds
  | _, _, .nil, _ => .nil
  | _, _, .cons h t, c => by
    have c' := (Bool.and_eq_true _ _).mp (by simpa [PyData.canLayAll0] using c)
    exact .cons (Sh.dp e h c'.1) (ShA.dp e t c'.2)
end
theorem shaped_lay {d : D} (h : SeqAt.shaped d = true) : d.canLay0 = true := SeqAt.canLay_of_shaped h
section
variable {K : PySem.W.Frag} {O A : List Addr} {cs : List HC} {H : Hp} {v : V} {sl : Sl} {d : D}
theorem view_d (ok : Ok K O A cs H) (s : ShS K O A H v sl) (e : viewD sl cs = some d) (c : d.canLay0 = true) : Dp K H v d := by
  cases sl with
  | d d' =>
    cases e
    exact Sh.dp hid_same s c
  | h k =>
    replace e : (viewL (.h k) cs).map PyData.list = some d := e
    cases q : viewL (.h k) cs with
    | none =>
      rw [q] at e
      cases e
    | some ds =>
      rw [q] at e
      cases e
      obtain ⟨a, vs, rfl, h1, h2⟩ := view_l ok s q
      exact .lst h1 (ShA.dp hid_same h2 (by simpa [PyData.canLay0] using c))
  | s ns =>
    cases e
    obtain ⟨a, vs, rfl, h1, h2⟩ := view_l ok s (ds := ns.map PyData.int) rfl
    exact .lst h1 (ShA.dp hid_same h2 (by simpa [PyData.canLay0] using c))
theorem view_dl {ds : List D} (ok : Ok K O A cs H) (s : ShS K O A H v sl) (e : viewD sl cs = some (.list ds)) : ∃ a vs, v = .ref a ∧ SqL K H a vs ∧ vs.length = ds.length := by
  cases sl with
  | d d' =>
    cases e
    cases s with
    | lst h t => exact ⟨_, _, rfl, .inl (.inl (hid_same _ _ h)), t.length⟩
  | h k =>
    replace e : (viewL (.h k) cs).map PyData.list = some (.list ds) := e
    cases q : viewL (.h k) cs with
    | none =>
      rw [q] at e
      cases e
    | some ds' =>
      rw [q] at e
      cases e
      obtain ⟨a, vs, rfl, h1, h2⟩ := view_l ok s q
      exact ⟨a, vs, rfl, h1, h2.length⟩
  | s ns =>
    cases e
    obtain ⟨a, vs, rfl, h1, h2⟩ := view_l ok s (ds := ns.map PyData.int) rfl
    exact ⟨a, vs, rfl, h1, h2.length⟩
end

section
variable {X : Cx} {R : XR} {E : XK}
theorem opm_of {f : Value → Value → Sem Value} {o : Sl → Sl → M Sl} {r : R2} (h : OpR X f r)
    (k : ∀ O A cs H x y sx sy, Ok X.K O A cs H → ShS X.K O A H x sx → ShS X.K O A H y sy → ∀ Q, Post X.K R O A H Q E (o sx sy cs) → r x y H Q) : OpM X R E f o := ⟨r, h, k⟩
/-- the way to show a rule: all but the served cases end -/
theorem om_add : OpM X R E (binaryOp .Add) oAdd := by
  refine opm_of (OpR.or op_add (OpR.or op_add_str (OpR.or op_catA op_cat))) fun O A cs H x y sx sy ok rx ry Q h => ?_
  unfold oAdd at h
  split at h
  · cases rx
    cases ry
    exact .inl ⟨_, _, rfl, rfl, Post.ret ok h (.int _)⟩
  · cases rx
    cases ry
    split at h
    · rename_i hz
      exact .inr (.inl ⟨_, _, rfl, rfl, SL_eq ▸ hz, Post.ret ok h (.str _)⟩)
    · exact h.elim
  · split at h
    · rename_i a b hz
      obtain ⟨p, vs, rfl, h1, s1⟩ := sh_tup rx
      obtain ⟨q, ws, rfl, h2, s2⟩ := sh_tup ry
      refine .inr (.inr (.inl ⟨p, q, vs, ws, rfl, rfl, h1, h2, by rw [s1.length, s2.length]; exact SL_eq ▸ hz, fun e => ?_, fun _ e => ?_, fun _ _ p' hp => ?_⟩))
      · subst e
        have ea : a = [] := List.eq_nil_of_length_eq_zero s1.length.symm
        subst ea
        exact Post.ret ok h ry
      · subst e
        have eb : b = [] := List.eq_nil_of_length_eq_zero s2.length.symm
        subst eb
        rw [List.append_nil] at h
        exact Post.ret ok h rx
      · exact Post.tup ok h (s1.append s2) hp
    · exact h.elim
  · split at h
    · rename_i a b ea eb
      split at h
      · rename_i hz
        obtain ⟨p, vs, rfl, h1, s1⟩ := view_t ok rx ea
        obtain ⟨q, ws, rfl, h2, s2⟩ := view_t ok ry eb
        exact .inr (.inr (.inr ⟨p, q, vs, ws, rfl, rfl, h1, h2, by rw [s1.length, s2.length]; exact SL_eq ▸ hz, fun p' hp => Post.lst ok h (s1.append s2) hp⟩))
      · exact h.elim
    · exact h.elim
theorem om_sub : OpM X R E (binaryOp .Sub) oSub := by
  refine opm_of op_sub fun O A cs H x y sx sy ok rx ry Q h => ?_
  unfold oSub at h
  split at h
  · cases rx
    cases ry
    exact ⟨_, _, rfl, rfl, Post.ret ok h (.int _)⟩
  · exact h.elim
theorem flat_rep {K : PySem.W.Frag} {H : Hp} {vs : List V} {ds : List D} (s : ShA K H vs ds) : ∀ n : Nat, ShA K H (List.replicate n vs).flatten (List.replicate n ds).flatten
  | 0 => .nil
  | n + 1 => by
    rw [List.replicate_succ, List.replicate_succ, List.flatten_cons, List.flatten_cons]
    exact s.append (flat_rep s n)
theorem om_mul : OpM X R E (binaryOp .Mult) oMul := by
  refine opm_of (OpR.or op_mulW (OpR.or op_repA op_rep)) fun O A cs H x y sx sy ok rx ry Q h => ?_
  unfold oMul at h
  split at h
  · split at h
    · rename_i hz
      cases rx
      cases ry
      exact .inl ⟨_, _, rfl, rfl, hz, Post.ret ok h (.int _)⟩
    · exact h.elim
  · split at h
    · rename_i a k hz
      obtain ⟨h2, h3, h4⟩ := hz
      obtain ⟨p, vs, rfl, h1, s1⟩ := sh_tup rx
      cases ry
      refine .inr (.inl ⟨p, _, vs, rfl, rfl, h1, h2, h3, by rw [s1.length]; exact h4, fun e => ?_, fun _ _ p' hp => Post.tup ok h (flat_rep s1 _) hp⟩)
      have ea : (List.replicate k.toNat a).flatten = a := by
        rcases e with e | e
        · have ea : a = [] := List.eq_nil_of_length_eq_zero (by rw [← s1.length, e]; rfl)
          subst ea
          simp
        · subst e
          simp
      rw [ea] at h
      exact Post.ret ok h rx
    · exact h.elim
  · split at h
    · rename_i a ea
      split at h
      · rename_i hz
        obtain ⟨p, vs, rfl, h1, s1⟩ := view_t ok rx ea
        cases ry
        exact .inr (.inr ⟨p, _, vs, rfl, rfl, h1, hz.1, hz.2.1, by rw [s1.length]; exact SL_eq ▸ hz.2.2, fun p' hp => Post.lst ok h (flat_rep s1 _) hp⟩)
      · exact h.elim
    · exact h.elim
  · exact h.elim
theorem om_fdiv : OpM X R E (binaryOp .FloorDiv) oFdiv := by
  refine opm_of op_fdivW fun O A cs H x y sx sy ok rx ry Q h => ?_
  unfold oFdiv at h
  split at h
  · split at h
    · rename_i hz
      cases rx
      cases ry
      exact ⟨_, _, rfl, rfl, hz, Post.ret ok h (.int _)⟩
    · exact h.elim
  · exact h.elim
theorem om_mod : OpM X R E (binaryOp .Mod) oMod := by
  refine opm_of op_mod fun O A cs H x y sx sy ok rx ry Q h => ?_
  unfold oMod at h
  split at h
  · split at h
    · rename_i hz
      cases rx
      cases ry
      exact ⟨_, _, rfl, rfl, hz, Post.ret ok h (.int _)⟩
    · exact h.elim
  · exact h.elim
theorem op_powX : OpR X (binaryOp .Pow) (rI (fun i j => 0 ≤ j ∧ (Builtin.Int.intBits i : Int) * j ≤ 2 ^ 27) fun i j => .int (i ^ j.toNat)) := opI fun _ _ _ _ _ _ _ hc q => pow_int hc.1 hc.2 q
theorem om_pow : OpM X R E (binaryOp .Pow) oPow := by
  refine opm_of op_powX fun O A cs H x y sx sy ok rx ry Q h => ?_
  unfold oPow at h
  split at h
  · split at h
    · rename_i hz
      cases rx
      cases ry
      exact ⟨_, _, rfl, rfl, hz, Post.ret ok h (.int _)⟩
    · exact h.elim
  · exact h.elim
theorem om_cmpI {f : Value → Value → Sem Value} {p : Int → Int → Bool} {q : Str → Str → Option Bool} (h1 : OpR X f (rI0 fun i j => .bl (p i j))) (h2 : OpR X f (fun x y H Q => ∃ i j b, x = .str i ∧ y = .str j ∧ q i j = some b ∧ Q (.bl b) H)) : OpM X R E f (oCmp p q) := by
  refine opm_of (OpR.or h1 h2) fun O A cs H x y sx sy ok rx ry Q h => ?_
  unfold oCmp at h
  split at h
  · cases rx
    cases ry
    exact .inl ⟨_, _, rfl, rfl, Post.ret ok h (.bl _)⟩
  · split at h
    · rename_i e
      cases rx
      cases ry
      exact .inr ⟨_, _, _, rfl, rfl, e, Post.ret ok h (.bl _)⟩
    · exact h.elim
  · exact h.elim
theorem opr_none {f : Value → Value → Sem Value} {q : Str → Str → Option Bool} (hq : ∀ i j, q i j = none) : OpR X f (fun x y H Q => ∃ i j b, x = V.str i ∧ y = V.str j ∧ q i j = some b ∧ Q (.bl b) H) := by
  intro pins s σ H x y v u Q I rx ry h
  obtain ⟨i, j, b, _, _, e, _⟩ := h
  rw [hq] at e
  cases e
theorem om_lt : OpM X R E (compareOp .Lt) oLt := om_cmpI op_lt (by
  intro pins s σ H x y v u Q I rx ry h
  obtain ⟨i, j, b, e1, e2, e, q⟩ := h
  cases e
  exact op_lt_str pins s σ H x y v u Q I rx ry ⟨i, j, e1, e2, q⟩)
theorem om_le : OpM X R E (compareOp .LtE) oLe := om_cmpI op_le (by
  intro pins s σ H x y v u Q I rx ry h
  obtain ⟨i, j, b, e1, e2, e, q⟩ := h
  cases e
  exact op_le_str pins s σ H x y v u Q I rx ry ⟨i, j, e1, e2, q⟩)
theorem om_gt : OpM X R E (compareOp .Gt) oGt := om_cmpI op_gt (opr_none fun _ _ => rfl)
theorem om_ge : OpM X R E (compareOp .GtE) oGe := om_cmpI op_ge (opr_none fun _ _ => rfl)

/-- two lists that are not equally long -/
def rLens (K : PySem.W.Frag) (k : Bool) : R2 := fun x y H Q => ∃ a b xs ys, x = .ref a ∧ y = .ref b ∧ SqL K H a xs ∧ SqL K H b ys ∧ xs.length ≠ ys.length ∧ Q (.bl k) H
theorem op_eqLens (hu : X.A.units < cLine) : OpR X (compareOp .Eq) (rLens X.K false) := by
  intro pins s σ H x y v u Q I rx ry h
  obtain ⟨a, b, xs, ys, rfl, rfl, ha, hb, hn, q⟩ := h
  cases rx
  cases ry
  obtain ⟨us, r1, p1, _⟩ := I.list ha
  obtain ⟨ws, r2, p2, _⟩ := I.list hb
  refine SeqAt.eq_list_lengthsAt p1.isList p2.isList ?_ hu ⟨.bl false, H, I, rfl, q⟩
  have e1 := r1.length
  have e2 := r2.length
  simp only [List.size_toArray, bne_iff_ne, ne_eq]
  omega
theorem op_neLens (hu : X.A.units < cLine) : OpR X (compareOp .NotEq) (rLens X.K true) := by
  intro pins s σ H x y v u Q I rx ry h
  obtain ⟨a, b, xs, ys, rfl, rfl, ha, hb, hn, q⟩ := h
  cases rx
  cases ry
  obtain ⟨us, r1, p1, _⟩ := I.list ha
  obtain ⟨ws, r2, p2, _⟩ := I.list hb
  refine SeqAt.RcNeAt.lists_lengths p1.isList p2.isList ?_ hu X.prog X.w _ _ ⟨.bl true, H, I, rfl, q⟩
  have e1 := r1.length
  have e2 := r2.length
  simp only [List.size_toArray, bne_iff_ne, ne_eq]
  omega
theorem eqD_cases {d e : D} {b : Bool} (h : eqD d e = some b) : (SeqAt.shaped d = true ∧ SeqAt.shaped e = true ∧ b = PyData.eqv d e) ∨ ∃ xs ys, d = .list xs ∧ e = .list ys ∧ xs.length ≠ ys.length ∧ b = false := by
  unfold eqD at h
  split at h
  · rename_i hs
    cases h
    exact .inl ⟨hs.1, hs.2, rfl⟩
  · split at h
    · split at h
      · rename_i xs ys _ hn
        cases h
        exact .inr ⟨xs, ys, rfl, rfl, hn, rfl⟩
      · cases h
    · cases h
theorem om_eq (hu : X.A.units + 64 < cLine) : OpM X R E (compareOp .Eq) oEq := by
  refine opm_of (OpR.or (op_eqD hu) (op_eqLens (by omega))) fun O A cs H x y sx sy ok rx ry Q h => ?_
  unfold oEq at h
  split at h
  · rename_i d e ed ee
    split at h
    · rename_i b eb
      rcases eqD_cases eb with ⟨s1, s2, e3⟩ | ⟨xs, ys, e1, e2, hn, e3⟩
      · subst e3
        exact .inl ⟨d, e, view_d ok rx ed (shaped_lay s1), view_d ok ry ee (shaped_lay s2), s1, s2, Post.ret ok h (.bl _)⟩
      · subst e1 e2 e3
        obtain ⟨a, vs, rfl, h1, l1⟩ := view_dl ok rx ed
        obtain ⟨b, ws, rfl, h2, l2⟩ := view_dl ok ry ee
        exact .inr ⟨a, b, vs, ws, rfl, rfl, h1, h2, by rw [l1, l2]; exact hn, Post.ret ok h (.bl _)⟩
    · exact h.elim
  · exact h.elim
theorem om_ne (hu : X.A.units + 64 < cLine) : OpM X R E (compareOp .NotEq) oNe := by
  refine opm_of (OpR.or (op_neD hu) (op_neLens (by omega))) fun O A cs H x y sx sy ok rx ry Q h => ?_
  unfold oNe at h
  split at h
  · rename_i d e ed ee
    split at h
    · rename_i b eb
      rcases eqD_cases eb with ⟨s1, s2, e3⟩ | ⟨xs, ys, e1, e2, hn, e3⟩
      · subst e3
        exact .inl ⟨d, e, view_d ok rx ed (shaped_lay s1), view_d ok ry ee (shaped_lay s2), s1, s2, Post.ret ok h (.bl _)⟩
      · subst e1 e2 e3
        obtain ⟨a, vs, rfl, h1, l1⟩ := view_dl ok rx ed
        obtain ⟨b, ws, rfl, h2, l2⟩ := view_dl ok ry ee
        exact .inr ⟨a, b, vs, ws, rfl, rfl, h1, h2, by rw [l1, l2]; exact hn, Post.ret ok h (.bl _)⟩
    · exact h.elim
  · exact h.elim
theorem om_isN : OpM X R E (compareOp .Is) oIsN := by
  refine opm_of op_isN fun O A cs H x y sx sy ok rx ry Q h => ?_
  unfold oIsN at h
  split at h
  · rename_i d
    cases ry
    refine ⟨rfl, ?_⟩
    cases rx <;> exact Post.ret ok h (.bl _)
  · cases ry
    obtain ⟨a, _, rfl⟩ := rx
    exact ⟨rfl, Post.ret ok h (.bl _)⟩
  · exact h.elim
theorem om_notN : OpM X R E (compareOp .IsNot) oNotN := by
  refine opm_of op_notN fun O A cs H x y sx sy ok rx ry Q h => ?_
  unfold oNotN at h
  split at h
  · rename_i d
    cases ry
    refine ⟨rfl, ?_⟩
    cases rx <;> exact Post.ret ok h (.bl _)
  · cases ry
    obtain ⟨a, _, rfl⟩ := rx
    exact ⟨rfl, Post.ret ok h (.bl _)⟩
  · exact h.elim
end
end Mir
set_option maxHeartbeats 2000000
/-! displays, subscripts, slices, built-in functions, calls -/
namespace Mir
open PySem PySem.Spec PyProof.Rows L2

section
variable {X : Cx} {R : XR} {E : XK} {pos : Pos} {a b c e : Expr} {es : List Expr} {ma mb mc : Rho → M Sl} {ms : Rho → M (List Sl)} {o : Sl → Sl → M Sl}
/-! ### arguments -/
def mNil : Rho → M (List Sl) := fun _ cs => .ok [] cs
def mCons (ma : Rho → M Sl) (ms : Rho → M (List Sl)) : Rho → M (List Sl) := fun ρ cs => (ma ρ cs).bind fun x cs1 => (ms ρ cs1).bind fun xs cs2 => .ok (x :: xs) cs2
theorem am_nil : AM X R E [] mNil := ⟨_, pa_nil, fun O A ρ cs σ H ok rk Q h => h [] A H (Stp.refl ok) ok .nil⟩
theorem am_cons (h : EM X R E e ma) (h2 : AM X R E es ms) (hs : starEach (e :: es) X.env = (false, eval e X.env) :: starEach es X.env := by rfl) : AM X R E (e :: es) (mCons ma ms) := by
  obtain ⟨t, p, k⟩ := h
  obtain ⟨u, p2, k2⟩ := h2
  refine ⟨_, pa_cons p p2 hs, fun O A ρ cs σ H ok rk Q h => ?_⟩
  refine k O A ρ cs σ H ok rk _ ((PostX.bind h).step (Stp.refl ok) fun sx cs1 q x A1 H1 s1 ok1 r1 => ?_)
  refine k2 O A1 ρ cs1 σ H1 ok1 (rk.step s1) _ ((PostX.bind q).step s1 fun sxs cs2 q2 vs A2 H2 s2 ok2 r2 => ?_)
  exact q2 (x :: vs) A2 H2 (s1.trans s2) ok2 (.cons (r1.step s2) r2)
/-- all data -/
def dataAll : List Sl → Option (List D)
  | [] => some []
  | .d d :: r => (dataAll r).map (d :: ·)
  | _ => none
theorem sh_all {K : PySem.W.Frag} {O A : List Addr} {H : Hp} : ∀ {vs : List V} {sls : List Sl} {ds : List D}, ShSs K O A H vs sls → dataAll sls = some ds → ShA K (hid (O ++ A) H) vs ds
  | _, _, _, .nil, e => by
    cases e
    exact .nil
  | _, _, ds, .cons (d := sl) h t, e => by
    cases sl with
    | d d =>
      unfold dataAll at e
      cases q : dataAll _ with
      | none =>
        rw [q] at e
        cases e
      | some r =>
        rw [q] at e
        cases e
        exact .cons h (sh_all t q)
    | h k => cases e
    | s ns => cases e
/-- .. *e -/
def seqD : Sl → List HC → Option (List D)
  | .d (.tuple ds), _ => some ds
  | sl, cs => viewL sl cs
theorem seq_d {K : PySem.W.Frag} {O A : List Addr} {cs : List HC} {H : Hp} {v : V} {sl : Sl} {ds : List D} (ok : Ok K O A cs H) (s : ShS K O A H v sl) (e : seqD sl cs = some ds) :
    ∃ p vs, v = .ref p ∧ (SqT K H p vs ∨ SqL K H p vs) ∧ ShA K (hid (O ++ A) H) vs ds := by
  unfold seqD at e
  split at e
  · cases e
    obtain ⟨p, vs, rfl, h1, h2⟩ := sh_tup s
    exact ⟨p, vs, rfl, .inl h1, h2⟩
  · obtain ⟨p, vs, rfl, h1, h2⟩ := view_l ok s e
    exact ⟨p, vs, rfl, .inr h1, h2⟩
def mStar (ma : Rho → M Sl) (ms : Rho → M (List Sl)) : Rho → M (List Sl) := fun ρ cs => (ma ρ cs).bind fun x cs1 => match seqD x cs1 with
  | some ds => (ms ρ cs1).bind fun xs cs2 => .ok (ds.map Sl.d ++ xs) cs2
  | none => .bad
theorem ShSs.append {K : PySem.W.Frag} {O A : List Addr} {H : Hp} : ∀ {vs ws : List V} {ds es : List Sl}, ShSs K O A H vs ds → ShSs K O A H ws es → ShSs K O A H (vs ++ ws) (ds ++ es)
  | _, _, _, _, .nil, s => s
  | _, _, _, _, .cons h t, s => .cons h (ShSs.append t s)
theorem ShSs.of {K : PySem.W.Frag} {O A : List Addr} {H : Hp} : ∀ {vs : List V} {ds : List D}, ShA K (hid (O ++ A) H) vs ds → ShSs K O A H vs (ds.map Sl.d)
  | _, _, .nil => .nil
  | _, _, .cons h t => .cons h (ShSs.of t)
theorem am_star {p : Pos} (h : EM X R E e ma) (h2 : AM X R E es ms) (hs : starEach (.Starred e p :: es) X.env = (true, eval e X.env) :: starEach es X.env := by rfl) : AM X R E (.Starred e p :: es) (mStar ma ms) := by
  obtain ⟨t, pt, k⟩ := h
  obtain ⟨u, p2, k2⟩ := h2
  refine ⟨_, StX.pa_star pt p2 hs, fun O A ρ cs σ H ok rk Q h => ?_⟩
  refine k O A ρ cs σ H ok rk _ ((PostX.bind h).step (Stp.refl ok) fun sx cs1 q x A1 H1 s1 ok1 r1 => ?_)
  split at q
  · rename_i ds ed
    obtain ⟨p, vs, rfl, h1, sa⟩ := seq_d ok1 r1 ed
    refine ⟨p, vs, rfl, h1, k2 O A1 ρ cs1 σ H1 ok1 (rk.step s1) _ ((PostX.bind q).step s1 fun sxs cs2 q2 ws A2 H2 s2 ok2 r2 => ?_)⟩
    exact q2 (vs ++ ws) A2 H2 (s1.trans s2) ok2 ((ShSs.of (sa.mono s2.same)).append r2)
  · exact q.elim

/-! ### displays -/
def mTup (ms : Rho → M (List Sl)) : Rho → M Sl := fun ρ cs => (ms ρ cs).bind fun xs cs1 => match dataAll xs with
  | some ds => if ds.length ≤ SL then .ok (.d (.tuple ds)) cs1 else .bad
  | none => .bad
def mLst (ms : Rho → M (List Sl)) : Rho → M (List D) := fun ρ cs => (ms ρ cs).bind fun xs cs1 => match dataAll xs with
  | some ds => if ds.length ≤ SL then .ok ds cs1 else .bad
  | none => .bad
theorem em_tup {x1 : Nat} (h : AM X R E es ms) : EM X R E (.Tuple es x1 pos) (mTup ms) := by
  obtain ⟨t, p, k⟩ := h
  refine em_of (pe_tup p) fun O A ρ cs σ H ok rk Q h => ?_
  refine k O A ρ cs σ H ok rk _ ((PostX.bind h).step (Stp.refl ok) fun sxs cs1 q vs A1 H1 s1 ok1 r1 => ?_)
  split at q
  · rename_i ds ed
    have sa := sh_all r1 ed
    split at q
    · rename_i hz
      refine ⟨by rw [sa.length]; exact SL_eq ▸ hz, fun p hp => ?_⟩
      exact Post.tup (R := R) (E := E) ok1 (fun v A' H' s' => q v A' H' (s1.trans s')) sa hp
    · exact q.elim
  · exact q.elim
theorem lm_lst (h : AM X R E es ms) : LM X R E (.List es pos) (mLst ms) := by
  obtain ⟨t, p, k⟩ := h
  refine ⟨_, pe_lst p, fun O A ρ cs σ H ok rk Q h => ?_⟩
  refine k O A ρ cs σ H ok rk _ ((PostX.bind h).step (Stp.refl ok) fun sxs cs1 q vs A1 H1 s1 ok1 r1 => ?_)
  split at q
  · rename_i ds ed
    have sa := sh_all r1 ed
    split at q
    · rename_i hz
      refine ⟨by rw [sa.length]; exact SL_eq ▸ hz, fun p hp => ?_⟩
      exact PostL.new (R := R) (E := E) ok1 (postL_step s1 q) sa hp
    · exact q.elim
  · exact q.elim
/-- a new list, read alone -/
def mL (m : Rho → M (List D)) : Rho → M Sl := fun ρ cs => (m ρ cs).bind fun ds cs1 => .ok (.d (.list ds)) cs1
theorem LM.em {m : Rho → M (List D)} (h : LM X R E e m) : EM X R E e (mL m) := by
  obtain ⟨t, p, k⟩ := h
  refine em_of p fun O A ρ cs σ H ok rk Q h => ?_
  refine k O A ρ cs σ H ok rk _ ((PostX.bind h).step (Stp.refl ok) fun ds cs1 q p A1 H1 s1 _ ok1 => ?_)
  obtain ⟨ok2, sh⟩ := ok1.pop
  exact q _ A1 H1 s1 ok2 sh
theorem EM.to {m m' : Rho → M Sl} (h : EM X R E e m) (q : m = m') : EM X R E e m' := q ▸ h

/-! ### subscripts -/
theorem ShA.atI {K : PySem.W.Frag} {H : Hp} {vs : List V} {ds : List D} {i : Int} {d : D} (s : ShA K H vs ds) (e : L2.atI ds i = some d) : ∃ v, L2.atI vs i = some v ∧ Sh K H v d := by
  unfold L2.atI at e ⊢
  rw [s.length]
  cases q : ixN ds.length i with
  | none =>
    rw [q] at e
    cases e
  | some j =>
    rw [q] at e
    exact s.get (show ds[j]? = some d from e)
def oIdx : Sl → Sl → M Sl := fun x y cs => match x, y with
  | .d (.tuple ds), .d (.int i) => match L2.atI ds i with
    | some d => .ok (.d d) cs
    | none => .bad
  | .d (.str z), .d (.int i) => match L2.atI z.cps.toList i with
    | some c => if z.length ≤ SL then .ok (.d (.str ⟨#[c]⟩)) cs else .bad
    | none => .bad
  | x, .d (.int i) => match viewL x cs with
    | some ds => match L2.atI ds i with
      | some d => .ok (.d d) cs
      | none => .bad
    | none => .bad
  | _, _ => .bad
theorem em_ix (ha : EM X R E a ma) (hb : EM X R E b mb) (hs : PlainIx b := by exact fun _ _ => rfl) : EM X R E (.Subscript a b pos) (mBin oIdx ma mb) := by
  obtain ⟨ta, pa, ka⟩ := ha
  obtain ⟨tb, pb, kb⟩ := hb
  refine em_of (pe_ix (IxR.or ix_tup (IxR.or ix_str ix_list)) pa pb hs) fun O A ρ cs σ H ok rk Q h => ?_
  refine two ka kb ok rk (S := fun x y cs2 => Post X.K R O A H Q E (oIdx x y cs2)) ((PostX.bind h).step (Stp.refl ok) fun x cs1 h1 => PostX.bind h1) fun x y sx sy A2 cs2 H2 s ok2 r1 r2 hS => ?_
  replace hS : Post X.K R O A2 H2 Q E (oIdx sx sy cs2) := hS.step s fun sl cs3 q v A' H' s' => q v A' H' (s.trans s')
  unfold oIdx at hS
  split at hS
  · split at hS
    · rename_i d ed
      obtain ⟨p, vs, rfl, h1, sa⟩ := sh_tup r1
      obtain ⟨v, e1, e2⟩ := sa.atI ed
      cases r2
      exact .inl ⟨p, vs, _, v, rfl, rfl, h1, e1, Post.ret ok2 hS e2⟩
    · exact hS.elim
  · split at hS
    · rename_i c ec
      split at hS
      · rename_i hz
        cases r1
        cases r2
        exact .inr (.inl ⟨_, _, c, rfl, rfl, SL_eq ▸ hz, ec, Post.ret ok2 hS (.str _)⟩)
      · exact hS.elim
    · exact hS.elim
  · split at hS
    · rename_i ds eds
      split at hS
      · rename_i d ed
        obtain ⟨p, vs, rfl, h1, sa⟩ := view_l ok2 r1 eds
        obtain ⟨v, e1, e2⟩ := sa.atI ed
        cases r2
        exact .inr (.inr ⟨p, vs, _, v, rfl, rfl, h1, e1, Post.ret ok2 hS e2⟩)
      · exact hS.elim
    · exact hS.elim
  · exact hS.elim
/-! slices -/
def cutD {α : Type} (xs : List α) (lo hi : Option Int) : List α := (xs.drop (HT.sIx xs.length 0 lo)).take (HT.sIx xs.length xs.length hi - HT.sIx xs.length 0 lo)
theorem ShA.cut {K : PySem.W.Frag} {H : Hp} {vs : List V} {ds : List D} (s : ShA K H vs ds) (lo hi : Option Int) : ShA K H (cutV vs lo hi) (cutD ds lo hi) := by
  unfold cutV cutD
  rw [s.length]
  exact (s.drop _).take _
structure OM (X : Cx) (R : XR) (E : XK) (e : Option Expr) (m : Rho → M (Option Int)) : Prop where
  ex : ∃ t, PO X e t ∧ ∀ O A ρ cs σ H, Ok X.K O A cs H → RhoOk X.K O A ρ σ H → ∀ Q : Option Int → Hp → Prop, PostX X.K R O A H E (fun i cs => ∀ A' H', Stp A H A' H' → Ok X.K O A' cs H' → Q i H') (m ρ cs) → t σ H Q
def mNo : Rho → M (Option Int) := fun _ cs => .ok none cs
def mPart (m : Rho → M Sl) : Rho → M (Option Int) := fun ρ cs => (m ρ cs).bind fun x cs1 => match x with
  | .d (.int i) => .ok (some i) cs1
  | _ => .bad
theorem om_none : OM X R E none mNo := ⟨_, po_none, fun O A ρ cs σ H ok rk Q h => h A H (Stp.refl ok) ok⟩
theorem om_some (h : EM X R E e ma) : OM X R E (some e) (mPart ma) := by
  obtain ⟨t, p, k⟩ := h
  refine ⟨_, po_some p, fun O A ρ cs σ H ok rk Q h => ?_⟩
  refine k O A ρ cs σ H ok rk _ ((PostX.bind h).step (Stp.refl ok) fun sx cs1 q x A1 H1 s1 ok1 r1 => ?_)
  split at q
  · cases r1
    exact ⟨_, rfl, q A1 H1 s1 ok1⟩
  · exact q.elim
def oCut : Sl → Option Int → Option Int → M Sl := fun x lo hi cs => match x with
  | .d (.tuple ds) => .ok (.d (.tuple (cutD ds lo hi))) cs
  | .d (.str z) => if z.length ≤ SL then .ok (.d (.str (cutS z lo hi))) cs else .bad
  | x => match viewL x cs with
    | some ds => .ok (.d (.list (cutD ds lo hi))) cs
    | none => .bad
def mCut (ma : Rho → M Sl) (ml mh : Rho → M (Option Int)) : Rho → M Sl := fun ρ cs => (ma ρ cs).bind fun x cs1 => (ml ρ cs1).bind fun lo cs2 => (mh ρ cs2).bind fun hi cs3 => oCut x lo hi cs3
theorem cut_whole {α : Type} {xs : List α} {lo hi : Option Int} (h : HT.sIx xs.length 0 lo = 0 ∧ HT.sIx xs.length xs.length hi = xs.length) : cutD xs lo hi = xs := by
  unfold cutD
  rw [h.1, h.2, List.drop_zero, Nat.sub_zero, List.take_length]
theorem em_slice {lo hi : Option Expr} {ml mh : Rho → M (Option Int)} {p2 : Pos} (ha : EM X R E a ma) (hl : OM X R E lo ml) (hh : OM X R E hi mh) : EM X R E (.Subscript a (.Slice lo hi none p2) pos) (mCut ma ml mh) := by
  obtain ⟨ta, pa, ka⟩ := ha
  obtain ⟨tl, pl, kl⟩ := hl
  obtain ⟨th, ph, kh⟩ := hh
  refine em_of (pe_slice (SlR.or sl_tupA (SlR.or sl_str sl_list)) pa pl ph) fun O A ρ cs σ H ok rk Q h => ?_
  refine ka O A ρ cs σ H ok rk _ ((PostX.bind h).step (Stp.refl ok) fun sx cs1 q x A1 H1 s1 ok1 r1 => ?_)
  refine kl O A1 ρ cs1 σ H1 ok1 (rk.step s1) _ ((PostX.bind q).step s1 fun l cs2 q2 A2 H2 s2 ok2 => ?_)
  refine kh O A2 ρ cs2 σ H2 ok2 (rk.step (s1.trans s2)) _ ((PostX.bind q2).step (s1.trans s2) fun u cs3 q3 A3 H3 s3 ok3 => ?_)
  have sx3 := r1.step (s2.trans s3)
  have st := (s1.trans s2).trans s3
  replace q3 : Post X.K R O A3 H3 Q E (oCut sx l u cs3) := q3.step st fun sl cs3 q v A' H' s' => q v A' H' (st.trans s')
  unfold oCut at q3
  split at q3
  · obtain ⟨p, vs, rfl, h1, sa⟩ := sh_tup sx3
    refine .inl ⟨p, vs, rfl, h1, fun hw => ?_, fun _ p' hp => Post.tup ok3 q3 (sa.cut l u) hp⟩
    rw [sa.length] at hw
    rw [cut_whole hw] at q3
    exact Post.ret ok3 q3 sx3
  · split at q3
    · rename_i hz
      cases sx3
      exact .inr (.inl ⟨_, rfl, SL_eq ▸ hz, Post.ret ok3 q3 (.str _)⟩)
    · exact q3.elim
  · split at q3
    · rename_i ds eds
      obtain ⟨p, vs, rfl, h1, sa⟩ := view_l ok3 sx3 eds
      exact .inr (.inr ⟨p, vs, rfl, h1, fun p' hp => Post.lst ok3 q3 (sa.cut l u) hp⟩)
    · exact q3.elim
/-! signs -/
def oNeg : Sl → M Sl := fun x cs => match x with
  | .d (.int i) => .ok (.d (.int (-i))) cs
  | _ => .bad
def mUn (o : Sl → M Sl) (ma : Rho → M Sl) : Rho → M Sl := fun ρ cs => (ma ρ cs).bind o
theorem em_neg (ha : EM X R E a ma) : EM X R E (.UnaryOp .USub a pos) (mUn oNeg ma) := by
  obtain ⟨t, p, k⟩ := ha
  refine em_of (pe_un un_neg p) fun O A ρ cs σ H ok rk Q h => ?_
  refine k O A ρ cs σ H ok rk _ ((PostX.bind h).step (Stp.refl ok) fun sx cs1 q x A1 H1 s1 ok1 r1 => ?_)
  unfold oNeg at q
  split at q
  · cases r1
    exact ⟨_, rfl, q _ A1 H1 s1 ok1 (.int _)⟩
  · exact q.elim

/-! ### calls of built-in functions -/
structure CbM (X : Cx) (R : XR) (E : XK) (f : Value) (o : List Sl → M Sl) : Prop where
  ex : ∃ r, CallR X f r ∧ ∀ O A cs H vs sls, Ok X.K O A cs H → ShSs X.K O A H vs sls → ∀ Q, Post X.K R O A H Q E (o sls cs) → r vs H Q
def mCall (o : List Sl → M Sl) (ms : Rho → M (List Sl)) : Rho → M Sl := fun ρ cs => (ms ρ cs).bind o
theorem em_callB {x : Str} {id : String} {ob : List Sl → M Sl} {p : Pos} (hc : CbM X R E (.builtin id) ob) (hg : Gl X x) (hm : X.mg x = none) (hv : bootBuiltins x = some (.builtin id)) (ha : AM X R E (e :: es) ms) (hn : x ≠ "__name__" := by decide)
    (hdb : (x == ("__debug__" : Str)) = false := by decide) (hst : starEach (e :: es) X.env = (false, eval e X.env) :: starEach es X.env := by rfl) (hs : (backTo pos (starEach es X.env)).any (·.1) = false := by rfl) : EM X R E (.Call (.Name x p) (e :: es) [] pos) (mCall ob ms) := by
  obtain ⟨r, hr, kr⟩ := hc
  obtain ⟨t, pt, k⟩ := ha
  refine em_of (pe_callB hr hg hm hv pt hn hdb hst hs) fun O A ρ cs σ H ok rk Q h => ?_
  refine k O A ρ cs σ H ok rk _ ((PostX.bind h).step (Stp.refl ok) fun sxs cs1 q vs A1 H1 s1 ok1 r1 => ?_)
  exact kr O A1 cs1 H1 vs sxs ok1 r1 Q (q.step s1 fun sl cs3 q v A' H' s' => q v A' H' (s1.trans s'))
theorem em_callTy {x : Str} {T : String} {ob : List Sl → M Sl} {p : Pos} (hc : CbM X R E (.type T) ob) (hg : Gl X x) (hm : X.mg x = none) (hv : bootBuiltins x = some (.type T)) (ha : AM X R E (e :: es) ms) (hn : x ≠ "__name__" := by decide)
    (hdb : (x == ("__debug__" : Str)) = false := by decide) (hst : starEach (e :: es) X.env = (false, eval e X.env) :: starEach es X.env := by rfl) (hs : (backTo pos (starEach es X.env)).any (·.1) = false := by rfl) : EM X R E (.Call (.Name x p) (e :: es) [] pos) (mCall ob ms) := by
  obtain ⟨r, hr, kr⟩ := hc
  obtain ⟨t, pt, k⟩ := ha
  refine em_of (pe_callTy hr hg hm hv pt hn hdb hst hs) fun O A ρ cs σ H ok rk Q h => ?_
  refine k O A ρ cs σ H ok rk _ ((PostX.bind h).step (Stp.refl ok) fun sxs cs1 q vs A1 H1 s1 ok1 r1 => ?_)
  exact kr O A1 cs1 H1 vs sxs ok1 r1 Q (q.step s1 fun sl cs3 q v A' H' s' => q v A' H' (s1.trans s'))
end
end Mir
set_option maxHeartbeats 2000000
/-! the built-in functions one by one; the program's own defs -/
namespace Mir
open PySem PySem.Spec PyProof.Rows L2

section
variable {X : Cx} {R : XR} {E : XK}
theorem cb_of {f : Value} {o : List Sl → M Sl} {r : List V → Hp → VK → Prop} (h : CallR X f r)
    (k : ∀ O A cs H vs sls, Ok X.K O A cs H → ShSs X.K O A H vs sls → ∀ Q, Post X.K R O A H Q E (o sls cs) → r vs H Q) : CbM X R E f o := ⟨r, h, k⟩
theorem one_of {K : PySem.W.Frag} {O A : List Addr} {H : Hp} {vs : List V} {sl : Sl} (s : ShSs K O A H vs [sl]) : ∃ v, vs = [v] ∧ ShS K O A H v sl := by
  cases s with
  | cons h t =>
    cases t
    exact ⟨_, rfl, h⟩
theorem two_of {K : PySem.W.Frag} {O A : List Addr} {H : Hp} {vs : List V} {sl sl' : Sl} (s : ShSs K O A H vs [sl, sl']) : ∃ v w, vs = [v, w] ∧ ShS K O A H v sl ∧ ShS K O A H w sl' := by
  cases s with
  | cons h t =>
    obtain ⟨w, rfl, h2⟩ := one_of t
    exact ⟨_, _, rfl, h, h2⟩
/-- len -/
def bLen : List Sl → M Sl := fun xs cs => match xs with
  | [.d (.str z)] => if z.length ≤ SL then .ok (.d (.int z.length)) cs else .bad
  | [x] => match seqD x cs with
    | some ds => .ok (.d (.int ds.length)) cs
    | none => .bad
  | _ => .bad
theorem cb_len : CbM X R E (.builtin "len") bLen := by
  refine cb_of call_len fun O A cs H vs sls ok rs Q h => ?_
  unfold bLen at h
  split at h
  · obtain ⟨v, rfl, r⟩ := one_of rs
    split at h
    · rename_i hz
      cases r
      exact ⟨_, _, rfl, ⟨SL_eq ▸ hz, rfl⟩, Post.ret ok h (.int _)⟩
    · exact h.elim
  · obtain ⟨v, rfl, r⟩ := one_of rs
    split at h
    · rename_i ds ed
      obtain ⟨p, ws, rfl, hq, sa⟩ := seq_d ok r ed
      rw [← sa.length] at h
      refine ⟨_, ws.length, rfl, ?_, Post.ret ok h (.int _)⟩
      rcases hq with hq | hq
      · exact .inr ⟨ws, hq, rfl⟩
      · exact .inl ⟨ws, hq, rfl⟩
    · exact h.elim
  · exact h.elim
/-- abs, int, max, min -/
def bAbs : List Sl → M Sl := fun xs cs => match xs with
  | [.d (.int i)] => .ok (.d (.int (if i < 0 then -i else i))) cs
  | _ => .bad
theorem cb_abs : CbM X R E (.builtin "abs") bAbs := by
  refine cb_of call_abs fun O A cs H vs sls ok rs Q h => ?_
  unfold bAbs at h
  split at h
  · obtain ⟨v, rfl, r⟩ := one_of rs
    cases r
    exact ⟨_, rfl, Post.ret ok h (.int _)⟩
  · exact h.elim
def bInt : List Sl → M Sl := fun xs cs => match xs with
  | [.d (.int i)] => .ok (.d (.int i)) cs
  | [.d (.bool k)] => .ok (.d (.int (if k = true then 1 else 0))) cs
  | _ => .bad
theorem cb_int : CbM X R E (.type "int") bInt := by
  refine cb_of call_int1 fun O A cs H vs sls ok rs Q h => ?_
  unfold bInt at h
  split at h
  · obtain ⟨v, rfl, r⟩ := one_of rs
    cases r
    exact .inl ⟨_, rfl, Post.ret ok h (.int _)⟩
  · obtain ⟨v, rfl, r⟩ := one_of rs
    cases r
    exact .inr ⟨_, rfl, Post.ret ok h (.int _)⟩
  · exact h.elim
def bMax : List Sl → M Sl := fun xs cs => match xs with
  | [.d (.int i), .d (.int j)] => .ok (.d (.int (if j > i then j else i))) cs
  | _ => .bad
theorem cb_max (hc : X.calm = true) : CbM X R E (.builtin "max") bMax := by
  refine cb_of (call_max2 hc) fun O A cs H vs sls ok rs Q h => ?_
  unfold bMax at h
  split at h
  · obtain ⟨v, w, rfl, r1, r2⟩ := two_of rs
    cases r1
    cases r2
    exact ⟨_, _, rfl, Post.ret ok h (.int _)⟩
  · exact h.elim
def bMin : List Sl → M Sl := fun xs cs => match xs with
  | [.d (.int i), .d (.int j)] => .ok (.d (.int (if j < i then j else i))) cs
  | _ => .bad
theorem cb_min (hc : X.calm = true) : CbM X R E (.builtin "min") bMin := by
  refine cb_of (call_min2 hc) fun O A cs H vs sls ok rs Q h => ?_
  unfold bMin at h
  split at h
  · obtain ⟨v, w, rfl, r1, r2⟩ := two_of rs
    cases r1
    cases r2
    exact ⟨_, _, rfl, Post.ret ok h (.int _)⟩
  · exact h.elim
/-- all, any, sum over a list -/
def bAll : List Sl → M Sl := fun xs cs => match xs with
  | [x] => match viewL x cs with
    | some ds => match boolsD ds with
      | some bs => .ok (.d (.bool (bs.all id))) cs
      | none => .bad
    | none => .bad
  | _ => .bad
theorem cb_all (hc : X.calm = true) : CbM X R E (.builtin "all") bAll := by
  refine cb_of (cr_all hc) fun O A cs H vs sls ok rs Q h => ?_
  unfold bAll at h
  split at h
  · obtain ⟨v, rfl, r⟩ := one_of rs
    split at h
    · rename_i ds ed
      split at h
      · rename_i bs eb
        obtain ⟨p, ws, rfl, hq, sa⟩ := view_l ok r ed
        have e := sa.bools eb
        subst e
        exact ⟨p, bs, rfl, hq, Post.ret ok h (.bl _)⟩
      · exact h.elim
    · exact h.elim
  · exact h.elim
def bAny : List Sl → M Sl := fun xs cs => match xs with
  | [x] => match viewL x cs with
    | some ds => match boolsD ds with
      | some bs => .ok (.d (.bool (bs.any id))) cs
      | none => .bad
    | none => .bad
  | _ => .bad
theorem cb_any (hc : X.calm = true) : CbM X R E (.builtin "any") bAny := by
  refine cb_of (cr_any hc) fun O A cs H vs sls ok rs Q h => ?_
  unfold bAny at h
  split at h
  · obtain ⟨v, rfl, r⟩ := one_of rs
    split at h
    · rename_i ds ed
      split at h
      · rename_i bs eb
        obtain ⟨p, ws, rfl, hq, sa⟩ := view_l ok r ed
        have e := sa.bools eb
        subst e
        exact ⟨p, bs, rfl, hq, Post.ret ok h (.bl _)⟩
      · exact h.elim
    · exact h.elim
  · exact h.elim
def bSum : List Sl → M Sl := fun xs cs => match xs with
  | [x] => match viewL x cs with
    | some ds => match intsD ds with
      | some ns => .ok (.d (.int ns.sum)) cs
      | none => .bad
    | none => .bad
  | _ => .bad
theorem cb_sum (hc : X.calm = true) : CbM X R E (.builtin "sum") bSum := by
  refine cb_of (cr_sum hc) fun O A cs H vs sls ok rs Q h => ?_
  unfold bSum at h
  split at h
  · obtain ⟨v, rfl, r⟩ := one_of rs
    split at h
    · rename_i ds ed
      split at h
      · rename_i ns eb
        obtain ⟨p, ws, rfl, hq, sa⟩ := view_l ok r ed
        have e := sa.ints eb
        subst e
        exact ⟨p, ns, rfl, hq, Post.ret ok h (.int _)⟩
      · exact h.elim
    · exact h.elim
  · exact h.elim
/-- tuple(x), list(x) -/
def bTuple : List Sl → M Sl := fun xs cs => match xs with
  | [.d (.tuple ds)] => .ok (.d (.tuple ds)) cs
  | [x] => match viewL x cs with
    | some ds => .ok (.d (.tuple ds)) cs
    | none => .bad
  | _ => .bad
theorem cb_tuple : CbM X R E (.type "tuple") bTuple := by
  refine cb_of call_tuple_of fun O A cs H vs sls ok rs Q h => ?_
  unfold bTuple at h
  split at h
  · obtain ⟨v, rfl, r⟩ := one_of rs
    obtain ⟨p, ws, rfl, h1, sa⟩ := sh_tup r
    exact ⟨p, ws, rfl, .inr ⟨h1, Post.ret ok h r⟩⟩
  · obtain ⟨v, rfl, r⟩ := one_of rs
    split at h
    · rename_i ds ed
      obtain ⟨p, ws, rfl, hq, sa⟩ := view_l ok r ed
      exact ⟨p, ws, rfl, .inl ⟨hq, fun l hl => Post.tup ok h sa hl⟩⟩
    · exact h.elim
  · exact h.elim
def bStr : List Sl → M Sl := fun xs cs => match xs with
  | [.d (.int i)] => if i.natAbs.log2 < 1920 then .ok (.d (.str (toString i))) cs else .bad
  | _ => .bad
theorem cb_str : CbM X R E (.type "str") bStr := by
  refine cb_of call_str_int fun O A cs H vs sls ok rs Q h => ?_
  unfold bStr at h
  split at h
  · obtain ⟨v, rfl, r⟩ := one_of rs
    split at h
    · rename_i hz
      cases r
      exact ⟨_, rfl, hz, Post.ret ok h (.str _)⟩
    · exact h.elim
  · exact h.elim
variable {pos : Pos} {a b e : Expr} {es : List Expr} {ma : Rho → M Sl} {ms : Rho → M (List Sl)}
/-- list(x): a new list -/
def mListOf (ma : Rho → M Sl) : Rho → M (List D) := fun ρ cs => (ma ρ cs).bind fun x cs1 => match seqD x cs1 with
  | some ds => .ok ds cs1
  | none => .bad
theorem lm_list {p : Pos} (hg : Gl X "list") (hm : X.mg "list" = none) (ha : EM X R E e ma) (hst : starEach [e] X.env = (false, eval e X.env) :: starEach [] X.env := by rfl) (hs : (backTo pos (starEach [] X.env)).any (·.1) = false := by rfl) :
    LM X R E (.Call (.Name "list" p) [e] [] pos) (mListOf ma) := by
  obtain ⟨t, pt, k⟩ := ha
  refine ⟨_, pe_callTy call_list_of hg hm (by decide +kernel) (pa_cons pt pa_nil hst) (by decide) (by decide) hst hs, fun O A ρ cs σ H ok rk Q h => ?_⟩
  refine k O A ρ cs σ H ok rk _ ((PostX.bind h).step (Stp.refl ok) fun sx cs1 q x A1 H1 s1 ok1 r1 => ?_)
  split at q
  · rename_i ds ed
    obtain ⟨p, ws, rfl, hq, sa⟩ := seq_d ok1 r1 ed
    refine ⟨p, ws, rfl, ?_, fun l hl => PostL.new (R := R) (E := E) ok1 (postL_step s1 q) sa hl⟩
    rcases hq with hq | hq
    · exact .inr hq
    · exact .inl hq
  · exact q.elim

/-! isinstance -/
def tyD : D → String
  | .none => "NoneType"
  | .bool _ => "bool"
  | .int _ => "int"
  | .str _ => "str"
  | .list _ => "list"
  | .tuple _ => "tuple"
  | .dict _ => "dict"
def tyS (cs : List HC) : Sl → String
  | .d d => tyD d
  | .h _ => "list"
  | .s _ => "list"
def isT (t u : String) : Bool := t == u || (t == "bool" && u == "int")
/-- the six types that are asked for -/
def askedT (u : String) : Bool := u == "int" || u == "bool" || u == "str" || u == "tuple" || u == "list" || u == "dict"
theorem kit_is {K : PySem.W.Frag} {t u : String} (ht : t = "NoneType" ∨ t = "bool" ∨ t = "int" ∨ t = "str" ∨ t = "list" ∨ t = "tuple" ∨ t = "dict") (hu : u = "int" ∨ u = "bool" ∨ u = "str" ∨ u = "tuple" ∨ u = "list" ∨ u = "dict") :
    PySem.W.kitOne K (.type t) (.type u) = some (isT t u) := by
  rcases ht with rfl | rfl | rfl | rfl | rfl | rfl | rfl <;> rcases hu with rfl | rfl | rfl | rfl | rfl | rfl <;> exact kit_ty (by decide +kernel)
def mIsi (u : String) (ma : Rho → M Sl) : Rho → M Sl := fun ρ cs => (ma ρ cs).bind fun x cs1 => .ok (.d (.bool (isT (tyS cs1 x) u))) cs1
theorem em_isi {u : String} {n : Str} {p p2 : Pos} (hu : u = "int" ∨ u = "bool" ∨ u = "str" ∨ u = "tuple" ∨ u = "list" ∨ u = "dict") (hg : Gl X "isinstance") (hm : X.mg "isinstance" = none) (hg2 : Gl X n) (hm2 : X.mg n = none) (hv2 : bootBuiltins n = some (.type u)) (ha : EM X R E e ma)
    (hn2 : n ≠ "__name__" := by decide) (hd2 : (n == ("__debug__" : Str)) = false := by decide)
    (hst : starEach [e, .Name n p2] X.env = (false, eval e X.env) :: starEach [.Name n p2] X.env := by rfl) (hst2 : starEach [.Name n p2] X.env = (false, eval (.Name n p2) X.env) :: starEach [] X.env := by rfl) (hs : (backTo pos (starEach [.Name n p2] X.env)).any (·.1) = false := by rfl) :
    EM X R E (.Call (.Name "isinstance" p) [e, .Name n p2] [] pos) (mIsi u ma) := by
  obtain ⟨t, pt, k⟩ := ha
  refine em_of (pe_callB call_isi hg hm (by decide +kernel) (pa_cons pt (pa_cons (pe_bltn (v := .ty u) hg2 hm2 hv2 rfl hn2 hd2) pa_nil hst2) hst) (by decide) (by decide) hst hs) fun O A ρ cs σ H ok rk Q h => ?_
  refine k O A ρ cs σ H ok rk _ ((PostX.bind h).step (Stp.refl ok) fun sx cs1 q x A1 H1 s1 ok1 r1 => ?_)
  have fin : ∀ t, TyX X.K H1 x (.type t) → tyS cs1 sx = t → (t = "NoneType" ∨ t = "bool" ∨ t = "int" ∨ t = "str" ∨ t = "list" ∨ t = "tuple" ∨ t = "dict") → rIsi X.K [x, V.ty u] H1 Q := fun t ty e ht => by
    refine ⟨x, .ty u, .type t, .type u, isT (tyS cs1 sx) u, rfl, .ty u, ty, ?_, q _ A1 H1 s1 ok1 (.bl _)⟩
    rw [e]
    exact kit_is ht hu
  cases sx with
  | d d =>
    cases r1 with
    | non => exact fin _ (.base .non) rfl (by simp)
    | bl b => exact fin _ (.base (.bl b)) rfl (by simp)
    | int i => exact fin _ (.base (.int i)) rfl (by simp)
    | str z => exact fin _ (.base (.str z)) rfl (by simp)
    | lst h t => exact fin _ (.base (.lst (hid_same _ _ h))) rfl (by simp)
    | tup h t =>
      refine fin "tuple" ?_ rfl (by simp)
      rcases SqT.same hid_same h with (h | ⟨o, h⟩) | ⟨o, its, n, hk, hc, _⟩
      · exact .base (.tup h)
      · exact .fTuple h
      · exact .kTuple hk hc
    | dic h t => exact fin _ (.base (.dK (hid_same _ _ h))) rfl (by simp)
  | h k =>
    obtain ⟨a, ea, rfl⟩ := r1
    obtain ⟨c, ec, hc⟩ := ok1.hc ea
    cases c with
    | lst xs =>
      obtain ⟨vs, h, t⟩ := hc
      exact fin "list" (.base (.lst h)) rfl (by simp)
  | s ns =>
    obtain ⟨a, rfl, h⟩ := r1
    rcases hid_same.seq h with (h | ⟨o, h⟩) | ⟨o, its, n, hk, hc, _⟩
    · exact fin "list" (.base (.lst h)) rfl (by simp)
    · exact fin "list" (.base (.frz h)) rfl (by simp)
    · exact fin "list" (.kList hk hc) rfl (by simp)
end

/-! ### the program's own defs -/
/-- the ways out of a call: the handles are the caller's again -/
def PostR (K : PySem.W.Frag) (R : XR) (O A : List Addr) (H : Hp) (Q : VK) (E : XK) : Res Sl → Prop
  | .ok sl cs => ∀ v H', Stp A H A H' → Ok K O A cs H' → ShS K O A H' v sl → Q v H'
  | .exc x cs => ∀ H' cls dx, Stp A H A H' → Ok K O A cs H' → R x cls dx (hid (O ++ A) H') → E cls dx H'
  | .bad => False
def spM (K : PySem.W.Frag) (R : XR) (n : Nat) (m : List Sl → M Sl) : Sp := fun vs H Q E => ∃ O A cs sls, Ok K O A cs H ∧ ShSs K O A H vs sls ∧ sls.length = n ∧ PostR K R O A H Q E (m sls cs)
theorem PostR.of {K : PySem.W.Frag} {R : XR} {O A : List Addr} {H : Hp} {Q : VK} {E : XK} : ∀ {r : Res Sl}, Post K R O A H Q E r → PostR K R O A H Q E r
  | .ok sl cs, h => fun v H' s ok r => h v A H' s ok r
  | .exc x cs, h => fun H' cls dx s ok r => h A H' cls dx s ok r
  | .bad, h => h
/-- what is behind the body: the handles that it made are given up -/
def fin (n : Nat) : Res Fl → Res Sl
  | .ok (.rt (.d d)) cs => .ok (.d d) (cs.take n)
  | .ok (.rt (.h k)) cs => if k < n then .ok (.h k) (cs.take n) else match cs[k]? with
    | some (.lst ds) => .ok (.d (.list ds)) (cs.take n)
    | none => .bad
  | .ok (.rt (.s _)) _ => .bad
  | .ok (.nx _) cs => .ok (.d .none) (cs.take n)
  | .ok _ _ => .bad
  | .exc x cs => .exc x (cs.take n)
  | .bad => .bad
def mDef (N : Nat) (mb : Rho → M Fl) : List Sl → M Sl := fun sls cs => fin cs.length (mb (sls.map some ++ List.replicate (N - sls.length) none) cs)
def RMono (R : XR) : Prop := ∀ x cls dx Hd Hd', Same Hd Hd' → R x cls dx Hd → R x cls dx Hd'
section
variable {K : PySem.W.Frag} {R : XR} {O A A' : List Addr} {cs cs' : List HC} {H H' : Hp}
theorem Stp.back (s : Stp A H A' H') : Stp A H A H' := ⟨⟨[], by simp, by simp⟩, s.keep, s.live⟩
theorem Stp.less (s : Stp A H A' H') : Same (hid (O ++ A') H') (hid (O ++ A) H') := by
  obtain ⟨⟨B, eB, _⟩, _, _⟩ := s
  intro b o h
  obtain ⟨hb, e⟩ := hid_some.mp h
  refine hid_some.mpr ⟨fun z => hb ?_, e⟩
  rw [eB]
  rcases List.mem_append.mp z with z | z
  · exact List.mem_append_left _ z
  · exact List.mem_append_right _ (List.mem_append_left _ z)
theorem Ok.back (s : Stp A H A' H') (ok : Ok K O A' cs' H') (hn : A.length = cs.length) : Ok K O A (cs'.take cs.length) H' := by
  obtain ⟨⟨B, eB, _⟩, _, _⟩ := id s
  have hl : A.length ≤ A'.length := by rw [eB, List.length_append]; omega
  have nd := ok.nd
  rw [eB] at nd
  refine ⟨fun o ho => ⟨(ok.out o ho).1, fun z => (ok.out o ho).2 (by rw [eB]; exact List.mem_append_left _ z)⟩, ?_, (List.nodup_append.mp nd).1, fun k a c e1 e2 => ?_⟩
  · rw [List.length_take, ← ok.len, hn]
    rw [hn] at hl
    omega
  · obtain ⟨hk, _⟩ := List.getElem?_eq_some_iff.mp e1
    have e1' : A'[k]? = some a := by rw [eB, List.getElem?_append_left hk]; exact e1
    have e2' : cs'[k]? = some c := by
      rw [List.getElem?_take] at e2
      split at e2
      · exact e2
      · cases e2
    exact (ok.at k a c e1' e2').mono s.less
theorem fin_ok {Q : VK} {E : XK} (hR : RMono R) (hn : A.length = cs.length) {r : Res Fl} (h : PostR K R O A H Q E (fin cs.length r)) : PostS K R O A H { nx := fun _ H' => Q .non H', rt := Q } E r := by
  cases r with
  | bad => exact h
  | exc x cs' => exact fun A' H' cls dx s ok r => h H' cls dx s.back (ok.back s hn) (hR _ _ _ _ _ s.less r)
  | ok f cs' =>
    cases f with
    | nx ρ => exact fun σ' A' H' s ok _ => h _ H' s.back (ok.back s hn) .non
    | bk ρ => exact (show False from h).elim
    | ct ρ => exact (show False from h).elim
    | rt sl =>
      cases sl with
      | d d => exact fun v A' H' s ok r => h v H' s.back (ok.back s hn) (Sh.mono s.less r)
      | h k =>
        intro v A' H' s ok r
        simp only [fin] at h
        obtain ⟨a, ea, rfl⟩ := r
        obtain ⟨⟨B, eB, fB⟩, _, _⟩ := id s
        by_cases hk : k < cs.length
        · rw [if_pos hk] at h
          refine h _ H' s.back (ok.back s hn) ⟨a, ?_, rfl⟩
          rw [eB, List.getElem?_append_left (hn ▸ hk)] at ea
          exact ea
        · rw [if_neg hk] at h
          split at h
          · rename_i ds ed
            obtain ⟨vs, hl, hs⟩ := ok.at k a _ ea ed
            refine h _ H' s.back (ok.back s hn) (.lst (hid_some.mpr ⟨fun z => ?_, hl⟩) (hs.mono s.less))
            have ha' : a ∈ A' := List.mem_of_getElem? ea
            rcases List.mem_append.mp z with z | z
            · exact (ok.out a z).2 ha'
            · have nd := ok.nd
              rw [eB] at nd ea
              rw [List.getElem?_append_right (by omega)] at ea
              exact (List.nodup_append.mp nd).2.2 a z a (List.mem_of_getElem? ea) rfl
          · exact h.elim
      | s ns => exact (show False from h).elim
end
section
variable {P : Program} {w : World} {K : PySem.W.Frag} {mg : Str → Option Value} {base : Heap} {R : XR}
theorem rho_start {N ps : List Str} {O A : List Addr} {H : Hp} {vs : List V} {sls : List Sl} (h : ShSs K O A H vs sls) : RhoOk K O A (sls.map some ++ List.replicate (N.length - sls.length) none) (L2.start N vs) H := by
  refine ⟨?_, fun i sl e => ?_⟩
  · unfold L2.start
    simp [h.length]
  · by_cases hi : i < sls.length
    · rw [List.getElem?_append_left (by simpa using hi), List.getElem?_map] at e
      have get : ∀ {vs : List V} {sls : List Sl} (i : Nat), ShSs K O A H vs sls → (sls[i]?).map some = some (some sl) → ∃ v, vs[i]? = some v ∧ ShS K O A H v sl := by
        intro vs sls i hs
        induction hs generalizing i with
        | nil => intro e; simp at e
        | cons h t ih =>
          intro e
          cases i with
          | zero =>
            simp at e
            subst e
            exact ⟨_, rfl, h⟩
          | succ i => exact ih i (by simpa using e)
      obtain ⟨v, e1, e2⟩ := get i h e
      refine ⟨v, ?_, e2⟩
      unfold L2.start
      rw [List.getElem?_append_left (by rw [List.length_map, h.length]; exact hi), List.getElem?_map, e1]
      rfl
    · rw [List.getElem?_append_right (by simpa using hi)] at e
      rw [List.getElem?_replicate] at e
      split at e
      · cases e
      · cases e
/-- a def that no exception leaves -/
theorem def_ok {x qual : Str} {st : Stmt} {f : Addr} {fd : FuncData} {N ps : List Str} {k : Nat} {mb : Rho → M Fl} (hR : RMono R) (F : Fun K x qual st f fd) (S : FnScope N ps (defScope st))
    (hb : ∀ (cdv : Value) (A : Around) (outer : List Env) (s : Shared) (H : Hp) (E : XK), Room k (A.deeper (envOfC qual (defScope st) s.heap.objs.size f cdv)) → BM (cxOf CX0 P w K mg base N qual (defScope st) f cdv A outer s H E).nox R E (defBody st) mb) :
    FnOk P w K mg base CX0 (k + 1) f fd ps (spM K R ps.length (mDef N.length mb)) := by
  refine F.ok S (fun vs H Q E h => ?_) (fun cdv A outer s H vs Q E hr h => ?_)
  · obtain ⟨O, A, cs, sls, _, hs, hn, _⟩ := h
    exact hs.length.trans hn
  · obtain ⟨O, A', cs, sls, ok, hs, hn, h⟩ := h
    obtain ⟨t, p, kk⟩ := hb cdv A outer s H E hr
    exact ⟨t, p, kk O A' _ cs _ H ok (rho_start (ps := ps) hs) _ (fin_ok hR ok.len h)⟩
end
section
variable {X : Cx} {R : XR} {E : XK} {pos : Pos} {e : Expr} {es : List Expr} {ms : Rho → M (List Sl)} {CX : CXT} {k n : Nat} {f : Addr} {fd : FuncData} {ps : List Str} {m : List Sl → M Sl}
def mOwn (n : Nat) (m : List Sl → M Sl) (ms : Rho → M (List Sl)) : Rho → M Sl := fun ρ cs => (ms ρ cs).bind fun xs cs1 => if xs.length = n then m xs cs1 else .bad
theorem post_of {K : PySem.W.Frag} {O A A1 : List Addr} {cs1 : List HC} {H H1 : Hp} {Q : VK} {r : Res Sl} (s : Stp A H A1 H1) (h : Post K R O A H Q E r) : PostR K R O A1 H1 Q E r :=
  PostR.of (h.step s fun sl cs3 q v A' H' s' => q v A' H' (s.trans s'))
theorem em_call {x : Str} {p : Pos} (F : FnOk X.prog X.w X.K X.mg X.base CX k f fd ps (spM X.K R n m)) (hr : Room k X.A) (hg : Gl X x) (hm : X.mg x = some (.ref f)) (hk : PySem.W.keepIn X.K (.ref f) = true) (hb : Binds X.K fd ps []) (hx : Passes CX X E)
    (ha : AM X R E (e :: es) ms) (hd : (x == ("__debug__" : Str)) = false := by decide) (hst : starEach (e :: es) X.env = (false, eval e X.env) :: starEach es X.env := by rfl) (hs : (backTo pos (starEach es X.env)).any (·.1) = false := by rfl) :
    EM X R E (.Call (.Name x p) (e :: es) [] pos) (mOwn n m ms) := by
  obtain ⟨t, pt, kk⟩ := ha
  refine em_of (pe_call F hr hg hm hk hb .nil hx pt hd hst hs) fun O A ρ cs σ H ok rk Q h => ?_
  refine kk O A ρ cs σ H ok rk _ ((PostX.bind h).step (Stp.refl ok) fun sxs cs1 q vs A1 H1 s1 ok1 r1 => ?_)
  split at q
  · rename_i hn
    refine ⟨O, A1, cs1, sxs, ok1, by rw [List.append_nil]; exact r1, hn, post_of (cs1 := cs1) s1 q⟩
  · exact q.elim
end
end Mir
set_option maxHeartbeats 2000000
/-! statements, loops, comprehensions -/
namespace Mir
open PySem PySem.Spec PyProof.Rows L2

section
variable {X : Cx} {R : XR} {E : XK} {pos : Pos} {a b c e tg iter : Expr} {es : List Expr} {st : Stmt} {rest body : List Stmt} {ma mb mc : Rho → M Sl} {ms : Rho → M (List Sl)} {mt : Rho → M Bool} {f g : Rho → M Fl}
theorem sm_of {m : Rho → M Fl} {t : TS} (h : PS X st t) (k : ∀ O A ρ cs σ H, Ok X.K O A cs H → RhoOk X.K O A ρ σ H → ∀ De, PostS X.K R O A H De E (m ρ cs) → t De σ H) : SM X R E st m := ⟨t, h, k⟩
theorem PostS.step {K : PySem.W.Frag} {O A A1 : List Addr} {H H1 : Hp} {De : Ends} (s : Stp A H A1 H1) {r : Res Fl} (h : PostS K R O A H De E r) : PostS K R O A1 H1 De E r :=
  PostX.step s (fun f cs q => by
    cases f with
    | nx ρ => exact fun σ' A' H' s' => q σ' A' H' (s.trans s')
    | rt sl => exact fun v A' H' s' => q v A' H' (s.trans s')
    | bk ρ => exact fun σ' A' H' s' => q σ' A' H' (s.trans s')
    | ct ρ => exact fun σ' A' H' s' => q σ' A' H' (s.trans s')) h
/-! ### blocks -/
def sNil : Rho → M Fl := fun ρ cs => .ok (.nx ρ) cs
def sSeq (f g : Rho → M Fl) : Rho → M Fl := fun ρ cs => (f ρ cs).bind fun x cs1 => match x with
  | .nx ρ1 => g ρ1 cs1
  | x => .ok x cs1
theorem bm_nil : BM X R E [] sNil := ⟨_, pss_nil, fun O A ρ cs σ H ok rk De h => h σ A H (Stp.refl ok) ok rk⟩
theorem bm_one (h : SM X R E st f) : BM X R E [st] f := by
  obtain ⟨t, p, k⟩ := h
  exact ⟨t, pss_one p, k⟩
theorem bm_cons (h : SM X R E st f) (h2 : BM X R E rest g) : BM X R E (st :: rest) (sSeq f g) := by
  obtain ⟨t, p, k⟩ := h
  obtain ⟨u, p2, k2⟩ := h2
  refine ⟨_, pss_cons p p2, fun O A ρ cs σ H ok rk De h => ?_⟩
  refine k O A ρ cs σ H ok rk { De with nx := u De } (PostX.step (Stp.refl ok) (fun x cs1 q => ?_) (PostX.bind h))
  cases x with
  | nx ρ1 => exact fun σ' A' H' s ok' rk' => k2 O A' ρ1 cs1 σ' H' ok' rk' De (PostS.step (De := De) (r := g ρ1 cs1) s q)
  | rt sl => exact q
  | bk ρ1 => exact q
  | ct ρ1 => exact q
theorem sm_pass : SM X R E (.Pass pos) sNil := sm_of ps_pass fun O A ρ cs σ H ok rk De h => h σ A H (Stp.refl ok) ok rk
def sBreak : Rho → M Fl := fun ρ cs => .ok (.bk ρ) cs
def sCont : Rho → M Fl := fun ρ cs => .ok (.ct ρ) cs
theorem sm_break : SM X R E (.Break pos) sBreak := sm_of ps_break fun O A ρ cs σ H ok rk De h => h σ A H (Stp.refl ok) ok rk
theorem sm_cont : SM X R E (.Continue pos) sCont := sm_of ps_continue fun O A ρ cs σ H ok rk De h => h σ A H (Stp.refl ok) ok rk
def sRet (ma : Rho → M Sl) : Rho → M Fl := fun ρ cs => (ma ρ cs).bind fun x cs1 => .ok (.rt x) cs1
theorem sm_ret (h : EM X R E e ma) : SM X R E (.Return (some e) pos) (sRet ma) := by
  obtain ⟨t, p, k⟩ := h
  exact sm_of (ps_ret p) fun O A ρ cs σ H ok rk De h => k O A ρ cs σ H ok rk _ (PostX.step (Stp.refl ok) (fun x cs1 q => q) (PostX.bind h))
theorem sm_retN : SM X R E (.Return none pos) (sRet (mC .none)) := sm_of ps_retN fun O A ρ cs σ H ok rk De h => h .non A H (Stp.refl ok) ok .non
def sIf (mt : Rho → M Bool) (f g : Rho → M Fl) : Rho → M Fl := mIf mt f g
theorem sm_if {bs cs' : List Stmt} (hc : TM X R E c mt) (ha : BM X R E bs f) (hb : BM X R E cs' g) : SM X R E (.If c bs cs' pos) (sIf mt f g) := by
  obtain ⟨t, p, k⟩ := hc
  obtain ⟨ta, pa, ka⟩ := ha
  obtain ⟨tb, pb, kb⟩ := hb
  refine sm_of (ps_if p pa pb) fun O A ρ cs σ H ok rk De h => ?_
  refine k O A ρ cs σ H ok rk _ (PostX.step (Stp.refl ok) (fun c cs1 q A1 H1 s1 ok1 => ?_) (PostX.bind h))
  cases c with
  | true => exact ka O A1 ρ cs1 σ H1 ok1 (rk.step s1) De (PostS.step (De := De) (r := f ρ cs1) s1 q)
  | false => exact kb O A1 ρ cs1 σ H1 ok1 (rk.step s1) De (PostS.step (De := De) (r := g ρ cs1) s1 q)
/-! ### names set -/
def sSet (i : Nat) (ma : Rho → M Sl) : Rho → M Fl := fun ρ cs => (ma ρ cs).bind fun x cs1 => .ok (.nx (ρ.set i (some x))) cs1
theorem set_run {t : TE} {i : Nat} (k : ∀ O A ρ cs σ H, Ok X.K O A cs H → RhoOk X.K O A ρ σ H → ∀ Q, Post X.K R O A H Q E (ma ρ cs) → t σ H Q) {O A : List Addr} {ρ : Rho} {cs : List HC} {σ : L2.St} {H : Hp} (ok : Ok X.K O A cs H) (rk : RhoOk X.K O A ρ σ H) {De : Ends}
    (h : PostS X.K R O A H De E (sSet i ma ρ cs)) : tAsg t (gName i) De σ H := by
  refine k O A ρ cs σ H ok rk _ (PostX.step (Stp.refl ok) (fun sx cs1 q x A1 H1 s1 ok1 r1 => ?_) (PostX.bind h))
  exact q _ A1 H1 s1 ok1 ((rk.step s1).set r1)
theorem sm_set (i : Nat) {x : Str} {pos' : Pos} (hN : X.N.Nodup) (he : EM X R E e ma) (hi : X.N[i]? = some x := by rfl) (hx : Loc X.env.scope x := by first | exact Or.inl rfl | exact Or.inr rfl) (hs : swapsWith e (some (.Name x pos')) pos.line X.env = pure false := by rfl)
    (hf : X.fn x = true ∨ X.env.scope.names.lookup x = some .local := by first | exact .inl rfl | exact .inr rfl | assumption) : SM X R E (.Assign [.Name x pos'] e pos) (sSet i ma) := by
  obtain ⟨t, p, k⟩ := he
  exact sm_of (ps_set hN hi hx p hs hf) fun O A ρ cs σ H ok rk De h => set_run k ok rk h
/-- x = a new list, that x alone holds from then on -/
def sNew (i : Nat) (m : Rho → M (List D)) : Rho → M Fl := fun ρ cs => (m ρ cs).bind fun ds cs1 => .ok (.nx (ρ.set i (some (.h cs1.length)))) (cs1 ++ [.lst ds])
theorem new_run {t : TE} {i : Nat} {m : Rho → M (List D)} (k : ∀ O A ρ cs σ H, Ok X.K O A cs H → RhoOk X.K O A ρ σ H → ∀ Q, PostL X.K R O A H Q E (m ρ cs) → t σ H Q) {O A : List Addr} {ρ : Rho} {cs : List HC} {σ : L2.St} {H : Hp} (ok : Ok X.K O A cs H) (rk : RhoOk X.K O A ρ σ H) {De : Ends}
    (h : PostS X.K R O A H De E (sNew i m ρ cs)) : tAsg t (gName i) De σ H := by
  refine k O A ρ cs σ H ok rk _ (PostX.step (Stp.refl ok) (fun ds cs1 q p A1 H1 s0 s1 ok1 => ?_) (PostX.bind h))
  refine q _ _ H1 s1 ok1 ((rk.step s1).set ⟨p, ?_, rfl⟩)
  have hl : A1.length = cs1.length := by
    have := ok1.len
    simp at this
    exact this
  rw [← hl]
  simp
theorem sm_new (i : Nat) {m : Rho → M (List D)} {x : Str} {pos' : Pos} (hN : X.N.Nodup) (he : LM X R E e m) (hi : X.N[i]? = some x := by rfl) (hx : Loc X.env.scope x := by first | exact Or.inl rfl | exact Or.inr rfl) (hs : swapsWith e (some (.Name x pos')) pos.line X.env = pure false := by rfl)
    (hf : X.fn x = true ∨ X.env.scope.names.lookup x = some .local := by first | exact .inl rfl | exact .inr rfl | assumption) : SM X R E (.Assign [.Name x pos'] e pos) (sNew i m) := by
  obtain ⟨t, p, k⟩ := he
  exact sm_of (ps_set hN hi hx p hs hf) fun O A ρ cs σ H ok rk De h => new_run k ok rk h

/-! ### handles written: x[i] = e; x.append(e) -/
theorem Ok.put {K : PySem.W.Frag} {O A : List Addr} {cs : List HC} {H : Hp} {k : Nat} {a : Addr} {ds : List D} {vs : List V} (ok : Ok K O A cs H) (ha : A[k]? = some a) (hs : ShA K (hid (O ++ A) H) vs ds) :
    Ok K O A (cs.set k (.lst ds)) (upd H a (.lst vs)) ∧ Stp A H A (upd H a (.lst vs)) := by
  have hA : a ∈ A := List.mem_of_getElem? ha
  have hO : a ∉ O := fun z => (ok.out a z).2 hA
  have st : Stp A H A (upd H a (.lst vs)) := ⟨⟨[], by simp, by simp⟩, fun b o hb e => by
    rw [upd_ne (fun (z : b = a) => hb (z ▸ hA))]
    exact e, fun b hb => by
    by_cases e : b = a
    · rw [e, upd_same]
      exact fun z => by cases z
    · rw [upd_ne e]
      exact ok.tracked hb⟩
  refine ⟨⟨fun o ho => ⟨?_, (ok.out o ho).2⟩, by rw [List.length_set]; exact ok.len, ok.nd, fun j b c e1 e2 => ?_⟩, st⟩
  · rw [upd_ne (fun (z : o = a) => hO (z ▸ ho))]
    exact (ok.out o ho).1
  · by_cases hj : k = j
    · subst hj
      rw [ha] at e1
      cases e1
      have hk : k < cs.length := by
        rw [← ok.len]
        exact (List.getElem?_eq_some_iff.mp ha).1
      rw [List.getElem?_set_self hk] at e2
      cases e2
      exact ⟨vs, upd_same, hs.mono st.same⟩
    · rw [List.getElem?_set_ne hj] at e2
      have hab : b ≠ a := fun z => by
        subst z
        have h1 := List.getElem?_eq_some_iff.mp ha
        have h2 := List.getElem?_eq_some_iff.mp e1
        obtain ⟨l1, q1⟩ := h1
        obtain ⟨l2, q2⟩ := h2
        exact hj ((List.getElem_inj ok.nd).mp (q1.trans q2.symm))
      exact HcAt.at (upd_ne hab) ((ok.at j b c e1 e2).mono st.same)
/-- the k-th handle's list, written -/
def putAt (x y z : Sl) (cs : List HC) : Option (List HC) := match x, y, z with
  | .h k, .d (.int i), .d d => match cs[k]? with
    | some (.lst ds) => match ixN ds.length i with
      | some j => some (cs.set k (.lst (ds.set j d)))
      | none => none
    | none => none
  | _, _, _ => none
def sPut (mo mi mv : Rho → M Sl) : Rho → M Fl := fun ρ cs => (mv ρ cs).bind fun z cs1 => (mo ρ cs1).bind fun x cs2 => (mi ρ cs2).bind fun y cs3 => match putAt x y z cs3 with
  | some cs4 => .ok (.nx ρ) cs4
  | none => .bad
theorem sm_put {o i v : Expr} {p : Pos} {mo mi mv : Rho → M Sl} (hv : EM X R E v mv) (ho : EM X R E o mo) (hi : EM X R E i mi) (ha : ∀ v, assign (.Subscript o i p) X.env v = (do
      let ov ← holding [v] (eval o X.env)
      let iv ← holding [v, ov] (eval i X.env)
      standAt p
      holding [v, ov, iv] (setItem ov iv v)
      release [v, ov, iv] []) := by intro _; rfl) (hs : swapsWithSole [.Subscript o i p] v pos.line X.env = pure false := by rfl) (hw : swappedStores [.Subscript o i p] v X.env = pure none := by rfl)
    (h1 : (assignEach [.Subscript o i p] X.env).map (·.2) = [assign (.Subscript o i p) X.env] := by rfl) : SM X R E (.Assign [.Subscript o i p] v pos) (sPut mo mi mv) := by
  obtain ⟨tv, pv', kv⟩ := hv
  obtain ⟨to, po, ko⟩ := ho
  obtain ⟨ti, pi, ki⟩ := hi
  refine sm_of (ps_asg pv' (pg_sub po pi set_list ha) hs hw h1) fun O A ρ cs σ H ok rk De h => ?_
  refine kv O A ρ cs σ H ok rk _ (PostX.step (Stp.refl ok) (fun sz cs1 q1 z A1 H1 s1 ok1 r1 => ?_) (PostX.bind h))
  refine ko O A1 ρ cs1 σ H1 ok1 (rk.step s1) _ (PostX.step s1 (fun sx cs2 q2 x A2 H2 s2 ok2 r2 => ?_) (PostX.bind q1))
  have s12 := s1.trans s2
  refine ki O A2 ρ cs2 σ H2 ok2 (rk.step s12) _ (PostX.step s12 (fun sy cs3 q3 y A3 H3 s3 ok3 r3 => ?_) (PostX.bind q2))
  have st := s12.trans s3
  have rz := r1.step (s2.trans s3)
  have rx := r2.step s3
  cases e : putAt sx sy sz cs3 with
  | none =>
    rw [e] at q3
    exact q3.elim
  | some cs4 =>
    rw [e] at q3
    unfold putAt at e
    split at e
    · rename_i k i d
      split at e
      · rename_i ds ed
        split at e
        · rename_i j ej
          cases e
          obtain ⟨a, ea, rfl⟩ := rx
          obtain ⟨vs, hl, hsh⟩ := ok3.at k a _ ea ed
          cases r3
          obtain ⟨ok4, s4⟩ := ok3.put ea (ShA.set rz j hsh)
          refine ⟨a, vs, i, j, rfl, rfl, hl, by rw [hsh.length]; exact ej, ?_⟩
          exact q3 σ A3 _ (st.trans s4) ok4 ((rk.step st).step s4)
        · cases e
      · cases e
    · cases e
def appAt (x z : Sl) (cs : List HC) : Option (List HC) := match x, z with
  | .h k, .d d => match cs[k]? with
    | some (.lst ds) => if ds.length < SL then some (cs.set k (.lst (ds ++ [d]))) else none
    | none => none
  | _, _ => none
def isLst (x : Sl) (cs : List HC) : Bool := match x with
  | .h k => match cs[k]? with
    | some (.lst _) => true
    | none => false
  | _ => false
def sApp (mo mv : Rho → M Sl) : Rho → M Fl := fun ρ cs => (mo ρ cs).bind fun x cs1 => if isLst x cs1 = true then (mv ρ cs1).bind fun z cs2 => match appAt x z cs2 with
  | some cs4 => .ok (.nx ρ) cs4
  | none => .bad else .bad
theorem sm_app {v : Expr} {p1 p2 pn : Pos} {n : Str} {i : Nat} {mv : Rho → M Sl} (hv : EM X R E v mv) (hN : X.N[i]? = some n := by rfl) (hvis : Vis X.env.scope n := by first | exact Or.inl rfl | exact Or.inr (Or.inl rfl) | exact Or.inr (Or.inr rfl)) (hd : (n == ("__debug__" : Str)) = false := by decide)
    (hcd : (n == ("__classdict__" : Str)) = false := by decide) (hbase : attributeBase (.Name n pn) "append" X.env (eval (.Name n pn) X.env) = eval (.Name n pn) X.env := by rfl)
    (hfew : ((backTo p2 (starEach (v :: []) X.env)).all (fun x => !x.1) && (backToKw p2 (keywordEach [] X.env)).all (fun x => x.1.isSome)
      && decide ((v :: []).length + ([] : List Keyword).length + (if ([] : List Keyword).isEmpty then 0 else 1) < 30)) = true := by rfl)
    (hline : (p1.endLine == p2.line) = true := by rfl) (hst : starEach (v :: []) X.env = (false, eval v X.env) :: starEach [] X.env := by rfl) (hplain : (backTo p2 (starEach [] X.env)).any (·.1) = false := by rfl)
    (hsw : swapsWith (.Call (.Attribute (.Name n pn) "append" p1) [v] [] p2) none pos.line X.env = pure false := by rfl) :
    SM X R E (.Expr (.Call (.Attribute (.Name n pn) "append" p1) [v] [] p2) pos) (sApp (mVar i) mv) := by
  obtain ⟨tv, pv', kv⟩ := hv
  refine sm_of (ps_expr (pe_bm PySem.F.plainAttrs_list PySem.F.slot_list_append PySem.F.type_list_append mt_append (pe_var hN hvis hd hcd) (pa_cons pv' pa_nil hst) hbase hfew hline hst hplain) hsw) fun O A ρ cs σ H ok rk De h => ?_
  have h' := PostX.bind h
  unfold mVar at h'
  split at h'
  · rename_i sx ex
    obtain ⟨x, e1, r1⟩ := rk.2 i sx ex
    replace h' : PostS X.K R O A H De E (if isLst sx cs = true then (mv ρ cs).bind fun z cs2 => match appAt sx z cs2 with
      | some cs4 => .ok (.nx ρ) cs4
      | none => .bad else .bad) := h'
    split at h'
    · rename_i hl
      unfold isLst at hl
      split at hl
      · rename_i k
        split at hl
        · rename_i ds0 ed0
          obtain ⟨a, ea, rfl⟩ := r1
          obtain ⟨vs0, hl0, _⟩ := ok.at k a _ ea ed0
          refine ⟨_, e1, .inl ⟨rfl, vs0, .inl (.inl hl0)⟩, ?_⟩
          refine kv O A ρ cs σ H ok rk _ (PostX.step (Stp.refl ok) (fun sz cs2 q2 z A2 H2 s2 ok2 r2 => ?_) (PostX.bind h'))
          cases e : appAt (.h k) sz cs2 with
          | none =>
            rw [e] at q2
            exact q2.elim
          | some cs4 =>
            rw [e] at q2
            cases sz with
            | h k' => cases e
            | s ns => cases e
            | d d =>
              simp only [appAt] at e
              split at e
              · rename_i ds ed
                split at e
                · rename_i hz
                  cases e
                  obtain ⟨a2, ea2, q⟩ : ShS X.K O A2 H2 (.ref a) (.h k) := ShS.step s2 ⟨a, ea, rfl⟩
                  cases q
                  obtain ⟨vs, hl, hsh⟩ := ok2.at k a _ ea2 ed
                  obtain ⟨ok4, s4⟩ := ok2.put ea2 (hsh.append (.cons r2 .nil))
                  refine ⟨a, vs, z, rfl, rfl, hl, by rw [hsh.length]; exact SL_eq ▸ hz, ?_⟩
                  exact q2 σ A2 _ (s2.trans s4) ok4 ((rk.step s2).step s4)
                · cases e
              · cases e
        · cases hl
      · cases hl
    · exact h'.elim
  · exact h'.elim
end
end Mir
set_option maxHeartbeats 2000000
/-! targets, what is walked, for, comprehensions, while -/
namespace Mir
open PySem PySem.Spec PyProof.Rows L2

/-! ### targets: told a datum, which slots change -/
structure GM (X : Cx) (tg : Expr) (L : List Nat) (f : D → Rho → Option Rho) : Prop where
  ex : ∃ g, PG X tg g ∧ ∀ O A cs ρ σ H x d ρ', Ok X.K O A cs H → RhoOk X.K O A ρ σ H → ShS X.K O A H x (.d d) → f d ρ = some ρ' → ∀ Q : L2.St → Hp → Prop, (∀ σ', RhoOk X.K O A ρ' σ' H → σ'.length = σ.length → (∀ i, i ∉ L → σ'[i]? = σ[i]?) → Q σ' H) → g x σ H Q
/-- .. the members of a tuple -/
structure GsM (X : Cx) (tgs : List Expr) (L : List Nat) (f : List D → Rho → Option Rho) : Prop where
  ex : ∃ g, PGs X tgs g ∧ ∀ O A cs ρ σ H xs ds ρ', Ok X.K O A cs H → RhoOk X.K O A ρ σ H → ShA X.K (hid (O ++ A) H) xs ds → f ds ρ = some ρ' → ∀ Q : L2.St → Hp → Prop, (∀ σ', RhoOk X.K O A ρ' σ' H → σ'.length = σ.length → (∀ i, i ∉ L → σ'[i]? = σ[i]?) → Q σ' H) → g xs σ H Q
section
variable {X : Cx} {pos : Pos} {e : Expr} {es : List Expr} {L L' : List Nat}
def gSet (i : Nat) : D → Rho → Option Rho := fun d ρ => some (ρ.set i (some (.d d)))
theorem gm_name (i : Nat) {x : Str} (hN : X.N.Nodup) (hi : X.N[i]? = some x := by rfl) (hx : Loc X.env.scope x := by first | exact Or.inl rfl | exact Or.inr rfl) (hf : X.fn x = true ∨ X.env.scope.names.lookup x = some .local := by first | exact .inl rfl | exact .inr rfl | assumption) : GM X (.Name x pos) [i] (gSet i) := by
  refine ⟨_, pg_name hN hi hx hf, fun O A cs ρ σ H x d ρ' ok rk rx e Q q => ?_⟩
  cases e
  refine q _ (rk.set rx) (List.length_set) fun j hj => ?_
  rw [List.getElem?_set_ne (fun z => hj (by rw [z]; exact List.mem_singleton_self j))]
def gsNil : List D → Rho → Option Rho := fun ds ρ => match ds with
  | [] => some ρ
  | _ => none
def gsCons (f : D → Rho → Option Rho) (g : List D → Rho → Option Rho) : List D → Rho → Option Rho := fun ds ρ => match ds with
  | d :: r => match f d ρ with
    | some ρ' => g r ρ'
    | none => none
  | [] => none
theorem gs_nil : GsM X [] [] gsNil := by
  refine ⟨_, pgs_nil, fun O A cs ρ σ H xs ds ρ' ok rk rx e Q q => ?_⟩
  cases rx with
  | nil =>
    cases e
    exact ⟨rfl, q σ rk rfl fun _ _ => rfl⟩
  | cons _ _ => cases e
theorem gs_cons {f : D → Rho → Option Rho} {g : List D → Rho → Option Rho} (h : GM X e L f) (h2 : GsM X es L' g) (hs : (assignEach (e :: es) X.env).map (·.2) = assign e X.env :: (assignEach es X.env).map (·.2) := by rfl) : GsM X (e :: es) (L ++ L') (gsCons f g) := by
  obtain ⟨t, p, k⟩ := h
  obtain ⟨u, p2, k2⟩ := h2
  refine ⟨_, pgs_cons p p2 hs, fun O A cs ρ σ H xs ds ρ' ok rk rx e Q q => ?_⟩
  cases rx with
  | nil => cases e
  | cons r rr =>
    rename_i v vs d ds
    simp only [gsCons] at e
    split at e
    · rename_i ρ1 e1
      refine ⟨v, vs, rfl, k O A cs ρ σ H v d ρ1 ok rk r e1 _ fun σ1 rk1 l1 f1 => ?_⟩
      refine k2 O A cs ρ1 σ1 H vs ds ρ' ok rk1 rr e Q fun σ2 rk2 l2 f2 => ?_
      exact q σ2 rk2 (l2.trans l1) fun i hi => (f2 i fun z => hi (List.mem_append_right _ z)).trans (f1 i fun z => hi (List.mem_append_left _ z))
    · cases e
def gTupM (n : Nat) (g : List D → Rho → Option Rho) : D → Rho → Option Rho := fun d ρ => match d with
  | .tuple ds => if ds.length = n then g ds ρ else none
  | _ => none
theorem gm_tup {k n : Nat} {g : List D → Rho → Option Rho} (hc : X.calm = true) (h : GsM X es L g) (hn : (assignEach es X.env).length = n := by rfl) (hst : (assignEach es X.env).findIdx? (·.1) = none := by rfl) : GM X (.Tuple es k pos) L (gTupM n g) := by
  obtain ⟨t, p, kk⟩ := h
  refine ⟨_, pg_tup hc p hn hst, fun O A cs ρ σ H x d ρ' ok rk rx e Q q => ?_⟩
  cases d with
  | tuple ds =>
    simp only [gTupM] at e
    split at e
    · rename_i hl
      obtain ⟨a, vs, rfl, h1, sa⟩ := sh_tup rx
      exact ⟨a, vs, rfl, h1, sa.length.trans hl, kk O A cs ρ σ H vs ds ρ' ok rk sa e Q q⟩
    · cases e
  | _ => cases e
end

/-! ### what is walked -/
/-- the walk yields these data in their sequence, whatever comes between -/
def Feeds (K : PySem.W.Frag) (O A0 : List Addr) (H0 : Hp) (J : It) (items : List D) : Prop := ∀ O' A cs H, (∀ x ∈ O', x ∈ O ∨ H0 x = none) → Stp A0 H0 A H → Ok K O' A cs H → ∀ i : Nat, (items.length ≤ i → J.stop i H) ∧
  ∀ d, items[i]? = some d → J.go i H ∧ ∀ x H', J.yld i H x H' → Stp A H A H' ∧ Ok K O' A cs H' ∧ ShS K O' A H' x (.d d)
structure IM (X : Cx) (R : XR) (E : XK) (tg iter : Expr) (m : Rho → M (List D)) : Prop where
  ex : ∃ wi, PI X tg iter wi ∧ ∀ O A ρ cs σ H, Ok X.K O A cs H → RhoOk X.K O A ρ σ H → ∀ S : It → Hp → Prop, PostX X.K R O A H E (fun items cs1 => ∀ J A' H', Stp A H A' H' → Ok X.K O A' cs1 H' → Feeds X.K O A' H' J items → S J H') (m ρ cs) → wi σ H S
theorem same_ext {O O' A0 A : List Addr} {H0 H : Hp} (hO : ∀ x ∈ O', x ∈ O ∨ H0 x = none) (s : Stp A0 H0 A H) : Same (hid (O ++ A0) H0) (hid (O' ++ A) H) := by
  obtain ⟨⟨B, eB, fB⟩, kA, lA⟩ := s
  intro b o h
  obtain ⟨hb, e⟩ := hid_some.mp h
  have h1 : b ∉ O := fun z => hb (List.mem_append_left _ z)
  have h2 : b ∉ A0 := fun z => hb (List.mem_append_right _ z)
  refine hid_some.mpr ⟨fun z => ?_, kA b o h2 e⟩
  rcases List.mem_append.mp z with z | z
  · rcases hO b z with q | q
    · exact h1 q
    · rw [q] at e
      cases e
  · rw [eB] at z
    rcases List.mem_append.mp z with z | z
    · exact h2 z
    · rw [fB b z] at e
      cases e
theorem tup2 {K : PySem.W.Frag} {O A : List Addr} {cs : List HC} {H : Hp} {T : Addr} {x y : V} {d e : D} (ok : Ok K O A cs H) (nT : H T = none) (h1 : Sh K (hid (O ++ A) H) x d) (h2 : Sh K (hid (O ++ A) H) y e) :
    Stp A H A (upd H T (.tup [x, y])) ∧ Ok K O A cs (upd H T (.tup [x, y])) ∧ ShS K O A (upd H T (.tup [x, y])) (.ref T) (.d (.tuple [d, e])) := by
  have st := Stp.new (o := .tup [x, y]) ok nT
  refine ⟨st, ok.new nT, .tup (.inl (.inl (hid_some.mpr ⟨ok.ne nT, upd_same⟩))) (.cons (h1.mono st.same) (.cons (h2.mono st.same) .nil))⟩
section
variable {X : Cx} {R : XR} {E : XK} {pos tpos : Pos} {tg e e2 iter : Expr} {ma mb : Rho → M Sl} {elts : List Expr} {kk : Nat}
theorem pi_or {wi wi' : TI} (h : PI X tg iter wi) (h' : PI X tg iter wi') : PI X tg iter (fun σ H S => wi σ H S ∨ wi' σ H S) := ⟨fun pins s σ H S I q => q.elim (h.run pins s σ H S I) (h'.run pins s σ H S I)⟩
def strD (z : Str) : List D := z.cps.toList.map fun c => .str ⟨#[c]⟩
def mSeq (ma : Rho → M Sl) : Rho → M (List D) := fun ρ cs => (ma ρ cs).bind fun x cs1 => match x with
  | .d (.list ds) => .ok ds cs1
  | .d (.tuple ds) => .ok ds cs1
  | .d (.str z) => .ok (strD z) cs1
  | .s ns => .ok (ns.map PyData.int) cs1
  | _ => .bad
theorem feeds_list {K : PySem.W.Frag} {O A0 : List Addr} {H0 : Hp} {a : Addr} {vs : List V} {ds : List D} (h : hid (O ++ A0) H0 a = some (.lst vs)) (t : ShA K (hid (O ++ A0) H0) vs ds) : Feeds K O A0 H0 (Itl K a) ds := by
  intro O' A cs H hO s ok i
  have e := same_ext hO s
  have hl : SqL K H a vs := .inl (.inl (hid_same _ _ (e _ _ h)))
  refine ⟨fun hi => ⟨vs, hl, by rw [t.length]; exact hi⟩, fun d hd => ?_⟩
  obtain ⟨v, e1, e2⟩ := t.get hd
  refine ⟨⟨vs, v, hl, e1⟩, fun x H' y => ?_⟩
  obtain ⟨rfl, y⟩ := y
  have ex := y vs hl
  rw [e1] at ex
  cases ex
  exact ⟨Stp.refl ok, ok, e2.mono e⟩
theorem feeds_tup {K : PySem.W.Frag} {O A0 : List Addr} {H0 : Hp} {a : Addr} {vs : List V} {ds : List D} (h : SqT K (hid (O ++ A0) H0) a vs) (t : ShA K (hid (O ++ A0) H0) vs ds) : Feeds K O A0 H0 (Itt K a) ds := by
  intro O' A cs H hO s ok i
  have e := same_ext hO s
  have hl : SqT K H a vs := SqT.same hid_same (SqT.same e h)
  refine ⟨fun hi => ⟨vs, hl, by rw [t.length]; exact hi⟩, fun d hd => ?_⟩
  obtain ⟨v, e1, e2⟩ := t.get hd
  refine ⟨⟨vs, v, hl, e1⟩, fun x H' y => ?_⟩
  obtain ⟨rfl, y⟩ := y
  have ex := y vs hl
  rw [e1] at ex
  cases ex
  exact ⟨Stp.refl ok, ok, e2.mono e⟩
theorem feeds_str {K : PySem.W.Frag} {O A0 : List Addr} {H0 : Hp} {z : Str} : Feeds K O A0 H0 (Its z) (strD z) := by
  intro O' A cs H hO s ok i
  unfold strD
  refine ⟨fun hi => (show z.cps.size ≤ i by simpa using hi), fun d hd => ?_⟩
  rw [List.getElem?_map] at hd
  cases q : z.cps.toList[i]? with
  | none =>
    rw [q] at hd
    cases hd
  | some c =>
    rw [q] at hd
    cases hd
    have hi : i < z.cps.size := by
      have := (List.getElem?_eq_some_iff.mp q).1
      simpa using this
    refine ⟨hi, fun x H' y => ?_⟩
    obtain ⟨rfl, c', e1, rfl⟩ := y
    have e2 : z.cps[i]? = some c := by rw [← q]; simp
    rw [e2] at e1
    cases e1
    exact ⟨Stp.refl ok, ok, .str _⟩
theorem im_seq (h : EM X R E e ma) : IM X R E tg e (mSeq ma) := by
  obtain ⟨t, p, k⟩ := h
  refine ⟨_, pi_or (pi_list p) (pi_or (pi_tup p) (pi_str p)), fun O A ρ cs σ H ok rk S h => ?_⟩
  have h' := PostX.bind h
  cases q : ma ρ cs with
  | bad =>
    rw [q] at h'
    exact h'.elim
  | exc x cs1 =>
    rw [q] at h'
    refine .inl (k O A ρ cs σ H ok rk _ ?_)
    rw [q]
    exact h'
  | ok sx cs1 =>
    rw [q] at h'
    have fin : ∀ (W : VK), (∀ v A' H', Stp A H A' H' → Ok X.K O A' cs1 H' → ShS X.K O A' H' v sx → W v H') → t σ H W := fun W w => k O A ρ cs σ H ok rk W (by rw [q]; exact w)
    cases sx with
    | h j => exact (show False from h').elim
    | s ns =>
      refine .inl (fin _ fun v A' H' s' ok' r => ?_)
      obtain ⟨a, rfl, hl⟩ := r
      refine ⟨a, rfl, ⟨_, hid_same.seq hl⟩, h' _ A' H' s' ok' fun O' A cs H hO s ok i => ?_⟩
      have hl' : SqL X.K H a (ns.map V.int) := hid_same.seq ((same_ext hO s).seq hl)
      have t := ShA.ofInts (K := X.K) (H := hid (O' ++ A) H) ns
      refine ⟨fun hi => ⟨_, hl', by simpa using hi⟩, fun d hd => ?_⟩
      obtain ⟨v, e1, e2⟩ := t.get hd
      refine ⟨⟨_, v, hl', e1⟩, fun x H' y => ?_⟩
      obtain ⟨rfl, y⟩ := y
      have ex := y _ hl'
      rw [e1] at ex
      cases ex
      exact ⟨Stp.refl ok, ok, e2⟩
    | d d =>
      cases d with
      | list ds =>
        refine .inl (fin _ fun v A' H' s' ok' r => ?_)
        cases r with
        | lst hl t => exact ⟨_, rfl, ⟨_, .inl (.inl (hid_same _ _ hl))⟩, h' _ A' H' s' ok' (feeds_list hl t)⟩
      | tuple ds =>
        refine .inr (.inl (fin _ fun v A' H' s' ok' r => ?_))
        cases r with
        | tup hl t => exact ⟨_, rfl, ⟨_, SqT.same hid_same hl⟩, h' _ A' H' s' ok' (feeds_tup hl t)⟩
      | str z =>
        refine .inr (.inr (fin _ fun v A' H' s' ok' r => ?_))
        cases r
        exact ⟨_, rfl, h' _ A' H' s' ok' feeds_str⟩
      | _ => exact (show False from h').elim
/-! range -/
def rngD (lo : Int) (n : Nat) : List D := (List.range n).map fun (i : Nat) => .int (lo + (i : Int))
theorem feeds_rng {K : PySem.W.Frag} {O A0 : List Addr} {H0 : Hp} {lo : Int} {n : Nat} : Feeds K O A0 H0 (Itr lo n) (rngD lo n) := by
  intro O' A cs H hO s ok i
  unfold rngD
  refine ⟨fun hi => (show n ≤ i by simpa using hi), fun d hd => ?_⟩
  rw [List.getElem?_map] at hd
  by_cases hi : i < n
  · rw [List.getElem?_range hi] at hd
    cases hd
    refine ⟨hi, fun x H' y => ?_⟩
    obtain ⟨rfl, rfl⟩ := y
    exact ⟨Stp.refl ok, ok, .int _⟩
  · rw [List.getElem?_eq_none (by simpa using hi)] at hd
    cases hd
def mRng1 (ma : Rho → M Sl) : Rho → M (List D) := fun ρ cs => (ma ρ cs).bind fun x cs1 => match x with
  | .d (.int j) => if -(2 ^ 62) ≤ j ∧ j < 2 ^ 62 then .ok (rngD 0 j.toNat) cs1 else .bad
  | _ => .bad
theorem im_range1 {p : Pos} (hg : Gl X "range") (hm : X.mg "range" = none) (h : EM X R E e ma) (hs : starEach [e] X.env = [(false, eval e X.env)] := by rfl) : IM X R E tg (.Call (.Name "range" p) [e] [] pos) (mRng1 ma) := by
  obtain ⟨t, pt, k⟩ := h
  refine ⟨_, pi_range1 hg hm (pa_cons pt pa_nil (by rw [hs]; rfl)) hs, fun O A ρ cs σ H ok rk S h => ?_⟩
  refine k O A ρ cs σ H ok rk _ (PostX.step (Stp.refl ok) (fun sx cs1 q x A1 H1 s1 ok1 r1 => ?_) (PostX.bind h))
  split at q
  · rename_i j
    split at q
    · rename_i hz
      cases r1
      exact ⟨j, rfl, hz.1, hz.2, q _ A1 H1 s1 ok1 feeds_rng⟩
    · exact q.elim
  · exact q.elim
def mRng2 (ma mb : Rho → M Sl) : Rho → M (List D) := fun ρ cs => (ma ρ cs).bind fun x cs1 => (mb ρ cs1).bind fun y cs2 => match x, y with
  | .d (.int i), .d (.int j) => if -(2 ^ 62) ≤ i ∧ i < 2 ^ 62 ∧ -(2 ^ 62) ≤ j ∧ j < 2 ^ 62 then .ok (rngD i (j - i).toNat) cs2 else .bad
  | _, _ => .bad
theorem im_range2 {p : Pos} (hg : Gl X "range") (hm : X.mg "range" = none) (h : EM X R E e ma) (h2 : EM X R E e2 mb) (hs : starEach [e, e2] X.env = [(false, eval e X.env), (false, eval e2 X.env)] := by rfl) (hs2 : starEach [e2] X.env = [(false, eval e2 X.env)] := by rfl) :
    IM X R E tg (.Call (.Name "range" p) [e, e2] [] pos) (mRng2 ma mb) := by
  obtain ⟨t, pt, k⟩ := h
  obtain ⟨u, pu, k2⟩ := h2
  refine ⟨_, pi_range2 hg hm (pa_cons pt (pa_cons pu pa_nil (by rw [hs2]; rfl)) (by rw [hs, hs2])) hs hs2, fun O A ρ cs σ H ok rk S h => ?_⟩
  refine k O A ρ cs σ H ok rk _ (PostX.step (Stp.refl ok) (fun sx cs1 q x A1 H1 s1 ok1 r1 => ?_) (PostX.bind h))
  refine k2 O A1 ρ cs1 σ H1 ok1 (rk.step s1) _ (PostX.step s1 (fun sy cs2 q2 y A2 H2 s2 ok2 r2 => ?_) (PostX.bind q))
  split at q2
  · rename_i i j
    split at q2
    · rename_i hz
      cases r1
      cases r2
      exact ⟨i, j, rfl, hz, q2 _ A2 H2 (s1.trans s2) ok2 feeds_rng⟩
    · exact q2.elim
  · exact q2.elim
/-! zip of two lists, of two tuples; enumerate of a list -/
def zipD (ds es : List D) : List D := List.zipWith (fun a b => .tuple [a, b]) ds es
def mZip (ma mb : Rho → M Sl) : Rho → M (List D) := fun ρ cs => (ma ρ cs).bind fun x cs1 => (mb ρ cs1).bind fun y cs2 => match x, y with
  | .d (.list a), .d (.list b) => .ok (zipD a b) cs2
  | .d (.tuple a), .d (.tuple b) => .ok (zipD a b) cs2
  | _, _ => .bad
theorem zip_at {ds es : List D} {i : Nat} {d : D} (h : (zipD ds es)[i]? = some d) : ∃ a b, ds[i]? = some a ∧ es[i]? = some b ∧ d = .tuple [a, b] := by
  unfold zipD at h
  rw [List.getElem?_zipWith] at h
  split at h
  · rename_i a b e1 e2
    cases h
    exact ⟨a, b, e1, e2, rfl⟩
  · cases h
theorem im_zip {p : Pos} (hg : Gl X "zip") (hm : X.mg "zip" = none) (h : EM X R E e ma) (h2 : EM X R E e2 mb) (hs : starEach [e, e2] X.env = (false, eval e X.env) :: starEach [e2] X.env := by rfl) (hs2 : starEach [e2] X.env = (false, eval e2 X.env) :: starEach [] X.env := by rfl)
    (hpl : (backTo pos (starEach [e2] X.env)).any (·.1) = false := by rfl) : IM X R E (.Tuple elts kk tpos) (.Call (.Name "zip" p) [e, e2] [] pos) (mZip ma mb) := by
  obtain ⟨t, pt, k⟩ := h
  obtain ⟨u, pu, k2⟩ := h2
  refine ⟨_, RZ.pi_zipA hg hm (pa_cons pt (pa_cons pu pa_nil hs2) hs) hs hpl, fun O A ρ cs σ H ok rk S h => ?_⟩
  refine k O A ρ cs σ H ok rk _ (PostX.step (Stp.refl ok) (fun sx cs1 q x A1 H1 s1 ok1 r1 => ?_) (PostX.bind h))
  refine k2 O A1 ρ cs1 σ H1 ok1 (rk.step s1) _ (PostX.step s1 (fun sy cs2 q2 y A2 H2 s2 ok2 r2 => ?_) (PostX.bind q))
  have r1' := r1.step s2
  split at q2
  · rename_i a b
    cases r1' with
    | lst h1 t1 =>
      cases r2 with
      | lst h2 t2 =>
        refine ⟨_, _, _, _, rfl, .inl ⟨.inl (.inl (hid_same _ _ h1)), .inl (.inl (hid_same _ _ h2)), q2 _ A2 H2 (s1.trans s2) ok2 ?_⟩⟩
        intro O' A cs H hO s ok i
        have ee := same_ext hO s
        have l1 := ee _ _ h1
        have l2 := ee _ _ h2
        refine ⟨fun hi => ⟨_, _, .inl (.inl (hid_same _ _ l1)), .inl (.inl (hid_same _ _ l2)), ?_⟩, fun d hd => ?_⟩
        · rw [t1.length, t2.length]
          unfold zipD at hi
          rw [List.length_zipWith] at hi
          omega
        · obtain ⟨da, db, e1, e2, rfl⟩ := zip_at hd
          obtain ⟨v1, g1, s1⟩ := t1.get e1
          obtain ⟨v2, g2, s2⟩ := t2.get e2
          refine ⟨⟨_, _, v1, v2, .inl (.inl (hid_same _ _ l1)), .inl (.inl (hid_same _ _ l2)), g1, g2⟩, fun x H' y => ?_⟩
          obtain ⟨T, x1, x2, rfl, nT, rfl, f1, f2⟩ := y
          have ex1 := f1 _ (.inl (.inl (hid_same _ _ l1)))
          have ex2 := f2 _ (.inl (.inl (hid_same _ _ l2)))
          rw [g1] at ex1
          rw [g2] at ex2
          cases ex1
          cases ex2
          exact tup2 ok nT (s1.mono ee) (s2.mono ee)
  · rename_i a b
    cases r1' with
    | tup h1 t1 =>
      cases r2 with
      | tup h2 t2 =>
        refine ⟨_, _, _, _, rfl, .inr ⟨SqT.same hid_same h1, SqT.same hid_same h2, q2 _ A2 H2 (s1.trans s2) ok2 ?_⟩⟩
        intro O' A cs H hO s ok i
        have ee := same_ext hO s
        have l1 := SqT.same hid_same (SqT.same ee h1)
        have l2 := SqT.same hid_same (SqT.same ee h2)
        refine ⟨fun hi => ⟨_, _, l1, l2, ?_⟩, fun d hd => ?_⟩
        · rw [t1.length, t2.length]
          unfold zipD at hi
          rw [List.length_zipWith] at hi
          omega
        · obtain ⟨da, db, e1, e2, rfl⟩ := zip_at hd
          obtain ⟨v1, g1, s1⟩ := t1.get e1
          obtain ⟨v2, g2, s2⟩ := t2.get e2
          refine ⟨⟨_, _, v1, v2, l1, l2, g1, g2⟩, fun x H' y => ?_⟩
          obtain ⟨T, x1, x2, rfl, nT, rfl, f1, f2⟩ := y
          have ex1 := f1 _ l1
          have ex2 := f2 _ l2
          rw [g1] at ex1
          rw [g2] at ex2
          cases ex1
          cases ex2
          exact tup2 ok nT (s1.mono ee) (s2.mono ee)
  · exact q2.elim
def enumD (ds : List D) : List D := zipD (rngD 0 ds.length) ds
def mEnum (ma : Rho → M Sl) : Rho → M (List D) := fun ρ cs => (ma ρ cs).bind fun x cs1 => match x with
  | .d (.list a) => .ok (enumD a) cs1
  | _ => .bad
theorem im_enum {p : Pos} (hg : Gl X "enumerate") (hm : X.mg "enumerate" = none) (h : EM X R E e ma) (hs : starEach [e] X.env = [(false, eval e X.env)] := by rfl) : IM X R E (.Tuple elts kk tpos) (.Call (.Name "enumerate" p) [e] [] pos) (mEnum ma) := by
  obtain ⟨t, pt, k⟩ := h
  refine ⟨_, pi_enum hg hm (pa_cons pt pa_nil (by rw [hs]; rfl)) hs, fun O A ρ cs σ H ok rk S h => ?_⟩
  refine k O A ρ cs σ H ok rk _ (PostX.step (Stp.refl ok) (fun sx cs1 q x A1 H1 s1 ok1 r1 => ?_) (PostX.bind h))
  split at q
  · rename_i a
    cases r1 with
    | lst h1 t1 =>
      refine ⟨_, _, rfl, .inl (.inl (hid_same _ _ h1)), q _ A1 H1 s1 ok1 ?_⟩
      intro O' A cs H hO s ok i
      have ee := same_ext hO s
      have l1 := ee _ _ h1
      refine ⟨fun hi => ⟨_, .inl (.inl (hid_same _ _ l1)), ?_⟩, fun d hd => ?_⟩
      · rw [t1.length]
        unfold enumD zipD rngD at hi
        simp at hi
        omega
      · obtain ⟨da, db, e1, e2, rfl⟩ := zip_at hd
        obtain ⟨v2, g2, s2⟩ := t1.get e2
        have ei : da = .int (i : Int) := by
          unfold rngD at e1
          rw [List.getElem?_map] at e1
          have hi := (List.getElem?_eq_some_iff.mp e2).1
          rw [List.getElem?_range hi] at e1
          cases e1
          show PyData.int (0 + (i : Int)) = PyData.int (i : Int)
          rw [Int.zero_add]
        subst ei
        refine ⟨⟨_, v2, .inl (.inl (hid_same _ _ l1)), g2⟩, fun x H' y => ?_⟩
        obtain ⟨T, x2, rfl, nT, rfl, f2⟩ := y
        have ex2 := f2 _ (.inl (.inl (hid_same _ _ l1)))
        rw [g2] at ex2
        cases ex2
        exact tup2 ok nT (.int _) (s2.mono ee)
  · exact q.elim
end
end Mir
set_option maxHeartbeats 2000000
/-! for, while, comprehensions, further statements -/
namespace Mir
open PySem PySem.Spec PyProof.Rows L2

/-! ### for -/
def forL (f : D → Rho → Option Rho) (body : Rho → M Fl) : List D → Rho → M Fl
  | [], ρ, cs => .ok (.nx ρ) cs
  | d :: r, ρ, cs => match f d ρ with
    | some ρ1 => (body ρ1 cs).bind fun x cs1 => match x with
      | .nx ρ2 => forL f body r ρ2 cs1
      | .ct ρ2 => forL f body r ρ2 cs1
      | .bk ρ2 => .ok (.nx ρ2) cs1
      | .rt sl => .ok (.rt sl) cs1
    | none => .bad
def sFor (mi : Rho → M (List D)) (f : D → Rho → Option Rho) (body : Rho → M Fl) : Rho → M Fl := fun ρ cs => (mi ρ cs).bind fun items cs1 => forL f body items ρ cs1
section
variable {X : Cx} {R : XR} {E : XK} {pos : Pos} {a b c e tg iter : Expr} {es : List Expr} {st : Stmt} {rest body : List Stmt} {ma mb mc : Rho → M Sl} {ms : Rho → M (List Sl)} {mt : Rho → M Bool} {mb' : Rho → M Fl} {L : List Nat} {f : D → Rho → Option Rho} {mi : Rho → M (List D)}
theorem drop_get {α : Type} {l r : List α} {i : Nat} {d : α} (h : l.drop i = d :: r) : l[i]? = some d ∧ l.drop (i + 1) = r := by
  have e1 : (l.drop i)[0]? = some d := by rw [h]; rfl
  rw [List.getElem?_drop] at e1
  refine ⟨by simpa using e1, ?_⟩
  rw [← List.drop_drop, h]
  rfl
theorem drop_end {α : Type} {l : List α} {i : Nat} (h : l.drop i = []) : l.length ≤ i := by
  have := congrArg List.length h
  rw [List.length_drop] at this
  simp at this
  omega
theorem sm_for (hp : PassesOwn (model X.prog X.w) X.A X.env X.xe) (hc : X.calm = true) (hi : IM X R E tg iter mi) (hg : GM X tg L f) (hb : BM X R E body mb') (hs : ∀ x, foldedSetIterable iter X.env x = pure x := by intro _; rfl) :
    SM X R E (.For tg iter body [] pos) (sFor mi f mb') := by
  obtain ⟨wi, pi, ki⟩ := hi
  obtain ⟨g, pg, kg⟩ := hg
  obtain ⟨tb, pb, kb⟩ := hb
  refine sm_of (ps_for hp hc pi pg pb hs) fun O A ρ cs σ H ok rk De h => ?_
  refine ki O A ρ cs σ H ok rk _ (PostX.step (Stp.refl ok) (fun items cs1 q J A1 H1 s1 ok1 fd => ?_) (PostX.bind h))
  refine ⟨fun i m σ' H' => ∃ A' cs' ρ', Stp A H A' H' ∧ Stp A1 H1 A' H' ∧ Ok X.K O A' cs' H' ∧ RhoOk X.K O A' ρ' σ' H' ∧ m = items.length - i ∧ i ≤ items.length ∧ PostS X.K R O A H De E (forL f mb' (items.drop i) ρ' cs'),
    ⟨_, A1, cs1, ρ, s1, Stp.refl ok1, ok1, rk.step s1, rfl, Nat.zero_le _, by rw [List.drop_zero]; exact q⟩, ?_⟩
  rintro i m σ' H' ⟨A', cs', ρ', s, s', ok', rk', rfl, hi, hq⟩
  obtain ⟨f1, f2⟩ := fd O A' cs' H' (fun x hx => .inl hx) s' ok' i
  cases ed : items.drop i with
  | nil =>
    rw [ed] at hq
    exact .inl ⟨f1 (drop_end ed), hq σ' A' H' s ok' rk'⟩
  | cons d r =>
    rw [ed] at hq
    obtain ⟨ei, er⟩ := drop_get ed
    obtain ⟨go, yl⟩ := f2 d ei
    have hlt := (List.getElem?_eq_some_iff.mp ei).1
    refine .inr ⟨go, fun σ2 H2 => ∃ A2 cs2 ρ2, Stp A H A2 H2 ∧ Stp A1 H1 A2 H2 ∧ Ok X.K O A2 cs2 H2 ∧ RhoOk X.K O A2 ρ2 σ2 H2 ∧ PostS X.K R O A H De E (forL f mb' r ρ2 cs2), fun σ2 H2 hN => ?_, fun x H2 y => ?_⟩
    · obtain ⟨A2, cs2, ρ2, t1, t2, t3, t4, t5⟩ := hN
      exact ⟨items.length - (i + 1), by omega, A2, cs2, ρ2, t1, t2, t3, t4, rfl, hlt, by rw [er]; exact t5⟩
    · obtain ⟨s2, ok2, r2⟩ := yl x H2 y
      unfold forL at hq
      split at hq
      · rename_i ρ1 e1
        refine kg O A' cs' ρ' σ' H2 x d ρ1 ok2 (rk'.step s2) r2 e1 _ fun σ3 rk3 _ _ => ?_
        have st := s.trans s2
        have st' := s'.trans s2
        refine kb O A' ρ1 cs' σ3 H2 ok2 rk3 _ (PostX.step st (fun fl cs3 q3 => ?_) (PostX.bind hq))
        cases fl with
        | nx ρ2 => exact fun σ4 A4 H4 s4 ok4 rk4 => ⟨A4, cs3, ρ2, st.trans s4, st'.trans s4, ok4, rk4, q3⟩
        | ct ρ2 => exact fun σ4 A4 H4 s4 ok4 rk4 => ⟨A4, cs3, ρ2, st.trans s4, st'.trans s4, ok4, rk4, q3⟩
        | bk ρ2 => exact fun σ4 A4 H4 s4 ok4 rk4 => q3 σ4 A4 H4 (st.trans s4) ok4 rk4
        | rt sl => exact fun v A4 H4 s4 ok4 r4 => q3 v A4 H4 (st.trans s4) ok4 r4
      · exact hq.elim

/-! ### while: as many turns as the number lets -/
def whileN (mt : Rho → M Bool) (body : Rho → M Fl) : Nat → Rho → M Fl
  | 0, _, _ => .bad
  | n + 1, ρ, cs => (mt ρ cs).bind fun k cs1 => if k = true then (body ρ cs1).bind fun x cs2 => match x with
      | .nx ρ2 => whileN mt body n ρ2 cs2
      | .ct ρ2 => whileN mt body n ρ2 cs2
      | .bk ρ2 => .ok (.nx ρ2) cs2
      | .rt sl => .ok (.rt sl) cs2
    else .ok (.nx ρ) cs1
theorem sm_while (n : Nat) (hp : PassesOwn (model X.prog X.w) X.A X.env X.xe) (hc : TM X R E c mt) (hb : BM X R E body mb') : SM X R E (.While c body [] pos) (whileN mt mb' n) := by
  obtain ⟨tc, pc, kc⟩ := hc
  obtain ⟨tb, pb, kb⟩ := hb
  refine sm_of (ps_while hp pc pb) fun O A ρ cs σ H ok rk De h => ?_
  refine ⟨fun m σ' H' => ∃ A' cs' ρ', Stp A H A' H' ∧ Ok X.K O A' cs' H' ∧ RhoOk X.K O A' ρ' σ' H' ∧ PostS X.K R O A H De E (whileN mt mb' m ρ' cs'), ⟨n, A, cs, ρ, Stp.refl ok, ok, rk, h⟩, ?_⟩
  rintro m σ' H' ⟨A', cs', ρ', s, ok', rk', hq⟩
  cases m with
  | zero => exact hq.elim
  | succ m =>
    unfold whileN at hq
    refine kc O A' ρ' cs' σ' H' ok' rk' _ (PostX.step s (fun k cs1 q A1 H1 s1 ok1 => ?_) (PostX.bind hq))
    have st := s.trans s1
    cases k with
    | false => exact q σ' A1 H1 st ok1 (rk'.step s1)
    | true =>
      refine ⟨fun σ2 H2 => ∃ A2 cs2 ρ2, Stp A H A2 H2 ∧ Ok X.K O A2 cs2 H2 ∧ RhoOk X.K O A2 ρ2 σ2 H2 ∧ PostS X.K R O A H De E (whileN mt mb' m ρ2 cs2), fun σ2 H2 hN => ⟨m, Nat.lt_succ_self m, hN⟩, ?_⟩
      refine kb O A1 ρ' cs1 σ' H1 ok1 (rk'.step s1) _ (PostX.step st (fun fl cs3 q3 => ?_) (PostX.bind q))
      cases fl with
      | nx ρ2 => exact fun σ4 A4 H4 s4 ok4 rk4 => ⟨A4, cs3, ρ2, st.trans s4, ok4, rk4, q3⟩
      | ct ρ2 => exact fun σ4 A4 H4 s4 ok4 rk4 => ⟨A4, cs3, ρ2, st.trans s4, ok4, rk4, q3⟩
      | bk ρ2 => exact fun σ4 A4 H4 s4 ok4 rk4 => q3 σ4 A4 H4 (st.trans s4) ok4 rk4
      | rt sl => exact fun v A4 H4 s4 ok4 r4 => q3 v A4 H4 (st.trans s4) ok4 r4

/-! ### comprehensions -/
def wipeR (ρ : Rho) : List Nat → Rho
  | [] => ρ
  | v :: vs => (wipeR ρ vs).set v none
theorem wipeR_len (ρ : Rho) : ∀ vs : List Nat, (wipeR ρ vs).length = ρ.length
  | [] => rfl
  | v :: vs => by
    show ((wipeR ρ vs).set v none).length = ρ.length
    rw [List.length_set]
    exact wipeR_len ρ vs
theorem wipeR_some {ρ : Rho} {i : Nat} {sl : Sl} : ∀ {vs : List Nat}, (wipeR ρ vs)[i]? = some (some sl) → ρ[i]? = some (some sl) ∧ i ∉ vs
  | [], h => ⟨h, by simp⟩
  | v :: vs, h => by
    have h' : ((wipeR ρ vs).set v none)[i]? = some (some sl) := h
    by_cases e : v = i
    · subst e
      rw [List.getElem?_set] at h'
      simp at h'
    · rw [List.getElem?_set_ne e] at h'
      obtain ⟨h1, h2⟩ := wipeR_some h'
      exact ⟨h1, fun z => (List.mem_cons.mp z).elim (fun q => e q.symm) h2⟩
theorem wipe_at {σ : L2.St} {i : Nat} : ∀ {vs : List Nat}, i ∉ vs → (wipe σ vs)[i]? = σ[i]?
  | [], _ => rfl
  | v :: vs, h => by
    show ((wipe σ vs).set v none)[i]? = σ[i]?
    rw [List.getElem?_set_ne (fun z => h (by rw [z]; exact List.mem_cons_self))]
    exact wipe_at fun z => h (List.mem_cons_of_mem _ z)
theorem wipe_none {σ : L2.St} {i : Nat} : ∀ {vs : List Nat}, i ∈ vs → i < σ.length → (wipe σ vs)[i]? = some none
  | [], h, _ => by cases h
  | v :: vs, h, hl => by
    show ((wipe σ vs).set v none)[i]? = some none
    by_cases e : v = i
    · subst e
      rw [List.getElem?_set_self (by rw [wipe_length]; exact hl)]
    · rw [List.getElem?_set_ne e]
      rcases List.mem_cons.mp h with z | z
      · exact absurd z.symm e
      · exact wipe_none z hl
theorem wipe_ext {σ τ : L2.St} {vs : List Nat} (hl : τ.length = (wipe σ vs).length) (h : ∀ i, i ∉ vs → τ[i]? = (wipe σ vs)[i]?) : wipe τ vs = wipe σ vs := by
  apply List.ext_getElem?
  intro i
  by_cases hi : i ∈ vs
  · by_cases hb : i < σ.length
    · rw [wipe_none hi hb, wipe_none hi (by rw [hl, wipe_length]; exact hb)]
    · rw [List.getElem?_eq_none (by rw [wipe_length, hl, wipe_length]; omega), List.getElem?_eq_none (by rw [wipe_length]; omega)]
  · rw [wipe_at hi]
    exact h i hi
theorem RhoOk.wipe {K : PySem.W.Frag} {O A : List Addr} {ρ : Rho} {σ : L2.St} {H : Hp} (r : RhoOk K O A ρ σ H) (vs : List Nat) : RhoOk K O A (wipeR ρ vs) (L2.wipe σ vs) H := by
  refine ⟨by rw [wipeR_len, wipe_length]; exact r.1, fun i sl e => ?_⟩
  obtain ⟨e1, hi⟩ := wipeR_some e
  obtain ⟨v, h1, h2⟩ := r.2 i sl e1
  exact ⟨v, by rw [wipe_at hi]; exact h1, h2⟩
/-- the tests of a clause -/
structure QM (X : Cx) (R : XR) (E : XK) (ifs : List Expr) (m : Rho → M Bool) : Prop where
  ex : ∃ t, PTs X ifs t ∧ ∀ O A ρ cs σ H, Ok X.K O A cs H → RhoOk X.K O A ρ σ H → ∀ Q, PostB X.K R O A H Q E (m ρ cs) → t σ H Q
def mYes : Rho → M Bool := fun _ cs => .ok true cs
theorem qm_nil : QM X R E [] mYes := ⟨_, pts_nil, fun O A ρ cs σ H ok rk Q h => h A H (Stp.refl ok) ok⟩
theorem qm_one (h : TM X R E c mt) : QM X R E [c] mt := by
  obtain ⟨t, p, k⟩ := h
  exact ⟨_, pts_one p, k⟩
/-- no exception leaves a comprehension -/
def quiet {α : Type} : Res α → Res α
  | .ok a cs => .ok a cs
  | _ => .bad
def lcL (f : D → Rho → Option Rho) (mt : Rho → M Bool) (me : Rho → M Sl) (ρ : Rho) : List D → M (List D)
  | [], cs => .ok [] cs
  | d :: r, cs => match f d ρ with
    | some ρ1 => (quiet (mt ρ1 cs)).bind fun k cs1 => if cs1.length = cs.length then
        if k = true then (quiet (me ρ1 cs1)).bind fun x cs2 => if cs2.length = cs.length then match x with
            | .d y => (lcL f mt me ρ r cs2).bind fun ys cs3 => .ok (y :: ys) cs3
            | .h _ => .bad
            | .s _ => .bad else .bad
        else lcL f mt me ρ r cs1 else .bad
    | none => .bad
def mLc (mi : Rho → M (List D)) (f : D → Rho → Option Rho) (mt : Rho → M Bool) (me : Rho → M Sl) (vs : List Nat) : Rho → M (List D) := fun ρ cs => (mi ρ cs).bind fun items cs1 => if items.length ≤ SL then lcL f mt me (wipeR ρ vs) items cs1 else .bad
abbrev E0' : XK := fun _ _ _ => False
theorem quiet_post {K : PySem.W.Frag} {O A : List Addr} {H : Hp} {α : Type} {S : α → List HC → Prop} {r : Res α} {A0 : List Addr} {H0 : Hp} {E1 : XK} {O0 : List Addr} (h : PostX K R O0 A0 H0 E1 S (quiet r)) : PostX K R O A H E S r := by
  cases r with
  | ok a cs => exact h
  | exc x cs => exact h.elim
  | bad => exact h.elim
/-! the readings that are the same whatever the block's context -/
def tEm (K : PySem.W.Frag) (R : XR) (E : XK) (m : Rho → M Sl) : TE := fun σ H Q => ∃ O A ρ cs, Ok K O A cs H ∧ RhoOk K O A ρ σ H ∧ Post K R O A H Q E (m ρ cs)
theorem EM.pe {m : Rho → M Sl} (h : EM X R E e m) : PE X e (tEm X.K R E m) := ⟨fun pins s σ H Q I h' => by
  obtain ⟨O, A, ρ, cs, ok, rk, p⟩ := h'
  obtain ⟨t, pt, k⟩ := h
  exact pt.run pins s σ H Q I (k O A ρ cs σ H ok rk Q p)⟩
def tQm (K : PySem.W.Frag) (R : XR) (E : XK) (m : Rho → M Bool) : TT := fun σ H Q => ∃ O A ρ cs, Ok K O A cs H ∧ RhoOk K O A ρ σ H ∧ PostB K R O A H Q E (m ρ cs)
theorem QM.pe {ifs : List Expr} {m : Rho → M Bool} (h : QM X R E ifs m) : PTs X ifs (tQm X.K R E m) := ⟨fun pins s σ H Q I h' => by
  obtain ⟨O, A, ρ, cs, ok, rk, p⟩ := h'
  obtain ⟨t, pt, k⟩ := h
  exact pt.run pins s σ H Q I (k O A ρ cs σ H ok rk Q p)⟩
def tGm (K : PySem.W.Frag) (L : List Nat) (f : D → Rho → Option Rho) : TG := fun x σ H Q => ∃ O A cs ρ d ρ', Ok K O A cs H ∧ RhoOk K O A ρ σ H ∧ ShS K O A H x (.d d) ∧ f d ρ = some ρ' ∧ ∀ σ', RhoOk K O A ρ' σ' H → σ'.length = σ.length → (∀ i, i ∉ L → σ'[i]? = σ[i]?) → Q σ' H
theorem GM.pg (h : GM X tg L f) : PG X tg (tGm X.K L f) := ⟨fun pins s σ H v u Q I r h' => by
  obtain ⟨O, A, cs, ρ, d, ρ', ok, rk, rx, ef, q⟩ := h'
  obtain ⟨g, pg, k⟩ := h
  exact pg.run pins s σ H v u Q I r (k O A cs ρ σ H v d ρ' ok rk rx ef Q q)⟩
theorem RhoOk.ext {K : PySem.W.Frag} {O O' A A' : List Addr} {ρ : Rho} {σ : L2.St} {H H' : Hp} (r : RhoOk K O A ρ σ H) (hO : ∀ x ∈ O', x ∈ O ∨ H x = none) (s : Stp A H A' H') : RhoOk K O' A' ρ σ H' :=
  ⟨r.1, fun i sl e => by
    obtain ⟨v, h1, h2⟩ := r.2 i sl e
    refine ⟨v, h1, ?_⟩
    cases sl with
    | d d => exact Sh.mono (same_ext hO s) h2
    | h k => exact ShS.step s h2
    | s ns =>
      obtain ⟨a, ea, hl⟩ := h2
      exact ⟨a, ea, (same_ext hO s).seq hl⟩⟩
theorem Stp.eq {A A' : List Addr} {H H' : Hp} (s : Stp A H A' H') (h : A'.length = A.length) : A' = A := by
  obtain ⟨⟨B, eB, _⟩, _, _⟩ := s
  rw [eB, List.length_append] at h
  have hB : B = [] := List.eq_nil_of_length_eq_zero (by omega)
  rw [eB, hB, List.append_nil]
/-- what others hold is written -/
theorem Ok.outer {K : PySem.W.Frag} {O A : List Addr} {cs : List HC} {H : Hp} {p : Addr} {o : HO} (ok : Ok K O A cs H) (hp : p ∈ O) : Ok K O A cs (upd H p o) ∧ Same (hid (O ++ A) H) (hid (O ++ A) (upd H p o)) := by
  have same : Same (hid (O ++ A) H) (hid (O ++ A) (upd H p o)) := fun b u h => by
    obtain ⟨hb, e⟩ := hid_some.mp h
    exact hid_some.mpr ⟨hb, by rw [upd_ne (fun (z : b = p) => hb (List.mem_append_left _ (z ▸ hp)))]; exact e⟩
  refine ⟨⟨fun x hx => ⟨?_, (ok.out x hx).2⟩, ok.len, ok.nd, fun k a c e1 e2 => ?_⟩, same⟩
  · by_cases e : x = p
    · rw [e, upd_same]
      exact fun z => by cases z
    · rw [upd_ne e]
      exact (ok.out x hx).1
  · have ha : a ≠ p := fun z => (ok.out p hp).2 (z ▸ List.mem_of_getElem? e1)
    exact HcAt.at (upd_ne ha) ((ok.at k a c e1 e2).mono same)
theorem Res.bind_ok {α : Type} (r : Res α) : (r.bind fun a cs => .ok a cs) = r := by cases r <;> rfl
theorem Res.bind_bind {α β γ : Type} (r : Res α) (f : α → M β) (g : β → M γ) : (r.bind f).bind g = r.bind fun a cs => (f a cs).bind g := by cases r <;> rfl
/-- what a comprehension's reading asks is there -/
theorem lc_read {wi : TI} {me : Rho → M Sl} {vs0 : List Nat} (ki : ∀ O A ρ cs σ H, Ok X.K O A cs H → RhoOk X.K O A ρ σ H → ∀ S : It → Hp → Prop, PostX X.K R O A H E (fun items cs1 => ∀ J A' H', Stp A H A' H' → Ok X.K O A' cs1 H' → Feeds X.K O A' H' J items → S J H') (mi ρ cs) → wi σ H S)
    (hL : ∀ i ∈ L, i ∈ vs0) {O A : List Addr} {ρ : Rho} {cs : List HC} {σ : L2.St} {H : Hp} (ok : Ok X.K O A cs H) (rk : RhoOk X.K O A ρ σ H) {Q : VK} (h : PostL X.K R O A H Q E (mLc mi f mt me vs0 ρ cs)) :
    tLc wi (tGm X.K L f) (tQm X.K R E0' mt) (tEm X.K R E0' me) vs0 σ H Q := by
  refine ki O A ρ cs σ H ok rk _ (PostX.step (Stp.refl ok) (fun items cs1 q J A1 H1 s1 ok1 fd => ?_) (PostX.bind h))
  split at q
  · rename_i hz
    intro Dl nD
    generalize hvs : vs0 = vs at q hL ⊢
    have hO : ∀ x ∈ Dl :: O, x ∈ O ∨ H1 x = none := fun x hx => (List.mem_cons.mp hx).elim (fun z => .inr (z ▸ nD)) .inl
    have hO0 : ∀ x ∈ Dl :: O, x ∈ O ∨ H x = none := fun x hx => (List.mem_cons.mp hx).elim (fun z => .inr (z ▸ s1.fresh nD)) .inl
    have nA : Dl ∉ A1 := fun z => ok1.ne nD (List.mem_append_right _ z)
    refine ⟨fun i m Hc => ∃ cs' accV accD, Stp A1 H1 A1 Hc ∧ Ok X.K (Dl :: O) A1 cs' Hc ∧ Hc Dl = some (.lst accV) ∧ ShA X.K (hid ((Dl :: O) ++ A1) Hc) accV accD ∧ accD.length ≤ i ∧ m = items.length - i ∧ i ≤ items.length ∧
      PostL X.K R O A H Q E ((lcL f mt me (wipeR ρ vs) (items.drop i) cs').bind fun ys cs3 => .ok (accD ++ ys) cs3), ⟨_, cs1, [], [], Stp.new ok1 nD, ?_, upd_same, .nil, Nat.le_refl _, rfl, Nat.zero_le _, ?_⟩, ?_⟩
    · have okn := ok1.new (o := .lst []) nD
      have same : Same (hid (O ++ A1) (upd H1 Dl (.lst []))) (hid ((Dl :: O) ++ A1) (upd H1 Dl (.lst []))) ∨ True := .inr trivial
      have st := Stp.new (o := .lst []) ok1 nD
      have se := same_ext hO st
      refine ⟨fun x hx => ?_, ok1.len, ok1.nd, fun k a c e1 e2 => ?_⟩
      · rcases List.mem_cons.mp hx with z | z
        · subst z
          exact ⟨by rw [upd_same]; exact fun z => (by cases z), nA⟩
        · exact okn.out x z
      · have ha : a ≠ Dl := fun z => nA (z ▸ List.mem_of_getElem? e1)
        exact HcAt.at (upd_ne ha) ((ok1.at k a c e1 e2).mono se)
    · rw [List.drop_zero]
      simp only [List.nil_append]
      rw [Res.bind_ok]
      exact q
    · rintro i m Hc ⟨cs', accV, accD, sc, okc, hD, hA, hlen, rfl, hi, hq⟩
      obtain ⟨f1, f2⟩ := fd (Dl :: O) A1 cs' Hc hO sc okc i
      cases ed : items.drop i with
      | nil =>
        rw [ed] at hq
        refine .inl ⟨f1 (drop_end ed), ?_⟩
        have hq' : PostL X.K R O A H Q E (.ok (accD ++ []) cs') := hq
        rw [List.append_nil] at hq'
        have st := s1.trans sc
        refine hq' Dl A1 Hc st ?_ ?_
        · obtain ⟨⟨B, eB, fB⟩, k, l⟩ := st
          refine ⟨⟨B ++ [Dl], by rw [eB, List.append_assoc], fun b hb => ?_⟩, k, l⟩
          rcases List.mem_append.mp hb with z | z
          · exact fB b z
          · have e : b = Dl := by simpa using z
            rw [e]
            exact s1.fresh nD
        · have less : Same (hid ((Dl :: O) ++ A1) Hc) (hid (O ++ (A1 ++ [Dl])) Hc) := fun b u e => by
            obtain ⟨hb, e⟩ := hid_some.mp e
            refine hid_some.mpr ⟨fun z => hb ?_, e⟩
            simp only [List.mem_append, List.mem_cons, List.not_mem_nil, or_false] at z ⊢
            rcases z with z | z | z
            · exact .inl (.inr z)
            · exact .inr z
            · exact .inl (.inl z)
          have hnd : (A1 ++ [Dl]).Nodup := List.nodup_append.mpr ⟨okc.nd, by simp, fun x hx y hy => by
            have e : y = Dl := by simpa using hy
            subst e
            rintro rfl
            exact nA hx⟩
          refine ⟨fun x hx => ⟨(okc.out x (List.mem_cons_of_mem _ hx)).1, fun z => ?_⟩, by rw [List.length_append, List.length_append, okc.len]; rfl, hnd, fun k a c e1 e2 => ?_⟩
          · rcases List.mem_append.mp z with z | z
            · exact (okc.out x (List.mem_cons_of_mem _ hx)).2 z
            · have e : x = Dl := by simpa using z
              subst e
              exact ok1.ne nD (List.mem_append_left _ hx)
          · by_cases hk : k < A1.length
            · rw [List.getElem?_append_left hk] at e1
              rw [List.getElem?_append_left (okc.len ▸ hk)] at e2
              exact (okc.at k a c e1 e2).mono less
            · rw [List.getElem?_append_right (by omega)] at e1
              rw [List.getElem?_append_right (by rw [← okc.len]; omega)] at e2
              have hk0 : k - A1.length = 0 := by
                have := (List.getElem?_eq_some_iff.mp e1).1
                simp at this
                omega
              rw [← okc.len] at e2
              rw [hk0] at e1 e2
              cases e1
              cases e2
              exact ⟨accV, hD, hA.mono less⟩
      | cons d r =>
        rw [ed] at hq
        obtain ⟨ei, er⟩ := drop_get ed
        obtain ⟨go, yl⟩ := f2 d ei
        have hlt := (List.getElem?_eq_some_iff.mp ei).1
        refine .inr ⟨go, fun Hn => ∃ cs' accV accD, Stp A1 H1 A1 Hn ∧ Ok X.K (Dl :: O) A1 cs' Hn ∧ Hn Dl = some (.lst accV) ∧ ShA X.K (hid ((Dl :: O) ++ A1) Hn) accV accD ∧ accD.length ≤ i + 1 ∧
          PostL X.K R O A H Q E ((lcL f mt me (wipeR ρ vs) r cs').bind fun ys cs3 => .ok (accD ++ ys) cs3), fun Hn hN => ?_, fun x H2 y => ?_⟩
        · obtain ⟨cs2, aV, aD, t1, t2, t3, t4, t5, t6⟩ := hN
          exact ⟨items.length - (i + 1), by omega, cs2, aV, aD, t1, t2, t3, t4, t5, rfl, hlt, by rw [er]; exact t6⟩
        · obtain ⟨s2, ok2, r2⟩ := yl x H2 y
          simp only [lcL] at hq
          split at hq
          · rename_i ρ1 e1
            have s12 := sc.trans s2
            have rkw : RhoOk X.K (Dl :: O) A1 (wipeR ρ vs) (wipe σ vs) H2 := (rk.ext hO0 (s1.trans s12)).wipe vs
            refine ⟨Dl :: O, A1, cs', wipeR ρ vs, d, ρ1, ok2, rkw, r2, e1, fun σ3 rk3 l3 f3 => ⟨wipe_ext l3 fun i hi => f3 i fun z => hi (hL i z), ?_⟩⟩
            rw [Res.bind_bind] at hq
            refine ⟨Dl :: O, A1, ρ1, cs', ok2, rk3, quiet_post (PostX.step (Stp.refl ok) (fun k cs2 q2 A3 H3 s3 ok3 => ?_) (PostX.bind hq))⟩
            by_cases hl2 : cs2.length = cs'.length
            · rw [if_pos hl2] at q2
              have eA : A3 = A1 := s3.eq (by rw [ok3.len, hl2, okc.len])
              subst eA
              have s123 := s12.trans s3
              have hD3 : H3 Dl = some (.lst accV) := s3.keep Dl _ nA (s2.keep Dl _ nA hD)
              have hA3 := (hA.mono s2.same).mono s3.same
              cases k with
              | false =>
                rw [if_neg Bool.false_ne_true] at q2 ⊢
                exact ⟨cs2, accV, accD, s123, ok3, hD3, hA3, by omega, q2⟩
              | true =>
                rw [if_pos rfl] at q2 ⊢
                rw [Res.bind_bind] at q2
                refine ⟨Dl :: O, A3, ρ1, cs2, ok3, rk3.step s3, quiet_post (PostX.step (Stp.refl ok) (fun sx cs3 q3 v A4 H4 s4 ok4 r4 => ?_) (PostX.bind q2))⟩
                by_cases hl3 : cs3.length = cs'.length
                · rw [if_pos hl3] at q3
                  have eA4 : A4 = A3 := s4.eq (by rw [ok4.len, hl3, okc.len])
                  subst eA4
                  cases sx with
                  | h j => exact q3.elim
                  | s ns => exact q3.elim
                  | d y =>
                    have hD4 : H4 Dl = some (.lst accV) := s4.keep Dl _ nA hD3
                    obtain ⟨ok5, same5⟩ := ok4.outer (p := Dl) (o := .lst (accV ++ [v])) (List.mem_cons_self)
                    have hA4 := hA3.mono s4.same
                    have s1234 := s123.trans s4
                    refine ⟨accV, hD4, ?_, cs3, accV ++ [v], accD ++ [y], ⟨⟨[], by simp, by simp⟩, fun b o hb e => ?_, fun b hb => ?_⟩, ok5, upd_same, (hA4.append (.cons r4 .nil)).mono same5, ?_, ?_⟩
                    · rw [hA.length, ← SL_eq]
                      omega
                    · rw [upd_ne (fun (z : b = Dl) => by
                        rw [z, nD] at e
                        cases e)]
                      exact s1234.keep b o hb e
                    · rw [upd_ne (fun (z : b = Dl) => nA (z ▸ hb))]
                      exact s1234.live b hb
                    · rw [List.length_append]
                      show accD.length + 1 ≤ i + 1
                      omega
                    · have q4 : PostL X.K R O A H Q E (((lcL f mt me (wipeR ρ vs) r cs3).bind fun ys cs => .ok (y :: ys) cs).bind fun ys cs => .ok (accD ++ ys) cs) := q3
                      rw [Res.bind_bind] at q4
                      have e5 : (fun ys (cs : List HC) => Res.ok ((accD ++ [y]) ++ ys) cs) = fun ys (cs : List HC) => (Res.ok (y :: ys) cs).bind fun ys cs => Res.ok (accD ++ ys) cs := by
                        funext ys cs
                        show Res.ok ((accD ++ [y]) ++ ys) cs = Res.ok (accD ++ (y :: ys)) cs
                        rw [List.append_assoc]
                        rfl
                      rw [e5]
                      exact q4
                · rw [if_neg hl3] at q3
                  exact q3.elim
            · rw [if_neg hl2] at q2
              exact q2.elim
          · exact hq.elim
  · exact q.elim
theorem lm_lc {elt : Expr} {ifs : List Expr} {scope : Scope} {own : List (Str × Nat)} {me : Rho → M Sl} (hc : X.calm = true) (hN : X.N.Nodup) (hi : IM X R E tg iter mi) (okb : BlkOk X.N X.env.scope scope own) (hL : ∀ i ∈ L, i ∈ own.map (·.2))
    (hg : ∀ (s : Shared) (H : Hp) (C : Addr) (cl : List (Str × Addr)) (fp : List Addr), GM (X.blk s H scope (compEnvC scope cl C X.env) fp) tg L f)
    (ht : ∀ (s : Shared) (H : Hp) (C : Addr) (cl : List (Str × Addr)) (fp : List Addr), QM (X.blk s H scope (compEnvC scope cl C X.env) fp) R E0' ifs mt)
    (he : ∀ (s : Shared) (H : Hp) (C : Addr) (cl : List (Str × Addr)) (fp : List Addr), EM (X.blk s H scope (compEnvC scope cl C X.env) fp) R E0' elt me) (hs : ∀ x, foldedSetIterable iter X.env x = pure x := by intro _; rfl) :
    LM X R E (.ListComp elt [⟨tg, iter, ifs, 0⟩] scope pos) (mLc mi f mt me (own.map (·.2))) := by
  obtain ⟨wi, pi, ki⟩ := hi
  exact ⟨_, pe_lc (g := tGm X.K L f) (tt := tQm X.K R E0' mt) (te := tEm X.K R E0' me) hc hN pi okb (fun s H C cl fp => (hg s H C cl fp).pg) (fun s H C cl fp => (ht s H C cl fp).pe) (fun s H C cl fp => (he s H C cl fp).pe) hs, fun O A ρ cs σ H ok rk Q h => lc_read ki hL ok rk h⟩
/-! ### a new list as a handle -/
def mNew (m : Rho → M (List D)) : Rho → M Sl := fun ρ cs => (m ρ cs).bind fun ds cs1 => .ok (.h cs1.length) (cs1 ++ [.lst ds])
/-- a reading of a new list serves as data, and as a handle -/
def RdL (X : Cx) (R : XR) (E : XK) (t : TE) (m : Rho → M (List D)) : Prop := ∀ O A ρ cs σ H, Ok X.K O A cs H → RhoOk X.K O A ρ σ H → ∀ Q, PostL X.K R O A H Q E (m ρ cs) → t σ H Q
def RdE (X : Cx) (R : XR) (E : XK) (t : TE) (m : Rho → M Sl) : Prop := ∀ O A ρ cs σ H, Ok X.K O A cs H → RhoOk X.K O A ρ σ H → ∀ Q, Post X.K R O A H Q E (m ρ cs) → t σ H Q
theorem RdL.em {t : TE} {m : Rho → M (List D)} (k : RdL X R E t m) : RdE X R E t (mL m) := fun O A ρ cs σ H ok rk Q h => by
  refine k O A ρ cs σ H ok rk _ (PostX.step (Stp.refl ok) (fun ds cs1 q p A1 H1 s1 _ ok1 => ?_) (PostX.bind h))
  obtain ⟨ok2, sh⟩ := ok1.pop
  exact q _ A1 H1 s1 ok2 sh
theorem RdL.new {t : TE} {m : Rho → M (List D)} (k : RdL X R E t m) : RdE X R E t (mNew m) := fun O A ρ cs σ H ok rk Q h => by
  refine k O A ρ cs σ H ok rk _ (PostX.step (Stp.refl ok) (fun ds cs1 q p A1 H1 s0 s1 ok1 => ?_) (PostX.bind h))
  refine q _ _ H1 s1 ok1 ⟨p, ?_, rfl⟩
  have hl : A1.length = cs1.length := by
    have := ok1.len
    simp at this
    exact this
  rw [← hl]
  simp
theorem LM.new {m : Rho → M (List D)} (h : LM X R E e m) : EM X R E e (mNew m) := by
  obtain ⟨t, p, k⟩ := h
  exact ⟨t, p, RdL.new k⟩
/-- x = [..] on one line -/
theorem sm_setLc (i : Nat) {y : Str} {py spos : Pos} {elt : Expr} {ifs : List Expr} {scope : Scope} {own : List (Str × Nat)} {me m : Rho → M Sl} (hc : X.calm = true) (hN : X.N.Nodup) (hsw : swapsWith (.ListComp elt [⟨tg, iter, ifs, 0⟩] scope pos) (some (.Name y py)) spos.line X.env = pure true)
    (hi : IM X R E tg iter mi) (okb : BlkOk X.N X.env.scope scope own) (hL : ∀ i ∈ L, i ∈ own.map (·.2))
    (hg : ∀ (s : Shared) (H : Hp) (C : Addr) (cl : List (Str × Addr)) (fp : List Addr), GM (X.blk s H scope (compEnvC scope cl C X.env) fp) tg L f)
    (ht : ∀ (s : Shared) (H : Hp) (C : Addr) (cl : List (Str × Addr)) (fp : List Addr), QM (X.blk s H scope (compEnvC scope cl C X.env) fp) R E0' ifs mt)
    (he : ∀ (s : Shared) (H : Hp) (C : Addr) (cl : List (Str × Addr)) (fp : List Addr), EM (X.blk s H scope (compEnvC scope cl C X.env) fp) R E0' elt me)
    (hm : ∀ t, RdL X R E t (mLc mi f mt me (own.map (·.2))) → RdE X R E t m) (hy : X.N[i]? = some y := by rfl) (hyl : X.env.scope.names.lookup y = some .local := by rfl) (hs : ∀ x, foldedSetIterable iter X.env x = pure x := by intro _; rfl) :
    SM X R E (.Assign [.Name y py] (.ListComp elt [⟨tg, iter, ifs, 0⟩] scope pos) spos) (sSet i m) := by
  obtain ⟨wi, pi, ki⟩ := hi
  exact sm_of (ps_setLc (g := tGm X.K L f) (tt := tQm X.K R E0' mt) (te := tEm X.K R E0' me) hc hN hy hyl hsw pi okb (fun s H C cl fp => (hg s H C cl fp).pg) (fun s H C cl fp => (ht s H C cl fp).pe) (fun s H C cl fp => (he s H C cl fp).pe) hs) fun O A ρ cs σ H ok rk De h =>
    set_run (hm _ fun O A ρ cs σ H ok rk Q h => lc_read ki hL ok rk h) ok rk h
/-! ### further assignments -/
def sPar (i j : Nat) (ma mb : Rho → M Sl) : Rho → M Fl := fun ρ cs => (ma ρ cs).bind fun x cs1 => (mb ρ cs1).bind fun y cs2 => .ok (.nx ((ρ.set i (some x)).set j (some y))) cs2
theorem sm_par (i j : Nat) {x y : Str} {px py pt : Pos} {kt k2 : Nat} {pt2 : Pos} (hc : X.calm = true) (hN : X.N.Nodup) (ha : EM X R E a ma) (hb : EM X R E b mb) (hw : swappedStores [.Tuple [.Name x px, .Name y py] kt pt] (.Tuple [a, b] k2 pt2) X.env = pure (some [x, y]))
    (hi : X.N[i]? = some x := by rfl) (hj : X.N[j]? = some y := by rfl) (hij : i ≠ j := by decide) (hx : X.env.scope.names.lookup x = some .local := by rfl) (hy : X.env.scope.names.lookup y = some .local := by rfl)
    (hs1 : starEach [a, b] X.env = (false, eval a X.env) :: starEach [b] X.env := by rfl) (hs2 : starEach [b] X.env = (false, eval b X.env) :: starEach [] X.env := by rfl)
    (hs : swapsWithSole [.Tuple [.Name x px, .Name y py] kt pt] (.Tuple [a, b] k2 pt2) pos.line X.env = pure false := by rfl) :
    SM X R E (.Assign [.Tuple [.Name x px, .Name y py] kt pt] (.Tuple [a, b] k2 pt2) pos) (sPar i j ma mb) := by
  obtain ⟨ta, pa, ka⟩ := ha
  obtain ⟨tb, pb, kb⟩ := hb
  refine sm_of (ps_par hc hN hi hj hij hx hy (pa_cons pa (pa_cons pb pa_nil hs2) hs1) hw hs) fun O A ρ cs σ H ok rk De h => ?_
  refine ka O A ρ cs σ H ok rk _ (PostX.step (Stp.refl ok) (fun sx cs1 q x A1 H1 s1 ok1 r1 => ?_) (PostX.bind h))
  refine kb O A1 ρ cs1 σ H1 ok1 (rk.step s1) _ (PostX.step s1 (fun sy cs2 q2 y A2 H2 s2 ok2 r2 => ?_) (PostX.bind q))
  exact ⟨x, y, rfl, q2 _ A2 H2 (s1.trans s2) ok2 (((rk.step (s1.trans s2)).set (r1.step s2)).set r2)⟩
def sPar3 (i j l : Nat) (ma mb mc : Rho → M Sl) : Rho → M Fl := fun ρ cs => (ma ρ cs).bind fun x cs1 => (mb ρ cs1).bind fun y cs2 => (mc ρ cs2).bind fun z cs3 => .ok (.nx (((ρ.set i (some x)).set j (some y)).set l (some z))) cs3
/-- targets = e -/
def sAsg (ma : Rho → M Sl) (f : D → Rho → Option Rho) : Rho → M Fl := fun ρ cs => (ma ρ cs).bind fun x cs1 => match x with
  | .d d => match f d ρ with
    | some ρ1 => .ok (.nx ρ1) cs1
    | none => .bad
  | _ => .bad
theorem sm_asg (he : EM X R E e ma) (hg : GM X tg L f) (hs : swapsWithSole [tg] e pos.line X.env = pure false := by rfl) (hw : swappedStores [tg] e X.env = pure none := by rfl) (h1 : (assignEach [tg] X.env).map (·.2) = [assign tg X.env] := by rfl) : SM X R E (.Assign [tg] e pos) (sAsg ma f) := by
  obtain ⟨t, p, k⟩ := he
  obtain ⟨g, pg, kg⟩ := hg
  refine sm_of (ps_asg p pg hs hw h1) fun O A ρ cs σ H ok rk De h => ?_
  refine k O A ρ cs σ H ok rk _ (PostX.step (Stp.refl ok) (fun sx cs1 q x A1 H1 s1 ok1 r1 => ?_) (PostX.bind h))
  cases sx with
  | h j => exact (show False from q).elim
  | s ns => exact (show False from q).elim
  | d d =>
    replace q : PostS X.K R O A H De E (match f d ρ with
      | some ρ1 => .ok (.nx ρ1) cs1
      | none => .bad) := q
    split at q
    · rename_i ρ1 e1
      exact kg O A1 cs1 ρ σ H1 x _ ρ1 ok1 (rk.step s1) r1 e1 _ fun σ' rk' _ _ => q σ' A1 H1 s1 ok1 rk'
    · exact q.elim
/-- e; -/
def sDrop (ma : Rho → M Sl) : Rho → M Fl := fun ρ cs => (ma ρ cs).bind fun _ cs1 => .ok (.nx ρ) cs1
theorem sm_drop (he : EM X R E e ma) (hs : swapsWith e none pos.line X.env = pure false := by rfl) : SM X R E (.Expr e pos) (sDrop ma) := by
  obtain ⟨t, p, k⟩ := he
  refine sm_of (ps_expr p hs) fun O A ρ cs σ H ok rk De h => ?_
  refine k O A ρ cs σ H ok rk _ (PostX.step (Stp.refl ok) (fun sx cs1 q x A1 H1 s1 ok1 r1 => ?_) (PostX.bind h))
  exact q σ A1 H1 s1 ok1 (rk.step s1)
end
end Mir
set_option maxHeartbeats 2000000
/-! what is never reached; defs that return a new list; defs by their names -/
namespace Mir
open PySem PySem.Spec PyProof.Rows L2

def mDead {α : Type} : Rho → M α := fun _ _ => .bad
section
variable {X : Cx} {R : XR} {E : XK}
theorem em_dead {e : Expr} : EM X R E e mDead := ⟨fun _ _ _ => False, ⟨fun _ _ _ _ _ _ h => h.elim⟩, fun _ _ _ _ _ _ _ _ _ h => h⟩
theorem sm_dead {st : Stmt} : SM X R E st mDead := ⟨fun _ _ _ => False, ⟨fun _ _ _ _ _ _ h => h.elim⟩, fun _ _ _ _ _ _ _ _ _ h => h⟩
theorem bm_dead {st : List Stmt} : BM X R E st mDead := ⟨fun _ _ _ => False, ⟨fun _ _ _ _ _ _ h => h.elim⟩, fun _ _ _ _ _ _ _ _ _ h => h⟩
theorem em_dict0 {pos : Pos} : EM X R E (.Dict [] [] pos) (mC (.dict [])) := em_of pe_dnewK fun O A ρ cs σ H ok rk Q h p hp => by
  have st := Stp.new (o := .dK []) ok hp
  exact h _ A _ st (ok.new hp) (.dic (hid_some.mpr ⟨ok.ne hp, upd_same⟩) .nil)
end

/-! ### defs that return a new list -/
def PostRL (K : PySem.W.Frag) (R : XR) (O A : List Addr) (H : Hp) (Q : VK) (E : XK) : Res (List D) → Prop
  | .ok ds cs => ∀ p H', Stp A H A H' → Stp A H (A ++ [p]) H' → Ok K O (A ++ [p]) (cs ++ [.lst ds]) H' → Q (.ref p) H'
  | .exc x cs => ∀ H' cls dx, Stp A H A H' → Ok K O A cs H' → R x cls dx (hid (O ++ A) H') → E cls dx H'
  | .bad => False
def spL (K : PySem.W.Frag) (R : XR) (n : Nat) (m : List Sl → M (List D)) : Sp := fun vs H Q E => ∃ O A cs sls, Ok K O A cs H ∧ ShSs K O A H vs sls ∧ sls.length = n ∧ PostRL K R O A H Q E (m sls cs)
theorem PostRL.of {K : PySem.W.Frag} {R : XR} {O A A1 : List Addr} {H H1 : Hp} {Q : VK} {E : XK} (s : Stp A H A1 H1) : ∀ {r : Res (List D)}, PostL K R O A H Q E r → PostRL K R O A1 H1 Q E r
  | .ok ds cs, h => fun p H' s1 s2 ok => h p A1 H' (s.trans s1) (s.trans s2) ok
  | .exc x cs, h => fun H' cls dx s1 ok r => h A1 H' cls dx (s.trans s1) ok r
  | .bad, h => h
def finL (n : Nat) : Res Fl → Res (List D)
  | .ok (.rt (.h k)) cs => if k < n then .bad else match cs[k]? with
    | some (.lst ds) => .ok ds (cs.take n)
    | none => .bad
  | .ok _ _ => .bad
  | .exc x cs => .exc x (cs.take n)
  | .bad => .bad
def mDefL (N : Nat) (mb : Rho → M Fl) : List Sl → M (List D) := fun sls cs => finL cs.length (mb (sls.map some ++ List.replicate (N - sls.length) none) cs)
section
variable {K : PySem.W.Frag} {R : XR} {O A A' : List Addr} {cs cs' : List HC} {H H' : Hp}
theorem Stp.back1 (s : Stp A H A' H') {B : List Addr} (eB : A' = A ++ B) {a : Addr} (ha : a ∈ B) : Stp A H (A ++ [a]) H' := by
  obtain ⟨⟨C, eC, fC⟩, k, l⟩ := s
  have e : C = B := List.append_cancel_left (eC.symm.trans eB)
  subst e
  exact ⟨⟨[a], rfl, fun b hb => by
    have e : b = a := by simpa using hb
    rw [e]
    exact fC a ha⟩, k, l⟩
theorem Ok.back1 {B : List Addr} (ok : Ok K O A' cs' H') (eB : A' = A ++ B) (hn : A.length = cs.length) {k : Nat} {a : Addr} {ds : List D} (hk : ¬ k < cs.length) (ea : A'[k]? = some a) (ed : cs'[k]? = some (.lst ds)) : a ∈ B ∧ Ok K O (A ++ [a]) (cs'.take cs.length ++ [.lst ds]) H' := by
  have haB : a ∈ B := by
    rw [eB, List.getElem?_append_right (by omega)] at ea
    exact List.mem_of_getElem? ea
  have nd := ok.nd
  rw [eB] at nd
  have nd' := List.nodup_append.mp nd
  have sub : ∀ x, x ∈ A ++ [a] → x ∈ A' := fun x hx => by
    rw [eB]
    rcases List.mem_append.mp hx with z | z
    · exact List.mem_append_left _ z
    · have e : x = a := by simpa using z
      rw [e]
      exact List.mem_append_right _ haB
  have less : Same (hid (O ++ A') H') (hid (O ++ (A ++ [a])) H') := fun b o h => by
    obtain ⟨hb, e⟩ := hid_some.mp h
    refine hid_some.mpr ⟨fun z => hb ?_, e⟩
    rcases List.mem_append.mp z with z | z
    · exact List.mem_append_left _ z
    · exact List.mem_append_right _ (sub _ z)
  have hl : cs.length ≤ cs'.length := by
    rw [← ok.len, eB, List.length_append]
    omega
  have ht : (cs'.take cs.length).length = A.length := by
    rw [List.length_take]
    omega
  refine ⟨haB, fun o ho => ⟨(ok.out o ho).1, fun z => (ok.out o ho).2 (sub _ z)⟩, by rw [List.length_append, List.length_append, ht]; rfl, ?_, fun j b c e1 e2 => ?_⟩
  · refine List.nodup_append.mpr ⟨nd'.1, by simp, fun x hx y hy => ?_⟩
    have e : y = a := by simpa using hy
    subst e
    exact nd'.2.2 x hx y haB
  · by_cases hj : j < A.length
    · rw [List.getElem?_append_left hj] at e1
      rw [List.getElem?_append_left (by omega), List.getElem?_take, if_pos (by omega)] at e2
      exact (ok.at j b c (by rw [eB, List.getElem?_append_left hj]; exact e1) e2).mono less
    · rw [List.getElem?_append_right (by omega)] at e1
      rw [List.getElem?_append_right (by omega), ht] at e2
      have hk0 : j - A.length = 0 := by
        have := (List.getElem?_eq_some_iff.mp e1).1
        simp at this
        omega
      rw [hk0] at e1 e2
      cases e1
      cases e2
      exact (ok.at k a _ ea ed).mono less
theorem finL_ok {Q : VK} {E : XK} (hR : RMono R) (hn : A.length = cs.length) {r : Res Fl} (h : PostRL K R O A H Q E (finL cs.length r)) : PostS K R O A H { nx := fun _ H' => Q .non H', rt := Q } E r := by
  cases r with
  | bad => exact h
  | exc x cs' => exact fun A' H' cls dx s ok r => h H' cls dx s.back (ok.back s hn) (hR _ _ _ _ _ s.less r)
  | ok f cs' =>
    cases f with
    | nx ρ => exact (show False from h).elim
    | bk ρ => exact (show False from h).elim
    | ct ρ => exact (show False from h).elim
    | rt sl =>
      cases sl with
      | d d => exact (show False from h).elim
      | s ns => exact (show False from h).elim
      | h k =>
        intro v A' H' s ok r
        simp only [finL] at h
        obtain ⟨a, ea, rfl⟩ := r
        obtain ⟨⟨B, eB, fB⟩, _, _⟩ := id s
        split at h
        · exact h.elim
        · rename_i hk
          split at h
          · rename_i ds ed
            obtain ⟨haB, ok1⟩ := ok.back1 eB hn hk ea ed
            exact h a H' s.back (s.back1 eB haB) ok1
          · exact h.elim
end
section
variable {P : Program} {w : World} {K : PySem.W.Frag} {mg : Str → Option Value} {base : Heap} {R : XR}
theorem def_okL {x qual : Str} {st : Stmt} {f : Addr} {fd : FuncData} {N ps : List Str} {k : Nat} {mb : Rho → M Fl} (hR : RMono R) (F : Fun K x qual st f fd) (S : FnScope N ps (defScope st))
    (hb : ∀ (cdv : Value) (A : Around) (outer : List Env) (s : Shared) (H : Hp) (E : XK), Room k (A.deeper (envOfC qual (defScope st) s.heap.objs.size f cdv)) → BM (cxOf CX0 P w K mg base N qual (defScope st) f cdv A outer s H E).nox R E (defBody st) mb) :
    FnOk P w K mg base CX0 (k + 1) f fd ps (spL K R ps.length (mDefL N.length mb)) := by
  refine F.ok S (fun vs H Q E h => ?_) (fun cdv A outer s H vs Q E hr h => ?_)
  · obtain ⟨O, A, cs, sls, _, hs, hn, _⟩ := h
    exact hs.length.trans hn
  · obtain ⟨O, A', cs, sls, ok, hs, hn, h⟩ := h
    obtain ⟨t, p, kk⟩ := hb cdv A outer s H E hr
    exact ⟨t, p, kk O A' _ cs _ H ok (rho_start (ps := ps) hs) _ (finL_ok hR ok.len h)⟩

/-! ### defs by their names -/
structure At (K : PySem.W.Frag) (mg : Str → Option Value) (x : Str) (st : Stmt) (ps : List Str) : Prop where
  ex : ∃ f fd, Fun K x x st f fd ∧ mg x = some (.ref f) ∧ Binds K fd ps []
structure Df (P : Program) (w : World) (K : PySem.W.Frag) (mg : Str → Option Value) (base : Heap) (R : XR) (x : Str) (k n : Nat) (m : List Sl → M Sl) : Prop where
  ex : ∃ f fd ps, FnOk P w K mg base CX0 k f fd ps (spM K R n m) ∧ mg x = some (.ref f) ∧ PySem.W.keepIn K (.ref f) = true ∧ Binds K fd ps []
structure DfL (P : Program) (w : World) (K : PySem.W.Frag) (mg : Str → Option Value) (base : Heap) (R : XR) (x : Str) (k n : Nat) (m : List Sl → M (List D)) : Prop where
  ex : ∃ f fd ps, FnOk P w K mg base CX0 k f fd ps (spL K R n m) ∧ mg x = some (.ref f) ∧ PySem.W.keepIn K (.ref f) = true ∧ Binds K fd ps []
theorem Df.mk' {x : Str} {st : Stmt} {N ps : List Str} {k : Nat} {mb : Rho → M Fl} (hR : RMono R) (a : At K mg x st ps) (S : FnScope N ps (defScope st))
    (hb : ∀ (f : Addr) (cdv : Value) (A : Around) (outer : List Env) (s : Shared) (H : Hp) (E : XK), Room k (A.deeper (envOfC x (defScope st) s.heap.objs.size f cdv)) → BM (cxOf CX0 P w K mg base N x (defScope st) f cdv A outer s H E).nox R E (defBody st) mb) :
    Df P w K mg base R x (k + 1) ps.length (mDef N.length mb) := by
  obtain ⟨f, fd, F, hm, hB⟩ := a
  exact ⟨f, fd, ps, def_ok hR F S (hb f), hm, F.kp, hB⟩
theorem DfL.mk' {x : Str} {st : Stmt} {N ps : List Str} {k : Nat} {mb : Rho → M Fl} (hR : RMono R) (a : At K mg x st ps) (S : FnScope N ps (defScope st))
    (hb : ∀ (f : Addr) (cdv : Value) (A : Around) (outer : List Env) (s : Shared) (H : Hp) (E : XK), Room k (A.deeper (envOfC x (defScope st) s.heap.objs.size f cdv)) → BM (cxOf CX0 P w K mg base N x (defScope st) f cdv A outer s H E).nox R E (defBody st) mb) :
    DfL P w K mg base R x (k + 1) ps.length (mDefL N.length mb) := by
  obtain ⟨f, fd, F, hm, hB⟩ := a
  exact ⟨f, fd, ps, def_okL hR F S (hb f), hm, F.kp, hB⟩
end
section
variable {X : Cx} {R : XR} {E : XK} {pos : Pos} {e : Expr} {es : List Expr} {ms : Rho → M (List Sl)} {k n : Nat} {m : List Sl → M Sl} {ml : List Sl → M (List D)}
theorem never {X : Cx} {E : XK} : Passes CX0 X E := fun _ _ _ _ _ _ _ h => h.elim
theorem em_callD {x : Str} {p : Pos} (F : Df X.prog X.w X.K X.mg X.base R x k n m) (hr : Room k X.A) (hg : Gl X x) (ha : AM X R E (e :: es) ms)
    (hd : (x == ("__debug__" : Str)) = false := by decide) (hst : starEach (e :: es) X.env = (false, eval e X.env) :: starEach es X.env := by rfl) (hs : (backTo pos (starEach es X.env)).any (·.1) = false := by rfl) :
    EM X R E (.Call (.Name x p) (e :: es) [] pos) (mOwn n m ms) := by
  obtain ⟨f, fd, ps, F, hm, hk, hb⟩ := F
  exact em_call F hr hg hm hk hb never ha hd hst hs
def mOwnL (n : Nat) (m : List Sl → M (List D)) (ms : Rho → M (List Sl)) : Rho → M (List D) := fun ρ cs => (ms ρ cs).bind fun xs cs1 => if xs.length = n then m xs cs1 else .bad
theorem lm_callD {x : Str} {p : Pos} (F : DfL X.prog X.w X.K X.mg X.base R x k n ml) (hr : Room k X.A) (hg : Gl X x) (ha : AM X R E (e :: es) ms)
    (hd : (x == ("__debug__" : Str)) = false := by decide) (hst : starEach (e :: es) X.env = (false, eval e X.env) :: starEach es X.env := by rfl) (hs : (backTo pos (starEach es X.env)).any (·.1) = false := by rfl) :
    LM X R E (.Call (.Name x p) (e :: es) [] pos) (mOwnL n ml ms) := by
  obtain ⟨f, fd, ps, F, hm, hk, hb⟩ := F
  obtain ⟨t, pt, kk⟩ := ha
  refine ⟨_, pe_call (E := E) F hr hg hm hk hb .nil never pt hd hst hs, fun O A ρ cs σ H ok rk Q h => ?_⟩
  refine kk O A ρ cs σ H ok rk _ (PostX.step (Stp.refl ok) (fun sxs cs1 q vs A1 H1 s1 ok1 r1 => ?_) (PostX.bind h))
  split at q
  · rename_i hn
    exact ⟨O, A1, cs1, sxs, ok1, by rw [List.append_nil]; exact r1, hn, PostRL.of s1 q⟩
  · exact q.elim
end
/-! ### a, b = x, y through a tuple (one of the names is a cell) -/
section
variable {X : Cx} {R : XR} {E : XK} {pos : Pos} {a b : Expr} {ma mb : Rho → M Sl}
theorem sm_parC (i j : Nat) {x y : Str} {px py pt : Pos} {kt k2 : Nat} {pt2 : Pos} (hc : X.calm = true) (hN : X.N.Nodup) (ha : EM X R E a ma) (hb : EM X R E b mb)
    (hi : X.N[i]? = some x := by rfl) (hj : X.N[j]? = some y := by rfl) (hx : Loc X.env.scope x := by first | exact Or.inl rfl | exact Or.inr rfl) (hy : Loc X.env.scope y := by first | exact Or.inl rfl | exact Or.inr rfl)
    (fx : X.fn x = true ∨ X.env.scope.names.lookup x = some .local := by first | exact .inl rfl | exact .inr rfl | assumption) (fy : X.fn y = true ∨ X.env.scope.names.lookup y = some .local := by first | exact .inl rfl | exact .inr rfl | assumption)
    (hs1 : starEach [a, b] X.env = (false, eval a X.env) :: starEach [b] X.env := by rfl) (hs2 : starEach [b] X.env = (false, eval b X.env) :: starEach [] X.env := by rfl)
    (hs : swapsWithSole [.Tuple [.Name x px, .Name y py] kt pt] (.Tuple [a, b] k2 pt2) pos.line X.env = pure false := by rfl) (hw : swappedStores [.Tuple [.Name x px, .Name y py] kt pt] (.Tuple [a, b] k2 pt2) X.env = pure none := by rfl)
    (h1 : (assignEach [.Tuple [.Name x px, .Name y py] kt pt] X.env).map (·.2) = [assign (.Tuple [.Name x px, .Name y py] kt pt) X.env] := by rfl)
    (hn : (assignEach [.Name x px, .Name y py] X.env).length = 2 := by rfl) (hst : (assignEach [.Name x px, .Name y py] X.env).findIdx? (·.1) = none := by rfl)
    (ht1 : (assignEach [.Name x px, .Name y py] X.env).map (·.2) = assign (.Name x px) X.env :: (assignEach [.Name y py] X.env).map (·.2) := by rfl) (ht2 : (assignEach [.Name y py] X.env).map (·.2) = assign (.Name y py) X.env :: (assignEach [] X.env).map (·.2) := by rfl) :
    SM X R E (.Assign [.Tuple [.Name x px, .Name y py] kt pt] (.Tuple [a, b] k2 pt2) pos) (sPar i j ma mb) := by
  obtain ⟨ta, pa, ka⟩ := ha
  obtain ⟨tb, pb, kb⟩ := hb
  refine sm_of (ps_asg (pe_tup (pa_cons pa (pa_cons pb pa_nil hs2) hs1)) (pg_tup hc (pgs_cons (pg_name hN hi hx fx) (pgs_cons (pg_name hN hj hy fy) pgs_nil ht2) ht1) hn hst) hs hw h1) fun O A ρ cs σ H ok rk De h => ?_
  refine ka O A ρ cs σ H ok rk _ (PostX.step (Stp.refl ok) (fun sx cs1 q x A1 H1 s1 ok1 r1 => ?_) (PostX.bind h))
  refine kb O A1 ρ cs1 σ H1 ok1 (rk.step s1) _ (PostX.step s1 (fun sy cs2 q2 y A2 H2 s2 ok2 r2 => ?_) (PostX.bind q))
  refine ⟨by rw [sizeLine_eq]; simp, fun p hp => ?_⟩
  have s3 := Stp.new (o := .tup [x, y]) ok2 hp
  have s12 := s1.trans s2
  refine ⟨p, [x, y], rfl, .inl (.inl upd_same), rfl, x, [y], rfl, y, [], rfl, rfl, ?_⟩
  exact q2 _ A2 _ (s12.trans s3) (ok2.new hp) (((rk.step (s12.trans s3)).set ((r1.step s2).step s3)).set (r2.step s3))
end
end Mir
set_option maxHeartbeats 2000000
/-! the law's own end -/
namespace Mir
open PySem PySem.Spec PyProof.Rows L2
/-- nothing is let out -/
def R0 : XR := fun _ _ _ _ => False
theorem r0 : RMono R0 := fun _ _ _ _ _ _ h => h
def spLaw (K : PySem.W.Frag) : Sp := fun vs H Q _ => ∃ (a : Addr) (ns : List Int), vs = [.ref a] ∧ SqL K H a (ns.map V.int) ∧ ns.length ≤ 63 ∧ ∀ H', Q (.bl true) H'
theorem hid_nil (H : Hp) : hid [] H = H := by
  funext b
  simp [hid]
theorem law_end {P : Program} {w : World} {K : PySem.W.Frag} {mg : Str → Option Value} {base : Heap} {k : Nat} {f : Addr} {fd : FuncData} {ps : List Str} {m : List Sl → M Sl} (F : FnOk P w K mg base CX0 k f fd ps (spM K R0 1 m))
    (hm : ∀ ns : List Int, ns.length ≤ 63 → ∃ cs, m [.s ns] [] = .ok (.d (.bool true)) cs) : FnOk P w K mg base CX0 k f fd ps (spLaw K) := by
  refine F.imp fun vs H Q E h => ?_
  obtain ⟨a, ns, rfl, hS, hl, q⟩ := h
  obtain ⟨cs, e⟩ := hm ns hl
  refine ⟨[], [], [], [.s ns], ⟨fun o ho => absurd ho (List.not_mem_nil), rfl, List.nodup_nil, fun k a c e1 _ => by simp at e1⟩, .cons ⟨a, rfl, ?_⟩ .nil, rfl, ?_⟩
  · rw [List.nil_append, hid_nil]
    exact hS
  · rw [e]
    intro v H' _ _ r
    cases r
    exact q H'
theorem At.of {K : PySem.W.Frag} {h : Heap} {mg : Str → Option Value} {x : Str} {st : Stmt} {f : Addr} {oc : Value} {od an : Option Addr} {osl : Array (Option Value)} {kV doc pm cdv ct : Value} {ps : List Str} (X : K.In h) (G : h.Ns mainGlobals mg)
    (a : PySem.W.nsIn K mainGlobals x = some (some (.ref f))) (l : K.lookup f = some ⟨oc, od, .func (PySem.W.fnOf x x (defArgs st) (defBody st) (defScope st) .none kV doc pm an cdv ct), osl⟩) (c : PySem.W.codeIn K cdv x = true) (k : PySem.W.keepIn K (.ref f) = true)
    (b : ∀ (kV doc pm : Value) (an : Option Addr) (cdv ct : Value) (us : List Value), us.length = ps.length → bindArgs (PySem.W.fnOf x x (defArgs st) (defBody st) (defScope st) .none kV doc pm an cdv ct) ⟨us, []⟩ = pure (ps.zip us)) : At K mg x st ps :=
  ⟨f, _, fun_mk l c k, PySem.W.mg_of X G a, (fun_mk l c k).binds b⟩
theorem Int.of {K : PySem.W.Frag} {h : Heap} {mg : Str → Option Value} {x : Str} {i : Int} {t : Tok} (X : K.In h) (G : h.Ns mainGlobals mg) (a : PySem.W.nsIn K mainGlobals x = some (some (.int i t))) : ∃ t, mg x = some (.int i t) := ⟨t, PySem.W.mg_of X G a⟩
end Mir
set_option maxHeartbeats 2000000
/-! a handle lent to a def that reads it alone -/
namespace Mir
open PySem PySem.Spec PyProof.Rows L2
mutual
/-- no list, no dict anywhere in it -/
def noL : D → Bool
  | .list _ => false
  | .dict _ => false
  | .tuple ds => noLA ds
  | _ => true
def noLA : List D → Bool
  | [] => true
  | d :: r => noL d && noLA r
end
def noC : HC → Bool
  | .lst ds => noLA ds
def low (k : Nat) (ds : List D) : Sl → Sl
  | .h j => if j = k then .d (.list ds) else if j < k then .h j else .h (j - 1)
  | x => x
def lendM (p : Nat) (m : List Sl → M Sl) : List Sl → M Sl := fun sls cs => match sls[p]? with
  | some (.h k) => match cs[k]? with
    | some (.lst ds) => match m (sls.map (low k ds)) (cs.eraseIdx k) with
      | .ok (.d d) cs' => if noL d = true ∧ cs'.all noC = true then .ok (.d d) (cs'.insertIdx k (.lst ds)) else .bad
      | _ => .bad
    | none => .bad
  | _ => m sls cs
section
variable {K : PySem.W.Frag} {O A A1 : List Addr} {H : Hp} {a : Addr} {vs0 : List V}
theorem hid_tight {b : Addr} {o : HO} (hA : ∀ b ∈ A, b = a ∨ b ∈ A1) (ha : H a = some (.lst vs0)) (ho : ∀ xs, o ≠ .lst xs) (h : hid (O ++ A1) H b = some o) : hid (O ++ A) H b = some o := by
  obtain ⟨hb, e⟩ := hid_some.mp h
  refine hid_some.mpr ⟨fun z => hb ?_, e⟩
  rcases List.mem_append.mp z with z | z
  · exact List.mem_append_left _ z
  · rcases hA b z with z | z
    · subst z
      rw [ha] at e
      cases e
      exact absurd rfl (ho _)
    · exact List.mem_append_right _ z
mutual
theorem Sh.tight (hA : ∀ b ∈ A, b = a ∨ b ∈ A1) (ha : H a = some (.lst vs0)) : ∀ {d : D} {v : V}, noL d = true → Sh K (hid (O ++ A1) H) v d → Sh K (hid (O ++ A) H) v d
  | _, _, _, .non => .non
  | _, _, _, .bl b => .bl b
  | _, _, _, .int i => .int i
  | _, _, _, .str x => .str x
  | _, _, c, .lst h t => by simp [noL] at c
  | _, _, c, .tup h t => .tup (by
      rcases h with (h | ⟨o, h⟩) | h
      · exact .inl (.inl (hid_tight hA ha (fun xs z => by cases z) h))
      · exact .inl (.inr ⟨o, hid_tight hA ha (fun xs z => by cases z) h⟩)
      · exact .inr h) (ShA.tight hA ha (by simpa [noL] using c) t)
  | _, _, c, .dic h t => by simp [noL] at c
theorem ShA.tight (hA : ∀ b ∈ A, b = a ∨ b ∈ A1) (ha : H a = some (.lst vs0)) : ∀ {ds : List D} {vs : List V}, noLA ds = true → ShA K (hid (O ++ A1) H) vs ds → ShA K (hid (O ++ A) H) vs ds
  | _, _, _, .nil => .nil
  | _, _, c, .cons h t => by
    have c' := (Bool.and_eq_true _ _).mp (by simpa [noLA] using c)
    exact .cons (Sh.tight hA ha c'.1 h) (ShA.tight hA ha c'.2 t)
end
theorem ShSs.at {vs : List V} {sls : List Sl} (h : ShSs K O A H vs sls) : ∀ {p : Nat} {sl : Sl}, sls[p]? = some sl → ∃ v, ShS K O A H v sl := by
  induction h with
  | nil => intro p sl e; simp at e
  | cons h t ih =>
    intro p sl e
    cases p with
    | zero =>
      simp at e
      subst e
      exact ⟨_, h⟩
    | succ p => exact ih (by simpa using e)
end
theorem spM.lend {K : PySem.W.Frag} {R : XR} {n p : Nat} {m : List Sl → M Sl} {vs : List V} {H : Hp} {Q : VK} {E : XK} (h : spM K R n (lendM p m) vs H Q E) : spM K R n m vs H Q E := by
  obtain ⟨O, A, cs, sls, ok, hs, hn, h⟩ := h
  unfold lendM at h
  split at h
  · rename_i k ek
    split at h
    · rename_i ds ed
      obtain ⟨v0, a, ea, rfl⟩ := hs.at ek
      have hkA : k < A.length := (List.getElem?_eq_some_iff.mp ea).1
      have hkC : k < cs.length := ok.len ▸ hkA
      obtain ⟨vs0, hl, hsh⟩ := ok.at k a _ ea ed
      have haA : a ∈ A := List.mem_of_getElem? ea
      have hA : ∀ b ∈ A, b = a ∨ b ∈ A.eraseIdx k := fun b hb => by
        obtain ⟨j, hj, e⟩ := List.getElem_of_mem hb
        by_cases hjk : j = k
        · subst hjk
          exact .inl (by
            rw [List.getElem?_eq_getElem hkA] at ea
            exact e.symm.trans (Option.some.inj ea))
        · refine .inr ?_
          by_cases hlt : j < k
          · have : (A.eraseIdx k)[j]? = some b := by rw [List.getElem?_eraseIdx, if_pos hlt, List.getElem?_eq_getElem hj, e]
            exact List.mem_of_getElem? this
          · have : (A.eraseIdx k)[j - 1]? = some b := by
              rw [List.getElem?_eraseIdx, if_neg (by omega), show j - 1 + 1 = j by omega, List.getElem?_eq_getElem hj, e]
            exact List.mem_of_getElem? this
      have sub : ∀ b ∈ A.eraseIdx k, b ∈ A := fun b hb => List.mem_of_mem_eraseIdx hb
      have hna : a ∉ A.eraseIdx k := fun z => by
        obtain ⟨j, hj, e⟩ := List.getElem_of_mem z
        have e1 : (A.eraseIdx k)[j]? = some a := by rw [List.getElem?_eq_getElem hj, e]
        have inj : ∀ i, A[i]? = some a → i = k := fun i ei => by
          obtain ⟨l1, q1⟩ := List.getElem?_eq_some_iff.mp ei
          obtain ⟨l2, q2⟩ := List.getElem?_eq_some_iff.mp ea
          exact (List.getElem_inj ok.nd).mp (q1.trans q2.symm)
        rw [List.getElem?_eraseIdx] at e1
        split at e1
        · have := inj _ e1
          omega
        · have := inj _ e1
          omega
      have less : Same (hid (O ++ A) H) (hid (O ++ A.eraseIdx k) H) := fun b o q => by
        obtain ⟨hb, e⟩ := hid_some.mp q
        refine hid_some.mpr ⟨fun z => hb ?_, e⟩
        rcases List.mem_append.mp z with z | z
        · exact List.mem_append_left _ z
        · exact List.mem_append_right _ (sub b z)
      have ok1 : Ok K O (A.eraseIdx k) (cs.eraseIdx k) H := by
        refine ⟨fun o ho => ⟨(ok.out o ho).1, fun z => (ok.out o ho).2 (sub o z)⟩, ?_, ok.nd.sublist (List.eraseIdx_sublist A k), fun j b c e1 e2 => ?_⟩
        · rw [List.length_eraseIdx, List.length_eraseIdx, ok.len]
        · rw [List.getElem?_eraseIdx] at e1 e2
          split at e1
          · rename_i hj
            rw [if_pos hj] at e2
            exact (ok.at j b c e1 e2).mono less
          · rename_i hj
            rw [if_neg hj] at e2
            exact (ok.at (j + 1) b c e1 e2).mono less
      have lowS : ∀ v sl, ShS K O A H v sl → ShS K O (A.eraseIdx k) H v (low k ds sl) := fun v sl r => by
        cases sl with
        | d d => exact Sh.mono less r
        | s ns =>
          obtain ⟨b, e, r⟩ := r
          exact ⟨b, e, less.seq r⟩
        | h j =>
          obtain ⟨b, eb, rfl⟩ := r
          show ShS K O (A.eraseIdx k) H (.ref b) (if j = k then .d (.list ds) else if j < k then .h j else .h (j - 1))
          by_cases hj : j = k
          · subst hj
            rw [if_pos rfl]
            rw [ea] at eb
            cases eb
            refine Sh.lst (hid_some.mpr ⟨fun z => ?_, hl⟩) (hsh.mono less)
            rcases List.mem_append.mp z with z | z
            · exact (ok.out _ z).2 haA
            · exact hna z
          · rw [if_neg hj]
            by_cases hlt : j < k
            · rw [if_pos hlt]
              exact ⟨b, by rw [List.getElem?_eraseIdx, if_pos hlt]; exact eb, rfl⟩
            · rw [if_neg hlt]
              exact ⟨b, by rw [List.getElem?_eraseIdx, if_neg (by omega), show j - 1 + 1 = j by omega]; exact eb, rfl⟩
      have lowSs : ∀ {vs : List V} {sls : List Sl}, ShSs K O A H vs sls → ShSs K O (A.eraseIdx k) H vs (sls.map (low k ds)) := by
        intro vs sls hs
        induction hs with
        | nil => exact .nil
        | cons h t ih => exact .cons (lowS _ _ h) ih
      refine ⟨O, A.eraseIdx k, cs.eraseIdx k, sls.map (low k ds), ok1, lowSs hs, by rw [List.length_map]; exact hn, ?_⟩
      split at h
      · rename_i d cs' em
        rw [em]
        split at h
        · rename_i hc
          intro v H' s' ok' r'
          have keepa : H' a = some (.lst vs0) := s'.keep a _ hna hl
          have st : Stp A H A H' := ⟨⟨[], by simp, by simp⟩, fun b o hb e => s'.keep b o (fun z => hb (sub b z)) e, fun b hb => by
            rcases hA b hb with z | z
            · rw [z, keepa]
              exact fun z => by cases z
            · exact s'.live b z⟩
          have lenC : cs'.length + 1 = A.length := by
            rw [← ok'.len, List.length_eraseIdx, if_pos hkA]
            omega
          refine h v H' st ⟨fun o ho => ⟨(ok'.out o ho).1, (ok.out o ho).2⟩, ?_, ok.nd, fun j b c e1 e2 => ?_⟩ (Sh.tight hA keepa hc.1 r')
          · rw [List.length_insertIdx, if_pos (by omega)]
            omega
          · have tight : ∀ i, (A.eraseIdx k)[i]? = some b → cs'[i]? = some c → HcAt K (hid (O ++ A) H') H' b c := fun i q1 q2 => by
              have := ok'.at i b c q1 q2
              have hcc : noC c = true := List.all_eq_true.mp hc.2 c (List.mem_of_getElem? q2)
              cases c with
              | lst es =>
                obtain ⟨ws, w1, w2⟩ := this
                exact ⟨ws, w1, ShA.tight hA keepa hcc w2⟩
            rw [List.getElem?_insertIdx] at e2
            by_cases h1 : j < k
            · rw [if_pos h1] at e2
              exact tight j (by rw [List.getElem?_eraseIdx, if_pos h1]; exact e1) e2
            · rw [if_neg h1] at e2
              by_cases h2 : j = k
              · rw [if_pos h2, if_pos (by omega)] at e2
                cases e2
                subst h2
                rw [ea] at e1
                cases e1
                exact ⟨vs0, keepa, hsh.mono st.same⟩
              · rw [if_neg h2] at e2
                exact tight (j - 1) (by rw [List.getElem?_eraseIdx, if_neg (by omega), show j - 1 + 1 = j by omega]; exact e1) e2
        · exact h.elim
      · exact h.elim
    · exact h.elim
  · exact ⟨O, A, cs, sls, ok, hs, hn, h⟩
theorem Df.lend {P : Program} {w : World} {K : PySem.W.Frag} {mg : Str → Option Value} {base : Heap} {R : XR} {x : Str} {k n : Nat} {m : List Sl → M Sl} (p : Nat) (h : Df P w K mg base R x k n m) : Df P w K mg base R x k n (lendM p m) := by
  obtain ⟨f, fd, ps, F, r⟩ := h
  exact ⟨f, fd, ps, F.imp fun vs H Q E h => spM.lend h, r⟩
end Mir
set_option maxHeartbeats 2000000
/-! what a mirror gives, told from behind -/
namespace Mir
open PySem PySem.Spec PyProof.Rows L2
def Wp {α : Type} (r : Res α) (P : α → List HC → Prop) : Prop := match r with
  | .ok a cs => P a cs
  | _ => False
section
variable {α β : Type} {P Q : α → List HC → Prop} {cs : List HC} {ρ : Rho}
theorem wp_ok {a : α} (h : P a cs) : Wp (.ok a cs) P := h
theorem wp_is {r : Res α} {a : α} (e : r = .ok a cs) (h : P a cs) : Wp r P := e ▸ h
theorem wp_bind {r : Res α} {f : α → M β} {P : β → List HC → Prop} (h : Wp r fun a cs => Wp (f a cs) P) : Wp (r.bind f) P := by
  cases r with
  | ok a cs => exact h
  | exc x cs => exact h
  | bad => exact h
theorem Wp.mono {r : Res α} (h : Wp r P) (k : ∀ a cs, P a cs → Q a cs) : Wp r Q := by
  cases r with
  | ok a cs => exact k _ _ h
  | exc x cs => exact h
  | bad => exact h
theorem Wp.get {r : Res α} (h : Wp r P) : ∃ a cs, r = .ok a cs ∧ P a cs := by
  cases r with
  | ok a cs => exact ⟨a, cs, rfl, h⟩
  | exc x cs => exact h.elim
  | bad => exact h.elim
theorem Wp.eq {r : Res α} {a : α} {cs' : List HC} (h : Wp r fun b cs => b = a ∧ cs = cs') : r = .ok a cs' := by
  obtain ⟨b, cs, e, rfl, rfl⟩ := h.get
  exact e
end
section
variable {P : Sl → List HC → Prop} {PB : Bool → List HC → Prop} {PL : List D → List HC → Prop} {PA : List Sl → List HC → Prop} {PF : Fl → List HC → Prop} {PO : Option Int → List HC → Prop} {cs : List HC} {ρ : Rho}
  {ma mb mc : Rho → M Sl} {mt mu : Rho → M Bool} {ms : Rho → M (List Sl)} {ml : Rho → M (List D)} {f g : Rho → M Fl} {o o' : Sl → Sl → M Sl} {i j : Int}
/-! names, constants -/
theorem wp_var {i : Nat} {sl : Sl} (e : ρ[i]? = some (some sl)) (h : P sl cs) : Wp (mVar i ρ cs) P := by
  unfold mVar
  rw [e]
  exact h
theorem wp_c {d : D} (h : P (.d d) cs) : Wp (mC d ρ cs) P := h
/-! operators -/
theorem wp_bin (h : Wp (ma ρ cs) fun x cs1 => Wp (mb ρ cs1) fun y cs2 => Wp (o x y cs2) P) : Wp (mBin o ma mb ρ cs) P := wp_bind (h.mono fun _ _ q => wp_bind q)
theorem wp_add (h : P (.d (.int (i + j))) cs) : Wp (oAdd (.d (.int i)) (.d (.int j)) cs) P := h
theorem wp_sub (h : P (.d (.int (i - j))) cs) : Wp (oSub (.d (.int i)) (.d (.int j)) cs) P := h
theorem wp_mul (c : i.natAbs.log2 + j.natAbs.log2 < 1000000) (h : P (.d (.int (i * j))) cs) : Wp (oMul (.d (.int i)) (.d (.int j)) cs) P := by
  unfold oMul
  simp only
  rw [if_pos c]
  exact h
theorem wp_fdiv (c : 0 < j) (c2 : j.natAbs.log2 < 9000) (h : P (.d (.int (i / j))) cs) : Wp (oFdiv (.d (.int i)) (.d (.int j)) cs) P := by
  unfold oFdiv
  simp only
  rw [if_pos ⟨c, c2⟩]
  exact h
theorem wp_mod (c : 0 < j) (h : P (.d (.int (i % j))) cs) : Wp (oMod (.d (.int i)) (.d (.int j)) cs) P := by
  unfold oMod
  simp only
  rw [if_pos c]
  exact h
theorem wp_pow (c : 0 ≤ j ∧ (Builtin.Int.intBits i : Int) * j ≤ 2 ^ 27) (h : P (.d (.int (i ^ j.toNat))) cs) : Wp (oPow (.d (.int i)) (.d (.int j)) cs) P := by
  unfold oPow
  simp only
  rw [if_pos c]
  exact h
theorem wp_lt (h : P (.d (.bool (decide (i < j)))) cs) : Wp (oLt (.d (.int i)) (.d (.int j)) cs) P := h
theorem wp_le (h : P (.d (.bool (decide (i ≤ j)))) cs) : Wp (oLe (.d (.int i)) (.d (.int j)) cs) P := h
theorem wp_gt (h : P (.d (.bool (decide (j < i)))) cs) : Wp (oGt (.d (.int i)) (.d (.int j)) cs) P := h
theorem wp_ge (h : P (.d (.bool (decide (j ≤ i)))) cs) : Wp (oGe (.d (.int i)) (.d (.int j)) cs) P := h
theorem wp_eqI (h : P (.d (.bool (i == j))) cs) : Wp (oEq (.d (.int i)) (.d (.int j)) cs) P := h
theorem wp_neI (h : P (.d (.bool (!(i == j)))) cs) : Wp (oNe (.d (.int i)) (.d (.int j)) cs) P := h
theorem wp_eqB {b c : Bool} (h : P (.d (.bool (b == c))) cs) : Wp (oEq (.d (.bool b)) (.d (.bool c)) cs) P := h
theorem wp_neB {b c : Bool} (h : P (.d (.bool (!(b == c)))) cs) : Wp (oNe (.d (.bool b)) (.d (.bool c)) cs) P := h
theorem wp_addT {a b : List D} (c : a.length + b.length ≤ SL) (h : P (.d (.tuple (a ++ b))) cs) : Wp (oAdd (.d (.tuple a)) (.d (.tuple b)) cs) P := by
  unfold oAdd
  simp only
  rw [if_pos c]
  exact h
theorem wp_addL {x y : Sl} {a b : List D} (ea : viewT x cs = some a) (eb : viewT y cs = some b) (c : a.length + b.length ≤ SL) (h : P (.d (.list (a ++ b))) cs) : Wp (oAdd x y cs) P := by
  unfold oAdd
  split
  · cases ea
  · cases ea
  · cases ea
  · rw [ea, eb]
    simp only
    rw [if_pos c]
    exact h
theorem wp_repT {a : List D} {k : Int} (c : -1000 ≤ k ∧ k ≤ 1000 ∧ a.length ≤ 1000) (h : P (.d (.tuple (List.replicate k.toNat a).flatten)) cs) : Wp (oMul (.d (.tuple a)) (.d (.int k)) cs) P := by
  unfold oMul
  simp only
  rw [if_pos c]
  exact h
theorem wp_repL {a : List D} {k : Int} (c : -(2 ^ 63) ≤ k ∧ k < 2 ^ 63 ∧ a.length * k.toNat ≤ SL) (h : P (.d (.list (List.replicate k.toNat a).flatten)) cs) : Wp (oMul (.d (.list a)) (.d (.int k)) cs) P := by
  unfold oMul
  simp only [viewT]
  rw [if_pos c]
  exact h
theorem wp_neg (h : P (.d (.int (-i))) cs) : Wp (oNeg (.d (.int i)) cs) P := h
theorem wp_un {o : Sl → M Sl} (h : Wp (ma ρ cs) fun x cs1 => Wp (o x cs1) P) : Wp (mUn o ma ρ cs) P := wp_bind h
theorem wp_idxT {ds : List D} {d : D} (e : L2.atI ds i = some d) (h : P (.d d) cs) : Wp (oIdx (.d (.tuple ds)) (.d (.int i)) cs) P := by
  unfold oIdx
  simp only [e]
  exact h
theorem wp_idx {x : Sl} {ds : List D} {d : D} (ev : viewL x cs = some ds) (e : L2.atI ds i = some d) (h : P (.d d) cs) : Wp (oIdx x (.d (.int i)) cs) P := by
  cases x with
  | d d' =>
    cases d' with
    | list es =>
      cases ev
      simp only [oIdx, viewL, e]
      exact h
    | _ => cases ev
  | h k =>
    simp only [oIdx, ev, e]
    exact h
  | s ns =>
    simp only [oIdx, ev, e]
    exact h
theorem wp_cutT {ds : List D} {lo hi : Option Int} (h : P (.d (.tuple (cutD ds lo hi))) cs) : Wp (oCut (.d (.tuple ds)) lo hi cs) P := h
theorem wp_cut {mlo mhi : Rho → M (Option Int)} (h : Wp (ma ρ cs) fun x cs1 => Wp (mlo ρ cs1) fun lo cs2 => Wp (mhi ρ cs2) fun hi cs3 => Wp (oCut x lo hi cs3) P) : Wp (mCut ma mlo mhi ρ cs) P := wp_bind (h.mono fun _ _ q => wp_bind (q.mono fun _ _ q => wp_bind q))
theorem wp_no (h : PO none cs) : Wp (mNo ρ cs) PO := h
theorem wp_part (h : Wp (ma ρ cs) fun x cs1 => ∃ i, x = .d (.int i) ∧ PO (some i) cs1) : Wp (mPart ma ρ cs) PO := wp_bind (h.mono fun _ _ ⟨i, e, q⟩ => by
  subst e
  exact q)
/-! tests -/
theorem wp_toB {b : Bool} (h : PB b cs) : Wp (toB (.d (.bool b)) cs) PB := h
theorem wp_test (h : Wp (ma ρ cs) fun x cs1 => Wp (toB x cs1) PB) : Wp (mTest ma ρ cs) PB := wp_bind h
def ifK (A B : List HC → Prop) : Bool → List HC → Prop
  | true, cs => A cs
  | false, cs => B cs
theorem ifK_b {A B : List HC → Prop} {k : Bool} (h1 : k = true → A cs) (h2 : k = false → B cs) : ifK A B k cs := by
  cases k with
  | true => exact h1 rfl
  | false => exact h2 rfl
theorem ifK_t {A B : List HC → Prop} {k : Bool} (e : k = true) (h : A cs) : ifK A B k cs := e ▸ h
theorem ifK_f {A B : List HC → Prop} {k : Bool} (e : k = false) (h : B cs) : ifK A B k cs := e ▸ h
theorem wp_ite {k : Bool} {α : Type} {a b : Res α} {P : α → List HC → Prop} (h : ifK (fun _ => Wp a P) (fun _ => Wp b P) k cs) : Wp (if k = true then a else b) P := by
  cases k with
  | true => exact h
  | false => exact h
theorem wp_chain (h : Wp (ma ρ cs) fun x cs1 => Wp (mb ρ cs1) fun y cs2 => Wp (o x y cs2) fun z cs3 => Wp (toB z cs3) (ifK (fun cs4 => Wp (mc ρ cs4) fun w cs5 => Wp (o' y w cs5) P) fun cs4 => P (.d (.bool false)) cs4)) :
    Wp (mChain o o' ma mb mc ρ cs) P :=
  wp_bind (h.mono fun _ _ q => wp_bind (q.mono fun _ _ q => wp_bind (q.mono fun _ _ q => wp_bind (q.mono fun k cs4 q => wp_ite (cs := cs4) (by
    cases k with
    | true => exact wp_bind q
    | false => exact q)))))
theorem wp_andT (h : Wp (mt ρ cs) (ifK (fun cs1 => Wp (mu ρ cs1) PB) fun cs1 => PB false cs1)) : Wp (mAndT mt mu ρ cs) PB := wp_bind (h.mono fun k cs4 q => wp_ite (cs := cs4) (by cases k <;> exact q))
theorem wp_orT (h : Wp (mt ρ cs) (ifK (fun cs1 => PB true cs1) fun cs1 => Wp (mu ρ cs1) PB)) : Wp (mOrT mt mu ρ cs) PB := wp_bind (h.mono fun k cs4 q => wp_ite (cs := cs4) (by cases k <;> exact q))
theorem wp_notT (h : Wp (mt ρ cs) fun k cs1 => PB (!k) cs1) : Wp (mNotT mt ρ cs) PB := wp_bind h
theorem wp_and (h : Wp (ma ρ cs) fun x cs1 => Wp (toB x cs1) (ifK (fun cs2 => Wp (mb ρ cs2) P) fun cs2 => P (.d (.bool false)) cs2)) : Wp (mAnd ma mb ρ cs) P := wp_bind (h.mono fun _ _ q => wp_bind (q.mono fun k cs4 q => wp_ite (cs := cs4) (by cases k <;> exact q)))
theorem wp_or (h : Wp (ma ρ cs) fun x cs1 => Wp (toB x cs1) (ifK (fun cs2 => P (.d (.bool true)) cs2) fun cs2 => Wp (mb ρ cs2) P)) : Wp (mOr ma mb ρ cs) P := wp_bind (h.mono fun _ _ q => wp_bind (q.mono fun k cs4 q => wp_ite (cs := cs4) (by cases k <;> exact q)))
theorem wp_not (h : Wp (ma ρ cs) fun x cs1 => Wp (toB x cs1) fun k cs2 => P (.d (.bool (!k))) cs2) : Wp (mNot ma ρ cs) P := wp_bind (h.mono fun _ _ q => wp_bind q)
theorem wp_if {α : Type} {a b : Rho → M α} {P : α → List HC → Prop} (h : Wp (mt ρ cs) (ifK (fun cs1 => Wp (a ρ cs1) P) fun cs1 => Wp (b ρ cs1) P)) : Wp (mIf mt a b ρ cs) P := wp_bind (h.mono fun k cs4 q => wp_ite (cs := cs4) (by cases k <;> exact q))
theorem wp_sif (h : Wp (mt ρ cs) (ifK (fun cs1 => Wp (f ρ cs1) PF) fun cs1 => Wp (g ρ cs1) PF)) : Wp (sIf mt f g ρ cs) PF := wp_if h
theorem wp_isi {u : String} (h : Wp (ma ρ cs) fun x cs1 => P (.d (.bool (isT (tyS cs1 x) u))) cs1) : Wp (mIsi u ma ρ cs) P := wp_bind h
/-! arguments, displays, calls -/
theorem wp_nil (h : PA [] cs) : Wp (mNil ρ cs) PA := h
theorem wp_cons (h : Wp (ma ρ cs) fun x cs1 => Wp (ms ρ cs1) fun xs cs2 => PA (x :: xs) cs2) : Wp (mCons ma ms ρ cs) PA := wp_bind (h.mono fun _ _ q => wp_bind q)
theorem wp_tup (h : Wp (ms ρ cs) fun xs cs1 => ∃ ds, dataAll xs = some ds ∧ ds.length ≤ SL ∧ P (.d (.tuple ds)) cs1) : Wp (mTup ms ρ cs) P := wp_bind (h.mono fun _ _ ⟨ds, e, z, q⟩ => by
  simp only [e, if_pos z]
  exact q)
theorem wp_lst (h : Wp (ms ρ cs) fun xs cs1 => ∃ ds, dataAll xs = some ds ∧ ds.length ≤ SL ∧ PL ds cs1) : Wp (mLst ms ρ cs) PL := wp_bind (h.mono fun _ _ ⟨ds, e, z, q⟩ => by
  simp only [e, if_pos z]
  exact q)
theorem wp_L (h : Wp (ml ρ cs) fun ds cs1 => P (.d (.list ds)) cs1) : Wp (mL ml ρ cs) P := wp_bind h
theorem wp_New (h : Wp (ml ρ cs) fun ds cs1 => P (.h cs1.length) (cs1 ++ [.lst ds])) : Wp (mNew ml ρ cs) P := wp_bind h
theorem wp_listOf (h : Wp (ma ρ cs) fun x cs1 => ∃ ds, seqD x cs1 = some ds ∧ PL ds cs1) : Wp (mListOf ma ρ cs) PL := wp_bind (h.mono fun _ _ ⟨ds, e, q⟩ => by
  simp only [e]
  exact q)
theorem wp_call {b : List Sl → M Sl} (h : Wp (ms ρ cs) fun xs cs1 => Wp (b xs cs1) P) : Wp (mCall b ms ρ cs) P := wp_bind h
theorem wp_own {n : Nat} {m : List Sl → M Sl} (h : Wp (ms ρ cs) fun xs cs1 => xs.length = n ∧ Wp (m xs cs1) P) : Wp (mOwn n m ms ρ cs) P := wp_bind (h.mono fun _ _ ⟨e, q⟩ => by
  rw [if_pos e]
  exact q)
theorem wp_ownL {n : Nat} {m : List Sl → M (List D)} (h : Wp (ms ρ cs) fun xs cs1 => xs.length = n ∧ Wp (m xs cs1) PL) : Wp (mOwnL n m ms ρ cs) PL := wp_bind (h.mono fun _ _ ⟨e, q⟩ => by
  rw [if_pos e]
  exact q)
theorem wp_abs (h : P (.d (.int (if i < 0 then -i else i))) cs) : Wp (bAbs [.d (.int i)] cs) P := h
theorem wp_int (h : P (.d (.int i)) cs) : Wp (bInt [.d (.int i)] cs) P := h
theorem wp_intB {b : Bool} (h : P (.d (.int (if b = true then 1 else 0))) cs) : Wp (bInt [.d (.bool b)] cs) P := h
theorem wp_max (h : P (.d (.int (if j > i then j else i))) cs) : Wp (bMax [.d (.int i), .d (.int j)] cs) P := h
theorem wp_min (h : P (.d (.int (if j < i then j else i))) cs) : Wp (bMin [.d (.int i), .d (.int j)] cs) P := h
theorem wp_len {x : Sl} {ds : List D} (e : seqD x cs = some ds) (h : P (.d (.int ds.length)) cs) : Wp (bLen [x] cs) P := by
  cases x with
  | d d' =>
    cases d' with
    | str z => cases e
    | _ =>
      simp only [bLen, e]
      exact h
  | h k =>
    simp only [bLen, e]
    exact h
  | s ns =>
    simp only [bLen, e]
    exact h
theorem wp_tupleT {ds : List D} (h : P (.d (.tuple ds)) cs) : Wp (bTuple [.d (.tuple ds)] cs) P := h
theorem wp_tuple {x : Sl} {ds : List D} (e : viewL x cs = some ds) (h : P (.d (.tuple ds)) cs) : Wp (bTuple [x] cs) P := by
  cases x with
  | d d' =>
    cases d' with
    | tuple z => cases e
    | _ =>
      simp only [bTuple, e]
      exact h
  | h k =>
    simp only [bTuple, e]
    exact h
  | s ns =>
    simp only [bTuple, e]
    exact h
theorem wp_all {x : Sl} {ds : List D} {bs : List Bool} (e : viewL x cs = some ds) (e2 : boolsD ds = some bs) (h : P (.d (.bool (bs.all id))) cs) : Wp (bAll [x] cs) P := by
  unfold bAll
  simp only [e, e2]
  exact h
theorem wp_any {x : Sl} {ds : List D} {bs : List Bool} (e : viewL x cs = some ds) (e2 : boolsD ds = some bs) (h : P (.d (.bool (bs.any id))) cs) : Wp (bAny [x] cs) P := by
  unfold bAny
  simp only [e, e2]
  exact h
theorem wp_sum {x : Sl} {ds : List D} {ns : List Int} (e : viewL x cs = some ds) (e2 : intsD ds = some ns) (h : P (.d (.int ns.sum)) cs) : Wp (bSum [x] cs) P := by
  unfold bSum
  simp only [e, e2]
  exact h
/-! statements -/
def seqK (g : Rho → M Fl) (PF : Fl → List HC → Prop) : Fl → List HC → Prop
  | .nx ρ1, cs1 => Wp (g ρ1 cs1) PF
  | x, cs1 => PF x cs1
theorem wp_seq (h : Wp (f ρ cs) (seqK g PF)) : Wp (sSeq f g ρ cs) PF := wp_bind (h.mono fun x cs1 q => by
  cases x with
  | nx ρ1 => exact q
  | rt sl => exact q
  | bk ρ1 => exact q
  | ct ρ1 => exact q)
theorem wp_snil (h : PF (.nx ρ) cs) : Wp (sNil ρ cs) PF := h
theorem wp_break (h : PF (.bk ρ) cs) : Wp (sBreak ρ cs) PF := h
theorem wp_cont (h : PF (.ct ρ) cs) : Wp (sCont ρ cs) PF := h
theorem wp_ret (h : Wp (ma ρ cs) fun x cs1 => PF (.rt x) cs1) : Wp (sRet ma ρ cs) PF := wp_bind h
theorem wp_set {n : Nat} (h : Wp (ma ρ cs) fun x cs1 => PF (.nx (ρ.set n (some x))) cs1) : Wp (sSet n ma ρ cs) PF := wp_bind h
theorem wp_new {n : Nat} (h : Wp (ml ρ cs) fun ds cs1 => PF (.nx (ρ.set n (some (.h cs1.length)))) (cs1 ++ [.lst ds])) : Wp (sNew n ml ρ cs) PF := wp_bind h
theorem wp_put (h : Wp (mc ρ cs) fun z cs1 => Wp (ma ρ cs1) fun x cs2 => Wp (mb ρ cs2) fun y cs3 => ∃ cs4, putAt x y z cs3 = some cs4 ∧ PF (.nx ρ) cs4) : Wp (sPut ma mb mc ρ cs) PF := wp_bind (h.mono fun _ _ q => wp_bind (q.mono fun _ _ q => wp_bind (q.mono fun _ _ ⟨cs4, e, q⟩ => by
  simp only [e]
  exact q)))
theorem wp_app (h : Wp (ma ρ cs) fun x cs1 => isLst x cs1 = true ∧ Wp (mb ρ cs1) fun z cs2 => ∃ cs4, appAt x z cs2 = some cs4 ∧ PF (.nx ρ) cs4) : Wp (sApp ma mb ρ cs) PF := wp_bind (h.mono fun _ _ ⟨e, q⟩ => by
  rw [if_pos e]
  exact wp_bind (q.mono fun _ _ ⟨cs4, e, q⟩ => by
    simp only [e]
    exact q))
theorem wp_par {m n : Nat} (h : Wp (ma ρ cs) fun x cs1 => Wp (mb ρ cs1) fun y cs2 => PF (.nx ((ρ.set m (some x)).set n (some y))) cs2) : Wp (sPar m n ma mb ρ cs) PF := wp_bind (h.mono fun _ _ q => wp_bind q)
theorem wp_drop (h : Wp (ma ρ cs) fun _ cs1 => PF (.nx ρ) cs1) : Wp (sDrop ma ρ cs) PF := wp_bind h
/-! walks -/
theorem wp_seqT {ds : List D} (h : Wp (ma ρ cs) fun x cs1 => ∃ ds, (x = .d (.list ds) ∨ x = .d (.tuple ds)) ∧ PL ds cs1) : Wp (mSeq ma ρ cs) PL := wp_bind (h.mono fun _ _ ⟨ds, e, q⟩ => by
  rcases e with e | e <;> (subst e; exact q))
theorem wp_seqI {sl : Sl} {ds : List D} (e : sl = .d (.list ds) ∨ sl = .d (.tuple ds)) {i : Nat} (ei : ρ[i]? = some (some sl)) (h : PL ds cs) : Wp (mSeq (mVar i) ρ cs) PL := wp_bind (wp_var ei (by
  rcases e with e | e <;> (subst e; exact h)))
theorem wp_rng1 (h : Wp (ma ρ cs) fun x cs1 => ∃ j, x = .d (.int j) ∧ -(2 ^ 62) ≤ j ∧ j < 2 ^ 62 ∧ PL (rngD 0 j.toNat) cs1) : Wp (mRng1 ma ρ cs) PL := wp_bind (h.mono fun _ _ ⟨j, e, z1, z2, q⟩ => by
  subst e
  simp only
  rw [if_pos ⟨z1, z2⟩]
  exact q)
theorem wp_zip (h : Wp (ma ρ cs) fun x cs1 => Wp (mb ρ cs1) fun y cs2 => ∃ a b, ((x = .d (.list a) ∧ y = .d (.list b)) ∨ (x = .d (.tuple a) ∧ y = .d (.tuple b))) ∧ PL (zipD a b) cs2) : Wp (mZip ma mb ρ cs) PL := by
  refine wp_bind (h.mono fun x cs1 q1 => wp_bind (q1.mono fun y cs2 q2 => ?_))
  obtain ⟨a, b, e, q3⟩ := q2
  rcases e with ⟨e1, e2⟩ | ⟨e1, e2⟩
  · rw [e1, e2]
    exact q3
  · rw [e1, e2]
    exact q3
theorem wp_enum (h : Wp (ma ρ cs) fun x cs1 => ∃ a, x = .d (.list a) ∧ PL (enumD a) cs1) : Wp (mEnum ma ρ cs) PL := wp_bind (h.mono fun _ _ ⟨a, e, q⟩ => by
  subst e
  exact q)
theorem wp_lc {mi : Rho → M (List D)} {gf : D → Rho → Option Rho} {vs : List Nat} (h : Wp (mi ρ cs) fun items cs1 => items.length ≤ SL ∧ Wp (lcL gf mt ma (wipeR ρ vs) items cs1) PL) : Wp (mLc mi gf mt ma vs ρ cs) PL := wp_bind (h.mono fun _ _ ⟨e, q⟩ => by
  rw [if_pos e]
  exact q)
theorem wp_for {mi : Rho → M (List D)} {gf : D → Rho → Option Rho} (h : Wp (mi ρ cs) fun items cs1 => Wp (forL gf f items ρ cs1) PF) : Wp (sFor mi gf f ρ cs) PF := wp_bind h
theorem wp_quiet {α : Type} {r : Res α} {P : α → List HC → Prop} (h : Wp r P) : Wp (quiet r) P := by
  cases r with
  | ok a cs => exact h
  | exc x cs => exact h.elim
  | bad => exact h.elim
end
section
variable {ρ : Rho} {ma : Rho → M Sl} {mt : Rho → M Bool} {f : Rho → M Fl} {gf : D → Rho → Option Rho}
/-- each item gives a member that is so, whatever came ahead; the handles keep to C -/
theorem wp_lcAll {G : D → Prop} {C : Nat → List HC → Prop} (N : Nat) : ∀ {items : List D} {n : Nat} {cs : List HC} {PL : List D → List HC → Prop}, n + items.length ≤ N → C n cs → (∀ d ∈ items, ∀ n cs, n < N → C n cs → ∃ ρ1, gf d ρ = some ρ1 ∧ Wp (ma ρ1 cs) fun sl cs2 => cs2.length = cs.length ∧ ∃ y, sl = .d y ∧ G y ∧ C (n + 1) cs2) →
    (∀ ds cs', ds.length = items.length → (∀ y ∈ ds, G y) → C (n + items.length) cs' → PL ds cs') → Wp (lcL gf mYes ma ρ items cs) PL
  | [], n, cs, PL, hN, h, k, q => q [] cs rfl (by simp) h
  | d :: r, n, cs, PL, hN, h, k, q => by
    rw [List.length_cons] at hN
    obtain ⟨ρ1, e, w⟩ := k d (List.mem_cons_self) n cs (by omega) h
    obtain ⟨sl, cs2, e2, l2, y, e3, gy, c2⟩ := w.get
    subst e3
    have ih : ∀ {PL : List D → List HC → Prop}, (∀ ds cs', ds.length = r.length → (∀ y ∈ ds, G y) → C (n + 1 + r.length) cs' → PL ds cs') → Wp (lcL gf mYes ma ρ r cs2) PL := fun q => wp_lcAll N (by omega) c2 (fun d' hd n cs c => k d' (List.mem_cons_of_mem _ hd) n cs c) q
    simp only [lcL, e, mYes, quiet, Res.bind, if_true, e2, l2]
    refine wp_bind (ih fun ds cs' hl hg c' => ?_)
    refine q (y :: ds) cs' (by simp [hl]) (fun z hz => ?_) ?_
    · rcases List.mem_cons.mp hz with z1 | z1
      · rw [z1]
        exact gy
      · exact hg z z1
    · rw [List.length_cons, show n + (r.length + 1) = n + 1 + r.length by omega]
      exact c'
/-- each item gives what F says of it; nothing changes -/
theorem wp_lcMap (F : D → D) : ∀ {items : List D} {cs : List HC} {PL : List D → List HC → Prop}, (∀ d ∈ items, ∃ ρ1, gf d ρ = some ρ1 ∧ Wp (ma ρ1 cs) fun sl cs2 => cs2 = cs ∧ sl = .d (F d)) → PL (items.map F) cs → Wp (lcL gf mYes ma ρ items cs) PL
  | [], cs, PL, k, q => q
  | d :: r, cs, PL, k, q => by
    obtain ⟨ρ1, e, w⟩ := k d (List.mem_cons_self)
    obtain ⟨sl, cs2, e2, e3, e4⟩ := w.get
    subst e3 e4
    have ih : ∀ {PL : List D → List HC → Prop}, PL (r.map F) cs2 → Wp (lcL gf mYes ma ρ r cs2) PL := fun q => wp_lcMap F (fun d' hd => k d' (List.mem_cons_of_mem _ hd)) q
    simp only [lcL, e, mYes, quiet, Res.bind, if_true, e2]
    exact wp_bind (ih q)
/-- .. with a test -/
theorem wp_lcFilter (T : D → Bool) (F : D → D) : ∀ {items : List D} {cs : List HC} {PL : List D → List HC → Prop}, (∀ d ∈ items, ∃ ρ1, gf d ρ = some ρ1 ∧ (Wp (mt ρ1 cs) fun k cs2 => cs2 = cs ∧ k = T d) ∧ (T d = true → Wp (ma ρ1 cs) fun sl cs2 => cs2 = cs ∧ sl = .d (F d))) → PL ((items.filter T).map F) cs → Wp (lcL gf mt ma ρ items cs) PL
  | [], cs, PL, k, q => q
  | d :: r, cs, PL, k, q => by
    obtain ⟨ρ1, e, wt, w⟩ := k d (List.mem_cons_self)
    obtain ⟨b, cs1, e1, e3, e4⟩ := wt.get
    subst e3 e4
    have ih : ∀ {PL : List D → List HC → Prop}, PL ((r.filter T).map F) cs1 → Wp (lcL gf mt ma ρ r cs1) PL := fun q => wp_lcFilter T F (fun d' hd => k d' (List.mem_cons_of_mem _ hd)) q
    cases ht : T d with
    | true =>
      obtain ⟨sl, cs2, e2, e5, e6⟩ := (w ht).get
      subst e5 e6
      rw [List.filter_cons_of_pos ht, List.map_cons] at q
      simp only [lcL, e, quiet, Res.bind, e1, ht, if_true, e2]
      exact wp_bind (ih q)
    | false =>
      rw [List.filter_cons_of_neg (by simp [ht])] at q
      simp only [lcL, e, quiet, Res.bind, e1, ht, if_true, Bool.false_eq_true, if_false]
      exact ih q
def forK (J : Rho → List HC → Prop) (PF : Fl → List HC → Prop) : Fl → List HC → Prop
  | .nx ρ2, cs => J ρ2 cs
  | .ct ρ2, cs => J ρ2 cs
  | .rt sl, cs => PF (.rt sl) cs
  | .bk ρ2, cs => PF (.nx ρ2) cs
theorem fk_nx {J : Rho → List HC → Prop} {PF : Fl → List HC → Prop} {ρ : Rho} {cs : List HC} (h : J ρ cs) : forK J PF (.nx ρ) cs := h
theorem fk_ct {J : Rho → List HC → Prop} {PF : Fl → List HC → Prop} {ρ : Rho} {cs : List HC} (h : J ρ cs) : forK J PF (.ct ρ) cs := h
theorem fk_rt {J : Rho → List HC → Prop} {PF : Fl → List HC → Prop} {sl : Sl} {cs : List HC} (h : PF (.rt sl) cs) : forK J PF (.rt sl) cs := h
theorem fk_bk {J : Rho → List HC → Prop} {PF : Fl → List HC → Prop} {ρ : Rho} {cs : List HC} (h : PF (.nx ρ) cs) : forK J PF (.bk ρ) cs := h
/-- a loop by what holds ahead of each turn -/
theorem wp_forAll {I : Nat → Rho → List HC → Prop} : ∀ {items : List D} {n : Nat} {ρ : Rho} {cs : List HC} {PF : Fl → List HC → Prop}, I n ρ cs → (∀ (k : Nat) (d : D), items[k]? = some d → ∀ ρ cs, I (n + k) ρ cs → ∃ ρ1, gf d ρ = some ρ1 ∧ Wp (f ρ1 cs) (forK (I (n + k + 1)) PF)) → (∀ ρ' cs', I (n + items.length) ρ' cs' → PF (.nx ρ') cs') → Wp (forL gf f items ρ cs) PF
  | [], n, ρ, cs, PF, h, k, q => q ρ cs h
  | d :: r, n, ρ, cs, PF, h, k, q => by
    obtain ⟨ρ1, e, w⟩ := k 0 d rfl ρ cs h
    have go : ∀ ρ2 cs2, I (n + 1) ρ2 cs2 → Wp (forL gf f r ρ2 cs2) PF := fun ρ2 cs2 i2 => by
      refine wp_forAll (I := I) (n := n + 1) i2 (fun k' d' e' ρ cs i => ?_) fun ρ' cs' i => q ρ' cs' (by
        rw [List.length_cons, show n + (r.length + 1) = n + 1 + r.length by omega]
        exact i)
      have := k (k' + 1) d' (by simpa using e') ρ cs (by rw [show n + (k' + 1) = n + 1 + k' by omega]; exact i)
      rw [show n + 1 + k' + 1 = n + (k' + 1) + 1 by omega]
      exact this
    simp only [forL, e]
    refine wp_bind (w.mono fun x cs2 h2 => ?_)
    cases x with
    | nx ρ2 => exact go ρ2 cs2 h2
    | ct ρ2 => exact go ρ2 cs2 h2
    | rt sl => exact h2
    | bk ρ2 => exact h2
end
section
variable {P : Sl → List HC → Prop} {PL : List D → List HC → Prop} {cs : List HC} {ρ : Rho}
/-! defs -/
def defK (n : Nat) (P : Sl → List HC → Prop) : Fl → List HC → Prop
  | .rt (.d d), cs => P (.d d) (cs.take n)
  | .rt (.h k), cs => (k < n → P (.h k) (cs.take n)) ∧ (¬ k < n → ∃ ds, cs[k]? = some (.lst ds) ∧ P (.d (.list ds)) (cs.take n))
  | .nx _, cs => P (.d .none) (cs.take n)
  | _, _ => False
theorem wp_def {N : Nat} {mb : Rho → M Fl} {sls : List Sl} (h : Wp (mb (sls.map some ++ List.replicate (N - sls.length) none) cs) (defK cs.length P)) : Wp (mDef N mb sls cs) P := by
  unfold mDef
  obtain ⟨x, cs', e, q⟩ := h.get
  rw [e]
  cases x with
  | nx ρ1 => exact q
  | bk ρ1 => exact q.elim
  | ct ρ1 => exact q.elim
  | rt sl =>
    cases sl with
    | d d => exact q
    | s ns => exact q.elim
    | h k =>
      simp only [fin]
      by_cases hk : k < cs.length
      · rw [if_pos hk]
        exact q.1 hk
      · rw [if_neg hk]
        obtain ⟨ds, e1, e2⟩ := q.2 hk
        rw [e1]
        exact e2
def defLK (n : Nat) (PL : List D → List HC → Prop) : Fl → List HC → Prop
  | .rt (.h k), cs => ¬ k < n ∧ ∃ ds, cs[k]? = some (.lst ds) ∧ PL ds (cs.take n)
  | _, _ => False
theorem wp_defL {N : Nat} {mb : Rho → M Fl} {sls : List Sl} (h : Wp (mb (sls.map some ++ List.replicate (N - sls.length) none) cs) (defLK cs.length PL)) : Wp (mDefL N mb sls cs) PL := by
  unfold mDefL
  obtain ⟨x, cs', e, q⟩ := h.get
  rw [e]
  cases x with
  | rt sl =>
    cases sl with
    | h k =>
      obtain ⟨hk, ds, e1, e2⟩ := q
      simp only [finL]
      rw [if_neg hk, e1]
      exact e2
    | _ => exact q.elim
  | _ => exact q.elim
end
end Mir
set_option maxHeartbeats 2000000
/-! the steps, one after another; the law's own spins -/
namespace Mir
open PySem PySem.Spec PyProof.Rows L2
section
variable {P : Sl → List HC → Prop} {PL : List D → List HC → Prop} {PF : Fl → List HC → Prop} {cs : List HC} {ρ ρ1 : Rho} {g : Rho → M Fl} {n k : Nat} {d : D} {sl : Sl}
theorem wp_nx (h : Wp (g ρ1 cs) PF) : seqK g PF (.nx ρ1) cs := h
theorem wp_rt (h : PF (.rt sl) cs) : seqK g PF (.rt sl) cs := h
theorem wp_bk (h : PF (.bk ρ) cs) : seqK g PF (.bk ρ) cs := h
theorem wp_ct (h : PF (.ct ρ) cs) : seqK g PF (.ct ρ) cs := h
theorem wp_dd (h : P (.d d) (cs.take n)) : defK n P (.rt (.d d)) cs := h
theorem wp_dn (h : P (.d .none) (cs.take n)) : defK n P (.nx ρ) cs := h
end
theorem lg {i : Int} {n : Nat} (h : i.natAbs < 2 ^ n) (hn : 0 < n) : i.natAbs.log2 < n := by
  by_cases z : i.natAbs = 0
  · rw [z]
    exact hn
  · exact (Nat.log2_lt z).mpr h
theorem def_pure {N : Nat} {mb : Rho → M Fl} {sls : List Sl} {cs : List HC} {y : D} (h : mb (sls.map some ++ List.replicate (N - sls.length) none) cs = .ok (.rt (.d y)) cs) : mDef N mb sls cs = .ok (.d y) cs := by
  unfold mDef
  rw [h]
  simp only [fin, List.take_length]
/-! ### spins -/
def Spin (n : Nat) (k : Nat) (cs : List HC) : Prop := ∃ a b c : Int, cs[k]? = some (.lst [.int a, .int b, .int c]) ∧ 0 ≤ c ∧ c ≤ n
/-- all handles but the k-th are as they were -/
def Frm (k : Nat) (cs cs' : List HC) : Prop := cs'.length = cs.length ∧ ∀ j, j ≠ k → cs'[j]? = cs[j]?
theorem Frm.refl (k : Nat) (cs : List HC) : Frm k cs cs := ⟨rfl, fun _ _ => rfl⟩
theorem Frm.trans {k : Nat} {a b c : List HC} (h : Frm k a b) (h2 : Frm k b c) : Frm k a c := ⟨h2.1.trans h.1, fun j hj => (h2.2 j hj).trans (h.2 j hj)⟩
theorem Frm.set {k : Nat} {cs : List HC} (x : HC) : Frm k cs (cs.set k x) := ⟨List.length_set, fun j hj => List.getElem?_set_ne (fun e => hj e.symm)⟩
theorem Frm.take {k : Nat} {cs cs' : List HC} (h : Frm k cs cs') : cs'.take cs.length = cs' := by rw [← h.1]; exact List.take_length
theorem Spin.mono {m n k : Nat} {cs : List HC} (h : Spin m k cs) (e : m ≤ n) : Spin n k cs := by
  obtain ⟨a, b, c, h1, h6, h7⟩ := h
  exact ⟨a, b, c, h1, h6, by omega⟩
theorem mulc {i j : Int} (hi : i.natAbs < 2 ^ 200) (hj : j.natAbs < 2 ^ 200) : i.natAbs.log2 + j.natAbs.log2 < 1000000 := by
  have h1 := lg hi (by decide)
  have h2 := lg hj (by decide)
  omega
theorem getset {cs : List HC} {k : Nat} {x y : HC} (h : cs[k]? = some x) : (cs.set k y)[k]? = some y := List.getElem?_set_self (List.getElem?_eq_some_iff.mp h).1
theorem viewH {cs : List HC} {k : Nat} {ds : List D} (h : cs[k]? = some (.lst ds)) : viewL (.h k) cs = some ds := by simp only [viewL, h]
theorem putH {cs : List HC} {k : Nat} {ds : List D} {i : Int} {j : Nat} {d : D} (h : cs[k]? = some (.lst ds)) (e : ixN ds.length i = some j) : putAt (.h k) (.d (.int i)) (.d d) cs = some (cs.set k (.lst (ds.set j d))) := by simp only [putAt, h, e]
end Mir
set_option maxHeartbeats 2000000
/-! a module's name for a built-in function: math.gcd -/
namespace Mir
open PySem PySem.Spec PyProof.Rows L2
section
variable {X : Cx} {R : XR} {E : XK} {pos : Pos} {e : Expr} {es : List Expr} {ms : Rho → M (List Sl)}
def bGcd : List Sl → M Sl := fun xs cs => match xs with
  | [.d (.int i), .d (.int j)] => .ok (.d (.int ((Nat.gcd i.natAbs j.natAbs : Nat) : Int))) cs
  | _ => .bad
theorem cb_gcd : CbM X R E (.builtin "math.gcd") bGcd := by
  refine cb_of cr_gcd fun O A cs H vs sls ok rs Q h => ?_
  unfold bGcd at h
  split at h
  · obtain ⟨v, w, rfl, r1, r2⟩ := two_of rs
    cases r1
    cases r2
    exact ⟨_, _, rfl, Post.ret ok h (.int _)⟩
  · exact h.elim
theorem em_callBf {x : Str} {id : String} {ob : List Sl → M Sl} {p : Pos} (hc : CbM X R E (.builtin id) ob) (hg : Gl X x) (hm : X.mg x = some (.builtin id)) (ha : AM X R E (e :: es) ms)
    (hd : (x == ("__debug__" : Str)) = false := by decide) (hst : starEach (e :: es) X.env = (false, eval e X.env) :: starEach es X.env := by rfl) (hs : (backTo pos (starEach es X.env)).any (·.1) = false := by rfl) :
    EM X R E (.Call (.Name x p) (e :: es) [] pos) (mCall ob ms) := by
  obtain ⟨r, hr, kr⟩ := hc
  obtain ⟨t, pt, k⟩ := ha
  refine em_of (pe_callBfun hr hg hm pt hd hst hs) fun O A ρ cs σ H ok rk Q h => ?_
  refine k O A ρ cs σ H ok rk _ (PostX.step (Stp.refl ok) (fun sxs cs1 q vs A1 H1 s1 ok1 r1 => ?_) (PostX.bind h))
  exact kr O A1 cs1 H1 vs sxs ok1 r1 Q (post_step s1 q)
theorem wp_star {ma : Rho → M Sl} {ρ : Rho} {ds : List D} {PA : List Sl → List HC → Prop} {cs : List HC} (h : Wp (ma ρ cs) fun x cs1 => seqD x cs1 = some ds ∧ Wp (ms ρ cs1) fun xs cs2 => PA (ds.map Sl.d ++ xs) cs2) : Wp (mStar ma ms ρ cs) PA := wp_bind (h.mono fun _ _ ⟨e, q⟩ => by
  simp only [e]
  exact wp_bind q)
theorem wp_gcd {P : Sl → List HC → Prop} {cs : List HC} {i j : Int} (h : P (.d (.int ((Nat.gcd i.natAbs j.natAbs : Nat) : Int))) cs) : Wp (bGcd [.d (.int i), .d (.int j)] cs) P := h
end
end Mir
set_option maxHeartbeats 2000000
/-! max, min of two ints, of a list or a tuple of ints -/
namespace Mir
open PySem PySem.Spec PyProof.Rows L2

section
variable {prog : Program} {w : World} {A : Around} {E : Value → Shared → Prop} {s : Shared} {l : Addr} {its : List Value} {ns : List Int} {Q : Value → Shared → Prop}
theorem iter_intTuple {xs : Array (Int × Tok)} (hl : s.heap.IsTuple l (intItems xs))
    (h : ∀ s₂ : Shared, s₂ = { s with heap := s.heap.push { cls := .type "tuple_iterator", data := .fields #[.ref l, .int 0 0] } } →
      (s₂.heap.IsTupleIter s.heap.objs.size l 0 ∧ s₂.heap.IsTuple l (intItems xs)) → (∀ b ∈ [s.heap.objs.size, l], b < s₂.heap.objs.size) → l ≠ s.heap.objs.size → Q (.ref s.heap.objs.size) s₂) :
    wpAny (model prog w) A (pyIter (.ref l)) Q E s := by
  have hlt : l < s.heap.objs.size := by obtain ⟨_, e, _⟩ := hl; exact Heap.lt_size e
  refine wpAny_pyIter_tuple hl (h _ rfl ⟨⟨_, Heap.get?_push_size _ rfl, rfl, rfl⟩, hl.push _⟩ (fun b hb => ?_) (Nat.ne_of_lt hlt))
  show b < (s.heap.push _).objs.size
  rw [Heap.size_push]
  rcases List.mem_cons.mp hb with rfl | hb
  · exact Nat.lt_succ_self _
  · rcases List.mem_cons.mp hb with rfl | hb
    · exact Nat.lt_succ_of_lt hlt
    · cases hb
theorem old_keptT {h' : Heap} (hk : ∀ b o, b ∉ [s.heap.objs.size] → (s.heap.push { cls := .type "tuple_iterator", data := .fields #[.ref l, .int 0 0] }).get? b = some o → h'.get? b = some o) :
    ∀ b o, s.heap.get? b = some o → h'.get? b = some o := fun b o e => by
  refine hk b o (fun hm => ?_) (Heap.get?_push_of_some _ e)
  rcases List.mem_cons.mp hm with e1 | hm
  · exact absurd (e1 ▸ Heap.lt_size e) (Nat.lt_irrefl _)
  · cases hm
theorem max_tupRaw (hh : A.handled = none) (hl : s.heap.IsTuple l its.toArray) (hi : IntsAre its ns) (hne : 0 < ns.length)
    (h : ∀ h' tk M t', (∀ b o, s.heap.get? b = some o → h'.get? b = some o) → M ∈ ns → (∀ a, a ∈ ns → a ≤ M) → Q (.int M t') { s with heap := h', toks := tk }) : wpAny (model prog w) A (call (.builtin "max") [.ref l]) Q E s := by
  obtain ⟨xs, e⟩ := hi.allInts.items
  have hn : numsOf (intItems xs).toList = ns := by rw [← e]; exact hi.numsOf
  rw [nums_intItems] at hn
  subst hn
  rw [e] at hl
  have hsz : 0 < xs.size := by simpa using hne
  refine call_max_walk (iter_intTuple hl fun s₂ e st hfp hlI => ?_)
  subst e
  refine ⟨_, _, _, _, _, _, _, rfl, Walks.tuple (A := A.in1) hh _ l hlI (intItems xs), st, hfp, by simpa [intItems] using hsz, CmpOf.ints_gt (numAt xs) (fun _ _ => intItems_at), fun v h' tk hP hk => ?_⟩
  have hv : (intItems xs)[argBest (fun i j => decide (numAt xs i > numAt xs j)) (xs.size - 1)]? = some v := by simpa [intItems] using hP
  obtain ⟨t, rfl⟩ := intItems_at hv
  obtain ⟨h1, h2⟩ := argBest_gt (numAt xs) (xs.size - 1)
  refine h h' tk _ t (old_keptT hk) ?_ fun a ha => ?_
  · rw [numAt_eq]; exact PySem.getD_mem (by rw [List.length_map, Array.length_toList]; omega)
  · obtain ⟨j, hj, rfl⟩ := mem_getD ha
    rw [List.length_map, Array.length_toList] at hj
    rw [← numAt_eq]; exact h2 j (by omega)
theorem min_tupRaw (hh : A.handled = none) (hl : s.heap.IsTuple l its.toArray) (hi : IntsAre its ns) (hne : 0 < ns.length)
    (h : ∀ h' tk M t', (∀ b o, s.heap.get? b = some o → h'.get? b = some o) → M ∈ ns → (∀ a, a ∈ ns → M ≤ a) → Q (.int M t') { s with heap := h', toks := tk }) : wpAny (model prog w) A (call (.builtin "min") [.ref l]) Q E s := by
  obtain ⟨xs, e⟩ := hi.allInts.items
  have hn : numsOf (intItems xs).toList = ns := by rw [← e]; exact hi.numsOf
  rw [nums_intItems] at hn
  subst hn
  rw [e] at hl
  have hsz : 0 < xs.size := by simpa using hne
  refine call_min_walk (iter_intTuple hl fun s₂ e st hfp hlI => ?_)
  subst e
  refine ⟨_, _, _, _, _, _, _, rfl, Walks.tuple (A := A.in1) hh _ l hlI (intItems xs), st, hfp, by simpa [intItems] using hsz, CmpOf.ints_lt (numAt xs) (fun _ _ => intItems_at), fun v h' tk hP hk => ?_⟩
  have hv : (intItems xs)[argBest (fun i j => decide (numAt xs i < numAt xs j)) (xs.size - 1)]? = some v := by simpa [intItems] using hP
  obtain ⟨t, rfl⟩ := intItems_at hv
  obtain ⟨h1, h2⟩ := argBest_lt (numAt xs) (xs.size - 1)
  refine h h' tk _ t (old_keptT hk) ?_ fun a ha => ?_
  · rw [numAt_eq]; exact PySem.getD_mem (by rw [List.length_map, Array.length_toList]; omega)
  · obtain ⟨j, hj, rfl⟩ := mem_getD ha
    rw [List.length_map, Array.length_toList] at hj
    rw [← numAt_eq]; exact h2 j (by omega)
end
section
variable {X : Cx}
def rMaxT (K : PySem.W.Frag) : List V → Hp → VK → Prop := fun vs H Q => ∃ (a : Addr) (ns : List Int), vs = [V.ref a] ∧ SqT K H a (ns.map V.int) ∧ 0 < ns.length ∧ ∀ m, m ∈ ns → (∀ y, y ∈ ns → y ≤ m) → Q (.int m) H
def rMinT (K : PySem.W.Frag) : List V → Hp → VK → Prop := fun vs H Q => ∃ (a : Addr) (ns : List Int), vs = [V.ref a] ∧ SqT K H a (ns.map V.int) ∧ 0 < ns.length ∧ ∀ m, m ∈ ns → (∀ y, y ∈ ns → m ≤ y) → Q (.int m) H
theorem cr_maxT (hc : X.calm = true) : CallR X (.builtin "max") (rMaxT X.K) := by
  intro pins s σ H vs us Q I r h
  obtain ⟨a, ns, rfl, hs, hn, q⟩ := h
  obtain ⟨its, rv, hl, _⟩ := I.tuple hs
  rw [Vals.ref1 r]
  exact max_tupRaw (I.ok.hd hc) hl rv.ints hn fun h' tk M t' hk h1 h2 => ⟨.int _, H, I.kept hk, ⟨_, rfl⟩, q M h1 h2⟩
theorem cr_minT (hc : X.calm = true) : CallR X (.builtin "min") (rMinT X.K) := by
  intro pins s σ H vs us Q I r h
  obtain ⟨a, ns, rfl, hs, hn, q⟩ := h
  obtain ⟨its, rv, hl, _⟩ := I.tuple hs
  rw [Vals.ref1 r]
  exact min_tupRaw (I.ok.hd hc) hl rv.ints hn fun h' tk M t' hk h1 h2 => ⟨.int _, H, I.kept hk, ⟨_, rfl⟩, q M h1 h2⟩
end
/-- the greatest, the least of a list -/
def maxI : List Int → Int
  | [] => 0
  | x :: r => r.foldl max x
def minI : List Int → Int
  | [] => 0
  | x :: r => r.foldl min x
theorem foldl_max_ge : ∀ (r : List Int) (x : Int), x ≤ r.foldl max x ∧ ∀ y ∈ r, y ≤ r.foldl max x
  | [], x => ⟨Int.le_refl x, fun y hy => by cases hy⟩
  | z :: r, x => by
    obtain ⟨h1, h2⟩ := foldl_max_ge r (max x z)
    have e : (z :: r).foldl max x = r.foldl max (max x z) := rfl
    rw [e]
    refine ⟨by omega, fun y hy => ?_⟩
    rcases List.mem_cons.mp hy with rfl | hy
    · omega
    · exact h2 y hy
theorem foldl_max_mem : ∀ (r : List Int) (x : Int), r.foldl max x = x ∨ r.foldl max x ∈ r
  | [], x => .inl rfl
  | z :: r, x => by
    have e : (z :: r).foldl max x = r.foldl max (max x z) := rfl
    rw [e]
    rcases foldl_max_mem r (max x z) with h | h
    · by_cases hz : z ≤ x
      · left; rw [h]; omega
      · right; rw [h]; have : max x z = z := by omega
        rw [this]; exact List.mem_cons_self
    · right; exact List.mem_cons_of_mem _ h
theorem foldl_min_le : ∀ (r : List Int) (x : Int), r.foldl min x ≤ x ∧ ∀ y ∈ r, r.foldl min x ≤ y
  | [], x => ⟨Int.le_refl x, fun y hy => by cases hy⟩
  | z :: r, x => by
    obtain ⟨h1, h2⟩ := foldl_min_le r (min x z)
    have e : (z :: r).foldl min x = r.foldl min (min x z) := rfl
    rw [e]
    refine ⟨by omega, fun y hy => ?_⟩
    rcases List.mem_cons.mp hy with rfl | hy
    · omega
    · exact h2 y hy
theorem foldl_min_mem : ∀ (r : List Int) (x : Int), r.foldl min x = x ∨ r.foldl min x ∈ r
  | [], x => .inl rfl
  | z :: r, x => by
    have e : (z :: r).foldl min x = r.foldl min (min x z) := rfl
    rw [e]
    rcases foldl_min_mem r (min x z) with h | h
    · by_cases hz : x ≤ z
      · left; rw [h]; omega
      · right; rw [h]; have : min x z = z := by omega
        rw [this]; exact List.mem_cons_self
    · right; exact List.mem_cons_of_mem _ h
theorem maxI_ge {ns : List Int} {y : Int} (h : y ∈ ns) : y ≤ maxI ns := by
  cases ns with
  | nil => cases h
  | cons x r =>
    rcases List.mem_cons.mp h with rfl | h
    · exact (foldl_max_ge r _).1
    · exact (foldl_max_ge r x).2 y h
theorem maxI_mem {ns : List Int} (h : 0 < ns.length) : maxI ns ∈ ns := by
  cases ns with
  | nil => cases h
  | cons x r =>
    rcases foldl_max_mem r x with e | e
    · show r.foldl max x ∈ x :: r
      rw [e]
      exact List.mem_cons_self
    · exact List.mem_cons_of_mem _ e
theorem minI_le {ns : List Int} {y : Int} (h : y ∈ ns) : minI ns ≤ y := by
  cases ns with
  | nil => cases h
  | cons x r =>
    rcases List.mem_cons.mp h with rfl | h
    · exact (foldl_min_le r _).1
    · exact (foldl_min_le r x).2 y h
theorem minI_mem {ns : List Int} (h : 0 < ns.length) : minI ns ∈ ns := by
  cases ns with
  | nil => cases h
  | cons x r =>
    rcases foldl_min_mem r x with e | e
    · show r.foldl min x ∈ x :: r
      rw [e]
      exact List.mem_cons_self
    · exact List.mem_cons_of_mem _ e
section
variable {X : Cx} {R : XR} {E : XK}
def bMaxX : List Sl → M Sl := fun xs cs => match xs with
  | [.d (.int i), .d (.int j)] => .ok (.d (.int (if j > i then j else i))) cs
  | [x] => match seqD x cs with
    | some ds => match intsD ds with
      | some ns => if 0 < ns.length then .ok (.d (.int (maxI ns))) cs else .bad
      | none => .bad
    | none => .bad
  | _ => .bad
theorem cb_maxX (hc : X.calm = true) : CbM X R E (.builtin "max") bMaxX := by
  refine cb_of (CallR.or (call_max2 hc) (CallR.or (cr_max hc) (cr_maxT hc))) fun O A cs H vs sls ok rs Q h => ?_
  unfold bMaxX at h
  split at h
  · obtain ⟨v, w, rfl, r1, r2⟩ := two_of rs
    cases r1
    cases r2
    exact .inl ⟨_, _, rfl, Post.ret ok h (.int _)⟩
  · obtain ⟨v, rfl, r⟩ := one_of rs
    split at h
    · rename_i ds ed
      split at h
      · rename_i ns eb
        split at h
        · rename_i hn
          obtain ⟨p, ws, rfl, hq, sa⟩ := seq_d ok r ed
          have e := sa.ints eb
          subst e
          have un : ∀ m, m ∈ ns → (∀ y, y ∈ ns → y ≤ m) → Q (.int m) H := fun m h1 h2 => by
            have e : maxI ns = m := Int.le_antisymm (h2 _ (maxI_mem hn)) (maxI_ge h1)
            rw [← e]
            exact Post.ret ok h (.int _)
          rcases hq with hq | hq
          · exact .inr (.inr ⟨p, ns, rfl, hq, hn, un⟩)
          · exact .inr (.inl ⟨p, ns, rfl, hq, hn, un⟩)
        · exact h.elim
      · exact h.elim
    · exact h.elim
  · exact h.elim
def bMinX : List Sl → M Sl := fun xs cs => match xs with
  | [.d (.int i), .d (.int j)] => .ok (.d (.int (if j < i then j else i))) cs
  | [x] => match seqD x cs with
    | some ds => match intsD ds with
      | some ns => if 0 < ns.length then .ok (.d (.int (minI ns))) cs else .bad
      | none => .bad
    | none => .bad
  | _ => .bad
theorem cb_minX (hc : X.calm = true) : CbM X R E (.builtin "min") bMinX := by
  refine cb_of (CallR.or (call_min2 hc) (CallR.or (cr_min hc) (cr_minT hc))) fun O A cs H vs sls ok rs Q h => ?_
  unfold bMinX at h
  split at h
  · obtain ⟨v, w, rfl, r1, r2⟩ := two_of rs
    cases r1
    cases r2
    exact .inl ⟨_, _, rfl, Post.ret ok h (.int _)⟩
  · obtain ⟨v, rfl, r⟩ := one_of rs
    split at h
    · rename_i ds ed
      split at h
      · rename_i ns eb
        split at h
        · rename_i hn
          obtain ⟨p, ws, rfl, hq, sa⟩ := seq_d ok r ed
          have e := sa.ints eb
          subst e
          have un : ∀ m, m ∈ ns → (∀ y, y ∈ ns → m ≤ y) → Q (.int m) H := fun m h1 h2 => by
            have e : minI ns = m := Int.le_antisymm (minI_le h1) (h2 _ (minI_mem hn))
            rw [← e]
            exact Post.ret ok h (.int _)
          rcases hq with hq | hq
          · exact .inr (.inr ⟨p, ns, rfl, hq, hn, un⟩)
          · exact .inr (.inl ⟨p, ns, rfl, hq, hn, un⟩)
        · exact h.elim
      · exact h.elim
    · exact h.elim
  · exact h.elim
end
end Mir
set_option maxHeartbeats 2000000
/-! is of bools; names set at once through a tuple; dict comprehensions read alone; list(range(..)); f-strings -/
namespace Mir
open PySem PySem.Spec PyProof.Rows L2

/-! ### is True, is False, is None -/
section
variable {X : Cx} {R : XR} {E : XK}
def isB (d : D) (b : Bool) : Bool := match d with
  | .bool c => c == b
  | _ => false
def isNo (d : D) : Bool := match d with
  | .none => true
  | _ => false
def oIsX : Sl → Sl → M Sl := fun x y cs => match x, y with
  | .d d, .d .none => .ok (.d (.bool (isNo d))) cs
  | .h _, .d .none => .ok (.d (.bool false)) cs
  | .d d, .d (.bool b) => .ok (.d (.bool (isB d b))) cs
  | .h _, .d (.bool _) => .ok (.d (.bool false)) cs
  | _, _ => .bad
def oNotX : Sl → Sl → M Sl := fun x y cs => match x, y with
  | .d d, .d .none => .ok (.d (.bool (!isNo d))) cs
  | .h _, .d .none => .ok (.d (.bool true)) cs
  | .d d, .d (.bool b) => .ok (.d (.bool (!isB d b))) cs
  | .h _, .d (.bool _) => .ok (.d (.bool true)) cs
  | _, _ => .bad
def rIsBX : R2 := fun x y H Q => ∃ b : Bool, y = .bl b ∧ Q (.bl (decide (x = .bl b))) H
def rNotBX : R2 := fun x y H Q => ∃ b : Bool, y = .bl b ∧ Q (.bl (!decide (x = .bl b))) H
theorem plain_bl {x : V} {v : Value} {b : Bool} (r : RelV x v) : plainIs v (Value.bool b) = true ∧ (v == Value.bool b) = decide (x = .bl b) := by
  cases x with
  | bl c =>
    cases (show v = Value.bool c from r)
    refine ⟨rfl, ?_⟩
    by_cases e : c = b
    · subst e
      simp
    · rw [beq_eq_false_iff_ne.mpr (fun z => e (Value.bool.inj z))]
      exact (decide_eq_false (fun z => e (V.bl.inj z))).symm
  | non =>
    cases (show v = Value.none from r)
    exact ⟨rfl, by rw [beq_eq_false_iff_ne.mpr (fun z => by cases z)]; exact (decide_eq_false (fun z => by cases z)).symm⟩
  | int i =>
    obtain ⟨t, rfl⟩ := r
    exact ⟨rfl, by rw [beq_eq_false_iff_ne.mpr (fun z => by cases z)]; exact (decide_eq_false (fun z => by cases z)).symm⟩
  | str i =>
    obtain ⟨t, rfl⟩ := r
    exact ⟨rfl, by rw [beq_eq_false_iff_ne.mpr (fun z => by cases z)]; exact (decide_eq_false (fun z => by cases z)).symm⟩
  | byt i =>
    obtain ⟨t, rfl⟩ := r
    exact ⟨rfl, by rw [beq_eq_false_iff_ne.mpr (fun z => by cases z)]; exact (decide_eq_false (fun z => by cases z)).symm⟩
  | flt i =>
    obtain ⟨t, rfl⟩ := r
    exact ⟨rfl, by rw [beq_eq_false_iff_ne.mpr (fun z => by cases z)]; exact (decide_eq_false (fun z => by cases z)).symm⟩
  | ref a =>
    cases (show v = Value.ref a from r)
    exact ⟨rfl, by rw [beq_eq_false_iff_ne.mpr (fun z => by cases z)]; exact (decide_eq_false (fun z => by cases z)).symm⟩
  | ty n =>
    cases (show v = Value.type n from r)
    exact ⟨rfl, by rw [beq_eq_false_iff_ne.mpr (fun z => by cases z)]; exact (decide_eq_false (fun z => by cases z)).symm⟩
theorem op_isBX : OpR X (compareOp .Is) rIsBX := by
  intro pins s σ H x y v u Q I rx ry h
  obtain ⟨b, rfl, q⟩ := h
  cases (show u = Value.bool b from ry)
  obtain ⟨h1, h2⟩ := plain_bl (b := b) rx
  exact wpAny_is_plain h1 (by rw [h2]; exact ⟨.bl _, H, I, rfl, q⟩)
theorem op_notBX : OpR X (compareOp .IsNot) rNotBX := by
  intro pins s σ H x y v u Q I rx ry h
  obtain ⟨b, rfl, q⟩ := h
  cases (show u = Value.bool b from ry)
  obtain ⟨h1, h2⟩ := plain_bl (b := b) rx
  exact wpAny_isNot_plain h1 (by rw [h2]; exact ⟨.bl _, H, I, rfl, q⟩)
theorem sh_isB {K : PySem.W.Frag} {H : Hp} {v : V} {d : D} (r : Sh K H v d) (b : Bool) : decide (v = .bl b) = isB d b := by
  cases r with
  | bl c =>
    show decide (V.bl c = V.bl b) = (c == b)
    by_cases e : c = b
    · subst e
      simp
    · rw [beq_eq_false_iff_ne.mpr e]
      exact decide_eq_false (fun z => e (V.bl.inj z))
  | _ => exact decide_eq_false (fun z => by cases z)
theorem sh_isNo {K : PySem.W.Frag} {H : Hp} {v : V} {d : D} (r : Sh K H v d) : decide (v = .non) = isNo d := by
  cases r with
  | non => exact decide_eq_true rfl
  | _ => exact decide_eq_false (fun z => by cases z)
theorem om_isX : OpM X R E (compareOp .Is) oIsX := by
  refine opm_of (OpR.or op_isN op_isBX) fun O A cs H x y sx sy ok rx ry Q h => ?_
  unfold oIsX at h
  split at h
  · cases ry
    refine .inl ⟨rfl, ?_⟩
    rw [sh_isNo rx]
    exact Post.ret ok h (.bl _)
  · cases ry
    obtain ⟨a, _, rfl⟩ := rx
    exact .inl ⟨rfl, Post.ret ok h (.bl _)⟩
  · cases ry
    refine .inr ⟨_, rfl, ?_⟩
    rw [sh_isB rx]
    exact Post.ret ok h (.bl _)
  · cases ry
    obtain ⟨a, _, rfl⟩ := rx
    exact .inr ⟨_, rfl, Post.ret ok h (.bl _)⟩
  · exact h.elim
theorem om_notX : OpM X R E (compareOp .IsNot) oNotX := by
  refine opm_of (OpR.or op_notN op_notBX) fun O A cs H x y sx sy ok rx ry Q h => ?_
  unfold oNotX at h
  split at h
  · cases ry
    refine .inl ⟨rfl, ?_⟩
    rw [sh_isNo rx]
    exact Post.ret ok h (.bl _)
  · cases ry
    obtain ⟨a, _, rfl⟩ := rx
    exact .inl ⟨rfl, Post.ret ok h (.bl _)⟩
  · cases ry
    refine .inr ⟨_, rfl, ?_⟩
    rw [sh_isB rx]
    exact Post.ret ok h (.bl _)
  · cases ry
    obtain ⟨a, _, rfl⟩ := rx
    exact .inr ⟨_, rfl, Post.ret ok h (.bl _)⟩
  · exact h.elim
end

/-! ### a, b, .. = x, y, ..: names, values of any kind -/
def setAllR : List Nat → List Sl → Rho → Option Rho
  | [], [], ρ => some ρ
  | i :: is, s :: ss, ρ => setAllR is ss (ρ.set i (some s))
  | _, _, _ => none
def sParN (is : List Nat) (ms : Rho → M (List Sl)) : Rho → M Fl := fun ρ cs => (ms ρ cs).bind fun xs cs1 => match setAllR is xs ρ with
  | some ρ1 => .ok (.nx ρ1) cs1
  | none => .bad
structure NsM (X : Cx) (tgs : List Expr) (is : List Nat) : Prop where
  ex : ∃ g, PGs X tgs g ∧ ∀ (K : PySem.W.Frag) (O A : List Addr) (ρ ρ' : Rho) (σ : L2.St) (H : Hp) (vs : List V) (sls : List Sl), RhoOk K O A ρ σ H → ShSs K O A H vs sls → setAllR is sls ρ = some ρ' → ∀ Q, (∀ σ', RhoOk K O A ρ' σ' H → Q σ' H) → g vs σ H Q
section
variable {X : Cx} {R : XR} {E : XK} {pos : Pos} {es tgs : List Expr} {e : Expr} {is : List Nat} {ms : Rho → M (List Sl)}
theorem ns_nil : NsM X [] [] := ⟨_, pgs_nil, fun K O A ρ ρ' σ H vs sls rk rs e Q q => by
  cases rs with
  | nil =>
    cases e
    exact ⟨rfl, q σ rk⟩
  | cons _ _ => cases e⟩
theorem ns_cons (i : Nat) {x : Str} (hN : X.N.Nodup) (h2 : NsM X es is) (hi : X.N[i]? = some x := by rfl) (hx : Loc X.env.scope x := by first | exact Or.inl rfl | exact Or.inr rfl) (hf : X.fn x = true ∨ X.env.scope.names.lookup x = some .local := by first | exact .inl rfl | exact .inr rfl | assumption)
    (hs : (assignEach (.Name x pos :: es) X.env).map (·.2) = assign (.Name x pos) X.env :: (assignEach es X.env).map (·.2) := by rfl) : NsM X (.Name x pos :: es) (i :: is) := by
  obtain ⟨u, p2, k2⟩ := h2
  refine ⟨_, pgs_cons (pg_name hN hi hx hf) p2 hs, fun K O A ρ ρ' σ H vs sls rk rs e Q q => ?_⟩
  cases rs with
  | nil => cases e
  | cons r rr => exact ⟨_, _, rfl, k2 K O A _ ρ' _ H _ _ (rk.set r) rr e Q q⟩
theorem sm_parN {kt k2 n : Nat} {pt pt2 : Pos} (hc : X.calm = true) (ha : AM X R E es ms) (hg : NsM X tgs is)
    (hn : (assignEach tgs X.env).length = n := by rfl) (hst : (assignEach tgs X.env).findIdx? (·.1) = none := by rfl) (hl : is.length = n := by rfl) (hsm : is.length ≤ 100 := by exact Nat.le_of_ble_eq_true rfl)
    (hs : swapsWithSole [.Tuple tgs kt pt] (.Tuple es k2 pt2) pos.line X.env = pure false := by rfl) (hw : swappedStores [.Tuple tgs kt pt] (.Tuple es k2 pt2) X.env = pure none := by rfl)
    (h1 : (assignEach [.Tuple tgs kt pt] X.env).map (·.2) = [assign (.Tuple tgs kt pt) X.env] := by rfl) :
    SM X R E (.Assign [.Tuple tgs kt pt] (.Tuple es k2 pt2) pos) (sParN is ms) := by
  obtain ⟨ta, pa, ka⟩ := ha
  obtain ⟨g, pg, kg⟩ := hg
  refine sm_of (ps_asg (pe_tup pa) (pg_tup hc pg hn hst) hs hw h1) fun O A ρ cs σ H ok rk De h => ?_
  refine ka O A ρ cs σ H ok rk _ (PostX.step (Stp.refl ok) (fun sxs cs1 q vs A1 H1 s1 ok1 r1 => ?_) (PostX.bind h))
  have hlen : sxs.length = is.length ∨ setAllR is sxs ρ = none := by
    clear q r1 ok1 s1
    have go : ∀ (is : List Nat) (sxs : List Sl) (ρ : Rho), sxs.length = is.length ∨ setAllR is sxs ρ = none := by
      intro is
      induction is with
      | nil => intro sxs ρ; cases sxs with
        | nil => exact .inl rfl
        | cons _ _ => exact .inr rfl
      | cons i is ih => intro sxs ρ; cases sxs with
        | nil => exact .inr rfl
        | cons s ss =>
          rcases ih ss (ρ.set i (some s)) with h | h
          · exact .inl (by simp [h])
          · exact .inr h
    exact go is sxs ρ
  rcases hlen with hlen | hno
  · split at q
    · rename_i ρ1 e1
      have hv : vs.length = n := by rw [r1.length, hlen, hl]
      refine ⟨by rw [sizeLine_eq, hv]; omega, fun p hp => ?_⟩
      have s3 := Stp.new (o := .tup vs) ok1 hp
      refine ⟨p, vs, rfl, .inl (.inl upd_same), hv, ?_⟩
      exact kg X.K O A1 ρ ρ1 σ _ vs sxs (rk.step (s1.trans s3)) (r1.step s3) e1 _ fun σ' rk' => q σ' A1 _ (s1.trans s3) (ok1.new hp) rk'
    · exact (show False from q).elim
  · rw [hno] at q
    exact (show False from q).elim
/-- .. of three plain names: stored without the tuple -/
theorem sm_par3 (i j l : Nat) {a b c : Expr} {x y z : Str} {px py pz pt : Pos} {kt k2 : Nat} {pt2 : Pos} (hc : X.calm = true) (hN : X.N.Nodup) (ha : AM X R E [a, b, c] ms)
    (hw : swappedStores [.Tuple [.Name x px, .Name y py, .Name z pz] kt pt] (.Tuple [a, b, c] k2 pt2) X.env = pure (some [x, y, z]))
    (hi : X.N[i]? = some x := by rfl) (hj : X.N[j]? = some y := by rfl) (hl : X.N[l]? = some z := by rfl) (hij : i ≠ j := by decide) (hil : i ≠ l := by decide) (hjl : j ≠ l := by decide)
    (hx : X.env.scope.names.lookup x = some .local := by rfl) (hy : X.env.scope.names.lookup y = some .local := by rfl) (hz : X.env.scope.names.lookup z = some .local := by rfl)
    (hs : swapsWithSole [.Tuple [.Name x px, .Name y py, .Name z pz] kt pt] (.Tuple [a, b, c] k2 pt2) pos.line X.env = pure false := by rfl) :
    SM X R E (.Assign [.Tuple [.Name x px, .Name y py, .Name z pz] kt pt] (.Tuple [a, b, c] k2 pt2) pos) (sParN [i, j, l] ms) := by
  obtain ⟨ta, pa, ka⟩ := ha
  refine sm_of (ps_par3 hc hN hi hj hl hij hil hjl hx hy hz pa hw hs) fun O A ρ cs σ H ok rk De h => ?_
  refine ka O A ρ cs σ H ok rk _ (PostX.step (Stp.refl ok) (fun sxs cs1 q vs A1 H1 s1 ok1 r1 => ?_) (PostX.bind h))
  have go : ∀ {vs : List V} {sxs : List Sl}, ShSs X.K O A1 H1 vs sxs → ∀ {ρ1 : Rho}, setAllR [i, j, l] sxs ρ = some ρ1 → ∃ u v w, vs = [u, v, w] ∧ RhoOk X.K O A1 ρ1 (((σ.set i (some u)).set j (some v)).set l (some w)) H1 := by
    intro vs sxs r1 ρ1 e1
    cases r1 with
    | nil => cases e1
    | cons ra t1 =>
      cases t1 with
      | nil => cases e1
      | cons rb t2 =>
        cases t2 with
        | nil => cases e1
        | cons rc t3 =>
          cases t3 with
          | nil =>
            cases e1
            exact ⟨_, _, _, rfl, (((rk.step s1).set ra).set rb).set rc⟩
          | cons _ _ => cases e1
  split at q
  · rename_i ρ1 e1
    obtain ⟨u, v, w, rfl, rk1⟩ := go r1 e1
    exact ⟨u, v, w, rfl, q _ A1 H1 s1 ok1 rk1⟩
  · exact (show False from q).elim
end

/-! ### list(range(..)), tuple(range(..)) -/
def mRgs (ma mb : Rho → M Sl) : Rho → M (Int × Int) := fun ρ cs => (ma ρ cs).bind fun x cs1 => (mb ρ cs1).bind fun y cs2 => match x, y with
  | .d (.int i), .d (.int j) => if 0 ≤ i ∧ i ≤ 16777216 ∧ 0 ≤ j ∧ j ≤ 16777216 then .ok (i, j) cs2 else .bad
  | _, _ => .bad
def rgD (a b : Int) : List D := (List.range (b - a).toNat).map fun (i : Nat) => .int (a + (i : Int))
theorem sh_rg {K : PySem.W.Frag} {H : Hp} {a b : Int} : ShA K H (rgV a b) (rgD a b) := by
  unfold rgV rgD
  generalize List.range (b - a).toNat = l
  induction l with
  | nil => exact .nil
  | cons x r ih => exact .cons (.int _) ih
section
variable {X : Cx} {R : XR} {E : XK} {pos p p2 pos2 : Pos} {e e2 : Expr} {ma mb : Rho → M Sl}
structure RgM (X : Cx) (R : XR) (E : XK) (e : Expr) (m : Rho → M (Int × Int)) : Prop where
  ex : ∃ t, PRg X e t ∧ ∀ O A ρ cs σ H, Ok X.K O A cs H → RhoOk X.K O A ρ σ H → ∀ Q : Int → Int → Hp → Prop, PostX X.K R O A H E (fun ij cs1 => ∀ A' H', Stp A H A' H' → Ok X.K O A' cs1 H' → Q ij.1 ij.2 H') (m ρ cs) → t σ H Q
def mC0 : Rho → M Sl := mC (.int 0)
theorem rg_1 (hg : Gl X "range") (hm : X.mg "range" = none) (ha : EM X R E e ma) (na : starEach [e] X.env = (false, eval e X.env) :: starEach [] X.env := by rfl) : RgM X R E (.Call (.Name "range" p) [e] [] pos) (mRgs mC0 ma) := by
  obtain ⟨t, pt, k⟩ := ha
  refine ⟨_, prg_1 hg hm pt na, fun O A ρ cs σ H ok rk Q h => ?_⟩
  refine k O A ρ cs σ H ok rk _ ((PostX.bind (r := ma ρ cs) h).step (Stp.refl ok) fun sx cs1 q x A1 H1 s1 ok1 r1 => ?_)
  split at q
  · rename_i j i e1
    obtain rfl : 0 = j := PyData.int.inj (Sl.d.inj e1)
    split at q
    · cases r1
      exact ⟨_, rfl, q A1 H1 s1 ok1⟩
    · exact (show False from q).elim
  · exact (show False from q).elim
theorem rg_2 (hg : Gl X "range") (hm : X.mg "range" = none) (ha : EM X R E e ma) (hb : EM X R E e2 mb) (na : starEach [e, e2] X.env = (false, eval e X.env) :: starEach [e2] X.env := by rfl)
    (nb : starEach [e2] X.env = (false, eval e2 X.env) :: starEach [] X.env := by rfl) (hp : (backTo pos (starEach [e2] X.env)).any (·.1) = false := by rfl) : RgM X R E (.Call (.Name "range" p) [e, e2] [] pos) (mRgs ma mb) := by
  obtain ⟨t, pt, k⟩ := ha
  obtain ⟨t2, pt2, k2⟩ := hb
  refine ⟨_, prg_2 hg hm pt pt2 na nb hp, fun O A ρ cs σ H ok rk Q h => ?_⟩
  refine k O A ρ cs σ H ok rk _ ((PostX.bind (r := ma ρ cs) h).step (Stp.refl ok) fun sx cs1 q x A1 H1 s1 ok1 r1 => ?_)
  refine k2 O A1 ρ cs1 σ H1 ok1 (rk.step s1) _ ((PostX.bind (r := mb ρ cs1) q).step s1 fun sy cs2 q2 y A2 H2 s2 ok2 r2 => ?_)
  split at q2
  · split at q2
    · cases r1
      cases r2
      exact ⟨_, _, rfl, rfl, q2 A2 H2 (s1.trans s2) ok2⟩
    · exact (show False from q2).elim
  · exact (show False from q2).elim
theorem mRgs_ok {ρ : Rho} {cs : List HC} {K : PySem.W.Frag} {O A : List Addr} {H : Hp} {S : Int × Int → List HC → Prop} (h : PostX K R O A H E S (mRgs ma mb ρ cs)) :
    PostX K R O A H E (fun ij cs1 => (0 ≤ ij.1 ∧ ij.1 ≤ 16777216 ∧ 0 ≤ ij.2 ∧ ij.2 ≤ 16777216) ∧ S ij cs1) (mRgs ma mb ρ cs) := by
  unfold mRgs at h ⊢
  cases h1 : ma ρ cs with
  | bad =>
    rw [h1] at h
    exact h
  | exc x c =>
    rw [h1] at h
    exact h
  | ok x c1 =>
    rw [h1] at h
    simp only [Res.bind] at h ⊢
    cases h2 : mb ρ c1 with
    | bad =>
      rw [h2] at h
      exact h
    | exc x c =>
      rw [h2] at h
      exact h
    | ok y c2 =>
      rw [h2] at h
      simp only [Res.bind] at h ⊢
      split at h
      · split at h
        · rename_i hz
          rw [if_pos hz]
          exact ⟨hz, h⟩
        · exact (show False from h).elim
      · exact (show False from h).elim
def mListRg (m : Rho → M (Int × Int)) : Rho → M (List D) := fun ρ cs => (m ρ cs).bind fun ij cs1 => .ok (rgD ij.1 ij.2) cs1
theorem lm_listRg (hc : X.calm = true) (hg : Gl X "list") (hm : X.mg "list" = none) (he : RgM X R E e (mRgs ma mb)) (na : starEach [e] X.env = (false, eval e X.env) :: starEach [] X.env := by rfl) :
    LM X R E (.Call (.Name "list" p) [e] [] pos) (mListRg (mRgs ma mb)) := by
  obtain ⟨t, pt, k⟩ := he
  refine ⟨_, pe_listRg hc hg hm pt na, fun O A ρ cs σ H ok rk Q h => ?_⟩
  refine k O A ρ cs σ H ok rk _ ((mRgs_ok (PostX.bind h)).step (Stp.refl ok) fun ij cs1 q A1 H1 s1 ok1 => ?_)
  obtain ⟨⟨h1, h2, h3, h4⟩, q⟩ := q
  exact ⟨RgOk.of_le h1 h4 h2 h3, fun p hp => PostL.new (R := R) (E := E) ok1 (postL_step s1 q) sh_rg hp⟩
end
end Mir
set_option maxHeartbeats 2000000
/-! dict comprehensions, read alone -/
namespace Mir
open PySem PySem.Spec PyProof.Rows L2

/-! ### a dict's pairs -/
inductive ShK (K : PySem.W.Frag) (H : Hp) : List (Key × V) → List (Key × D) → Prop
  | nil : ShK K H [] []
  | cons {k : Key} {v : V} {kvs : List (Key × V)} {d : D} {acc : List (Key × D)} : Sh K H v d → ShK K H kvs acc → ShK K H ((k, v) :: kvs) ((k, d) :: acc)
def putD (kvs : List (Key × D)) (k : Key) (v : D) : List (Key × D) :=
  if (kvs.any fun kv => decide (kv.1 = k)) = true then kvs.map (fun kv => if kv.1 = k then (kv.1, v) else kv) else kvs ++ [(k, v)]
def pairsD (acc : List (Key × D)) : List (D × D) := acc.map fun p => (kD p.1, p.2)
section
variable {K : PySem.W.Frag} {H H' : Hp}
theorem ShK.mono (e : Same H H') : ∀ {kvs : List (Key × V)} {acc : List (Key × D)}, ShK K H kvs acc → ShK K H' kvs acc
  | _, _, .nil => .nil
  | _, _, .cons h t => .cons (Sh.mono e h) (ShK.mono e t)
theorem ShK.len : ∀ {kvs : List (Key × V)} {acc : List (Key × D)}, ShK K H kvs acc → kvs.length = acc.length
  | _, _, .nil => rfl
  | _, _, .cons _ t => congrArg (· + 1) (ShK.len t)
theorem ShK.shd : ∀ {kvs : List (Key × V)} {acc : List (Key × D)}, ShK K H kvs acc → ShD K H kvs (pairsD acc)
  | _, _, .nil => .nil
  | _, _, .cons h t => .cons h (ShK.shd t)
theorem ShK.anyK (k : Key) : ∀ {kvs : List (Key × V)} {acc : List (Key × D)}, ShK K H kvs acc → (kvs.any fun kv => decide (kv.1 = k)) = acc.any fun kv => decide (kv.1 = k)
  | _, _, .nil => rfl
  | _, _, .cons _ t => by
    rw [List.any_cons, List.any_cons, ShK.anyK k t]
theorem ShK.mapK (k : Key) {z : V} {d : D} (hz : Sh K H z d) : ∀ {kvs : List (Key × V)} {acc : List (Key × D)}, ShK K H kvs acc → ShK K H (kvs.map (fun kv => if kv.1 = k then (kv.1, z) else kv)) (acc.map (fun kv => if kv.1 = k then (kv.1, d) else kv))
  | _, _, .nil => .nil
  | _, _, .cons (k := k') h t => by
    rw [List.map_cons, List.map_cons]
    by_cases e : k' = k
    · rw [if_pos e, if_pos e]
      exact .cons hz (ShK.mapK k hz t)
    · rw [if_neg e, if_neg e]
      exact .cons h (ShK.mapK k hz t)
theorem ShK.append : ∀ {kvs : List (Key × V)} {acc : List (Key × D)} {k : Key} {z : V} {d : D}, ShK K H kvs acc → Sh K H z d → ShK K H (kvs ++ [(k, z)]) (acc ++ [(k, d)])
  | _, _, _, _, _, .nil, hz => .cons hz .nil
  | _, _, _, _, _, .cons h t, hz => .cons h (ShK.append t hz)
theorem ShK.put {kvs : List (Key × V)} {acc : List (Key × D)} (h : ShK K H kvs acc) {z : V} {d : D} (hz : Sh K H z d) (k : Key) : ShK K H (putK kvs k z) (putD acc k d) := by
  unfold putK putD
  rw [h.anyK k]
  split
  · exact h.mapK k hz
  · exact h.append hz
end
theorem putD_len (acc : List (Key × D)) (k : Key) (d : D) : (putD acc k d).length ≤ acc.length + 1 := by
  unfold putD
  split
  · rw [List.length_map]
    exact Nat.le_succ _
  · rw [List.length_append]
    exact Nat.le_refl _
def keyD : D → Option Key
  | .int i => some (.inl i)
  | .str x => some (.inr x)
  | _ => none
theorem sh_key {K : PySem.W.Frag} {H : Hp} {v : V} {d : D} {k : Key} (r : Sh K H v d) (e : keyD d = some k) : v = kV k := by
  cases r with
  | int i =>
    cases e
    rfl
  | str x =>
    cases e
    rfl
  | _ => cases e

/-! ### the comprehension -/
def dcL (f : D → Rho → Option Rho) (mt : Rho → M Bool) (mk mv : Rho → M Sl) (ρ : Rho) : List D → List (Key × D) → M (List (Key × D))
  | [], acc, cs => .ok acc cs
  | d :: r, acc, cs => match f d ρ with
    | some ρ1 => (quiet (mt ρ1 cs)).bind fun k cs1 => if cs1.length = cs.length then
        if k = true then (quiet (mk ρ1 cs1)).bind fun y cs2 => (quiet (mv ρ1 cs2)).bind fun z cs3 => if cs3.length = cs.length then match y, z with
            | .d yd, .d zd => match keyD yd with
              | some key => dcL f mt mk mv ρ r (putD acc key zd) cs3
              | none => .bad
            | _, _ => .bad else .bad
        else dcL f mt mk mv ρ r acc cs1 else .bad
    | none => .bad
def mDc (mi : Rho → M (List D)) (f : D → Rho → Option Rho) (mt : Rho → M Bool) (mk mv : Rho → M Sl) (vs : List Nat) : Rho → M Sl := fun ρ cs => (mi ρ cs).bind fun items cs1 => if items.length ≤ SL then
    (dcL f mt mk mv (wipeR ρ vs) items [] cs1).bind fun acc cs2 => .ok (.d (.dict (pairsD acc))) cs2 else .bad
section
variable {X : Cx} {R : XR} {E : XK} {pos : Pos} {kx vx tg iter : Expr} {ifs : List Expr} {mt : Rho → M Bool} {mk mv : Rho → M Sl} {L : List Nat} {f : D → Rho → Option Rho} {mi : Rho → M (List D)}
theorem dc_read {wi : TI} {vs0 : List Nat} (ki : ∀ O A ρ cs σ H, Ok X.K O A cs H → RhoOk X.K O A ρ σ H → ∀ S : It → Hp → Prop, PostX X.K R O A H E (fun items cs1 => ∀ J A' H', Stp A H A' H' → Ok X.K O A' cs1 H' → Feeds X.K O A' H' J items → S J H') (mi ρ cs) → wi σ H S)
    (hL : ∀ i ∈ L, i ∈ vs0) {O A : List Addr} {ρ : Rho} {cs : List HC} {σ : L2.St} {H : Hp} (ok : Ok X.K O A cs H) (rk : RhoOk X.K O A ρ σ H) {Q : VK} (h : Post X.K R O A H Q E (mDc mi f mt mk mv vs0 ρ cs)) :
    tDc wi (tGm X.K L f) (tQm X.K R E0' mt) (tEm X.K R E0' mk) (tEm X.K R E0' mv) vs0 σ H Q := by
  refine ki O A ρ cs σ H ok rk _ (PostX.step (Stp.refl ok) (fun items cs1 q J A1 H1 s1 ok1 fd => ?_) (PostX.bind h))
  split at q
  · rename_i hz
    intro Dl nD
    generalize hvs : vs0 = vs at q hL ⊢
    have hO : ∀ x ∈ Dl :: O, x ∈ O ∨ H1 x = none := fun x hx => (List.mem_cons.mp hx).elim (fun z => .inr (z ▸ nD)) .inl
    have hO0 : ∀ x ∈ Dl :: O, x ∈ O ∨ H x = none := fun x hx => (List.mem_cons.mp hx).elim (fun z => .inr (z ▸ s1.fresh nD)) .inl
    have nA : Dl ∉ A1 := fun z => ok1.ne nD (List.mem_append_right _ z)
    refine ⟨fun i m Hc => ∃ cs' accV accD, Stp A1 H1 A1 Hc ∧ Ok X.K (Dl :: O) A1 cs' Hc ∧ Hc Dl = some (.dK accV) ∧ ShK X.K (hid ((Dl :: O) ++ A1) Hc) accV accD ∧ accD.length ≤ i ∧ m = items.length - i ∧ i ≤ items.length ∧
      Post X.K R O A H Q E ((dcL f mt mk mv (wipeR ρ vs) (items.drop i) accD cs').bind fun acc cs3 => .ok (.d (.dict (pairsD acc))) cs3), ⟨_, cs1, [], [], Stp.new ok1 nD, ?_, upd_same, .nil, Nat.le_refl _, rfl, Nat.zero_le _, ?_⟩, ?_⟩
    · have okn := ok1.new (o := .dK []) nD
      have st := Stp.new (o := .dK []) ok1 nD
      have se := same_ext hO st
      refine ⟨fun x hx => ?_, ok1.len, ok1.nd, fun k a c e1 e2 => ?_⟩
      · rcases List.mem_cons.mp hx with z | z
        · subst z
          exact ⟨by rw [upd_same]; exact fun z => (by cases z), nA⟩
        · exact okn.out x z
      · have ha : a ≠ Dl := fun z => nA (z ▸ List.mem_of_getElem? e1)
        exact HcAt.at (upd_ne ha) ((ok1.at k a c e1 e2).mono se)
    · rw [List.drop_zero]
      exact q
    · rintro i m Hc ⟨cs', accV, accD, sc, okc, hD, hA, hlen, rfl, hi, hq⟩
      obtain ⟨f1, f2⟩ := fd (Dl :: O) A1 cs' Hc hO sc okc i
      cases ed : items.drop i with
      | nil =>
        rw [ed] at hq
        refine .inl ⟨f1 (drop_end ed), ?_⟩
        have st := s1.trans sc
        have less : Same (hid ((Dl :: O) ++ A1) Hc) (hid (O ++ A1) Hc) := fun b u e => by
          obtain ⟨hb, e⟩ := hid_some.mp e
          refine hid_some.mpr ⟨fun z => hb ?_, e⟩
          rw [List.cons_append]
          exact List.mem_cons_of_mem _ z
        have hq' : Post X.K R O A H Q E (.ok (.d (.dict (pairsD accD))) cs') := hq
        refine hq' (.ref Dl) A1 Hc st ⟨fun x hx => okc.out x (List.mem_cons_of_mem _ hx), okc.len, okc.nd, fun k a c e1 e2 => (okc.at k a c e1 e2).mono less⟩ ?_
        exact .dic (hid_some.mpr ⟨ok1.ne nD, hD⟩) (hA.mono less).shd
      | cons d r =>
        rw [ed] at hq
        obtain ⟨ei, er⟩ := drop_get ed
        obtain ⟨go, yl⟩ := f2 d ei
        have hlt := (List.getElem?_eq_some_iff.mp ei).1
        refine .inr ⟨go, fun Hn => ∃ cs' accV accD, Stp A1 H1 A1 Hn ∧ Ok X.K (Dl :: O) A1 cs' Hn ∧ Hn Dl = some (.dK accV) ∧ ShK X.K (hid ((Dl :: O) ++ A1) Hn) accV accD ∧ accD.length ≤ i + 1 ∧
          Post X.K R O A H Q E ((dcL f mt mk mv (wipeR ρ vs) r accD cs').bind fun acc cs3 => .ok (.d (.dict (pairsD acc))) cs3), fun Hn hN => ?_, fun x H2 y => ?_⟩
        · obtain ⟨cs2, aV, aD, t1, t2, t3, t4, t5, t6⟩ := hN
          exact ⟨items.length - (i + 1), by omega, cs2, aV, aD, t1, t2, t3, t4, t5, rfl, hlt, by rw [er]; exact t6⟩
        · obtain ⟨s2, ok2, r2⟩ := yl x H2 y
          simp only [dcL] at hq
          split at hq
          · rename_i ρ1 e1
            have s12 := sc.trans s2
            have rkw : RhoOk X.K (Dl :: O) A1 (wipeR ρ vs) (wipe σ vs) H2 := (rk.ext hO0 (s1.trans s12)).wipe vs
            refine ⟨Dl :: O, A1, cs', wipeR ρ vs, d, ρ1, ok2, rkw, r2, e1, fun σ3 rk3 l3 f3 => ⟨wipe_ext l3 fun i hi => f3 i fun z => hi (hL i z), ?_⟩⟩
            rw [Res.bind_bind] at hq
            refine ⟨Dl :: O, A1, ρ1, cs', ok2, rk3, quiet_post (PostX.step (Stp.refl ok) (fun k cs2 q2 A3 H3 s3 ok3 => ?_) (PostX.bind hq))⟩
            by_cases hl2 : cs2.length = cs'.length
            · rw [if_pos hl2] at q2
              have eA : A3 = A1 := s3.eq (by rw [ok3.len, hl2, okc.len])
              subst eA
              have s123 := s12.trans s3
              have hD3 : H3 Dl = some (.dK accV) := s3.keep Dl _ nA (s2.keep Dl _ nA hD)
              have hA3 := (hA.mono s2.same).mono s3.same
              cases k with
              | false =>
                rw [if_neg Bool.false_ne_true] at q2 ⊢
                exact ⟨cs2, accV, accD, s123, ok3, hD3, hA3, by omega, q2⟩
              | true =>
                rw [if_pos rfl] at q2 ⊢
                rw [Res.bind_bind] at q2
                refine ⟨Dl :: O, A3, ρ1, cs2, ok3, rk3.step s3, quiet_post (PostX.step (Stp.refl ok) (fun sy cs3 q3 vy A4 H4 s4 ok4 r4 => ?_) (PostX.bind q2))⟩
                rw [Res.bind_bind] at q3
                refine ⟨Dl :: O, A4, ρ1, cs3, ok4, (rk3.step s3).step s4, quiet_post (PostX.step (Stp.refl ok) (fun sz cs4 q4 vz A5 H5 s5 ok5 r5 => ?_) (PostX.bind q3))⟩
                by_cases hl3 : cs4.length = cs'.length
                · rw [if_pos hl3] at q4
                  have s45 := s4.trans s5
                  have eA5 : A5 = A3 := s45.eq (by rw [ok5.len, hl3, okc.len])
                  subst eA5
                  cases sy with
                  | h j => exact (show False from q4).elim
                  | s ns => exact (show False from q4).elim
                  | d yd =>
                    cases sz with
                    | h j => exact (show False from q4).elim
                    | s ns => exact (show False from q4).elim
                    | d zd =>
                      simp only [] at q4
                      split at q4
                      · rename_i key ek
                        have hy : vy = kV key := sh_key r4 ek
                        have hD5 : H5 Dl = some (.dK accV) := s45.keep Dl _ nA hD3
                        obtain ⟨ok6, same6⟩ := ok5.outer (p := Dl) (o := .dK (putK accV key vz)) (List.mem_cons_self)
                        have hA5 := hA3.mono s45.same
                        have s1235 := s123.trans s45
                        refine ⟨accV, key, hy, hD5, ?_, cs4, putK accV key vz, putD accD key zd, ⟨⟨[], by simp, by simp⟩, fun b o hb e => ?_, fun b hb => ?_⟩, ok6, upd_same, (hA5.mono same6).put (Sh.mono same6 r5) key, ?_, ?_⟩
                        · rw [hA.len, ← SL_eq]
                          omega
                        · rw [upd_ne (fun (z : b = Dl) => by
                            rw [z, nD] at e
                            cases e)]
                          exact s1235.keep b o hb e
                        · rw [upd_ne (fun (z : b = Dl) => nA (z ▸ hb))]
                          exact s1235.live b hb
                        · have := putD_len accD key zd
                          omega
                        · exact q4
                      · exact (show False from q4).elim
                · rw [if_neg hl3] at q4
                  exact (show False from q4).elim
            · rw [if_neg hl2] at q2
              exact (show False from q2).elim
          · exact (show False from hq).elim
  · exact (show False from q).elim
theorem em_dc {scope : Scope} {own : List (Str × Nat)} (hc : X.calm = true) (hN : X.N.Nodup) (hi : IM X R E tg iter mi) (okb : BlkOk X.N X.env.scope scope own) (hL : ∀ i ∈ L, i ∈ own.map (·.2))
    (hg : ∀ (s : Shared) (H : Hp) (C : Addr) (cl : List (Str × Addr)) (fp : List Addr), GM (X.blk s H scope (compEnvC scope cl C X.env) fp) tg L f)
    (ht : ∀ (s : Shared) (H : Hp) (C : Addr) (cl : List (Str × Addr)) (fp : List Addr), QM (X.blk s H scope (compEnvC scope cl C X.env) fp) R E0' ifs mt)
    (hk : ∀ (s : Shared) (H : Hp) (C : Addr) (cl : List (Str × Addr)) (fp : List Addr), EM (X.blk s H scope (compEnvC scope cl C X.env) fp) R E0' kx mk)
    (he : ∀ (s : Shared) (H : Hp) (C : Addr) (cl : List (Str × Addr)) (fp : List Addr), EM (X.blk s H scope (compEnvC scope cl C X.env) fp) R E0' vx mv) (hs : ∀ x, foldedSetIterable iter X.env x = pure x := by intro _; rfl) :
    EM X R E (.DictComp kx vx [⟨tg, iter, ifs, 0⟩] scope pos) (mDc mi f mt mk mv (own.map (·.2))) := by
  obtain ⟨wi, pi, ki⟩ := hi
  exact ⟨_, pe_dc (g := tGm X.K L f) (tt := tQm X.K R E0' mt) (tk := tEm X.K R E0' mk) (tv := tEm X.K R E0' mv) hc hN pi okb (fun s H C cl fp => (hg s H C cl fp).pg) (fun s H C cl fp => (ht s H C cl fp).pe) (fun s H C cl fp => (hk s H C cl fp).pe) (fun s H C cl fp => (he s H C cl fp).pe) hs, fun O A ρ cs σ H ok rk Q h => dc_read ki hL ok rk h⟩

/-! ### len of dicts too -/
def bLenX : List Sl → M Sl := fun xs cs => match xs with
  | [.d (.str z)] => if z.length ≤ SL then .ok (.d (.int z.length)) cs else .bad
  | [.d (.dict kvs)] => .ok (.d (.int kvs.length)) cs
  | [x] => match seqD x cs with
    | some ds => .ok (.d (.int ds.length)) cs
    | none => .bad
  | _ => .bad
theorem ShD.len {K : PySem.W.Frag} {H : Hp} : ∀ {kvs : List (Key × V)} {ds : List (D × D)}, ShD K H kvs ds → kvs.length = ds.length
  | _, _, .nil => rfl
  | _, _, .cons _ t => congrArg (· + 1) (ShD.len t)
theorem cb_lenX : CbM X R E (.builtin "len") bLenX := by
  refine cb_of (CallR.or call_len call_lenD) fun O A cs H vs sls ok rs Q h => ?_
  unfold bLenX at h
  split at h
  · obtain ⟨v, rfl, r⟩ := one_of rs
    split at h
    · rename_i hz
      cases r
      exact .inl ⟨_, _, rfl, ⟨SL_eq ▸ hz, rfl⟩, Post.ret ok h (.int _)⟩
    · exact h.elim
  · obtain ⟨v, rfl, r⟩ := one_of rs
    cases r with
    | dic hd t =>
      rw [← t.len] at h
      exact .inr ⟨_, _, rfl, hid_same _ _ hd, Post.ret ok h (.int _)⟩
  · obtain ⟨v, rfl, r⟩ := one_of rs
    split at h
    · rename_i ds ed
      obtain ⟨p, ws, rfl, hq, sa⟩ := seq_d ok r ed
      rw [← sa.length] at h
      refine .inl ⟨_, ws.length, rfl, ?_, Post.ret ok h (.int _)⟩
      rcases hq with hq | hq
      · exact .inr ⟨ws, hq, rfl⟩
      · exact .inl ⟨ws, hq, rfl⟩
    · exact h.elim
  · exact h.elim
end
end Mir
set_option maxHeartbeats 2000000
/-! in, not in -/
namespace Mir
open PySem PySem.Spec PyProof.Rows L2

def flatD : D → Bool
  | .none => true
  | .bool _ => true
  | .int _ => true
  | .str _ => true
  | _ => false
section
variable {K : PySem.W.Frag} {H : Hp}
theorem sh_flat {v : V} {d : D} (r : Sh K H v d) (h : flatD d = true) : flatV v = true := by
  cases r <;> first | rfl | exact (Bool.false_ne_true h).elim
theorem sh_flats : ∀ {vs : List V} {ds : List D}, ShA K H vs ds → ds.all flatD = true → vs.all flatV = true
  | _, _, .nil, _ => rfl
  | _, _, .cons h t, e => by
    rw [List.all_cons, Bool.and_eq_true] at e
    rw [List.all_cons, sh_flat h e.1, sh_flats t e.2]
    rfl
theorem sh_eqV {v w : V} {d e : D} (r : Sh K H v d) (q : Sh K H w e) (hd : flatD d = true) (he : flatD e = true) : eqV v w = PyData.eqv d e := by
  cases r <;> first | exact (Bool.false_ne_true hd).elim | (cases q <;> first | exact (Bool.false_ne_true he).elim | rfl)
theorem sh_inV {w : V} {e : D} (q : Sh K H w e) (he : flatD e = true) : ∀ {vs : List V} {ds : List D}, ShA K H vs ds → ds.all flatD = true → inV w vs = ds.any fun z => PyData.eqv z e
  | _, _, .nil, _ => rfl
  | _, _, .cons h t, hd => by
    rw [List.all_cons, Bool.and_eq_true] at hd
    have ih := sh_inV q he t hd.2
    unfold inV at ih ⊢
    rw [List.any_cons, List.any_cons, sh_eqV h q hd.1 he, ih]
end
def inD (neg : Bool) (d : D) (ds : List D) : Bool := if neg then !(ds.any fun z => PyData.eqv z d) else ds.any fun z => PyData.eqv z d
def oInB (neg : Bool) : Sl → Sl → M Sl := fun x y cs => match x, seqD y cs with
  | .d d, some ds => if flatD d = true ∧ ds.all flatD = true then .ok (.d (.bool (inD neg d ds))) cs else .bad
  | _, _ => .bad
def oIn2 : Sl → Sl → M Sl := oInB false
def oNotIn2 : Sl → Sl → M Sl := oInB true
section
variable {X : Cx} {R : XR} {E : XK}
theorem om_in2 : OpM X R E (compareOp .In) oIn2 := by
  refine opm_of op_in_seq fun O A cs H x y sx sy ok rx ry Q h => ?_
  unfold oIn2 oInB at h
  split at h
  · rename_i d ds ed
    split at h
    · rename_i hz
      obtain ⟨p, vs, rfl, hq, sa⟩ := seq_d ok ry ed
      refine ⟨p, vs, rfl, hq.symm, sh_flat rx hz.1, sh_flats sa hz.2, ?_⟩
      rw [if_neg Bool.false_ne_true, sh_inV rx hz.1 sa hz.2]
      exact Post.ret ok h (.bl _)
    · exact h.elim
  · exact h.elim
theorem om_notIn2 : OpM X R E (compareOp .NotIn) oNotIn2 := by
  refine opm_of op_notIn_seq fun O A cs H x y sx sy ok rx ry Q h => ?_
  unfold oNotIn2 oInB at h
  split at h
  · rename_i d ds ed
    split at h
    · rename_i hz
      obtain ⟨p, vs, rfl, hq, sa⟩ := seq_d ok ry ed
      refine ⟨p, vs, rfl, hq.symm, sh_flat rx hz.1, sh_flats sa hz.2, ?_⟩
      rw [if_pos rfl, sh_inV rx hz.1 sa hz.2]
      exact Post.ret ok h (.bl _)
    · exact h.elim
  · exact h.elim
end

/-! ### a + b, a * k of lists: new lists -/
def oCatL : Sl → Sl → M (List D) := fun x y cs => match viewT x cs, viewT y cs with
  | some a, some b => if a.length + b.length ≤ SL then .ok (a ++ b) cs else .bad
  | _, _ => .bad
def oRepL : Sl → Sl → M (List D) := fun x y cs => match viewT x cs, y with
  | some a, .d (.int k) => if -(2 ^ 63) ≤ k ∧ k < 2 ^ 63 ∧ a.length * k.toNat ≤ SL then .ok (List.replicate k.toNat a).flatten cs else .bad
  | _, _ => .bad
def mBinL (o : Sl → Sl → M (List D)) (ma mb : Rho → M Sl) : Rho → M (List D) := fun ρ cs => (ma ρ cs).bind fun x cs1 => (mb ρ cs1).bind fun y cs2 => o x y cs2
section
variable {X : Cx} {R : XR} {E : XK} {pos : Pos} {a b : Expr} {ma mb : Rho → M Sl}
theorem lm_cat (ha : EM X R E a ma) (hb : EM X R E b mb) : LM X R E (.BinOp a .Add b pos) (mBinL oCatL ma mb) := by
  obtain ⟨ta, pa, ka⟩ := ha
  obtain ⟨tb, pb, kb⟩ := hb
  refine ⟨_, pe_op op_cat pa pb, fun O A ρ cs σ H ok rk Q h => ?_⟩
  refine two ka kb ok rk (S := fun x y cs2 => PostL X.K R O A H Q E (oCatL x y cs2)) ((PostX.bind h).step (Stp.refl ok) fun x cs1 h1 => PostX.bind h1) fun x y sx sy A2 cs2 H2 s ok2 rx ry hS => ?_
  unfold oCatL at hS
  split at hS
  · rename_i u v ea eb
    split at hS
    · rename_i hz
      obtain ⟨p, vs, rfl, h1, s1⟩ := view_t ok2 rx ea
      obtain ⟨q, ws, rfl, h2, s2⟩ := view_t ok2 ry eb
      exact ⟨p, q, vs, ws, rfl, rfl, h1, h2, by rw [s1.length, s2.length]; exact SL_eq ▸ hz, fun p' hp => PostL.new (R := R) (E := E) ok2 (postL_step s hS) (s1.append s2) hp⟩
    · exact (show False from hS).elim
  · exact (show False from hS).elim
theorem lm_rep (ha : EM X R E a ma) (hb : EM X R E b mb) : LM X R E (.BinOp a .Mult b pos) (mBinL oRepL ma mb) := by
  obtain ⟨ta, pa, ka⟩ := ha
  obtain ⟨tb, pb, kb⟩ := hb
  refine ⟨_, pe_op op_rep pa pb, fun O A ρ cs σ H ok rk Q h => ?_⟩
  refine two ka kb ok rk (S := fun x y cs2 => PostL X.K R O A H Q E (oRepL x y cs2)) ((PostX.bind h).step (Stp.refl ok) fun x cs1 h1 => PostX.bind h1) fun x y sx sy A2 cs2 H2 s ok2 rx ry hS => ?_
  unfold oRepL at hS
  split at hS
  · rename_i u k ea
    split at hS
    · rename_i hz
      obtain ⟨p, vs, rfl, h1, s1⟩ := view_t ok2 rx ea
      cases ry
      exact ⟨p, _, vs, rfl, rfl, h1, hz.1, hz.2.1, by rw [s1.length]; exact SL_eq ▸ hz.2.2, fun p' hp => PostL.new (R := R) (E := E) ok2 (postL_step s hS) (flat_rep s1 _) hp⟩
    · exact (show False from hS).elim
  · exact (show False from hS).elim
end
end Mir
set_option maxHeartbeats 2000000
/-! the steps of the later words -/
namespace Mir
open PySem PySem.Spec PyProof.Rows L2
section
variable {P : Sl → List HC → Prop} {PL : List D → List HC → Prop} {PF : Fl → List HC → Prop} {PA : List Sl → List HC → Prop} {cs : List HC} {ρ : Rho} {ma mb mk mv : Rho → M Sl} {mt : Rho → M Bool} {ms : Rho → M (List Sl)} {gf : D → Rho → Option Rho} {i j : Int} {d : D} {b : Bool}
theorem wp_lenX {x : Sl} {ds : List D} (e : seqD x cs = some ds) (h : P (.d (.int ds.length)) cs) : Wp (bLenX [x] cs) P := by
  cases x with
  | d d' =>
    cases d' with
    | str z => cases e
    | dict z => cases e
    | _ =>
      simp only [bLenX, e]
      exact h
  | h k =>
    simp only [bLenX, e]
    exact h
  | s ns =>
    simp only [bLenX, e]
    exact h
theorem wp_lenD {kvs : List (D × D)} (h : P (.d (.int kvs.length)) cs) : Wp (bLenX [.d (.dict kvs)] cs) P := h
theorem wp_lenS {z : Str} (e : z.length ≤ SL) (h : P (.d (.int z.length)) cs) : Wp (bLenX [.d (.str z)] cs) P := by
  simp only [bLenX, if_pos e]
  exact h
theorem wp_isB (h : P (.d (.bool (isB d b))) cs) : Wp (oIsX (.d d) (.d (.bool b)) cs) P := h
theorem wp_isNo (h : P (.d (.bool (isNo d))) cs) : Wp (oIsX (.d d) (.d .none) cs) P := h
theorem wp_notB (h : P (.d (.bool (!isB d b))) cs) : Wp (oNotX (.d d) (.d (.bool b)) cs) P := h
theorem wp_notNo (h : P (.d (.bool (!isNo d))) cs) : Wp (oNotX (.d d) (.d .none) cs) P := h
theorem wp_maxX (h : P (.d (.int (if j > i then j else i))) cs) : Wp (bMaxX [.d (.int i), .d (.int j)] cs) P := h
theorem wp_minX (h : P (.d (.int (if j < i then j else i))) cs) : Wp (bMinX [.d (.int i), .d (.int j)] cs) P := h
theorem wp_maxS {x : Sl} {ds : List D} {ns : List Int} (e : seqD x cs = some ds) (e2 : intsD ds = some ns) (e3 : 0 < ns.length) (h : P (.d (.int (maxI ns))) cs) : Wp (bMaxX [x] cs) P := by
  cases x with
  | d d' => simp only [bMaxX, e, e2, if_pos e3]; exact h
  | h k => simp only [bMaxX, e, e2, if_pos e3]; exact h
  | s n => simp only [bMaxX, e, e2, if_pos e3]; exact h
theorem wp_minS {x : Sl} {ds : List D} {ns : List Int} (e : seqD x cs = some ds) (e2 : intsD ds = some ns) (e3 : 0 < ns.length) (h : P (.d (.int (minI ns))) cs) : Wp (bMinX [x] cs) P := by
  cases x with
  | d d' => simp only [bMinX, e, e2, if_pos e3]; exact h
  | h k => simp only [bMinX, e, e2, if_pos e3]; exact h
  | s n => simp only [bMinX, e, e2, if_pos e3]; exact h
theorem wp_parN {is : List Nat} (h : Wp (ms ρ cs) fun xs cs1 => ∃ ρ1, setAllR is xs ρ = some ρ1 ∧ PF (.nx ρ1) cs1) : Wp (sParN is ms ρ cs) PF := wp_bind (h.mono fun xs cs1 ⟨ρ1, e, q⟩ => by
  rw [e]
  exact q)
theorem wp_rgs {PR : Int × Int → List HC → Prop} (h : Wp (ma ρ cs) fun x cs1 => Wp (mb ρ cs1) fun y cs2 => ∃ i j, x = .d (.int i) ∧ y = .d (.int j) ∧ (0 ≤ i ∧ i ≤ 16777216 ∧ 0 ≤ j ∧ j ≤ 16777216) ∧ PR (i, j) cs2) : Wp (mRgs ma mb ρ cs) PR :=
  wp_bind (h.mono fun _ _ q1 => wp_bind (q1.mono fun _ _ ⟨i', j', e1, e2, z, q2⟩ => by
    subst e1 e2
    simp only [if_pos z]
    exact q2))
theorem wp_c0 (h : P (.d (.int 0)) cs) : Wp (mC0 ρ cs) P := h
theorem wp_listRg {m : Rho → M (Int × Int)} (h : Wp (m ρ cs) fun ij cs1 => PL (rgD ij.1 ij.2) cs1) : Wp (mListRg m ρ cs) PL := wp_bind h
theorem wp_in2 {x : D} {y : Sl} {ds : List D} (e : seqD y cs = some ds) (c : flatD x = true ∧ ds.all flatD = true) (h : P (.d (.bool (ds.any fun z => PyData.eqv z x))) cs) : Wp (oIn2 (.d x) y cs) P := by
  unfold oIn2 oInB
  simp only [e, if_pos c]
  exact h
theorem wp_notIn2 {x : D} {y : Sl} {ds : List D} (e : seqD y cs = some ds) (c : flatD x = true ∧ ds.all flatD = true) (h : P (.d (.bool (!(ds.any fun z => PyData.eqv z x)))) cs) : Wp (oNotIn2 (.d x) y cs) P := by
  unfold oNotIn2 oInB
  simp only [e, if_pos c]
  exact h
theorem wp_binL {o : Sl → Sl → M (List D)} (h : Wp (ma ρ cs) fun x cs1 => Wp (mb ρ cs1) fun y cs2 => Wp (o x y cs2) PL) : Wp (mBinL o ma mb ρ cs) PL := wp_bind (h.mono fun _ _ q => wp_bind q)
theorem wp_catL {x y : Sl} {a b : List D} (ea : viewT x cs = some a) (eb : viewT y cs = some b) (c : a.length + b.length ≤ SL) (h : PL (a ++ b) cs) : Wp (oCatL x y cs) PL := by
  unfold oCatL
  simp only [ea, eb, if_pos c]
  exact h
theorem wp_repLL {x : Sl} {a : List D} {k : Int} (ea : viewT x cs = some a) (c : -(2 ^ 63) ≤ k ∧ k < 2 ^ 63 ∧ a.length * k.toNat ≤ SL) (h : PL (List.replicate k.toNat a).flatten cs) : Wp (oRepL x (.d (.int k)) cs) PL := by
  unfold oRepL
  simp only [ea, if_pos c]
  exact h
theorem wp_dc {mi : Rho → M (List D)} {vs : List Nat} (h : Wp (mi ρ cs) fun items cs1 => items.length ≤ SL ∧ Wp (dcL gf mt mk mv (wipeR ρ vs) items [] cs1) fun acc cs2 => P (.d (.dict (pairsD acc))) cs2) : Wp (mDc mi gf mt mk mv vs ρ cs) P := wp_bind (h.mono fun _ _ ⟨e, q⟩ => by
  rw [if_pos e]
  exact wp_bind q)
/-- keys and values by plain functions of the items -/
theorem wp_dcMap (Fk : D → Key) (Fv : D → D) : ∀ {items : List D} {cs : List HC} {acc : List (Key × D)} {PK : List (Key × D) → List HC → Prop}, (∀ d ∈ items, ∃ ρ1, gf d ρ = some ρ1 ∧ (Wp (mk ρ1 cs) fun sl cs2 => cs2 = cs ∧ ∃ y, sl = .d y ∧ keyD y = some (Fk d)) ∧ Wp (mv ρ1 cs) fun sl cs2 => cs2 = cs ∧ sl = .d (Fv d)) →
    PK (items.foldl (fun acc d => putD acc (Fk d) (Fv d)) acc) cs → Wp (dcL gf mYes mk mv ρ items acc cs) PK
  | [], cs, acc, PK, k, q => q
  | d :: r, cs, acc, PK, k, q => by
    obtain ⟨ρ1, e, wk, wv⟩ := k d (List.mem_cons_self)
    obtain ⟨sk, cs2, e2, e3, y, e4, e5⟩ := wk.get
    subst e3 e4
    obtain ⟨sv, cs3, f2, f3, f4⟩ := wv.get
    subst f3 f4
    have ih := wp_dcMap (acc := putD acc (Fk d) (Fv d)) (PK := PK) Fk Fv (fun d' hd => k d' (List.mem_cons_of_mem _ hd)) q
    simp only [dcL, e, mYes, quiet, Res.bind, if_true, e2, f2, e5]
    exact ih
end
end Mir
set_option maxHeartbeats 2000000
/-! zip of a list and a tuple, either way round -/
namespace MirZ
open PySem PySem.Spec PyProof.Rows L2
open PySem.Sem (wp)

/-- k items of the list (false), the tuple (true) at l were given out by i -/
def ItAt (b : Bool) (h : Heap) (i l : Addr) (k : Nat) : Prop := match b with
  | true => h.IsTupleIter i l k
  | false => h.IsListIter i l k
def SqAt (b : Bool) (h : Heap) (l : Addr) (xs : Array Value) : Prop := match b with
  | true => h.IsTuple l xs
  | false => h.IsList l xs
section
variable {h h' : Heap} {i l c : Addr} {k : Nat} {xs : Array Value}
theorem ItAt.ext {b : Bool} (x : ItAt b h i l k) (e : Heap.ExtBut c h h') (n : i ≠ c) : ItAt b h' i l k := by
  cases b
  · exact Heap.IsListIter.extBut x e n
  · exact Heap.IsTupleIter.extBut x e n
theorem ItAt.here {b : Bool} (x : ItAt b h i l k) (e : ∀ o, h.get? i = some o → h'.get? i = some o) : ItAt b h' i l k := by
  cases b
  · exact Heap.IsListIter.at x e
  · exact Heap.IsTupleIter.at x e
theorem ItAt.obj {b : Bool} (x : ItAt b h i l k) : ∃ o, h.get? i = some o ∧ ∀ v, o.data ≠ .cell v := by
  cases b
  · obtain ⟨o, e, _, d⟩ := x
    exact ⟨o, e, fun v q => by rw [d] at q; cases q⟩
  · obtain ⟨o, e, _, d⟩ := x
    exact ⟨o, e, fun v q => by rw [d] at q; cases q⟩
theorem ItAt.lt {b : Bool} (x : ItAt b h i l k) : i < h.objs.size := by
  obtain ⟨o, e, _⟩ := x.obj
  exact Heap.lt_size e
theorem SqAt.ext {b : Bool} (x : SqAt b h l xs) (e : Heap.ExtBut c h h') (n : l ≠ c) : SqAt b h' l xs := by
  cases b
  · exact Heap.IsList.extBut x e n
  · exact Heap.IsTuple.extBut x e n
end
section
variable {prog : Program} {w : World} {A : Around} {E : Value → Shared → Prop} {s : Shared} {i l : Addr} {k : Nat} {xs : Array Value} {x : Value}
theorem one_item {b : Bool} {Q : Value → Shared → Prop} (hit : ItAt b s.heap i l k) (hl : SqAt b s.heap l xs) (hx : xs[k]? = some x) (hQ : ∀ h', ItAt b h' i l (k + 1) → Heap.SameBut i s.heap h' → Q x { s with heap := h' }) :
    wpAny (model prog w) A (Builtin.SmallTypes.nextOf (.ref i)) Q E s := by
  cases b
  · exact wpAny_nextOf_list_item hit hl hx hQ
  · exact RZ.nextOf_tuple_item hit hl hx hQ
theorem one_end {b : Bool} {Q : Value → Shared → Prop} (hh : A.handled = none) (hit : ItAt b s.heap i l k) (hl : SqAt b s.heap l xs) (hx : xs[k]? = none)
    (hE : ∀ h' e, Heap.ExtBut i s.heap h' → (∃ o, h'.get? e = some o ∧ o.cls = .type "StopIteration") → E (.ref e) { s with heap := h' }) : wpAny (model prog w) A (Builtin.SmallTypes.nextOf (.ref i)) Q E s := by
  cases b
  · exact wpAny_nextOf_list_end hh hit hl hx hE
  · exact RZ.nextOf_tuple_end hh hit hl hx hE
variable {z TI TO i1 i2 l1 l2 : Addr} {k1 k2 : Nat} {us ys : Array Value} {y p q : Value} {b1 b2 : Bool}
/-- what is kept: all but the zip's own objects -/
def Keeps (z TO i1 i2 : Addr) (h h' : Heap) : Prop := ∀ c o, c ≠ z → c ≠ TO → c ≠ i1 → c ≠ i2 → h.get? c = some o → h'.get? c = some o
theorem pair_item {Q : Value → Shared → Prop} (D : ZipApart z TI TO i1 i2 l1 l2) (hz : IsZip s.heap z TI TO .none) (hTI : IsPair s.heap TI (.ref i1) (.ref i2)) (hTO : IsPair s.heap TO p q)
    (h1 : ItAt b1 s.heap i1 l1 k1) (h2 : ItAt b2 s.heap i2 l2 k2) (g1 : SqAt b1 s.heap l1 us) (g2 : SqAt b2 s.heap l2 ys) (hx : us[k1]? = some x) (hy : ys[k2]? = some y)
    (hQ : ∀ h', IsZip h' z TI TO (rawInt s.heap.objs.size) → IsPair h' TO x y → ItAt b1 h' i1 l1 (k1 + 1) → ItAt b2 h' i2 l2 (k2 + 1) → IsPair h' s.heap.objs.size x y → h'.objs.size = s.heap.objs.size + 1 → Keeps z TO i1 i2 s.heap h' → Q (.ref s.heap.objs.size) { s with heap := h' }) :
    wpAny (model prog w) A (Builtin.«zip.__next__» ⟨[.ref z], []⟩) (fun fin s' => ∃ v, fin = .done (.ret v) ∧ Q v s') E s := by
  show wpAny _ _ (field (.ref z) 2 >>= _) _ _ _
  refine wpAny_bind (wpAny_field hz rfl (x := .bool false) rfl (show wpAny _ _ (field (.ref z) 3 >>= _) _ _ _ from wpAny_bind (wpAny_field hz rfl (x := .ref TI) rfl (wpAny_bind (wpAny_seqItems hTI rfl ?_)))))
  show wpAny _ _ (Builtin.SmallTypes.ownedTupleIsFree (.ref z) >>= _) _ _ _
  refine wpAny_bind ?_
  unfold Builtin.SmallTypes.ownedTupleIsFree
  refine wpAny_bind (wpAny_field hz rfl (x := .none) rfl (wpAny_pure ?_))
  simp only [if_true]
  refine wpAny_bind (wpAny_rule (wpAny_bind (wpAny_field hz rfl (x := .ref TO) rfl (wpAny_bind (wpAny_setField_rec hz (by simp) fun ha za ea => ?_)))))
  replace za : IsZip ha z TI TO .ellipsis := za
  refine wpAny_bind ?_
  simp only [List.zipIdx_cons, List.zipIdx_nil, List.forIn_cons, List.forIn_nil]
  -- the first part
  refine wpAny_bind (wpAny_bind (wpAny_onRaise (show wpAny _ _ (Builtin.SmallTypes.nextOf (.ref i1) >>= _) _ _ _ from ?_)))
  refine wpAny_bind (one_item (h1.ext ea.extBut D.i1z) (g1.ext ea.extBut D.l1z) hx fun hb ib eb => wpAny_pure ?_)
  have tb : IsPair hb TO p q := eb.extBut _ _ D.TOi1 (ea.extBut _ _ D.TOz hTO)
  refine wpAny_bind (wpAny_seqItems tb rfl (wpAny_bind (wpAny_updateSeq_pair tb fun hc tc ec => ?_)))
  replace tc : IsPair hc TO x q := tc
  refine wpAny_bind (wpAny_letGo (wpAny_pure ?_))
  -- the second part
  refine wpAny_bind (wpAny_bind (wpAny_onRaise (show wpAny _ _ (Builtin.SmallTypes.nextOf (.ref i2) >>= _) _ _ _ from ?_)))
  refine wpAny_bind (one_item (((h2.ext ea.extBut D.i2z).ext eb.extBut D.i12.symm).ext ec.extBut D.TOi2.symm) (((g2.ext ea.extBut D.l2z).ext eb.extBut D.l2i1).ext ec.extBut D.l2TO) hy fun hd id' ed => wpAny_pure ?_)
  have td : IsPair hd TO x q := ed.extBut _ _ D.TOi2 tc
  refine wpAny_bind (wpAny_seqItems td rfl (wpAny_bind (wpAny_updateSeq_pair td fun he te ee => ?_)))
  replace te : IsPair he TO x y := te
  refine wpAny_bind (wpAny_letGo (wpAny_pure (wpAny_pure (wpAny_bind (wpAny_seqItems te rfl (wpAny_bind (wpAny_newTuple ?_)))))))
  -- the pair is handed out
  have hsz : he.objs.size = s.heap.objs.size := by rw [ee.1, ed.1, ec.1, eb.1, ea.1]
  have ze : IsZip he z TI TO .ellipsis := ee.extBut _ _ D.TOz.symm (ed.extBut _ _ D.i2z.symm (ec.extBut _ _ D.TOz.symm (eb.extBut _ _ D.i1z.symm za)))
  have ke : Keeps z TO i1 i2 s.heap he := fun c o c1 c2 c3 c4 r => ee.extBut _ _ c2 (ed.extBut _ _ c4 (ec.extBut _ _ c2 (eb.extBut _ _ c3 (ea.extBut _ _ c1 r))))
  have ie := ((ib.ext ec.extBut D.TOi1.symm).ext ed.extBut D.i12).ext ee.extBut D.TOi1.symm
  have je := id'.ext ee.extBut D.TOi2.symm
  have zlt : z < he.objs.size := Heap.lt_size ze
  show wpAny _ _ (Builtin.SmallTypes.ownedTupleHandOut (.ref z) (.ref he.objs.size) >>= _) _ _ _
  refine wpAny_bind ?_
  unfold Builtin.SmallTypes.ownedTupleHandOut
  have zf : IsZip (he.push { cls := .type "tuple", data := .seq #[x, y] }) z TI TO .ellipsis := Heap.get?_push_of_some _ ze
  refine wpAny_bind (wpAny_setField_rec zf (by simp) fun hg zg eg => ?_)
  replace zg : IsZip hg z TI TO (rawInt he.objs.size) := zg
  refine wpAny_setField_rec zg (by simp) fun hk zk ek => ?_
  replace zk : IsZip hk z TI TO (rawInt he.objs.size) := zk
  have up : ∀ c o, c ≠ z → he.get? c = some o → hk.get? c = some o := fun c o c1 r => ek.extBut _ _ c1 (eg.extBut _ _ c1 (Heap.get?_push_of_some _ r))
  have pk : IsPair hk he.objs.size x y := ek.extBut _ _ (Nat.ne_of_gt zlt) (eg.extBut _ _ (Nat.ne_of_gt zlt) (Heap.get?_push_size _ rfl))
  have sk : hk.objs.size = he.objs.size + 1 := by rw [ek.1, eg.1, Heap.size_push]
  rw [hsz] at zk pk sk
  refine wpAny_pure ⟨_, rfl, ?_⟩
  show Q (.ref he.objs.size) _
  rw [hsz]
  exact hQ hk zk (up _ _ D.TOz te) (ie.here fun o r => up _ o D.i1z r) (je.here fun o r => up _ o D.i2z r) pk sk fun c o c1 c2 c3 c4 r => up c o c1 (ke c o c1 c2 c3 c4 r)
theorem pair_end {Q : Fin → Shared → Prop} (hh : A.handled = none) (D : ZipApart z TI TO i1 i2 l1 l2) (hz : IsZip s.heap z TI TO .none) (hTI : IsPair s.heap TI (.ref i1) (.ref i2)) (hTO : IsPair s.heap TO p q)
    (h1 : ItAt b1 s.heap i1 l1 k1) (h2 : ItAt b2 s.heap i2 l2 k2) (g1 : SqAt b1 s.heap l1 us) (g2 : SqAt b2 s.heap l2 ys) (hend : us[k1]? = none ∨ ys[k2]? = none)
    (hE : ∀ h' e, Keeps z TO i1 i2 s.heap h' → (∃ o, h'.get? e = some o ∧ o.cls = .type "StopIteration") → E (.ref e) { s with heap := h' }) : wpAny (model prog w) A (Builtin.«zip.__next__» ⟨[.ref z], []⟩) Q E s := by
  show wpAny _ _ (field (.ref z) 2 >>= _) _ _ _
  refine wpAny_bind (wpAny_field hz rfl (x := .bool false) rfl (show wpAny _ _ (field (.ref z) 3 >>= _) _ _ _ from wpAny_bind (wpAny_field hz rfl (x := .ref TI) rfl (wpAny_bind (wpAny_seqItems hTI rfl ?_)))))
  show wpAny _ _ (Builtin.SmallTypes.ownedTupleIsFree (.ref z) >>= _) _ _ _
  refine wpAny_bind ?_
  unfold Builtin.SmallTypes.ownedTupleIsFree
  refine wpAny_bind (wpAny_field hz rfl (x := .none) rfl (wpAny_pure ?_))
  simp only [if_true]
  refine wpAny_bind (wpAny_rule (wpAny_bind (wpAny_field hz rfl (x := .ref TO) rfl (wpAny_bind (wpAny_setField_rec hz (by simp) fun ha za ea => ?_)))))
  replace za : IsZip ha z TI TO .ellipsis := za
  refine wpAny_bind ?_
  simp only [List.zipIdx_cons, List.zipIdx_nil, List.forIn_cons, List.forIn_nil]
  refine wpAny_bind (wpAny_bind (wpAny_onRaise (show wpAny _ _ (Builtin.SmallTypes.nextOf (.ref i1) >>= _) _ _ _ from ?_)))
  have off : ∀ {h : Heap} {e : Addr}, IsZip h z TI TO .ellipsis → (∃ o, h.get? e = some o ∧ o.cls = .type "StopIteration") → e ≠ z := fun {h e} zz he w => by
    obtain ⟨o, ho, hc⟩ := he
    rw [w, zz] at ho
    cases ho
    simp at hc
  cases hx : us[k1]? with
  | none =>
    refine wpAny_bind (one_end hh (h1.ext ea.extBut D.i1z) (g1.ext ea.extBut D.l1z) hx fun hb e eb ee => ?_)
    have zb : IsZip hb z TI TO .ellipsis := eb _ _ D.i1z.symm za
    have ne := off zb ee
    obtain ⟨oe, hoe, hce⟩ := ee
    exact wpAny_setField_rec zb (by simp) fun hc _ ec => hE hc e (fun c o c1 _ c3 _ r => ec.extBut _ _ c1 (eb _ _ c3 (ea.extBut _ _ c1 r))) ⟨oe, ec.extBut _ _ ne hoe, hce⟩
  | some x =>
    have hy : ys[k2]? = none := hend.resolve_left fun n => by rw [hx] at n; cases n
    refine wpAny_bind (one_item (h1.ext ea.extBut D.i1z) (g1.ext ea.extBut D.l1z) hx fun hb ib eb => wpAny_pure ?_)
    have tb : IsPair hb TO p q := eb.extBut _ _ D.TOi1 (ea.extBut _ _ D.TOz hTO)
    refine wpAny_bind (wpAny_seqItems tb rfl (wpAny_bind (wpAny_updateSeq_pair tb fun hc tc ec => wpAny_bind (wpAny_letGo (wpAny_pure ?_)))))
    refine wpAny_bind (wpAny_bind (wpAny_onRaise (show wpAny _ _ (Builtin.SmallTypes.nextOf (.ref i2) >>= _) _ _ _ from ?_)))
    refine wpAny_bind (one_end hh (((h2.ext ea.extBut D.i2z).ext eb.extBut D.i12.symm).ext ec.extBut D.TOi2.symm) (((g2.ext ea.extBut D.l2z).ext eb.extBut D.l2i1).ext ec.extBut D.l2TO) hy fun hd e ed ee => ?_)
    have zd : IsZip hd z TI TO .ellipsis := ed _ _ D.i2z.symm (ec.extBut _ _ D.TOz.symm (eb.extBut _ _ D.i1z.symm za))
    have ne := off zd ee
    obtain ⟨oe, hoe, hce⟩ := ee
    exact wpAny_setField_rec zd (by simp) fun hf _ ef => hE hf e (fun c o c1 c2 c3 c4 r => ef.extBut _ _ c1 (ed _ _ c4 (ec.extBut _ _ c2 (eb.extBut _ _ c3 (ea.extBut _ _ c1 r))))) ⟨oe, ef.extBut _ _ ne hoe, hce⟩
theorem next_item {Q : Option Value → Shared → Prop} (D : ZipApart z TI TO i1 i2 l1 l2) (hz : IsZip s.heap z TI TO .none) (hTI : IsPair s.heap TI (.ref i1) (.ref i2)) (hTO : IsPair s.heap TO p q)
    (h1 : ItAt b1 s.heap i1 l1 k1) (h2 : ItAt b2 s.heap i2 l2 k2) (g1 : SqAt b1 s.heap l1 us) (g2 : SqAt b2 s.heap l2 ys) (hx : us[k1]? = some x) (hy : ys[k2]? = some y)
    (hQ : ∀ h', IsZip h' z TI TO (rawInt s.heap.objs.size) → IsPair h' TO x y → ItAt b1 h' i1 l1 (k1 + 1) → ItAt b2 h' i2 l2 (k2 + 1) → IsPair h' s.heap.objs.size x y → h'.objs.size = s.heap.objs.size + 1 → Keeps z TO i1 i2 s.heap h' → Q (some (.ref s.heap.objs.size)) { s with heap := h' }) :
    wpAny (model prog w) A (pyNext (.ref z)) Q E s := by
  have hT : s.TypeIs (.ref z) "zip" := ⟨_, hz, rfl⟩
  unfold pyNext
  exact wpAny_bind (wpAny_attempt (wpAny_callSpecial?_slot (name := Str.ofString "__next__") hT F.slot_zip_next (wpAny_call_entry F.slot_zip_next hT F.entry_zip_next
    (pair_item D hz hTI hTO h1 h2 g1 g2 hx hy fun h' a1 a2 a3 a4 a5 a6 a7 => wpAny_pure (hQ h' a1 a2 a3 a4 a5 a6 a7)) (F.args_zip_next_1 _))))
theorem next_end {Q : Option Value → Shared → Prop} (hh : A.handled = none) (D : ZipApart z TI TO i1 i2 l1 l2) (hz : IsZip s.heap z TI TO .none) (hTI : IsPair s.heap TI (.ref i1) (.ref i2)) (hTO : IsPair s.heap TO p q)
    (h1 : ItAt b1 s.heap i1 l1 k1) (h2 : ItAt b2 s.heap i2 l2 k2) (g1 : SqAt b1 s.heap l1 us) (g2 : SqAt b2 s.heap l2 ys) (hend : us[k1]? = none ∨ ys[k2]? = none)
    (hQ : ∀ h', Keeps z TO i1 i2 s.heap h' → Q none { s with heap := h' }) : wpAny (model prog w) A (pyNext (.ref z)) Q E s := by
  have hT : s.TypeIs (.ref z) "zip" := ⟨_, hz, rfl⟩
  unfold pyNext
  refine wpAny_bind (wpAny_attempt (wpAny_callSpecial?_slot (name := Str.ofString "__next__") hT F.slot_zip_next (wpAny_call_entry F.slot_zip_next hT F.entry_zip_next
    (pair_end hh D hz hTI hTO h1 h2 g1 g2 hend fun h' e hk he => ?_) (F.args_zip_next_1 _))))
  obtain ⟨o, ho, hc⟩ := he
  exact wpAny_bind (wpAny_isInstance (T := "StopIteration") (b := true) ⟨o, ho, hc⟩ isSubtype_stop (wpAny_pure (hQ _ hk)))
end
/-- the iterator that is asked of a list, of a tuple -/
def iterO (b : Bool) (l : Addr) : Obj := match b with
  | true => { cls := .type "tuple_iterator", data := .fields #[.ref l, .int 0 0] }
  | false => { cls := .type "list_iterator", data := .fields #[.ref l, .int 0 0] }
abbrev hA (b1 : Bool) (h : Heap) (l1 : Addr) : Heap := h.push (iterO b1 l1)
abbrev hB (b1 b2 : Bool) (h : Heap) (l1 l2 : Addr) : Heap := (hA b1 h l1).push (iterO b2 l2)
abbrev hC (b1 b2 : Bool) (h : Heap) (l1 l2 : Addr) : Heap := (hB b1 b2 h l1 l2).push { cls := .type "tuple", data := .seq #[.ref h.objs.size, .ref (hA b1 h l1).objs.size] }
abbrev hD (b1 b2 : Bool) (h : Heap) (l1 l2 : Addr) : Heap := (hC b1 b2 h l1 l2).push { cls := .type "tuple", data := .seq #[.none, .none] }
abbrev hE (b1 b2 : Bool) (h : Heap) (l1 l2 : Addr) : Heap := (hD b1 b2 h l1 l2).push { cls := .type "zip", data := .fields #[.none, .bool false, .bool false, .ref (hB b1 b2 h l1 l2).objs.size, .ref (hC b1 b2 h l1 l2).objs.size] }
theorem meets_LT (l1 l2 : Addr) (xs ys : Array Value) : Meets (Builtin.«zip.__new__» ⟨[.type "zip", .ref l1, .ref l2], []⟩) (fun _ R s => s.heap.IsList l1 xs ∧ s.heap.IsTuple l2 ys ∧ R (.ok (.ret (.ref (hD false true s.heap l1 l2).objs.size))) { s with heap := hE false true s.heap l1 l2 }) :=
  .of_wp fun prog w A R s h => by
    obtain ⟨hp, g, d, tk, os⟩ := s
    obtain ⟨hl1, hl2, h⟩ := h
    have hsub := sub_zip
    have a1 : Heap.IsList (Shared.heap ⟨hp, g, d, tk, os⟩) l1 xs := hl1
    have a2 : Heap.IsTuple (Shared.heap ⟨hp.push { cls := .type "list_iterator", data := .fields #[.ref l1, .int 0 0] }, g, d, tk, os⟩) l2 ys := Heap.IsTuple.push hl2 _
    wp_walk using wpAny_pyIter_list a1, wpAny_pyIter_tuple a2
    exact ⟨_, rfl, h⟩
theorem meets_TL (l1 l2 : Addr) (xs ys : Array Value) : Meets (Builtin.«zip.__new__» ⟨[.type "zip", .ref l1, .ref l2], []⟩) (fun _ R s => s.heap.IsTuple l1 xs ∧ s.heap.IsList l2 ys ∧ R (.ok (.ret (.ref (hD true false s.heap l1 l2).objs.size))) { s with heap := hE true false s.heap l1 l2 }) :=
  .of_wp fun prog w A R s h => by
    obtain ⟨hp, g, d, tk, os⟩ := s
    obtain ⟨hl1, hl2, h⟩ := h
    have hsub := sub_zip
    have a1 : Heap.IsTuple (Shared.heap ⟨hp, g, d, tk, os⟩) l1 xs := hl1
    have a2 : Heap.IsList (Shared.heap ⟨hp.push { cls := .type "tuple_iterator", data := .fields #[.ref l1, .int 0 0] }, g, d, tk, os⟩) l2 ys := Heap.IsList.push hl2 _
    wp_walk using wpAny_pyIter_tuple a1, wpAny_pyIter_list a2
    exact ⟨_, rfl, h⟩
section
variable {prog : Program} {w : World} {A : Around} {E : Value → Shared → Prop} {s : Shared}
theorem zip_made {b1 b2 : Bool} {l1 l2 : Addr} {Q : Value → Shared → Prop}
    (h : ∀ h', IsZip h' (s.heap.objs.size + 4) (s.heap.objs.size + 2) (s.heap.objs.size + 3) .none → IsPair h' (s.heap.objs.size + 2) (.ref s.heap.objs.size) (.ref (s.heap.objs.size + 1)) →
      IsPair h' (s.heap.objs.size + 3) .none .none → ItAt b1 h' s.heap.objs.size l1 0 → ItAt b2 h' (s.heap.objs.size + 1) l2 0 → (∀ c o, s.heap.get? c = some o → h'.get? c = some o) → Q (.ref (s.heap.objs.size + 4)) { s with heap := h' }) :
    (({ s with heap := hE b1 b2 s.heap l1 l2 } : Shared).TypeIs (.ref (hD b1 b2 s.heap l1 l2).objs.size) "zip") ∧ Q (.ref (hD b1 b2 s.heap l1 l2).objs.size) { s with heap := hE b1 b2 s.heap l1 l2 } := by
  have z1 : (hA b1 s.heap l1).objs.size = s.heap.objs.size + 1 := Heap.size_push ..
  have z2 : (hB b1 b2 s.heap l1 l2).objs.size = s.heap.objs.size + 2 := by rw [Heap.size_push, z1]
  have z3 : (hC b1 b2 s.heap l1 l2).objs.size = s.heap.objs.size + 3 := by rw [Heap.size_push, z2]
  have z4 : (hD b1 b2 s.heap l1 l2).objs.size = s.heap.objs.size + 4 := by rw [Heap.size_push, z3]
  have n1 : Obj.isFreed (iterO b1 l1) = false := by cases b1 <;> rfl
  have n2 : Obj.isFreed (iterO b2 l2) = false := by cases b2 <;> rfl
  have g5 : (hE b1 b2 s.heap l1 l2).get? (hD b1 b2 s.heap l1 l2).objs.size = some _ := Heap.get?_push_size _ rfl
  have g4 : (hE b1 b2 s.heap l1 l2).get? (hC b1 b2 s.heap l1 l2).objs.size = some _ := Heap.get?_push_of_some _ (Heap.get?_push_size _ rfl)
  have g3 : (hE b1 b2 s.heap l1 l2).get? (hB b1 b2 s.heap l1 l2).objs.size = some _ := Heap.get?_push_of_some _ (Heap.get?_push_of_some _ (Heap.get?_push_size _ rfl))
  have g2 : (hE b1 b2 s.heap l1 l2).get? (hA b1 s.heap l1).objs.size = some (iterO b2 l2) := Heap.get?_push_of_some _ (Heap.get?_push_of_some _ (Heap.get?_push_of_some _ (Heap.get?_push_size _ n2)))
  have g1 : (hE b1 b2 s.heap l1 l2).get? s.heap.objs.size = some (iterO b1 l1) := Heap.get?_push_of_some _ (Heap.get?_push_of_some _ (Heap.get?_push_of_some _ (Heap.get?_push_of_some _ (Heap.get?_push_size _ n1))))
  rw [z2, z3, z4] at g5
  rw [z1, z2] at g3
  rw [z3] at g4
  rw [z1] at g2
  rw [z4]
  have it : ∀ {b : Bool} {h : Heap} {i l : Addr}, h.get? i = some (iterO b l) → ItAt b h i l 0 := fun {b h i l} e => by
    cases b
    · exact ⟨_, e, rfl, rfl⟩
    · exact ⟨_, e, rfl, rfl⟩
  exact ⟨⟨_, g5, rfl⟩, h _ g5 g3 g4 (it g1) (it g2) fun c o x => Heap.get?_push_of_some _ (Heap.get?_push_of_some _ (Heap.get?_push_of_some _ (Heap.get?_push_of_some _ (Heap.get?_push_of_some _ x))))⟩
theorem call_LT {l1 l2 : Addr} {xs ys : Array Value} {Q : Value → Shared → Prop} (hl1 : s.heap.IsList l1 xs) (hl2 : s.heap.IsTuple l2 ys)
    (h : ∀ h', IsZip h' (s.heap.objs.size + 4) (s.heap.objs.size + 2) (s.heap.objs.size + 3) .none → IsPair h' (s.heap.objs.size + 2) (.ref s.heap.objs.size) (.ref (s.heap.objs.size + 1)) →
      IsPair h' (s.heap.objs.size + 3) .none .none → ItAt false h' s.heap.objs.size l1 0 → ItAt true h' (s.heap.objs.size + 1) l2 0 → (∀ c o, s.heap.get? c = some o → h'.get? c = some o) → Q (.ref (s.heap.objs.size + 4)) { s with heap := h' }) :
    wpAny (model prog w) A (call (.type "zip") [.ref l1, .ref l2]) Q E s :=
  callType_new F.called_zip (by decide) (F.typeCall_zip_2 _ _) (F.newCall_zip_2 _ _) (fun obj => F.args_object_init_3 obj _ _) F.entry_zip_new (meets_LT l1 l2 xs ys) ⟨hl1, hl2, zip_made h⟩
theorem call_TL {l1 l2 : Addr} {xs ys : Array Value} {Q : Value → Shared → Prop} (hl1 : s.heap.IsTuple l1 xs) (hl2 : s.heap.IsList l2 ys)
    (h : ∀ h', IsZip h' (s.heap.objs.size + 4) (s.heap.objs.size + 2) (s.heap.objs.size + 3) .none → IsPair h' (s.heap.objs.size + 2) (.ref s.heap.objs.size) (.ref (s.heap.objs.size + 1)) →
      IsPair h' (s.heap.objs.size + 3) .none .none → ItAt true h' s.heap.objs.size l1 0 → ItAt false h' (s.heap.objs.size + 1) l2 0 → (∀ c o, s.heap.get? c = some o → h'.get? c = some o) → Q (.ref (s.heap.objs.size + 4)) { s with heap := h' }) :
    wpAny (model prog w) A (call (.type "zip") [.ref l1, .ref l2]) Q E s :=
  callType_new F.called_zip (by decide) (F.typeCall_zip_2 _ _) (F.newCall_zip_2 _ _) (fun obj => F.args_object_init_3 obj _ _) F.entry_zip_new (meets_TL l1 l2 xs ys) ⟨hl1, hl2, zip_made h⟩
end
/-! ### the walk -/
def SqV (b : Bool) (K : PySem.W.Frag) (H : Hp) (a : Addr) (xs : List V) : Prop := match b with
  | true => SqT K H a xs
  | false => SqL K H a xs
def ItzM (b1 b2 : Bool) (K : PySem.W.Frag) (a b : Addr) : It :=
  ⟨fun i H => ∃ (xs ys : List V) (x y : V), SqV b1 K H a xs ∧ SqV b2 K H b ys ∧ xs[i]? = some x ∧ ys[i]? = some y,
    fun i H v H' => ∃ T x y, v = .ref T ∧ H T = none ∧ H' = upd H T (.tup [x, y]) ∧ (∀ xs, SqV b1 K H a xs → xs[i]? = some x) ∧ ∀ ys, SqV b2 K H b ys → ys[i]? = some y,
    fun i H => ∃ xs ys : List V, SqV b1 K H a xs ∧ SqV b2 K H b ys ∧ (xs.length ≤ i ∨ ys.length ≤ i)⟩
section
variable {X : Cx} {pins : List (Addr × Obj)} {σ : L2.St} {H : Hp} {s : Shared} {a : Addr} {xs ys : List V}
theorem sq_at {b : Bool} (I : Inv X pins σ H s) (h : SqV b X.K H a xs) : ∃ its : List Value, Vals xs its ∧ SqAt b s.heap a its.toArray := by
  cases b
  · obtain ⟨its, rv, pl, _⟩ := I.list h
    exact ⟨its, rv, pl.isList⟩
  · obtain ⟨its, rv, pl, _⟩ := I.tuple h
    exact ⟨its, rv, pl⟩
theorem sq_inj {b : Bool} (I : Inv X pins σ H s) (h : SqV b X.K H a xs) (h' : SqV b X.K H a ys) : xs = ys := by
  cases b
  · exact I.list_inj h h'
  · exact I.tuple_inj h h'
end
end MirZ
set_option maxHeartbeats 2000000
/-! for .. in zip(list, tuple), zip(tuple, list) -/
namespace MirZ
open PySem PySem.Spec PyProof.Rows L2
theorem five {z TI TO i1 i2 c : Addr} (h : c ∈ [z, TI, TO, i1, i2]) : c = z ∨ c = TI ∨ c = TO ∨ c = i1 ∨ c = i2 := by simpa using h
theorem turn_M {b1 b2 : Bool} {P : Program} {w : World} {K : PySem.W.Frag} {elts : List Expr} {kk : Nat} {tpos : Pos} {a b z TI TO i1 i2 : Addr} (D : ZipApart z TI TO i1 i2 a b) :
    Turn P w K (.Tuple elts kk tpos) (ItzM b1 b2 K a b) [z, TI, TO, i1, i2] z (fun i h => IsZip h z TI TO .none ∧ IsPair h TI (.ref i1) (.ref i2) ∧ (∃ x y, IsPair h TO x y) ∧ ItAt b1 h i1 a i ∧ ItAt b2 h i2 b i) where
  mem := by simp
  obj := fun i h ⟨hz, hTI, ⟨x, y, hTO⟩, h1, h2⟩ c hc => by
    rcases five hc with q | q | q | q | q <;> rw [q]
    · exact ⟨_, hz, fun v q => nomatch q⟩
    · exact ⟨_, hTI, fun v q => nomatch q⟩
    · exact ⟨_, hTO, fun v q => nomatch q⟩
    · exact h1.obj
    · exact h2.obj
  keep := fun i h h' ⟨hz, hTI, ⟨x, y, hTO⟩, h1, h2⟩ k => ⟨k z (by simp) _ hz, k TI (by simp) _ hTI, ⟨x, y, k TO (by simp) _ hTO⟩, h1.here fun o q => k i1 (by simp) o q, h2.here fun o q => k i2 (by simp) o q⟩
  item := by
    intro X hP hw hK hc i pins s σ H E I hf st hg
    subst hP hw hK
    obtain ⟨hz, hTI, ⟨x0, y0, hTO⟩, h1, h2⟩ := st
    obtain ⟨xs, ys, x, y, hqx, hqy, hx, hy⟩ := hg
    obtain ⟨its, rv, p⟩ := sq_at I hqx
    obtain ⟨its2, rv2, p2⟩ := sq_at I hqy
    obtain ⟨u, hu, ru⟩ := rv.get hx
    obtain ⟨u2, hu2, ru2⟩ := rv2.get hy
    have hzl : z < s.heap.objs.size := Heap.lt_size hz
    refine next_item D hz hTI hTO h1 h2 p p2 (x := u) (y := u2) (by simpa using hu) (by simpa using hu2) fun h' z' TO' h1' h2' hT hsz hk => ?_
    refine ⟨_, rfl, wpAny_letOwnedTupleGo_zip (s := { s with heap := h' }) z' fun h'' z'' sb => ?_⟩
    have hT2 : h''.get? s.heap.objs.size = some { cls := .type "tuple", data := .seq #[u, u2] } := (sb.2 _ (Nat.ne_of_gt hzl)).trans hT
    have new : ObjOk X.prog X.w (upd H s.heap.objs.size (.tup [x, y])) h'' s.heap.objs.size (.tup [x, y]) := ⟨by show 2 ≤ sizeLine; decide, [u, u2], .cons ru (.cons ru2 .nil), ⟨_, hT2, rfl, _, rfl⟩⟩
    have keep : ∀ c o, c ∉ [z, TI, TO, i1, i2] → s.heap.get? c = some o → h''.get? c = some o := fun c o hb q =>
      (sb.2 c fun e => hb (by simp [e])).trans (hk c o (fun e => hb (by simp [e])) (fun e => hb (by simp [e])) (fun e => hb (by simp [e])) (fun e => hb (by simp [e])) q)
    have I1 : Inv X pins σ (upd H s.heap.objs.size (.tup [x, y])) { s with heap := h'' } := I.turnedNew (t' := s.toks) (ch := [z, TI, TO, i1, i2]) keep hf (Nat.le_refl _) new
    refine ⟨.ref s.heap.objs.size, _, I1, rfl, ⟨_, x, y, rfl, I.hok.fresh (Nat.le_refl _), rfl, fun l hl => by rw [sq_inj I hl hqx]; exact hx, fun l hl => by rw [sq_inj I hl hqy]; exact hy⟩, ⟨z'', ?_, ⟨u, u2, ?_⟩, ?_, ?_⟩, fun c hcm => ?_⟩
    · exact (sb.2 _ D.TIz).trans (hk _ _ D.TIz D.TITO D.TIi1 D.TIi2 hTI)
    · exact (sb.2 _ D.TOz).trans TO'
    · exact h1'.here fun o q => (sb.2 _ D.i1z).trans q
    · exact h2'.here fun o q => (sb.2 _ D.i2z).trans q
    · have hlt : c < s.heap.objs.size := by
        rcases five hcm with q | q | q | q | q <;> rw [q]
        · exact hzl
        · exact Heap.lt_size hTI
        · exact Heap.lt_size hTO
        · exact h1.lt
        · exact h2.lt
      rw [upd_ne (Nat.ne_of_lt hlt)]
      exact (hf c hcm).1
  done := by
    intro X hP hw hK hc i pins s σ H E I hf st hg
    subst hP hw hK
    obtain ⟨hz, hTI, ⟨x0, y0, hTO⟩, h1, h2⟩ := st
    obtain ⟨xs, ys, hqx, hqy, hend⟩ := hg
    obtain ⟨its, rv, p⟩ := sq_at I hqx
    obtain ⟨its2, rv2, p2⟩ := sq_at I hqy
    have l1 := rv.length
    have l2 := rv2.length
    have he : its.toArray[i]? = none ∨ its2.toArray[i]? = none := by
      rcases hend with q | q
      · exact .inl (by simp; omega)
      · exact .inr (by simp; omega)
    exact next_end (I.ok.hd hc) D hz hTI hTO h1 h2 p p2 he fun h' hk => ⟨rfl, I.turnedL (t' := s.toks) (ch := [z, TI, TO, i1, i2]) (fun c o hb q =>
      hk c o (fun e => hb (by simp [e])) (fun e => hb (by simp [e])) (fun e => hb (by simp [e])) (fun e => hb (by simp [e])) q) hf⟩
  self := fun A i s Q E st h => wpAny_pyIter_zip st.1 h
def iZipM (K : PySem.W.Frag) (ta : TA) : TI := fun σ H R => ta σ H fun vs H1 => ∃ a b xs ys, vs = [.ref a, .ref b] ∧ ((SqL K H1 a xs ∧ SqT K H1 b ys ∧ R (ItzM false true K a b) H1) ∨ (SqT K H1 a xs ∧ SqL K H1 b ys ∧ R (ItzM true false K a b) H1))
theorem pi_zipM {X : Cx} {e e2 : Expr} {ta : TA} {p pos tpos : Pos} {elts : List Expr} {kk : Nat} (hg : Gl X "zip") (hm : X.mg "zip" = none) (ha : PA X [e, e2] ta)
    (hs : starEach [e, e2] X.env = (false, eval e X.env) :: starEach [e2] X.env := by rfl) (hpl : (backTo pos (starEach [e2] X.env)).any (·.1) = false := by rfl) :
    PI X (.Tuple elts kk tpos) (.Call (.Name "zip" p) [e, e2] [] pos) (iZipM X.K ta) := by
  refine ⟨fun pins s σ H R I h => ?_⟩
  refine Call_ (ld_blt I hg hm PyProof.Rows.boot_zip (PyProof.Rows.callWith_type1 (thn (ha.run pos pins s σ H _ I h) fun us s1 ⟨vs, H1, I1, r1, q1⟩ => ?_) hs hpl))
  obtain ⟨a, b, xs, ys, ex, q1⟩ := q1
  subst ex
  obtain ⟨u, v, rfl, r, r'⟩ := Vals.two r1
  cases r
  cases r'
  have fresh5 : ∀ c, c ∈ [s1.heap.objs.size + 4, s1.heap.objs.size + 2, s1.heap.objs.size + 3, s1.heap.objs.size, s1.heap.objs.size + 1] → FpOk X pins H1 c := fun c hcm => by
    have hle : s1.heap.objs.size ≤ c := by
      rcases five hcm with z | z | z | z | z <;> rw [z]
      · exact Nat.le_add_right _ _
      · exact Nat.le_add_right _ _
      · exact Nat.le_add_right _ _
      · exact Nat.le_refl _
      · exact Nat.le_add_right _ _
    exact I1.fpOk hle (I1.hok.fresh hle)
  rcases q1 with ⟨hqx, hqy, q⟩ | ⟨hqx, hqy, q⟩
  · obtain ⟨its, rv, p1, _⟩ := I1.list hqx
    obtain ⟨its2, rv2, p2, _⟩ := I1.tuple hqy
    obtain ⟨o2, ho2, _⟩ := id p2
    refine call_LT p1.isList (show s1.heap.IsTuple b its2.toArray from p2) fun h' hz hTI hTO h1 h2 hk => wpAny_pyIter_zip hz ?_
    have I2 : Inv X pins σ H1 { s1 with heap := h' } := I1.kept (t' := s1.toks) hk
    exact ⟨s1.heap.objs.size + 4, [s1.heap.objs.size + 4, s1.heap.objs.size + 2, s1.heap.objs.size + 3, s1.heap.objs.size, s1.heap.objs.size + 1], _, _, H1, rfl, I2, turn_M (PySem.W.ktu_apart s1.heap.objs.size a b p1.lt (Heap.lt_size ho2)), ⟨hz, hTI, ⟨_, _, hTO⟩, h1, h2⟩, fresh5, q⟩
  · obtain ⟨its, rv, p1, _⟩ := I1.tuple hqx
    obtain ⟨its2, rv2, p2, _⟩ := I1.list hqy
    obtain ⟨o1, ho1, _⟩ := id p1
    refine call_TL (show s1.heap.IsTuple a its.toArray from p1) p2.isList fun h' hz hTI hTO h1 h2 hk => wpAny_pyIter_zip hz ?_
    have I2 : Inv X pins σ H1 { s1 with heap := h' } := I1.kept (t' := s1.toks) hk
    exact ⟨s1.heap.objs.size + 4, [s1.heap.objs.size + 4, s1.heap.objs.size + 2, s1.heap.objs.size + 3, s1.heap.objs.size, s1.heap.objs.size + 1], _, _, H1, rfl, I2, turn_M (PySem.W.ktu_apart s1.heap.objs.size a b (Heap.lt_size ho1) p2.lt), ⟨hz, hTI, ⟨_, _, hTO⟩, h1, h2⟩, fresh5, q⟩
end MirZ
namespace Mir
open PySem PySem.Spec PyProof.Rows L2 MirZ
section
variable {X : Cx} {R : XR} {E : XK} {pos tpos : Pos} {e e2 : Expr} {ma mb : Rho → M Sl} {elts : List Expr} {kk : Nat}
/-- a sequence's items, and whether it is a tuple -/
def kindS : Sl → Option (Bool × List D)
  | .d (.tuple ds) => some (true, ds)
  | .d (.list ds) => some (false, ds)
  | _ => none
def mZipX (ma mb : Rho → M Sl) : Rho → M (List D) := fun ρ cs => (ma ρ cs).bind fun x cs1 => (mb ρ cs1).bind fun y cs2 => match kindS x, kindS y with
  | some (_, a), some (_, b) => .ok (zipD a b) cs2
  | _, _ => .bad
theorem kind_sh {K : PySem.W.Frag} {O A : List Addr} {H : Hp} {v : V} {sl : Sl} {b : Bool} {ds : List D} (s : ShS K O A H v sl) (e : kindS sl = some (b, ds)) : ∃ a vs, v = .ref a ∧ SqV b K (hid (O ++ A) H) a vs ∧ ShA K (hid (O ++ A) H) vs ds := by
  unfold kindS at e
  split at e
  · cases e
    cases s with
    | tup h t => exact ⟨_, _, rfl, h, t⟩
  · cases e
    cases s with
    | lst h t => exact ⟨_, _, rfl, .inl (.inl h), t⟩
  · cases e
theorem sqv_same {K : PySem.W.Frag} {b : Bool} {H H' : Hp} {a : Addr} {vs : List V} (e : Same H H') (h : SqV b K H a vs) : SqV b K H' a vs := by
  cases b
  · exact e.seq h
  · exact SqT.same e h
theorem feeds_M {K : PySem.W.Frag} {b1 b2 : Bool} {O A0 : List Addr} {H0 : Hp} {a b : Addr} {vs ws : List V} {ds es : List D} (h1 : SqV b1 K (hid (O ++ A0) H0) a vs) (t1 : ShA K (hid (O ++ A0) H0) vs ds) (h2 : SqV b2 K (hid (O ++ A0) H0) b ws) (t2 : ShA K (hid (O ++ A0) H0) ws es) :
    Feeds K O A0 H0 (ItzM b1 b2 K a b) (zipD ds es) := by
  intro O' A cs H hO s ok i
  have ee := same_ext hO s
  have l1 := sqv_same hid_same (sqv_same ee h1)
  have l2 := sqv_same hid_same (sqv_same ee h2)
  refine ⟨fun hi => ⟨_, _, l1, l2, ?_⟩, fun d hd => ?_⟩
  · rw [t1.length, t2.length]
    unfold zipD at hi
    rw [List.length_zipWith] at hi
    omega
  · obtain ⟨da, db, e1, e2, rfl⟩ := zip_at hd
    obtain ⟨v1, g1, s1⟩ := t1.get e1
    obtain ⟨v2, g2, s2⟩ := t2.get e2
    refine ⟨⟨_, _, v1, v2, l1, l2, g1, g2⟩, fun x H' y => ?_⟩
    obtain ⟨T, x1, x2, rfl, nT, rfl, f1, f2⟩ := y
    have ex1 := f1 _ l1
    have ex2 := f2 _ l2
    rw [g1] at ex1
    rw [g2] at ex2
    cases ex1
    cases ex2
    exact tup2 ok nT (s1.mono ee) (s2.mono ee)
theorem feeds_as {K : PySem.W.Frag} {O A0 : List Addr} {H0 : Hp} {J J' : It} {items : List D} (h : Feeds K O A0 H0 J items) (e1 : ∀ i H, J.stop i H → J'.stop i H) (e2 : ∀ i H, J.go i H → J'.go i H) (e3 : ∀ i H v H', J'.yld i H v H' → J.yld i H v H') : Feeds K O A0 H0 J' items := by
  intro O' A cs H hO s ok i
  obtain ⟨f1, f2⟩ := h O' A cs H hO s ok i
  exact ⟨fun hi => e1 _ _ (f1 hi), fun d hd => ⟨e2 _ _ (f2 d hd).1, fun x H' y => (f2 d hd).2 x H' (e3 _ _ _ _ y)⟩⟩
theorem im_zipX {p : Pos} (hg : Gl X "zip") (hm : X.mg "zip" = none) (h : EM X R E e ma) (h2 : EM X R E e2 mb) (hs : starEach [e, e2] X.env = (false, eval e X.env) :: starEach [e2] X.env := by rfl) (hs2 : starEach [e2] X.env = (false, eval e2 X.env) :: starEach [] X.env := by rfl)
    (hpl : (backTo pos (starEach [e2] X.env)).any (·.1) = false := by rfl) : IM X R E (.Tuple elts kk tpos) (.Call (.Name "zip" p) [e, e2] [] pos) (mZipX ma mb) := by
  obtain ⟨t, pt, k⟩ := h
  obtain ⟨u, pu, k2⟩ := h2
  refine ⟨_, pi_or (RZ.pi_zipA hg hm (pa_cons pt (pa_cons pu pa_nil hs2) hs) hs hpl) (pi_zipM hg hm (pa_cons pt (pa_cons pu pa_nil hs2) hs) hs hpl), fun O A ρ cs σ H ok rk S h => ?_⟩
  cases hx : ma ρ cs with
  | bad =>
    unfold mZipX at h
    rw [hx] at h
    exact (show False from h).elim
  | exc x c =>
    refine .inl (k O A ρ cs σ H ok rk _ ?_)
    unfold mZipX at h
    rw [hx] at h ⊢
    exact h
  | ok sx cs1 =>
    cases hy : mb ρ cs1 with
    | bad =>
      unfold mZipX at h
      rw [hx] at h
      simp only [Res.bind, hy] at h
      exact (show False from h).elim
    | exc x c =>
      unfold mZipX at h
      rw [hx] at h
      simp only [Res.bind, hy] at h
      refine .inl (k O A ρ cs σ H ok rk _ ?_)
      rw [hx]
      intro x A1 H1 s1 ok1 r1
      refine k2 O A1 ρ cs1 σ H1 ok1 (rk.step s1) _ ?_
      rw [hy]
      exact fun A' H' cls dx s' ok r => h A' H' cls dx (s1.trans s') ok r
    | ok sy cs2 =>
      have h' := h
      unfold mZipX at h'
      rw [hx] at h'
      simp only [Res.bind, hy] at h'
      cases ex : kindS sx with
      | none =>
        rw [ex] at h'
        exact (show False from h').elim
      | some px =>
        cases ey : kindS sy with
        | none =>
          rw [ex, ey] at h'
          exact (show False from h').elim
        | some py =>
          obtain ⟨b1, ds⟩ := px
          obtain ⟨b2, es⟩ := py
          rw [ex, ey] at h'
          have go : ∀ {W : V → V → Hp → Prop}, (∀ x y A2 H2, Stp A H A2 H2 → Ok X.K O A2 cs2 H2 → ShS X.K O A2 H2 x sx → ShS X.K O A2 H2 y sy → W x y H2) → t σ H fun x H1 => u σ H1 fun y H2 => W x y H2 := fun {W} w => by
            refine k O A ρ cs σ H ok rk _ ?_
            rw [hx]
            intro x A1 H1 s1 ok1 r1
            refine k2 O A1 ρ cs1 σ H1 ok1 (rk.step s1) _ ?_
            rw [hy]
            exact fun y A2 H2 s2 ok2 r2 => w x y A2 H2 (s1.trans s2) ok2 (r1.step s2) r2
          have mk : ∀ {x y : V} {A2 : List Addr} {H2 : Hp}, ShS X.K O A2 H2 x sx → ShS X.K O A2 H2 y sy → ∃ a b vs ws, x = .ref a ∧ y = .ref b ∧ SqV b1 X.K H2 a vs ∧ SqV b2 X.K H2 b ws ∧ Feeds X.K O A2 H2 (ItzM b1 b2 X.K a b) (zipD ds es) := fun r1 r2 => by
            obtain ⟨a, vs, e1, q1, t1⟩ := kind_sh r1 ex
            obtain ⟨b, ws, e2, q2, t2⟩ := kind_sh r2 ey
            exact ⟨a, b, vs, ws, e1, e2, sqv_same hid_same q1, sqv_same hid_same q2, feeds_M q1 t1 q2 t2⟩
          cases b1 <;> cases b2
          · refine .inl (go fun x y A2 H2 s ok2 r1 r2 => ?_)
            obtain ⟨a, b, vs, ws, rfl, rfl, q1, q2, fd⟩ := mk r1 r2
            exact ⟨a, b, vs, ws, rfl, .inl ⟨q1, q2, h' _ A2 H2 s ok2 (feeds_as fd (fun _ _ z => z) (fun _ _ z => z) fun _ _ _ _ z => z)⟩⟩
          · refine .inr (go fun x y A2 H2 s ok2 r1 r2 => ?_)
            obtain ⟨a, b, vs, ws, rfl, rfl, q1, q2, fd⟩ := mk r1 r2
            exact ⟨a, b, vs, ws, rfl, .inl ⟨q1, q2, h' _ A2 H2 s ok2 fd⟩⟩
          · refine .inr (go fun x y A2 H2 s ok2 r1 r2 => ?_)
            obtain ⟨a, b, vs, ws, rfl, rfl, q1, q2, fd⟩ := mk r1 r2
            exact ⟨a, b, vs, ws, rfl, .inr ⟨q1, q2, h' _ A2 H2 s ok2 fd⟩⟩
          · refine .inl (go fun x y A2 H2 s ok2 r1 r2 => ?_)
            obtain ⟨a, b, vs, ws, rfl, rfl, q1, q2, fd⟩ := mk r1 r2
            exact ⟨a, b, vs, ws, rfl, .inr ⟨q1, q2, h' _ A2 H2 s ok2 (feeds_as fd (fun _ _ z => z) (fun _ _ z => z) fun _ _ _ _ z => z)⟩⟩
end
section
variable {PL : List D → List HC → Prop} {cs : List HC} {ρ : Rho} {ma mb : Rho → M Sl}
theorem wp_zipX (h : Wp (ma ρ cs) fun x cs1 => Wp (mb ρ cs1) fun y cs2 => ∃ a b, kindS x = some a ∧ kindS y = some b ∧ PL (zipD a.2 b.2) cs2) : Wp (mZipX ma mb ρ cs) PL := wp_bind (h.mono fun _ _ q1 => wp_bind (q1.mono fun _ _ ⟨a, b, e1, e2, q2⟩ => by
  obtain ⟨a1, a2⟩ := a
  obtain ⟨b1, b2⟩ := b
  rw [e1, e2]
  exact q2))
end
end Mir
set_option maxHeartbeats 2000000
/-! loops and comprehensions over lists that may change: the item is looked up turn by turn -/
namespace Mir
open PySem PySem.Spec PyProof.Rows L2 MirZ

/-- the item at a turn: none: not known; some none: at its end -/
abbrev Nth := Nat → List HC → Option (Option D)
def FeedsN (K : PySem.W.Frag) (O A0 : List Addr) (H0 : Hp) (J : It) (nth : Nth) : Prop := ∀ O' A cs H, (∀ x ∈ O', x ∈ O ∨ H0 x = none) → Stp A0 H0 A H → Ok K O' A cs H → ∀ i : Nat, (nth i cs = some none → J.stop i H) ∧
  ∀ d, nth i cs = some (some d) → J.go i H ∧ ∀ x H', J.yld i H x H' → Stp A H A H' ∧ Ok K O' A cs H' ∧ ShS K O' A H' x (.d d)
structure IN (X : Cx) (R : XR) (E : XK) (tg iter : Expr) (m : Rho → M Nth) : Prop where
  ex : ∃ wi, PI X tg iter wi ∧ ∀ O A ρ cs σ H, Ok X.K O A cs H → RhoOk X.K O A ρ σ H → ∀ S : It → Hp → Prop, PostX X.K R O A H E (fun nth cs1 => ∀ J A' H', Stp A H A' H' → Ok X.K O A' cs1 H' → FeedsN X.K O A' H' J nth → S J H') (m ρ cs) → wi σ H S
/-- the k-th item of what a value holds now -/
def nthS (x : Sl) : Nth := fun i cs => (seqD x cs).map fun ds => ds[i]?
def nthZ (x y : Sl) : Nth := fun i cs => match seqD x cs, seqD y cs with
  | some a, some b => some ((zipD a b)[i]?)
  | _, _ => none
/-- whether it is a tuple; told of lists and tuples alone -/
def tupS : Sl → Option Bool
  | .d (.tuple _) => some true
  | .d (.list _) => some false
  | .h _ => some false
  | _ => none
theorem ShS.ext {K : PySem.W.Frag} {O O' A0 A : List Addr} {H0 H : Hp} {v : V} {sl : Sl} (h : ShS K O A0 H0 v sl) (hO : ∀ x ∈ O', x ∈ O ∨ H0 x = none) (s : Stp A0 H0 A H) : ShS K O' A H v sl := by
  cases sl with
  | d d => exact Sh.mono (same_ext hO s) h
  | h k => exact ShS.step s h
  | s ns =>
    obtain ⟨a, e, hl⟩ := h
    exact ⟨a, e, (same_ext hO s).seq hl⟩
theorem seq_v {K : PySem.W.Frag} {O A : List Addr} {cs : List HC} {H : Hp} {v : V} {sl : Sl} {b : Bool} {ds : List D} (ok : Ok K O A cs H) (s : ShS K O A H v sl) (t : tupS sl = some b) (e : seqD sl cs = some ds) :
    ∃ a vs, v = .ref a ∧ SqV b K H a vs ∧ ShA K (hid (O ++ A) H) vs ds := by
  unfold tupS at t
  split at t
  · cases t
    cases e
    cases s with
    | tup h tt => exact ⟨_, _, rfl, SqT.same hid_same h, tt⟩
  · cases t
    obtain ⟨a, vs, rfl, q, sa⟩ := view_l ok s (show viewL _ cs = some ds from e)
    exact ⟨a, vs, rfl, q, sa⟩
  · cases t
    obtain ⟨a, vs, rfl, q, sa⟩ := view_l ok s (show viewL _ cs = some ds from e)
    exact ⟨a, vs, rfl, q, sa⟩
  · cases t
/-- where a value stands -/
theorem tup_ref {K : PySem.W.Frag} {O A : List Addr} {H : Hp} {v : V} {sl : Sl} {b : Bool} (s : ShS K O A H v sl) (t : tupS sl = some b) : ∃ a, v = .ref a := by
  unfold tupS at t
  split at t
  · cases s with
    | tup h tt => exact ⟨_, rfl⟩
  · cases s with
    | lst h tt => exact ⟨_, rfl⟩
  · obtain ⟨a, _, rfl⟩ := s
    exact ⟨a, rfl⟩
  · cases t
theorem feedsN_list {K : PySem.W.Frag} {O A0 : List Addr} {H0 : Hp} {a : Addr} {sl : Sl} (h : ShS K O A0 H0 (.ref a) sl) (t : tupS sl = some false) : FeedsN K O A0 H0 (Itl K a) (nthS sl) := by
  intro O' A cs H hO s ok i
  have h' := h.ext hO s
  unfold nthS
  cases e : seqD sl cs with
  | none => exact ⟨fun z => (by cases z), fun d z => (by cases z)⟩
  | some ds =>
    obtain ⟨a', vs, ea, q, sa⟩ := seq_v ok h' t e
    cases ea
    refine ⟨fun z => ⟨vs, q, ?_⟩, fun d z => ?_⟩
    · have : ds[i]? = none := Option.some.inj z
      rw [sa.length]
      exact List.getElem?_eq_none_iff.mp this
    · have z : ds[i]? = some d := Option.some.inj z
      obtain ⟨v, e1, e2⟩ := sa.get z
      refine ⟨⟨vs, v, q, e1⟩, fun x H' y => ?_⟩
      obtain ⟨rfl, y⟩ := y
      have ex := y vs q
      rw [e1] at ex
      cases ex
      exact ⟨Stp.refl ok, ok, e2⟩
theorem feedsN_tup {K : PySem.W.Frag} {O A0 : List Addr} {H0 : Hp} {a : Addr} {sl : Sl} (h : ShS K O A0 H0 (.ref a) sl) (t : tupS sl = some true) : FeedsN K O A0 H0 (Itt K a) (nthS sl) := by
  intro O' A cs H hO s ok i
  have h' := h.ext hO s
  unfold nthS
  cases e : seqD sl cs with
  | none => exact ⟨fun z => (by cases z), fun d z => (by cases z)⟩
  | some ds =>
    obtain ⟨a', vs, ea, q, sa⟩ := seq_v ok h' t e
    cases ea
    refine ⟨fun z => ⟨vs, q, ?_⟩, fun d z => ?_⟩
    · have : ds[i]? = none := Option.some.inj z
      rw [sa.length]
      exact List.getElem?_eq_none_iff.mp this
    · have z : ds[i]? = some d := Option.some.inj z
      obtain ⟨v, e1, e2⟩ := sa.get z
      refine ⟨⟨vs, v, q, e1⟩, fun x H' y => ?_⟩
      obtain ⟨rfl, y⟩ := y
      have ex := y vs q
      rw [e1] at ex
      cases ex
      exact ⟨Stp.refl ok, ok, e2⟩
theorem feedsN_zip {K : PySem.W.Frag} {O A0 : List Addr} {H0 : Hp} {a b : Addr} {sx sy : Sl} {b1 b2 : Bool} (hx : ShS K O A0 H0 (.ref a) sx) (tx : tupS sx = some b1) (hy : ShS K O A0 H0 (.ref b) sy) (ty : tupS sy = some b2) : FeedsN K O A0 H0 (ItzM b1 b2 K a b) (nthZ sx sy) := by
  intro O' A cs H hO s ok i
  have hx' := hx.ext hO s
  have hy' := hy.ext hO s
  unfold nthZ
  cases ex : seqD sx cs with
  | none => exact ⟨fun z => (by cases z), fun d z => (by cases z)⟩
  | some ds =>
    cases ey : seqD sy cs with
    | none => exact ⟨fun z => (by cases z), fun d z => (by cases z)⟩
    | some es =>
      obtain ⟨a', vs, ea, q1, t1⟩ := seq_v ok hx' tx ex
      obtain ⟨b', ws, eb, q2, t2⟩ := seq_v ok hy' ty ey
      cases ea
      cases eb
      refine ⟨fun z => ⟨_, _, q1, q2, ?_⟩, fun d z => ?_⟩
      · have z : (zipD ds es)[i]? = none := Option.some.inj z
        have z := List.getElem?_eq_none_iff.mp z
        rw [t1.length, t2.length]
        unfold zipD at z
        rw [List.length_zipWith] at z
        omega
      · have z : (zipD ds es)[i]? = some d := Option.some.inj z
        obtain ⟨da, db, e1, e2, rfl⟩ := zip_at z
        obtain ⟨v1, g1, s1⟩ := t1.get e1
        obtain ⟨v2, g2, s2⟩ := t2.get e2
        refine ⟨⟨_, _, v1, v2, q1, q2, g1, g2⟩, fun x H' y => ?_⟩
        obtain ⟨T, x1, x2, rfl, nT, rfl, f1, f2⟩ := y
        have ex1 := f1 _ q1
        have ex2 := f2 _ q2
        rw [g1] at ex1
        rw [g2] at ex2
        cases ex1
        cases ex2
        exact tup2 ok nT s1 s2
theorem feedsN_as {K : PySem.W.Frag} {O A0 : List Addr} {H0 : Hp} {J J' : It} {nth : Nth} (h : FeedsN K O A0 H0 J nth) (e1 : ∀ i H, J.stop i H → J'.stop i H) (e2 : ∀ i H, J.go i H → J'.go i H) (e3 : ∀ i H v H', J'.yld i H v H' → J.yld i H v H') : FeedsN K O A0 H0 J' nth := by
  intro O' A cs H hO s ok i
  obtain ⟨f1, f2⟩ := h O' A cs H hO s ok i
  exact ⟨fun hi => e1 _ _ (f1 hi), fun d hd => ⟨e2 _ _ (f2 d hd).1, fun x H' y => (f2 d hd).2 x H' (e3 _ _ _ _ y)⟩⟩
def mSeqN (ma : Rho → M Sl) : Rho → M Nth := fun ρ cs => (ma ρ cs).bind fun x cs1 => if (tupS x).isSome = true then .ok (nthS x) cs1 else .bad
def mZipN (ma mb : Rho → M Sl) : Rho → M Nth := fun ρ cs => (ma ρ cs).bind fun x cs1 => (mb ρ cs1).bind fun y cs2 => if (tupS x).isSome = true ∧ (tupS y).isSome = true then .ok (nthZ x y) cs2 else .bad
section
variable {X : Cx} {R : XR} {E : XK} {pos tpos : Pos} {tg e e2 iter : Expr} {ma mb : Rho → M Sl} {elts : List Expr} {kk : Nat}
theorem in_seq (h : EM X R E e ma) : IN X R E tg e (mSeqN ma) := by
  obtain ⟨t, p, k⟩ := h
  refine ⟨_, pi_or (pi_list p) (pi_tup p), fun O A ρ cs σ H ok rk S h => ?_⟩
  have h' := PostX.bind h
  cases q : ma ρ cs with
  | bad =>
    rw [q] at h'
    exact h'.elim
  | exc x cs1 =>
    rw [q] at h'
    refine .inl (k O A ρ cs σ H ok rk _ ?_)
    rw [q]
    exact h'
  | ok sx cs1 =>
    rw [q] at h'
    have fin : ∀ (W : VK), (∀ v A' H', Stp A H A' H' → Ok X.K O A' cs1 H' → ShS X.K O A' H' v sx → W v H') → t σ H W := fun W w => k O A ρ cs σ H ok rk W (by rw [q]; exact w)
    replace h' : PostX X.K R O A H E (fun nth cs1 => ∀ J A' H', Stp A H A' H' → Ok X.K O A' cs1 H' → FeedsN X.K O A' H' J nth → S J H') (if (tupS sx).isSome = true then .ok (nthS sx) cs1 else .bad) := h'
    cases et : tupS sx with
    | none =>
      rw [et] at h'
      exact (show False from h').elim
    | some b =>
      rw [et] at h'
      have h2 : ∀ J A' H', Stp A H A' H' → Ok X.K O A' cs1 H' → FeedsN X.K O A' H' J (nthS sx) → S J H' := h'
      cases b
      · refine .inl (fin _ fun v A' H' s' ok' r => ?_)
        obtain ⟨a, rfl⟩ := tup_ref r et
        have hl : ∃ xs, SqL X.K H' a xs := by
          unfold tupS at et
          split at et
          · cases et
          · obtain ⟨a', vs, ea, q, _⟩ := view_l ok' r (ds := _) rfl
            cases ea
            exact ⟨vs, q⟩
          · rename_i k'
            obtain ⟨a', ea, e3⟩ := r
            cases e3
            obtain ⟨c, ec, hc⟩ := ok'.hc ea
            cases c with
            | lst ds =>
              obtain ⟨vs, hl, _⟩ := hc
              exact ⟨vs, .inl (.inl hl)⟩
          · cases et
        exact ⟨a, rfl, hl, h2 _ A' H' s' ok' (feedsN_list r et)⟩
      · refine .inr (fin _ fun v A' H' s' ok' r => ?_)
        obtain ⟨a, rfl⟩ := tup_ref r et
        have hl : ∃ xs, SqT X.K H' a xs := by
          unfold tupS at et
          split at et
          · cases r with
            | tup hl t => exact ⟨_, SqT.same hid_same hl⟩
          · cases et
          · cases et
          · cases et
        exact ⟨a, rfl, hl, h2 _ A' H' s' ok' (feedsN_tup r et)⟩
theorem in_zip {p : Pos} (hg : Gl X "zip") (hm : X.mg "zip" = none) (h : EM X R E e ma) (h2 : EM X R E e2 mb) (hs : starEach [e, e2] X.env = (false, eval e X.env) :: starEach [e2] X.env := by rfl) (hs2 : starEach [e2] X.env = (false, eval e2 X.env) :: starEach [] X.env := by rfl)
    (hpl : (backTo pos (starEach [e2] X.env)).any (·.1) = false := by rfl) : IN X R E (.Tuple elts kk tpos) (.Call (.Name "zip" p) [e, e2] [] pos) (mZipN ma mb) := by
  obtain ⟨t, pt, k⟩ := h
  obtain ⟨u, pu, k2⟩ := h2
  refine ⟨_, pi_or (RZ.pi_zipA hg hm (pa_cons pt (pa_cons pu pa_nil hs2) hs) hs hpl) (pi_zipM hg hm (pa_cons pt (pa_cons pu pa_nil hs2) hs) hs hpl), fun O A ρ cs σ H ok rk S h => ?_⟩
  cases hx : ma ρ cs with
  | bad =>
    unfold mZipN at h
    rw [hx] at h
    exact (show False from h).elim
  | exc x c =>
    refine .inl (k O A ρ cs σ H ok rk _ ?_)
    unfold mZipN at h
    rw [hx] at h ⊢
    exact h
  | ok sx cs1 =>
    cases hy : mb ρ cs1 with
    | bad =>
      unfold mZipN at h
      rw [hx] at h
      simp only [Res.bind, hy] at h
      exact (show False from h).elim
    | exc x c =>
      unfold mZipN at h
      rw [hx] at h
      simp only [Res.bind, hy] at h
      refine .inl (k O A ρ cs σ H ok rk _ ?_)
      rw [hx]
      intro x A1 H1 s1 ok1 r1
      refine k2 O A1 ρ cs1 σ H1 ok1 (rk.step s1) _ ?_
      rw [hy]
      exact fun A' H' cls dx s' ok r => h A' H' cls dx (s1.trans s') ok r
    | ok sy cs2 =>
      have h' := h
      unfold mZipN at h'
      rw [hx] at h'
      simp only [Res.bind, hy] at h'
      cases ex : tupS sx with
      | none =>
        rw [ex] at h'
        exact (show False from h').elim
      | some b1 =>
        cases ey : tupS sy with
        | none =>
          rw [ex, ey] at h'
          exact (show False from h').elim
        | some b2 =>
          rw [ex, ey] at h'
          have h3 : ∀ J A' H', Stp A H A' H' → Ok X.K O A' cs2 H' → FeedsN X.K O A' H' J (nthZ sx sy) → S J H' := h'
          have go : ∀ {W : V → V → Hp → Prop}, (∀ x y A2 H2, Stp A H A2 H2 → Ok X.K O A2 cs2 H2 → ShS X.K O A2 H2 x sx → ShS X.K O A2 H2 y sy → W x y H2) → t σ H fun x H1 => u σ H1 fun y H2 => W x y H2 := fun {W} w => by
            refine k O A ρ cs σ H ok rk _ ?_
            rw [hx]
            intro x A1 H1 s1 ok1 r1
            refine k2 O A1 ρ cs1 σ H1 ok1 (rk.step s1) _ ?_
            rw [hy]
            exact fun y A2 H2 s2 ok2 r2 => w x y A2 H2 (s1.trans s2) ok2 (r1.step s2) r2
          have isq : ∀ {x : V} {sl : Sl} {b : Bool} {A2 : List Addr} {H2 : Hp}, Ok X.K O A2 cs2 H2 → ShS X.K O A2 H2 x sl → tupS sl = some b → ∃ a vs, x = .ref a ∧ SqV b X.K H2 a vs := fun {x sl b A2 H2} ok2 r et => by
            unfold tupS at et
            split at et
            · cases et
              cases r with
              | tup hl t => exact ⟨_, _, rfl, SqT.same hid_same hl⟩
            · cases et
              obtain ⟨a', vs, ea, q, _⟩ := view_l ok2 r (ds := _) rfl
              exact ⟨a', vs, ea, q⟩
            · cases et
              obtain ⟨a', ea, rfl⟩ := r
              obtain ⟨c, ec, hc⟩ := ok2.hc ea
              cases c with
              | lst ds =>
                obtain ⟨vs, hl, _⟩ := hc
                exact ⟨a', vs, rfl, .inl (.inl hl)⟩
            · cases et
          have mk : ∀ {x y : V} {A2 : List Addr} {H2 : Hp}, Ok X.K O A2 cs2 H2 → ShS X.K O A2 H2 x sx → ShS X.K O A2 H2 y sy → ∃ a b vs ws, x = .ref a ∧ y = .ref b ∧ SqV b1 X.K H2 a vs ∧ SqV b2 X.K H2 b ws ∧ FeedsN X.K O A2 H2 (ItzM b1 b2 X.K a b) (nthZ sx sy) := fun ok2 r1 r2 => by
            obtain ⟨a, vs, rfl, q1⟩ := isq ok2 r1 ex
            obtain ⟨b, ws, rfl, q2⟩ := isq ok2 r2 ey
            exact ⟨a, b, vs, ws, rfl, rfl, q1, q2, feedsN_zip r1 ex r2 ey⟩
          cases b1 <;> cases b2
          · refine .inl (go fun x y A2 H2 s ok2 r1 r2 => ?_)
            obtain ⟨a, b, vs, ws, rfl, rfl, q1, q2, fd⟩ := mk ok2 r1 r2
            exact ⟨a, b, vs, ws, rfl, .inl ⟨q1, q2, h3 _ A2 H2 s ok2 (feedsN_as fd (fun _ _ z => z) (fun _ _ z => z) fun _ _ _ _ z => z)⟩⟩
          · refine .inr (go fun x y A2 H2 s ok2 r1 r2 => ?_)
            obtain ⟨a, b, vs, ws, rfl, rfl, q1, q2, fd⟩ := mk ok2 r1 r2
            exact ⟨a, b, vs, ws, rfl, .inl ⟨q1, q2, h3 _ A2 H2 s ok2 fd⟩⟩
          · refine .inr (go fun x y A2 H2 s ok2 r1 r2 => ?_)
            obtain ⟨a, b, vs, ws, rfl, rfl, q1, q2, fd⟩ := mk ok2 r1 r2
            exact ⟨a, b, vs, ws, rfl, .inr ⟨q1, q2, h3 _ A2 H2 s ok2 fd⟩⟩
          · refine .inl (go fun x y A2 H2 s ok2 r1 r2 => ?_)
            obtain ⟨a, b, vs, ws, rfl, rfl, q1, q2, fd⟩ := mk ok2 r1 r2
            exact ⟨a, b, vs, ws, rfl, .inr ⟨q1, q2, h3 _ A2 H2 s ok2 (feedsN_as fd (fun _ _ z => z) (fun _ _ z => z) fun _ _ _ _ z => z)⟩⟩
end

/-! ### for -/
def forN (nth : Nth) (f : D → Rho → Option Rho) (body : Rho → M Fl) : Nat → Nat → Rho → M Fl
  | 0, _, _, _ => .bad
  | n + 1, i, ρ, cs => match nth i cs with
    | none => .bad
    | some none => .ok (.nx ρ) cs
    | some (some d) => match f d ρ with
      | some ρ1 => (body ρ1 cs).bind fun x cs1 => match x with
        | .nx ρ2 => forN nth f body n (i + 1) ρ2 cs1
        | .ct ρ2 => forN nth f body n (i + 1) ρ2 cs1
        | .bk ρ2 => .ok (.nx ρ2) cs1
        | .rt sl => .ok (.rt sl) cs1
      | none => .bad
def sForN (mi : Rho → M Nth) (f : D → Rho → Option Rho) (body : Rho → M Fl) : Rho → M Fl := fun ρ cs => (mi ρ cs).bind fun nth cs1 => forN nth f body SL 0 ρ cs1
section
variable {X : Cx} {R : XR} {E : XK} {pos : Pos} {tg iter : Expr} {body : List Stmt} {mb' : Rho → M Fl} {L : List Nat} {f : D → Rho → Option Rho} {mi : Rho → M Nth}
theorem sm_forN (hp : PassesOwn (model X.prog X.w) X.A X.env X.xe) (hc : X.calm = true) (hi : IN X R E tg iter mi) (hg : GM X tg L f) (hb : BM X R E body mb') (hs : ∀ x, foldedSetIterable iter X.env x = pure x := by intro _; rfl) :
    SM X R E (.For tg iter body [] pos) (sForN mi f mb') := by
  obtain ⟨wi, pi, ki⟩ := hi
  obtain ⟨g, pg, kg⟩ := hg
  obtain ⟨tb, pb, kb⟩ := hb
  refine sm_of (ps_for hp hc pi pg pb hs) fun O A ρ cs σ H ok rk De h => ?_
  refine ki O A ρ cs σ H ok rk _ (PostX.step (Stp.refl ok) (fun nth cs1 q J A1 H1 s1 ok1 fd => ?_) (PostX.bind h))
  refine ⟨fun i m σ' H' => ∃ A' cs' ρ', Stp A H A' H' ∧ Stp A1 H1 A' H' ∧ Ok X.K O A' cs' H' ∧ RhoOk X.K O A' ρ' σ' H' ∧ PostS X.K R O A H De E (forN nth f mb' m i ρ' cs'),
    ⟨_, A1, cs1, ρ, s1, Stp.refl ok1, ok1, rk.step s1, q⟩, ?_⟩
  rintro i m σ' H' ⟨A', cs', ρ', s, s', ok', rk', hq⟩
  cases m with
  | zero => exact (show False from hq).elim
  | succ m =>
    obtain ⟨f1, f2⟩ := fd O A' cs' H' (fun x hx => .inl hx) s' ok' i
    unfold forN at hq
    split at hq
    · exact (show False from hq).elim
    · rename_i en
      exact .inl ⟨f1 en, hq σ' A' H' s ok' rk'⟩
    · rename_i d en
      obtain ⟨go, yl⟩ := f2 d en
      refine .inr ⟨go, fun σ2 H2 => ∃ A2 cs2 ρ2, Stp A H A2 H2 ∧ Stp A1 H1 A2 H2 ∧ Ok X.K O A2 cs2 H2 ∧ RhoOk X.K O A2 ρ2 σ2 H2 ∧ PostS X.K R O A H De E (forN nth f mb' m (i + 1) ρ2 cs2), fun σ2 H2 hN => ⟨m, Nat.lt_succ_self m, hN⟩, fun x H2 y => ?_⟩
      obtain ⟨s2, ok2, r2⟩ := yl x H2 y
      split at hq
      · rename_i ρ1 e1
        refine kg O A' cs' ρ' σ' H2 x d ρ1 ok2 (rk'.step s2) r2 e1 _ fun σ3 rk3 _ _ => ?_
        have st := s.trans s2
        have st' := s'.trans s2
        refine kb O A' ρ1 cs' σ3 H2 ok2 rk3 _ (PostX.step st (fun fl cs3 q3 => ?_) (PostX.bind hq))
        cases fl with
        | nx ρ2 => exact fun σ4 A4 H4 s4 ok4 rk4 => ⟨A4, cs3, ρ2, st.trans s4, st'.trans s4, ok4, rk4, q3⟩
        | ct ρ2 => exact fun σ4 A4 H4 s4 ok4 rk4 => ⟨A4, cs3, ρ2, st.trans s4, st'.trans s4, ok4, rk4, q3⟩
        | bk ρ2 => exact fun σ4 A4 H4 s4 ok4 rk4 => q3 σ4 A4 H4 (st.trans s4) ok4 rk4
        | rt sl => exact fun v A4 H4 s4 ok4 r4 => q3 v A4 H4 (st.trans s4) ok4 r4
      · exact (show False from hq).elim
end
section
variable {PF : Fl → List HC → Prop} {cs : List HC} {ρ : Rho} {ma mb : Rho → M Sl} {f : Rho → M Fl} {gf : D → Rho → Option Rho} {nth : Nth}
/-- a loop over items that stay, by what holds ahead of each turn -/
theorem wp_forNAll {I : Nat → Rho → List HC → Prop} {ds : List D} (hn : ∀ k ρ cs, I k ρ cs → nth k cs = some ds[k]?) (hk : ∀ (k : Nat) (d : D), ds[k]? = some d → ∀ ρ cs, I k ρ cs → ∃ ρ1, gf d ρ = some ρ1 ∧ Wp (f ρ1 cs) (forK (I (k + 1)) PF))
    (he : ∀ ρ' cs', I ds.length ρ' cs' → PF (.nx ρ') cs') : ∀ {m n : Nat} {ρ : Rho} {cs : List HC}, I n ρ cs → n ≤ ds.length → ds.length < n + m → Wp (forN nth gf f m n ρ cs) PF
  | 0, n, ρ, cs, _, h1, h2 => absurd h2 (by omega)
  | m + 1, n, ρ, cs, h, h1, h2 => by
    have e := hn n ρ cs h
    by_cases hl : n < ds.length
    · obtain ⟨ρ1, e1, w⟩ := hk n ds[n] (List.getElem?_eq_getElem hl) ρ cs h
      rw [List.getElem?_eq_getElem hl] at e
      simp only [forN, e, e1]
      refine wp_bind (w.mono fun x cs2 q => ?_)
      cases x with
      | nx ρ2 => exact wp_forNAll hn hk he q (by omega) (by omega)
      | ct ρ2 => exact wp_forNAll hn hk he q (by omega) (by omega)
      | rt sl => exact q
      | bk ρ2 => exact q
    · have hl : n = ds.length := by omega
      subst hl
      rw [List.getElem?_eq_none (Nat.le_refl _)] at e
      simp only [forN, e]
      exact he _ _ h
theorem wp_forN {mi : Rho → M Nth} (h : Wp (mi ρ cs) fun nth cs1 => Wp (forN nth gf f SL 0 ρ cs1) PF) : Wp (sForN mi gf f ρ cs) PF := wp_bind h
theorem wp_seqN {PN : Nth → List HC → Prop} (h : Wp (ma ρ cs) fun x cs1 => (tupS x).isSome = true ∧ PN (nthS x) cs1) : Wp (mSeqN ma ρ cs) PN := wp_bind (h.mono fun _ _ ⟨e, q⟩ => by
  rw [if_pos e]
  exact q)
theorem wp_zipN {PN : Nth → List HC → Prop} (h : Wp (ma ρ cs) fun x cs1 => Wp (mb ρ cs1) fun y cs2 => ((tupS x).isSome = true ∧ (tupS y).isSome = true) ∧ PN (nthZ x y) cs2) : Wp (mZipN ma mb ρ cs) PN := wp_bind (h.mono fun _ _ q1 => wp_bind (q1.mono fun _ _ ⟨e, q⟩ => by
  rw [if_pos e]
  exact q))
end
theorem ex_id {α : Type} {p q : α → Prop} (h : ∃ x, p x ∧ q x) : ∃ x, p x ∧ q x := h
theorem wp_vari {i : Nat} {ρ : Rho} {cs : List HC} {P : Sl → List HC → Prop} (h : ∃ sl, ρ[i]? = some (some sl) ∧ P sl cs) : Wp (mVar i ρ cs) P := wp_var h.choose_spec.1 h.choose_spec.2
end Mir
set_option maxHeartbeats 2000000
/-! exceptions: what a def lets out; try around one call -/
namespace Mir
open PySem PySem.Spec PyProof.Rows L2

/-- an exception of the program's own that keeps nothing: its class by its name -/
def RX (mg : Str → Option Value) : XR := fun x cls dx _ => mg x.cls = some cls ∧ x.arg = none ∧ dx = none
theorem rx_mono {mg : Str → Option Value} : RMono (RX mg) := fun _ _ _ _ _ _ h => h
def mRaise (c : Str) : Rho → M Fl := fun _ cs => .exc ⟨c, none⟩ cs
section
variable {X : Cx} {E : XK}
/-- the wish of a def's body about exceptions -/
abbrev TakesE (X : Cx) (E : XK) : Prop := Takes X (fun c d _ H => E c d H)
theorem sm_raise {C : Addr} {bmB : List Value} {B newId initId : String} {x m : Str} {j : Nat} {p p2 p3 pos : Pos} (F : ExcBaseFacts B newId initId bmB) (q : PySem.W.excIn X.K C bmB newId = true) (gC : X.mg x = some (.ref C)) (kC : PySem.W.keepIn X.K (.ref C) = true)
    (r : Raises X (.ref C)) (hg : Gl X x) (hc : X.calm = true) (tk : TakesE X E) (hdb : (x == ("__debug__" : Str)) = false := by decide) :
    SM X (RX X.mg) E (.Raise (some (.Call (.Name x p) [.Constant (.str m) j p2] [] p3)) none pos) (mRaise x) :=
  ⟨_, ps_raise hc tk (pmk_own F q gC kC r hg hdb), fun O A ρ cs σ H ok rk De h => h A H (.ref C) none (Stp.refl ok) ok ⟨gC, rfl, rfl⟩⟩
end
section
variable {P : Program} {w : World} {K : PySem.W.Frag} {mg : Str → Option Value} {base : Heap} {R : XR}
/-- a def that an exception may leave -/
theorem def_okX {x qual : Str} {st : Stmt} {f : Addr} {fd : FuncData} {N ps : List Str} {k : Nat} {mb : Rho → M Fl} (hR : RMono R) (F : Fun K x qual st f fd) (S : FnScope N ps (defScope st))
    (hb : ∀ (cdv : Value) (A : Around) (outer : List Env) (s : Shared) (H : Hp) (E : XK), Room k (A.deeper (envOfC qual (defScope st) s.heap.objs.size f cdv)) → TakesE (cxOf (L2.CX P w) P w K mg base N qual (defScope st) f cdv A outer s H E) E →
      BM (cxOf (L2.CX P w) P w K mg base N qual (defScope st) f cdv A outer s H E) R E (defBody st) mb) :
    FnOk P w K mg base (L2.CX P w) (k + 1) f fd ps (spM K R ps.length (mDef N.length mb)) := by
  refine F.okX S (fun vs H Q E h => ?_) (fun cdv A outer s H vs Q E hr h => ?_)
  · obtain ⟨O, A, cs, sls, _, hs, hn, _⟩ := h
    exact hs.length.trans hn
  · obtain ⟨O, A', cs, sls, ok, hs, hn, h⟩ := h
    obtain ⟨t, p, kk⟩ := hb cdv A outer s H E hr (takes_of rfl rfl rfl rfl)
    exact ⟨t, p, kk O A' _ cs _ H ok (rho_start (ps := ps) hs) _ (fin_ok hR ok.len h)⟩
/-- what a callee lets out goes on -/
theorem passX {X : Cx} {E : XK} (tk : TakesE X E) : Passes (L2.CX X.prog X.w) X E := passes_call tk fun _ _ _ _ h => h
end
/-! ### try -/
/-- an expression whose exception is told with the slots of its start -/
structure ES (X : Cx) (R : XR) (W : WX) (e : Expr) (m : Rho → M Sl) : Prop where
  ex : ∃ t, PE X e t ∧ ∀ O A ρ cs σ H, Ok X.K O A cs H → RhoOk X.K O A ρ σ H → ∀ Q, Post X.K R O A H Q (WE W σ) (m ρ cs) → t σ H Q
structure BS (X : Cx) (R : XR) (W : WX) (st : List Stmt) (m : Rho → M Fl) : Prop where
  ex : ∃ t, PSs X st t ∧ ∀ O A ρ cs σ H, Ok X.K O A cs H → RhoOk X.K O A ρ σ H → ∀ De, PostS X.K R O A H De (WE W σ) (m ρ cs) → t De σ H
def noX {α : Type} : Res α → Res α
  | .exc _ _ => .bad
  | r => r
theorem noX_of {K : PySem.W.Frag} {R : XR} {O A : List Addr} {H : Hp} {α : Type} {E E' : XK} {S : α → List HC → Prop} {r : Res α} (h : PostX K R O A H E S (noX r)) : PostX K R O A H E' S r := by
  cases r with
  | ok a cs => exact h
  | exc x cs => exact h.elim
  | bad => exact h.elim
def mOwnT (n : Nat) (m : List Sl → M Sl) (ms : Rho → M (List Sl)) : Rho → M Sl := fun ρ cs => (noX (ms ρ cs)).bind fun xs cs1 => if xs.length = n then m xs cs1 else .bad
section
variable {X : Cx} {R : XR} {W : WX}
/-- f(..) within a try -/
theorem es_call {x : Str} {p pos : Pos} {e : Expr} {es : List Expr} {ms : Rho → M (List Sl)} {k n : Nat} {f : Addr} {fd : FuncData} {ps : List Str} {m : List Sl → M Sl} (F : FnOk X.prog X.w X.K X.mg X.base (L2.CX X.prog X.w) k f fd ps (spM X.K R n m)) (hr : Room k X.A) (hg : Gl X x) (hm : X.mg x = some (.ref f))
    (hk : PySem.W.keepIn X.K (.ref f) = true) (hb : Binds X.K fd ps []) (tk : Takes X W)
    (ha : AM X R E0' (e :: es) ms) (hd : (x == ("__debug__" : Str)) = false := by decide) (hst : starEach (e :: es) X.env = (false, eval e X.env) :: starEach es X.env := by rfl) (hs : (backTo pos (starEach es X.env)).any (·.1) = false := by rfl) :
    ES X R W (.Call (.Name x p) (e :: es) [] pos) (mOwnT n m ms) := by
  obtain ⟨t, pt, kk⟩ := ha
  refine ⟨_, pe_callS F hr hg hm hk hb (passAt tk) pt hd hst hs, fun O A ρ cs σ H ok rk Q h => ?_⟩
  refine kk O A ρ cs σ H ok rk _ (noX_of ((PostX.bind h).step (Stp.refl ok) fun sxs cs1 q vs A1 H1 s1 ok1 r1 => ?_))
  split at q
  · rename_i hn
    exact ⟨O, A1, cs1, sxs, ok1, r1, hn, post_of (cs1 := cs1) s1 q⟩
  · exact q.elim
theorem bs_drop {e : Expr} {pos : Pos} {ma : Rho → M Sl} (he : ES X R W e ma) (hs : swapsWith e none pos.line X.env = pure false := by rfl) : BS X R W [.Expr e pos] (sDrop ma) := by
  obtain ⟨t, p, k⟩ := he
  refine ⟨_, pss_one (ps_expr p hs), fun O A ρ cs σ H ok rk De h => ?_⟩
  refine k O A ρ cs σ H ok rk _ (PostX.step (Stp.refl ok) (fun sx cs1 q x A1 H1 s1 ok1 r1 => ?_) (PostX.bind h))
  exact q σ A1 H1 s1 ok1 (rk.step s1)
theorem bs_set (i : Nat) {e : Expr} {x : Str} {pos pos' : Pos} {ma : Rho → M Sl} (hN : X.N.Nodup) (he : ES X R W e ma) (hi : X.N[i]? = some x := by rfl) (hx : Loc X.env.scope x := by first | exact Or.inl rfl | exact Or.inr rfl) (hs : swapsWith e (some (.Name x pos')) pos.line X.env = pure false := by rfl)
    (hf : X.fn x = true ∨ X.env.scope.names.lookup x = some .local := by first | exact .inl rfl | exact .inr rfl | assumption) : BS X R W [.Assign [.Name x pos'] e pos] (sSet i ma) := by
  obtain ⟨t, p, k⟩ := he
  refine ⟨_, pss_one (ps_set hN hi hx p hs hf), fun O A ρ cs σ H ok rk De h => ?_⟩
  refine k O A ρ cs σ H ok rk _ (PostX.step (Stp.refl ok) (fun sx cs1 q x A1 H1 s1 ok1 r1 => ?_) (PostX.bind h))
  exact q _ A1 H1 s1 ok1 ((rk.step s1).set r1)
end
/-- the clauses: the class's name, what is done; isA: which class is one of which -/
inductive HM (X : Cx) (R : XR) (isA : Str → Str → Option Bool) : List ExceptHandler → List (Str × (Rho → M Fl)) → Prop
  | nil : HM X R isA [] []
  | cons {x : Str} {c : Value} {mh : Rho → M Fl} {b₀ : Stmt} {suite : List Stmt} {np pos' : Pos} {hds : List ExceptHandler} {l : List (Str × (Rho → M Fl))} (hc : Names X x c)
      (hI : ∀ y v b, isA y x = some b → X.mg y = some v → PySem.W.exmOne X.K v c = some b)
      (hsu : ∀ (a : Addr) (pn : List (Addr × Obj)), BM (X.suite a pn) R E0' (b₀ :: suite) mh) (r : HM X R isA hds l) :
      HM X R isA (.ExceptHandler (some (.Name x np)) none (b₀ :: suite) pos' :: hds) ((x, mh) :: l)
def pick (isA : Str → Str → Option Bool) : List (Str × (Rho → M Fl)) → Ex → Rho → M Fl
  | [], x, _, cs => .exc x cs
  | (c, mh) :: r, x, ρ, cs => match isA x.cls c with
    | some true => noX (mh ρ cs)
    | some false => pick isA r x ρ cs
    | none => .bad
def mTry (isA : Str → Str → Option Bool) (m : Rho → M Fl) (hl : List (Str × (Rho → M Fl))) : Rho → M Fl := fun ρ cs => match m ρ cs with
  | .exc x cs' => pick isA hl x ρ cs'
  | r => r
section
variable {X : Cx} {R : XR} {E : XK} {isA : Str → Str → Option Bool}
theorem hm_ok (hR : ∀ x cls dx Hd, R x cls dx Hd → X.mg x.cls = some cls) {hds : List ExceptHandler} {hl : List (Str × (Rho → M Fl))} (hm : HM X R isA hds hl) :
    ∃ l, HdsOk X hds l ∧ ∀ De O A ρ cs σ H x cls dx, Ok X.K O A cs H → RhoOk X.K O A ρ σ H → R x cls dx (hid (O ++ A) H) → PostS X.K R O A H De E (pick isA hl x ρ cs) → wMany X.K (fun c d _ H => E c d H) De l cls dx σ H := by
  induction hm with
  | nil => exact ⟨[], .nil, fun De O A ρ cs σ H x cls dx ok rk r h => h A H cls dx (Stp.refl ok) ok r⟩
  | @cons x c mh b₀ suite np pos' hds l hc hI hsu r ih =>
    obtain ⟨l', hl', k⟩ := ih
    refine ⟨(c, fun a cls d D σ H => ∀ pn, ∃ t, PSs (X.suite a pn) (b₀ :: suite) t ∧ t D σ H) :: l', .cons hc (fun a oe cls d pn _ _ => ⟨fun pins s σ H D I h => ?_⟩) hl', fun De O A ρ cs σ H y cls dx ok rk ry h => ?_⟩
    · obtain ⟨t, p, h⟩ := h ((a, oe) :: pn)
      exact p.run pins s σ H D I h
    · have hy := hR _ _ _ _ ry
      unfold pick at h
      cases e : isA y.cls x with
      | none =>
        rw [e] at h
        exact h.elim
      | some b =>
        rw [e] at h
        refine ⟨b, hI _ _ _ e hy, fun eb a ha pn => ?_, fun eb => ?_⟩
        · subst eb
          obtain ⟨t, p, kk⟩ := hsu a pn
          exact ⟨t, p, kk O A ρ cs σ H ok rk De (noX_of h)⟩
        · subst eb
          exact k De O A ρ cs σ H y cls dx ok rk ry h
theorem sm_try {body : List Stmt} {h₀ : ExceptHandler} {hds : List ExceptHandler} {m : Rho → M Fl} {hl : List (Str × (Rho → M Fl))} {pos : Pos} (hR : ∀ x cls dx Hd, R x cls dx Hd → X.mg x.cls = some cls) (hs : X.stack = X.env :: X.outer) (hf : X.env.frame = some X.env.locals) (tk : TakesE X E)
    (hb : ∀ (W : WX) (pn : List (Addr × Obj)) (xe : Value → Shared → Prop), Takes (X.tr pn xe) W → PassesOwn (model X.prog X.w) X.A X.env xe → BS (X.tr pn xe) R W body m) (hh : HM X R isA (h₀ :: hds) hl) :
    SM X R E (.Try body (h₀ :: hds) [] [] pos) (mTry isA m hl) := by
  obtain ⟨l, hl', kl⟩ := hm_ok (E := E) hR hh
  refine ⟨_, ps_try_many (tb := fun W D σ H => ∀ pn xe, Takes (X.tr pn xe) W → PassesOwn (model X.prog X.w) X.A X.env xe → ∃ t, PSs (X.tr pn xe) body t ∧ t D σ H) hs hf tk (fun W pn xe tkW po => ⟨fun pins s σ H D I h => ?_⟩) hl', fun O A ρ cs σ H ok rk De h => ?_⟩
  · obtain ⟨t, p, h⟩ := h pn xe tkW po
    exact p.run pins s σ H D I h
  · intro pn xe tkW po
    obtain ⟨t, p, k⟩ := hb _ pn xe tkW po
    refine ⟨t, p, k O A ρ cs σ H ok rk De ?_⟩
    unfold mTry at h
    cases e : m ρ cs with
    | bad =>
      rw [e] at h
      exact h
    | ok f cs1 =>
      rw [e] at h
      exact h
    | exc x cs1 =>
      rw [e] at h
      exact fun A' H' cls dx s ok' r => kl De O A' ρ cs1 σ H' x cls dx ok' (rk.step s) r (PostS.step (De := De) s h)
end
end Mir
set_option maxHeartbeats 2000000
/-! texts: f-strings, split, int(text), list.index -/
namespace Mir
open PySem PySem.Spec PyProof.Rows L2
section
variable {X : Cx} {R : XR} {E : XK}
/-- {x} -/
def mFmt (m : Rho → M Sl) : Rho → M Sl := fun ρ cs => (m ρ cs).bind fun x cs1 => match x with
  | .d (.str y) => if y.length ≤ SL then .ok (.d (.str y)) cs1 else .bad
  | .d (.int i) => if i.natAbs.log2 < 1920 then .ok (.d (.str (toString i))) cs1 else .bad
  | _ => .bad
theorem em_fmt {e : Expr} {m : Rho → M Sl} {pos : Pos} (he : EM X R E e m) : EM X R E (.FormattedValue e (-1) none pos) (mFmt m) := by
  obtain ⟨t, p, k⟩ := he
  refine ⟨_, pe_fmt p, fun O A ρ cs σ H ok rk Q h => ?_⟩
  refine k O A ρ cs σ H ok rk _ ((PostX.bind h).step (Stp.refl ok) fun sx cs1 q x A1 H1 s1 ok1 r1 => ?_)
  split at q
  · split at q
    · rename_i hz
      cases r1
      exact .inl ⟨_, rfl, SL_eq ▸ hz, q _ A1 H1 s1 ok1 (.str _)⟩
    · exact (show False from q).elim
  · split at q
    · rename_i hz
      cases r1
      exact .inr ⟨_, rfl, hz, q _ A1 H1 s1 ok1 (.str _)⟩
    · exact (show False from q).elim
  · exact (show False from q).elim
/-- the parts one behind the other -/
def mJs : List (Rho → M Sl) → Str → Rho → M Sl
  | [], acc, _, cs => .ok (.d (.str acc)) cs
  | m :: ms, acc, ρ, cs => (m ρ cs).bind fun x cs1 => match x with
    | .d (.str y) => if (acc ++ y).length ≤ SL then mJs ms (acc ++ y) ρ cs1 else .bad
    | _ => .bad
theorem mJs_str : ∀ (ms : List (Rho → M Sl)) (acc : Str) (ρ : Rho) (cs : List HC) (sl : Sl) (cs' : List HC), mJs ms acc ρ cs = .ok sl cs' → ∃ y, sl = .d (.str y)
  | [], acc, _, _, _, _, e => by
    cases e
    exact ⟨_, rfl⟩
  | m :: ms, acc, ρ, cs, sl, cs', e => by
    unfold mJs at e
    cases e1 : m ρ cs with
    | bad =>
      rw [e1] at e
      cases e
    | exc x c =>
      rw [e1] at e
      cases e
    | ok x c =>
      rw [e1] at e
      simp only [Res.bind] at e
      split at e
      · split at e
        · exact mJs_str ms _ _ _ _ _ e
        · cases e
      · cases e
structure JM (X : Cx) (R : XR) (E : XK) (es : List Expr) (ms : List (Rho → M Sl)) : Prop where
  ex : ∃ ts, PJ X es ts ∧ ∀ acc O A ρ cs σ H, Ok X.K O A cs H → RhoOk X.K O A ρ σ H → ∀ Q : Str → Hp → Prop, Post X.K R O A H (fun v H' => ∃ y, v = .str y ∧ Q y H') E (mJs ms acc ρ cs) → tJs ts acc σ H Q
theorem jm_nil : JM X R E [] [] := ⟨[], .nil, fun acc O A ρ cs σ H ok rk Q h => by
  obtain ⟨y, e, q⟩ := h _ A H (Stp.refl ok) ok (.str acc)
  cases e
  exact q⟩
theorem jm_cons {e : Expr} {es : List Expr} {m : Rho → M Sl} {ms : List (Rho → M Sl)} (he : EM X R E e m) (h : JM X R E es ms) : JM X R E (e :: es) (m :: ms) := by
  obtain ⟨t, p, k⟩ := he
  obtain ⟨ts, ps, ks⟩ := h
  refine ⟨_, .cons p ps, fun acc O A ρ cs σ H ok rk Q h => ?_⟩
  refine k O A ρ cs σ H ok rk _ ((PostX.bind h).step (Stp.refl ok) fun sx cs1 q x A1 H1 s1 ok1 r1 => ?_)
  split at q
  · split at q
    · rename_i hz
      cases r1
      exact ⟨_, rfl, SL_eq ▸ hz, ks _ O A1 ρ cs1 σ H1 ok1 (rk.step s1) Q (post_step s1 q)⟩
    · exact (show False from q).elim
  · exact (show False from q).elim
def mJoin (ms : List (Rho → M Sl)) : Rho → M Sl := mJs ms Str.empty
theorem em_joined {v1 v2 : Expr} {rest : List Expr} {ms : List (Rho → M Sl)} {pos : Pos} (h : JM X R E (v1 :: v2 :: rest) ms) : EM X R E (.JoinedStr (v1 :: v2 :: rest) pos) (mJoin ms) := by
  obtain ⟨ts, p, k⟩ := h
  refine ⟨_, pe_joined p, fun O A ρ cs σ H ok rk Q h => k _ O A ρ cs σ H ok rk _ ?_⟩
  replace h : Post X.K R O A H Q E (mJs ms Str.empty ρ cs) := h
  cases e : mJs ms Str.empty ρ cs with
  | bad =>
    rw [e] at h
    exact h
  | exc x cs1 =>
    rw [e] at h
    exact h
  | ok sl cs1 =>
    rw [e] at h
    obtain ⟨y, rfl⟩ := mJs_str _ _ _ _ _ _ e
    intro v A' H' s1 ok1 r1
    have q := h v A' H' s1 ok1 r1
    cases r1
    exact ⟨_, rfl, q⟩
/-- a.split(b) -/
def mSplit (ma mb : Rho → M Sl) : Rho → M (List D) := fun ρ cs => (ma ρ cs).bind fun x cs1 => match x with
  | .d (.str a) => (mb ρ cs1).bind fun y cs2 => match y with
    | .d (.str b) => if (b.length == 0) = false ∧ a.length + 2 ≤ SL then .ok ((Txt.split a b).map .str) cs2 else .bad
    | _ => .bad
  | _ => .bad
theorem shA_strs {K : PySem.W.Frag} {H : Hp} : ∀ ys : List Str, ShA K H (ys.map V.str) (ys.map .str)
  | [] => .nil
  | y :: r => .cons (.str y) (shA_strs r)
theorem lm_split {a b : Expr} {ma mb : Rho → M Sl} {apos pos : Pos} (ha : EM X R E a ma) (hb : EM X R E b mb) (hs : starEach [b] X.env = [(false, eval b X.env)] := by rfl) (hbase : attributeBase a "split" X.env (eval a X.env) = eval a X.env := by rfl) (hline : (apos.endLine == pos.line) = true := by rfl) :
    LM X R E (.Call (.Attribute a "split" apos) [b] [] pos) (mSplit ma mb) := by
  obtain ⟨ta, pa, ka⟩ := ha
  obtain ⟨tb, pb, kb⟩ := hb
  refine ⟨_, pe_split pa pb hs hbase hline, fun O A ρ cs σ H ok rk Q h => ?_⟩
  refine ka O A ρ cs σ H ok rk _ ((PostX.bind h).step (Stp.refl ok) fun sx cs1 q x A1 H1 s1 ok1 r1 => ?_)
  split at q
  · cases r1
    refine ⟨⟨_, rfl⟩, kb O A1 ρ cs1 σ H1 ok1 (rk.step s1) _ ((PostX.bind q).step s1 fun sy cs2 q2 y A2 H2 s2 ok2 r2 => ?_)⟩
    split at q2
    · split at q2
      · rename_i hz
        cases r2
        exact ⟨_, _, rfl, rfl, hz.1, SL_eq ▸ hz.2, fun p hp => PostL.new (R := R) (E := E) ok2 (postL_step (s1.trans s2) q2) (shA_strs _) hp⟩
      · exact (show False from q2).elim
    · exact (show False from q2).elim
  · exact (show False from q).elim
/-- int(text) -/
def bIntS : List Sl → M Sl := fun xs cs => match xs with
  | [.d (.str a)] => match PySem.intText? a with
    | some n => if a.length ≤ 640 then .ok (.d (.int n)) cs else .bad
    | none => .bad
  | _ => .bad
theorem cb_intS : CbM X R E (.type "int") bIntS := by
  refine cb_of call_int_str fun O A cs H vs sls ok rs Q h => ?_
  unfold bIntS at h
  split at h
  · obtain ⟨v, rfl, r⟩ := one_of rs
    cases r
    split at h
    · rename_i hn
      split at h
      · rename_i hl
        exact ⟨_, _, rfl, hn, hl, Post.ret ok h (.int _)⟩
      · exact h.elim
    · exact h.elim
  · exact h.elim
/-- xs.index(y): the first that is y -/
def idxD (ds : List D) (e : D) : Option Nat := if flatD e = true ∧ ds.all flatD = true then ds.findIdx? fun z => PyData.eqv z e else none
def mIndex (mo mv : Rho → M Sl) : Rho → M Sl := fun ρ cs => (mo ρ cs).bind fun x cs1 => match viewT x cs1 with
  | some _ => (mv ρ cs1).bind fun y cs2 => match viewT x cs2, y with
    | some ds, .d e => match idxD ds e with
      | some j => .ok (.d (.int j)) cs2
      | none => .bad
    | _, _ => .bad
  | none => .bad
theorem shA_get {K : PySem.W.Frag} {H : Hp} : ∀ {vs : List V} {ds : List D}, ShA K H vs ds → ∀ {m : Nat} {z : V}, vs[m]? = some z → ∃ d, ds[m]? = some d ∧ Sh K H z d
  | _, _, .nil, m, z, e => by cases e
  | _, _, .cons h t, 0, z, e => by
    cases e
    exact ⟨_, rfl, h⟩
  | _, _, .cons h t, m + 1, z, e => shA_get t (m := m) e
theorem em_index {o v : Expr} {p1 p2 : Pos} {mo mv : Rho → M Sl} (ho : EM X R E o mo) (hv : EM X R E v mv) (hbase : attributeBase o "index" X.env (eval o X.env) = eval o X.env := by rfl)
    (hfew : ((backTo p2 (starEach (v :: []) X.env)).all (fun x => !x.1) && (backToKw p2 (keywordEach [] X.env)).all (fun x => x.1.isSome)
      && decide ((v :: []).length + ([] : List Keyword).length + (if ([] : List Keyword).isEmpty then 0 else 1) < 30)) = true := by rfl)
    (hline : (p1.endLine == p2.line) = true := by rfl) (hst : starEach (v :: []) X.env = (false, eval v X.env) :: starEach [] X.env := by rfl) (hplain : (backTo p2 (starEach [] X.env)).any (·.1) = false := by rfl) :
    EM X R E (.Call (.Attribute o "index" p1) [v] [] p2) (mIndex mo mv) := by
  obtain ⟨to, po, ko⟩ := ho
  obtain ⟨tv, pv', kv⟩ := hv
  refine ⟨_, pe_bm PySem.F.plainAttrs_list PySem.F.slot_list_index PySem.F.type_list_index mt_index po (pa_cons pv' pa_nil hst) hbase hfew hline hst hplain, fun O A ρ cs σ H ok rk Q h => ?_⟩
  refine ko O A ρ cs σ H ok rk _ ((PostX.bind h).step (Stp.refl ok) fun sx cs1 q x A1 H1 s1 ok1 r1 => ?_)
  split at q
  · rename_i ds0 e0
    obtain ⟨p, vs, rfl, h1, sh1⟩ := view_t ok1 r1 e0
    refine ⟨.inl ⟨rfl, vs, .inl (.inl h1)⟩, kv O A1 ρ cs1 σ H1 ok1 (rk.step s1) _ ((PostX.bind q).step s1 fun sy cs2 q2 y A2 H2 s2 ok2 r2 => ?_)⟩
    split at q2
    · rename_i ds e e1
      split at q2
      · rename_i j ej
        obtain ⟨p', ws, e', h2, sh2⟩ := view_t ok2 (r1.step s2) e1
        cases e'
        unfold idxD at ej
        split at ej
        · rename_i hf
          obtain ⟨hj, pj, pm⟩ := List.findIdx?_eq_some_iff_getElem.mp ej
          have hj' : j < ws.length := by rw [sh2.length]; exact hj
          have r2' : Sh X.K (hid (O ++ A2) H2) y e := r2
          have at_ : ∀ (m : Nat) (z : V) (hm : m < ds.length), ws[m]? = some z → eqV z y = PyData.eqv ds[m] e := fun m z hm ez => by
            obtain ⟨d, ed, rz⟩ := shA_get sh2 ez
            rw [List.getElem?_eq_getElem hm] at ed
            cases ed
            exact sh_eqV rz r2' (List.all_eq_true.mp hf.2 _ (List.getElem_mem hm)) hf.1
          refine ⟨p, ws, y, j, ws[j], rfl, rfl, .inl (.inl h2), sh_flat r2' hf.1, sh_flats sh2 hf.2, List.getElem?_eq_getElem hj', ?_, fun m z hm ez => ?_, q2 _ A2 H2 (s1.trans s2) ok2 (.int _)⟩
          · rw [at_ j _ hj (List.getElem?_eq_getElem hj')]
            exact pj
          · rw [at_ m z (by omega) ez]
            exact Bool.eq_false_iff.mpr (pm m hm)
        · cases ej
      · exact (show False from q2).elim
    · exact (show False from q2).elim
  · exact (show False from q).elim
end
end Mir
set_option maxHeartbeats 2000000
/-! values and what changes; what shows them; one step of the heap; the judgements -/
namespace Py
open PySem PySem.Spec PyProof.Rows L2

/-- no table of code objects -/
def NoT (o : HO) : Prop := ∀ ps, o ≠ .tbl ps
/-- the heap without the handles and without the tables -/
def hid (A : List Addr) (H : Hp) : Hp := fun b => if b ∈ A then none else match H b with
  | some (.tbl _) => none
  | r => r
theorem hid_some {A : List Addr} {H : Hp} {b : Addr} {o : HO} : hid A H b = some o ↔ b ∉ A ∧ NoT o ∧ H b = some o := by
  unfold hid
  by_cases h : b ∈ A
  · simp [h]
  · rw [if_neg h]
    split
    · rename_i ps e
      refine ⟨fun z => (by cases z), fun z => ?_⟩
      rw [e] at z
      exact absurd (Option.some.inj z.2.2).symm (z.2.1 ps)
    · rename_i r hr
      refine ⟨fun z => ⟨h, fun ps q => ?_, z⟩, fun z => z.2.2⟩
      subst q
      exact hr ps z
theorem hid_in {A : List Addr} {H : Hp} {b : Addr} {o : HO} (h : b ∉ A) (e : H b = some o) (n : NoT o := by intro ps z; cases z) : hid A H b = some o := hid_some.mpr ⟨h, n, e⟩
theorem hid_same {A : List Addr} {H : Hp} : Same (hid A H) H := fun b o h => (hid_some.mp h).2.2
/-- what came between two heaps: new handles behind the old ones; all that is no handle is kept; tables may grow -/
structure Stp (A : List Addr) (H : Hp) (A' : List Addr) (H' : Hp) : Prop where
  ex : ∃ B, A' = A ++ B ∧ ∀ b ∈ B, ∀ o, NoT o → H b ≠ some o
  keep : ∀ b o, b ∉ A → NoT o → H b = some o → H' b = some o
  live : ∀ a ∈ A, ∀ o, NoT o → H a = some o → ∃ o', NoT o' ∧ H' a = some o'
theorem Stp.trans {A A1 A2 : List Addr} {H H1 H2 : Hp} (a : Stp A H A1 H1) (b : Stp A1 H1 A2 H2) : Stp A H A2 H2 := by
  obtain ⟨⟨B, eB, fB⟩, kA, lA⟩ := a
  obtain ⟨⟨C, eC, fC⟩, kB, lB⟩ := b
  refine ⟨⟨B ++ C, by rw [eC, eB, List.append_assoc], fun x hx o no e => ?_⟩, fun x o hx no e => ?_, fun x hx o no e => ?_⟩
  · rcases List.mem_append.mp hx with hx | hx
    · exact fB x hx o no e
    · by_cases hA : x ∈ A
      · obtain ⟨o', n', e'⟩ := lA x hA o no e
        exact fC x hx o' n' e'
      · exact fC x hx o no (kA x o hA no e)
  · refine kB x o (fun z => ?_) no (kA x o hx no e)
    rw [eB] at z
    rcases List.mem_append.mp z with z | z
    · exact hx z
    · exact fB x z o no e
  · obtain ⟨o', n', e'⟩ := lA x hx o no e
    exact lB x (by rw [eB]; exact List.mem_append_left _ hx) o' n' e'
theorem Stp.sm {A A' : List Addr} {H H' : Hp} (s : Stp A H A' H') : Same (hid A H) (hid A' H') := by
  obtain ⟨⟨B, eB, fB⟩, kA, lA⟩ := s
  intro b o h
  obtain ⟨hb, no, e⟩ := hid_some.mp h
  refine hid_some.mpr ⟨fun z => ?_, no, kA b o hb no e⟩
  rw [eB] at z
  rcases List.mem_append.mp z with z | z
  · exact hb z
  · exact fB b z o no e

/-- a value: what never changes is a tree; h k is the k-th thing that may change -/
inductive Val where
  | non
  | bl (b : Bool)
  | int (i : Int)
  | str (x : Str)
  | tup (l : List Val)
  | h (k : Nat)
  /-- a def or a class of the text, by its name -/
  | fn (x : Str)
  /-- a list of ints that is read alone (the script) -/
  | scr (ns : List Int)
  /-- an exception as a value: its class; what its own __init__ kept in which attribute -/
  | ex0 (c : Str)
  | ex1 (c f : Str) (v : Val)
inductive Cel where
  | lst (l : List Val)
  | dct (l : List (Key × Val))
  | dtt (l : List (List Key × Val))
  | obj (c : Str) (l : List (Str × Val))
  /-- a table of code objects -/
  | tab (q : Str)
abbrev Mem := List Cel

mutual
inductive Rl (K : PySem.W.Frag) (mg : Str → Option Value) (A : List Addr) (H : Hp) : V → Val → Prop
  | non : Rl K mg A H .non .non
  | bl (b : Bool) : Rl K mg A H (.bl b) (.bl b)
  | int (i : Int) : Rl K mg A H (.int i) (.int i)
  | str (x : Str) : Rl K mg A H (.str x) (.str x)
  | tup {a : Addr} {xs : List V} {ds : List Val} : SqT K H a xs → RlA K mg A H xs ds → Rl K mg A H (.ref a) (.tup ds)
  | hdl {k : Nat} {a : Addr} : A[k]? = some a → Rl K mg A H (.ref a) (.h k)
  | fn {x : Str} {a : Addr} : mg x = some (.ref a) → PySem.W.keepIn K (.ref a) = true → Rl K mg A H (.ref a) (.fn x)
  | scr {a : Addr} {ns : List Int} : SqL K H a (ns.map V.int) → Rl K mg A H (.ref a) (.scr ns)
  | ex0 {c : Str} {a C : Addr} : mg c = some (.ref C) → H a = some (ExO (.ref C) a) → Rl K mg A H (.ref a) (.ex0 c)
  | ex1 {c f : Str} {a C dx : Addr} {y : V} {d : Val} : mg c = some (.ref C) → H a = some (exo a C (some dx)) → H dx = some (exd dx [(f, y)]) → Rl K mg A H y d → Rl K mg A H (.ref a) (.ex1 c f d)
inductive RlA (K : PySem.W.Frag) (mg : Str → Option Value) (A : List Addr) (H : Hp) : List V → List Val → Prop
  | nil : RlA K mg A H [] []
  | cons {v : V} {vs : List V} {d : Val} {ds : List Val} : Rl K mg A H v d → RlA K mg A H vs ds → RlA K mg A H (v :: vs) (d :: ds)
end
/-- a dict's pairs -/
inductive RlD {κ : Type} (K : PySem.W.Frag) (mg : Str → Option Value) (A : List Addr) (H : Hp) : List (κ × V) → List (κ × Val) → Prop
  | nil : RlD K mg A H [] []
  | cons {k : κ} {v : V} {vs : List (κ × V)} {d : Val} {ds : List (κ × Val)} : Rl K mg A H v d → RlD K mg A H vs ds → RlD K mg A H ((k, v) :: vs) ((k, d) :: ds)

def Pre (A A' : List Addr) : Prop := ∀ (k : Nat) (a : Addr), A[k]? = some a → A'[k]? = some a
theorem Pre.refl {A : List Addr} : Pre A A := fun _ _ h => h
section
variable {K : PySem.W.Frag} {mg : Str → Option Value} {A A' : List Addr} {H H' : Hp}
mutual
theorem Rl.mono (p : Pre A A') (e : Same H H') : ∀ {v : V} {d : Val}, Rl K mg A H v d → Rl K mg A' H' v d
  | _, _, .non => .non
  | _, _, .bl b => .bl b
  | _, _, .int i => .int i
  | _, _, .str x => .str x
  | _, _, .tup h t => .tup (Mir.SqT.same e h) (RlA.mono p e t)
  | _, _, .hdl h => .hdl (p _ _ h)
  | _, _, .fn h k => .fn h k
  | _, _, .scr h => .scr (e.seq h)
  | _, _, .ex0 g h => .ex0 g (e _ _ h)
  | _, _, .ex1 g h1 h2 r => .ex1 g (e _ _ h1) (e _ _ h2) (Rl.mono p e r)
theorem RlA.mono (p : Pre A A') (e : Same H H') : ∀ {vs : List V} {ds : List Val}, RlA K mg A H vs ds → RlA K mg A' H' vs ds
  | _, _, .nil => .nil
  | _, _, .cons h t => .cons (Rl.mono p e h) (RlA.mono p e t)
end
theorem RlD.mono {κ : Type} (p : Pre A A') (e : Same H H') : ∀ {vs : List (κ × V)} {ds : List (κ × Val)}, RlD K mg A H vs ds → RlD K mg A' H' vs ds
  | _, _, .nil => .nil
  | _, _, .cons h t => .cons (h.mono p e) (RlD.mono p e t)
theorem RlA.length : ∀ {vs : List V} {ds : List Val}, RlA K mg A H vs ds → vs.length = ds.length
  | _, _, .nil => rfl
  | _, _, .cons _ t => congrArg (· + 1) (RlA.length t)
theorem RlA.get : ∀ {vs : List V} {ds : List Val} {i : Nat} {d : Val}, RlA K mg A H vs ds → ds[i]? = some d → ∃ v, vs[i]? = some v ∧ Rl K mg A H v d
  | _, _, _, _, .nil, e => by simp at e
  | _, _, 0, _, .cons h _, e => by
    simp at e
    subst e
    exact ⟨_, rfl, h⟩
  | _, _, i + 1, d, .cons _ t, e => by
    obtain ⟨v, h1, h2⟩ := RlA.get (i := i) (d := d) t (by simpa using e)
    exact ⟨v, by simpa using h1, h2⟩
theorem RlA.append : ∀ {vs ws : List V} {ds es : List Val}, RlA K mg A H vs ds → RlA K mg A H ws es → RlA K mg A H (vs ++ ws) (ds ++ es)
  | _, _, _, _, .nil, s => s
  | _, _, _, _, .cons h t, s => .cons h (RlA.append t s)
theorem RlA.take : ∀ {vs : List V} {ds : List Val} (n : Nat), RlA K mg A H vs ds → RlA K mg A H (vs.take n) (ds.take n)
  | _, _, 0, _ => by simpa using RlA.nil
  | _, _, _ + 1, .nil => .nil
  | _, _, n + 1, .cons h t => .cons h (RlA.take n t)
theorem RlA.drop : ∀ {vs : List V} {ds : List Val} (n : Nat), RlA K mg A H vs ds → RlA K mg A H (vs.drop n) (ds.drop n)
  | _, _, 0, t => t
  | _, _, _ + 1, .nil => .nil
  | _, _, n + 1, .cons _ t => RlA.drop n t
theorem RlA.set {v : V} {d : Val} (h : Rl K mg A H v d) : ∀ {vs : List V} {ds : List Val} (i : Nat), RlA K mg A H vs ds → RlA K mg A H (vs.set i v) (ds.set i d)
  | _, _, _, .nil => .nil
  | _, _, 0, .cons _ t => .cons h t
  | _, _, i + 1, .cons q t => .cons q (RlA.set h i t)
theorem RlA.erase : ∀ {vs : List V} {ds : List Val} (i : Nat), RlA K mg A H vs ds → RlA K mg A H (vs.eraseIdx i) (ds.eraseIdx i)
  | _, _, _, .nil => .nil
  | _, _, 0, .cons _ t => t
  | _, _, i + 1, .cons q t => .cons q (RlA.erase i t)
theorem RlA.reverse : ∀ {vs : List V} {ds : List Val}, RlA K mg A H vs ds → RlA K mg A H vs.reverse ds.reverse
  | _, _, .nil => .nil
  | _, _, .cons h t => by
    rw [List.reverse_cons, List.reverse_cons]
    exact RlA.append (RlA.reverse t) (.cons h .nil)
theorem RlA.ofInts : ∀ ns : List Int, RlA K mg A H (ns.map V.int) (ns.map Val.int)
  | [] => .nil
  | n :: r => .cons (.int n) (RlA.ofInts r)
def intsV : List Val → Option (List Int)
  | [] => some []
  | .int i :: r => (intsV r).map (i :: ·)
  | _ => none
theorem RlA.ints : ∀ {vs : List V} {ds : List Val} {ns : List Int}, RlA K mg A H vs ds → intsV ds = some ns → vs = ns.map V.int
  | _, _, _, .nil, e => by
    cases e
    rfl
  | _, _, ns, .cons h t, e => by
    cases h with
    | int i =>
      unfold intsV at e
      cases q : intsV _ with
      | none =>
        rw [q] at e
        cases e
      | some ms =>
        rw [q] at e
        cases e
        rw [List.map_cons, ← RlA.ints t q]
    | _ => cases e
def boolsV : List Val → Option (List Bool)
  | [] => some []
  | .bl i :: r => (boolsV r).map (i :: ·)
  | _ => none
theorem RlA.bools : ∀ {vs : List V} {ds : List Val} {ns : List Bool}, RlA K mg A H vs ds → boolsV ds = some ns → vs = ns.map V.bl
  | _, _, _, .nil, e => by
    cases e
    rfl
  | _, _, ns, .cons h t, e => by
    cases h with
    | bl i =>
      unfold boolsV at e
      cases q : boolsV _ with
      | none =>
        rw [q] at e
        cases e
      | some ms =>
        rw [q] at e
        cases e
        rw [List.map_cons, ← RlA.bools t q]
    | _ => cases e
def strsV : List Val → Option (List Str)
  | [] => some []
  | .str i :: r => (strsV r).map (i :: ·)
  | _ => none
theorem RlA.strs : ∀ {vs : List V} {ds : List Val} {ns : List Str}, RlA K mg A H vs ds → strsV ds = some ns → vs = ns.map V.str
  | _, _, _, .nil, e => by
    cases e
    rfl
  | _, _, ns, .cons h t, e => by
    cases h with
    | str i =>
      unfold strsV at e
      cases q : strsV _ with
      | none =>
        rw [q] at e
        cases e
      | some ms =>
        rw [q] at e
        cases e
        rw [List.map_cons, ← RlA.strs t q]
    | _ => cases e
theorem RlD.length {κ : Type} : ∀ {vs : List (κ × V)} {ds : List (κ × Val)}, RlD K mg A H vs ds → vs.length = ds.length
  | _, _, .nil => rfl
  | _, _, .cons _ t => congrArg (· + 1) (RlD.length t)
end

/-- a table: its code objects stay -/
def TabAt (A : List Addr) (H : Hp) (a : Addr) (q : Str) : Prop := ∃ ps : Array Value, H a = some (.tbl ps) ∧ TriplesOk ps.toList ∧ ∀ (pos : Pos) (cv : Value), codeAmong pos ps.toList = some cv → ∃ c, cv = .ref c ∧ hid A H c = some (LamX.CodeO c q)
/-- where the tables of code objects lie, by the lambdas' qualified name -/
class Tb where
  ad : Str → Addr
variable [Tb]
/-- what stands in a handle -/
def HcAt (K : PySem.W.Frag) (mg : Str → Option Value) (A : List Addr) (H : Hp) (a : Addr) : Cel → Prop
  | .lst ds => ∃ vs, H a = some (.lst vs) ∧ RlA K mg A (hid A H) vs ds
  | .dct ds => ∃ vs, H a = some (.dK vs) ∧ RlD K mg A (hid A H) vs ds
  | .dtt ds => ∃ vs, H a = some (.dT vs) ∧ RlD K mg A (hid A H) vs ds
  | .obj c ds => ∃ C dx vs, H a = some (.ins C dx vs) ∧ mg c = some (.ref C) ∧ RlD K mg A (hid A H) vs ds
  | .tab q => a = Tb.ad q ∧ TabAt A H a q
structure Ok (K : PySem.W.Frag) (mg : Str → Option Value) (A : List Addr) (cs : Mem) (H : Hp) : Prop where
  len : A.length = cs.length
  nd : A.Nodup
  «at» : ∀ (k : Nat) (a : Addr) (c : Cel), A[k]? = some a → cs[k]? = some c → HcAt K mg A H a c
section
variable {K : PySem.W.Frag} {mg : Str → Option Value} {A A' : List Addr} {H H' H'' : Hp} {cs : Mem}
theorem HcAt.some {a : Addr} : ∀ {c : Cel}, HcAt K mg A H a c → H a ≠ none
  | .lst _, ⟨vs, h, t⟩ => by rw [h]; exact fun z => by cases z
  | .dct _, ⟨vs, h, t⟩ => by rw [h]; exact fun z => by cases z
  | .dtt _, ⟨vs, h, t⟩ => by rw [h]; exact fun z => by cases z
  | .obj _ _, ⟨C, dx, vs, h, t⟩ => by rw [h]; exact fun z => by cases z
  | .tab _, ⟨_, vs, h, t⟩ => by rw [h]; exact fun z => by cases z
/-- at another heap, where the thing itself is the same -/
theorem HcAt.mono {a : Addr} (p : Pre A A') (e : Same (hid A H) (hid A' H')) (q : H' a = H a) : ∀ {c : Cel}, HcAt K mg A H a c → HcAt K mg A' H' a c
  | .lst _, ⟨vs, h, t⟩ => ⟨vs, q.trans h, t.mono p e⟩
  | .dct _, ⟨vs, h, t⟩ => ⟨vs, q.trans h, t.mono p e⟩
  | .dtt _, ⟨vs, h, t⟩ => ⟨vs, q.trans h, t.mono p e⟩
  | .obj _ _, ⟨C, dx, vs, h, g, t⟩ => ⟨C, dx, vs, q.trans h, g, t.mono p e⟩
  | .tab _, ⟨ea, vs, h, t, f⟩ => ⟨ea, vs, q.trans h, t, fun pos cv hc => by
    obtain ⟨c, e1, e2⟩ := f pos cv hc
    exact ⟨c, e1, e _ _ e2⟩⟩
theorem Ok.tracked (h : Ok K mg A cs H) {a : Addr} (ha : a ∈ A) : H a ≠ none := by
  obtain ⟨k, hk, e⟩ := List.getElem_of_mem ha
  have h1 : A[k]? = .some a := by rw [List.getElem?_eq_getElem hk, e]
  have hc : k < cs.length := h.len ▸ hk
  exact (h.at k a _ h1 (List.getElem?_eq_getElem hc)).some
theorem Stp.rfl' (h : Ok K mg A cs H) : Stp A H A H := ⟨⟨[], by simp, by simp⟩, fun _ _ _ _ e => e, fun _ _ o no e => ⟨o, no, e⟩⟩
theorem Stp.pre (s : Stp A H A' H') : Pre A A' := by
  obtain ⟨⟨B, eB, _⟩, _, _⟩ := s
  intro k a e
  obtain ⟨hk, _⟩ := List.getElem?_eq_some_iff.mp e
  rw [eB, List.getElem?_append_left hk]
  exact e
theorem Rl.step {v : V} {d : Val} (s : Stp A H A' H') (h : Rl K mg A (hid A H) v d) : Rl K mg A' (hid A' H') v d := h.mono (Stp.pre s) (Stp.sm s)
theorem RlA.step {v : List V} {d : List Val} (s : Stp A H A' H') (h : RlA K mg A (hid A H) v d) : RlA K mg A' (hid A' H') v d := h.mono (Stp.pre s) (Stp.sm s)
theorem Ok.ne {p : Addr} (ok : Ok K mg A cs H) (hp : H p = none) : p ∉ A := fun z => ok.tracked z hp
theorem Stp.new' {p : Addr} {o : HO} (ok : Ok K mg A cs H) (hp : H p = none) : Stp A H A (upd H p o) :=
  ⟨⟨[], by simp, by simp⟩, fun b u _ _ e => by rw [upd_ne (ne_of_none e hp)]; exact e, fun a ha u no e => ⟨u, no, by rw [upd_ne (ne_of_none e hp)]; exact e⟩⟩
theorem Ok.new {p : Addr} {o : HO} (ok : Ok K mg A cs H) (hp : H p = none) : Ok K mg A cs (upd H p o) := by
  have st := Stp.new' (o := o) ok hp
  refine ⟨ok.len, ok.nd, fun k a c e1 e2 => ?_⟩
  have h := ok.at k a c e1 e2
  have ha : a ≠ p := fun z => h.some (z ▸ hp)
  exact h.mono Pre.refl (Stp.sm st) (upd_ne ha)
theorem Stp.push' {p : Addr} {o : HO} (ok : Ok K mg A cs H) (hp : H p = none) : Stp A H (A ++ [p]) (upd H p o) := by
  have st := Stp.new' (o := o) ok hp
  exact ⟨⟨[p], rfl, fun b hb u _ e => by
    have eb : b = p := by simpa using hb
    rw [eb, hp] at e
    cases e⟩, st.keep, st.live⟩
/-- a new thing that may change: its cell shown at the new heap -/
theorem Ok.push {p : Addr} {o : HO} {c : Cel} (ok : Ok K mg A cs H) (hp : H p = none) (hc : HcAt K mg (A ++ [p]) (upd H p o) p c) : Ok K mg (A ++ [p]) (cs ++ [c]) (upd H p o) := by
  have st := Stp.push' (o := o) ok hp
  refine ⟨by rw [List.length_append, List.length_append, ok.len]; rfl, ?_, fun k a c' e1 e2 => ?_⟩
  · refine List.nodup_append.mpr ⟨ok.nd, by simp, fun x hx y hy => ?_⟩
    have e : y = p := by simpa using hy
    subst e
    rintro rfl
    exact ok.ne hp hx
  · by_cases hk : k < A.length
    · rw [List.getElem?_append_left hk] at e1
      rw [List.getElem?_append_left (ok.len ▸ hk)] at e2
      have h := ok.at k a c' e1 e2
      have ha : a ≠ p := fun z => h.some (z ▸ hp)
      exact h.mono (Stp.pre st) (Stp.sm st) (upd_ne ha)
    · rw [List.getElem?_append_right (by omega)] at e1
      rw [List.getElem?_append_right (by rw [← ok.len]; omega)] at e2
      have hk0 : k - A.length = 0 := by
        have := (List.getElem?_eq_some_iff.mp e1).1
        simp at this
        omega
      rw [← ok.len] at e2
      rw [hk0] at e1 e2
      cases e1
      cases e2
      exact hc
theorem Ok.hc (ok : Ok K mg A cs H) {k : Nat} {a : Addr} (e : A[k]? = .some a) : ∃ c, cs[k]? = .some c ∧ HcAt K mg A H a c := by
  obtain ⟨hk, _⟩ := List.getElem?_eq_some_iff.mp e
  have hc : k < cs.length := ok.len ▸ hk
  exact ⟨_, List.getElem?_eq_getElem hc, ok.at k a _ e (List.getElem?_eq_getElem hc)⟩
/-- a handle's thing changed -/
theorem Stp.wr' {p : Addr} {o : HO} (ok : Ok K mg A cs H) (hp : p ∈ A) (ho : NoT o := by intro ps z; cases z) : Stp A H A (upd H p o) :=
  ⟨⟨[], by simp, by simp⟩, fun b u hb _ e => by rw [upd_ne (show b ≠ p from fun z => hb (by rw [z]; exact hp))]; exact e, fun a ha u no e => by
    by_cases q : a = p
    · subst q
      exact ⟨o, ho, upd_same⟩
    · exact ⟨u, no, by rw [upd_ne q]; exact e⟩⟩
theorem Ok.wr {k : Nat} {p : Addr} {o : HO} {c : Cel} (ok : Ok K mg A cs H) (hk : A[k]? = .some p) (ho : NoT o) (hc : HcAt K mg A (upd H p o) p c) : Ok K mg A (cs.set k c) (upd H p o) := by
  have hp : p ∈ A := List.mem_of_getElem? hk
  have st := Stp.wr' (o := o) ok hp ho
  refine ⟨by rw [List.length_set]; exact ok.len, ok.nd, fun j a c' e1 e2 => ?_⟩
  by_cases hj : k = j
  · subst hj
    rw [hk] at e1
    cases e1
    rw [List.getElem?_set] at e2
    simp only [if_true] at e2
    split at e2
    · cases e2
      exact hc
    · cases e2
  · rw [List.getElem?_set_ne hj] at e2
    have h := ok.at j a c' e1 e2
    have ha : a ≠ p := fun z => by
      subst z
      obtain ⟨h1, h2⟩ := List.getElem?_eq_some_iff.mp e1
      obtain ⟨h3, h4⟩ := List.getElem?_eq_some_iff.mp hk
      exact hj ((List.getElem_inj ok.nd).mp (h4.trans h2.symm))
    exact h.mono Pre.refl (Stp.sm st) (upd_ne ha)
end

/-! ### names -/
abbrev Rho := List (Option Val)
def RhoOk (K : PySem.W.Frag) (mg : Str → Option Value) (A : List Addr) (ρ : Rho) (σ : L2.St) (H : Hp) : Prop :=
  ρ.length = σ.length ∧ ∀ (i : Nat) (d : Val), ρ[i]? = some (some d) → ∃ v, σ[i]? = some (some v) ∧ Rl K mg A (hid A H) v d
section
variable {K : PySem.W.Frag} {mg : Str → Option Value} {A A' : List Addr} {H H' : Hp} {ρ : Rho} {σ : L2.St}
theorem RhoOk.step (r : RhoOk K mg A ρ σ H) (s : Stp A H A' H') : RhoOk K mg A' ρ σ H' :=
  ⟨r.1, fun i d e => by
    obtain ⟨v, h1, h2⟩ := r.2 i d e
    exact ⟨v, h1, h2.step s⟩⟩
theorem RhoOk.set (r : RhoOk K mg A ρ σ H) {i : Nat} {v : V} {d : Val} (h : Rl K mg A (hid A H) v d) : RhoOk K mg A (ρ.set i (some d)) (σ.set i (some v)) H := by
  refine ⟨by rw [List.length_set, List.length_set]; exact r.1, fun j d' e => ?_⟩
  by_cases hj : i = j
  · subst hj
    rw [List.getElem?_set] at e
    simp only [if_true] at e
    split at e
    · rename_i hi
      cases e
      refine ⟨v, ?_, h⟩
      rw [List.getElem?_set]
      simp [r.1 ▸ hi]
    · cases e
  · rw [List.getElem?_set_ne hj] at e
    obtain ⟨w, h1, h2⟩ := r.2 j d' e
    exact ⟨w, by rw [List.getElem?_set_ne hj]; exact h1, h2⟩
end

/-! ### results -/
/-- an exception: its class's name, what it keeps in which attribute -/
structure Ex where
  cls : Str
  fs : List (Str × Val)
inductive Res (α : Type) where
  | ok (a : α) (cs : Mem)
  | exc (x : Ex) (cs : Mem)
  | bad
abbrev M (α : Type) := Mem → Res α
def Res.bind {α β : Type} (r : Res α) (f : α → M β) : Res β := match r with
  | .ok a cs => f a cs
  | .exc x cs => .exc x cs
  | .bad => .bad
/-- what an exception looks like -/
def RX (K : PySem.W.Frag) (mg : Str → Option Value) (A : List Addr) (H : Hp) (x : Ex) (cls : Value) (dx : Option Addr) : Prop :=
  mg x.cls = some cls ∧ ((x.fs = [] ∧ dx = none) ∨ ∃ d vs, dx = some d ∧ hid A H d = some (.xd vs) ∧ RlD K mg A (hid A H) vs x.fs)
def PostX (K : PySem.W.Frag) (mg : Str → Option Value) (A : List Addr) (H : Hp) {α : Type} (E : XK) (S : α → Mem → Prop) : Res α → Prop
  | .ok a cs => S a cs
  | .exc x cs => ∀ A' H' cls dx, Stp A H A' H' → Ok K mg A' cs H' → RX K mg A' H' x cls dx → E cls dx H'
  | .bad => False
def Post (K : PySem.W.Frag) (mg : Str → Option Value) (A : List Addr) (H : Hp) (Q : VK) (E : XK) : Res Val → Prop :=
  PostX K mg A H E fun d cs => ∀ v A' H', Stp A H A' H' → Ok K mg A' cs H' → Rl K mg A' (hid A' H') v d → Q v H'
def PostB (K : PySem.W.Frag) (mg : Str → Option Value) (A : List Addr) (H : Hp) (Q : Bool → Hp → Prop) (E : XK) : Res Bool → Prop :=
  PostX K mg A H E fun b cs => ∀ A' H', Stp A H A' H' → Ok K mg A' cs H' → Q b H'
def PostA (K : PySem.W.Frag) (mg : Str → Option Value) (A : List Addr) (H : Hp) (Q : List V → Hp → Prop) (E : XK) : Res (List Val) → Prop :=
  PostX K mg A H E fun ds cs => ∀ vs A' H', Stp A H A' H' → Ok K mg A' cs H' → RlA K mg A' (hid A' H') vs ds → Q vs H'
theorem PostX.step {K : PySem.W.Frag} {mg : Str → Option Value} {A A1 : List Addr} {H H1 : Hp} {α : Type} {E : XK} {S S1 : α → Mem → Prop} (s : Stp A H A1 H1) (hS : ∀ a cs, S a cs → S1 a cs) : ∀ {r : Res α}, PostX K mg A H E S r → PostX K mg A1 H1 E S1 r
  | .ok a cs, h => hS a cs h
  | .exc x cs, h => fun A' H' cls dx s' ok r => h A' H' cls dx (s.trans s') ok r
  | .bad, h => h
theorem PostX.mp {K : PySem.W.Frag} {mg : Str → Option Value} {A : List Addr} {H : Hp} {α : Type} {E : XK} {S S1 : α → Mem → Prop} (hS : ∀ a cs, S a cs → S1 a cs) : ∀ {r : Res α}, PostX K mg A H E S r → PostX K mg A H E S1 r
  | .ok a cs, h => hS a cs h
  | .exc x cs, h => h
  | .bad, h => h
theorem PostX.bind {K : PySem.W.Frag} {mg : Str → Option Value} {A : List Addr} {H : Hp} {α β : Type} {E : XK} {S : β → Mem → Prop} {f : α → M β} {r : Res α} (h : PostX K mg A H E S (r.bind f)) :
    PostX K mg A H E (fun a cs => PostX K mg A H E S (f a cs)) r := by
  cases r with
  | ok a cs => exact h
  | exc x cs => exact h
  | bad => exact h
theorem post_step {K : PySem.W.Frag} {mg : Str → Option Value} {A A1 : List Addr} {H H1 : Hp} {Q : VK} {E : XK} (s : Stp A H A1 H1) {r : Res Val} (h : Post K mg A H Q E r) : Post K mg A1 H1 Q E r :=
  PostX.step s (fun ds cs q v A' H' s' => q v A' H' (s.trans s')) h

/-! ### the judgements -/
structure EM (X : Cx) (E : XK) (e : Expr) (m : Rho → M Val) : Prop where
  ex : ∃ t, PE X e t ∧ ∀ A ρ cs σ H, Ok X.K X.mg A cs H → RhoOk X.K X.mg A ρ σ H → ∀ Q, Post X.K X.mg A H Q E (m ρ cs) → t σ H Q
structure TM (X : Cx) (E : XK) (e : Expr) (m : Rho → M Bool) : Prop where
  ex : ∃ t, PT X e t ∧ ∀ A ρ cs σ H, Ok X.K X.mg A cs H → RhoOk X.K X.mg A ρ σ H → ∀ Q, PostB X.K X.mg A H Q E (m ρ cs) → t σ H Q
structure WM (X : Cx) (E : XK) (e : Expr) (m : Rho → M Bool) : Prop where
  ex : ∃ t, PW X e t ∧ ∀ A ρ cs σ H, Ok X.K X.mg A cs H → RhoOk X.K X.mg A ρ σ H → ∀ Q, PostB X.K X.mg A H Q E (m ρ cs) → t σ H Q
structure AM (X : Cx) (E : XK) (es : List Expr) (m : Rho → M (List Val)) : Prop where
  ex : ∃ t, PA X es t ∧ ∀ A ρ cs σ H, Ok X.K X.mg A cs H → RhoOk X.K X.mg A ρ σ H → ∀ Q, PostA X.K X.mg A H Q E (m ρ cs) → t σ H Q
inductive Fl where
  | nx (ρ : Rho)
  | rt (d : Val)
  | bk (ρ : Rho)
  | ct (ρ : Rho)
def PostS (K : PySem.W.Frag) (mg : Str → Option Value) (A : List Addr) (H : Hp) (De : Ends) (E : XK) : Res Fl → Prop :=
  PostX K mg A H E fun f cs => match f with
    | .nx ρ => ∀ σ' A' H', Stp A H A' H' → Ok K mg A' cs H' → RhoOk K mg A' ρ σ' H' → De.nx σ' H'
    | .rt d => ∀ v A' H', Stp A H A' H' → Ok K mg A' cs H' → Rl K mg A' (hid A' H') v d → De.rt v H'
    | .bk ρ => ∀ σ' A' H', Stp A H A' H' → Ok K mg A' cs H' → RhoOk K mg A' ρ σ' H' → De.bk σ' H'
    | .ct ρ => ∀ σ' A' H', Stp A H A' H' → Ok K mg A' cs H' → RhoOk K mg A' ρ σ' H' → De.ct σ' H'
structure SM (X : Cx) (E : XK) (st : Stmt) (m : Rho → M Fl) : Prop where
  ex : ∃ t, PS X st t ∧ ∀ A ρ cs σ H, Ok X.K X.mg A cs H → RhoOk X.K X.mg A ρ σ H → ∀ De, PostS X.K X.mg A H De E (m ρ cs) → t De σ H
structure BM (X : Cx) (E : XK) (st : List Stmt) (m : Rho → M Fl) : Prop where
  ex : ∃ t, PSs X st t ∧ ∀ A ρ cs σ H, Ok X.K X.mg A cs H → RhoOk X.K X.mg A ρ σ H → ∀ De, PostS X.K X.mg A H De E (m ρ cs) → t De σ H
theorem PostS.step {K : PySem.W.Frag} {mg : Str → Option Value} {A A1 : List Addr} {H H1 : Hp} {De : Ends} {E : XK} (s : Stp A H A1 H1) {r : Res Fl} (h : PostS K mg A H De E r) : PostS K mg A1 H1 De E r :=
  PostX.step s (fun f cs q => by
    cases f with
    | nx ρ => exact fun σ' A' H' s' => q σ' A' H' (s.trans s')
    | rt d => exact fun v A' H' s' => q v A' H' (s.trans s')
    | bk ρ => exact fun σ' A' H' s' => q σ' A' H' (s.trans s')
    | ct ρ => exact fun σ' A' H' s' => q σ' A' H' (s.trans s')) h
end Py
set_option maxHeartbeats 2000000
/-! expressions: names, constants, operators, truth, and, or, not, if -/
namespace Py
open PySem PySem.Spec PyProof.Rows L2
open Mir (SL SL_eq)
variable [Tb]

abbrev RlV (K : PySem.W.Frag) (mg : Str → Option Value) (A : List Addr) (H : Hp) (v : V) (d : Val) : Prop := Rl K mg A (hid A H) v d
section
variable {K : PySem.W.Frag} {mg : Str → Option Value} {A : List Addr} {cs : Mem} {H : Hp} {Q : VK} {E : XK}
theorem Post.ret {d : Val} {v : V} (ok : Ok K mg A cs H) (h : Post K mg A H Q E (.ok d cs)) (r : RlV K mg A H v d) : Q v H := h v A H (Stp.rfl' ok) ok r
/-- a new tuple is handed back -/
theorem Post.tup {ds : List Val} {vs : List V} {p : Addr} (ok : Ok K mg A cs H) (h : Post K mg A H Q E (.ok (.tup ds) cs)) (hs : RlA K mg A (hid A H) vs ds) (hp : H p = none) : Q (.ref p) (upd H p (.tup vs)) := by
  have st := Stp.new' (o := .tup vs) ok hp
  refine h _ A _ st (ok.new hp) (.tup (.inl (.inl ?_)) (hs.step st))
  exact hid_in (ok.ne hp) upd_same
theorem get_push {A : List Addr} {p : Addr} : (A ++ [p])[A.length]? = some p := by simp
/-- a new list -/
theorem Post.lst {ds : List Val} {vs : List V} {p : Addr} (ok : Ok K mg A cs H) (h : Post K mg A H Q E (.ok (.h cs.length) (cs ++ [.lst ds]))) (hs : RlA K mg A (hid A H) vs ds) (hp : H p = none) : Q (.ref p) (upd H p (.lst vs)) := by
  have st := Stp.push' (o := .lst vs) ok hp
  exact h _ _ _ st (ok.push hp ⟨vs, upd_same, hs.step st⟩) (.hdl (ok.len ▸ get_push))
theorem Post.dct {ds : List (Key × Val)} {vs : List (Key × V)} {p : Addr} (ok : Ok K mg A cs H) (h : Post K mg A H Q E (.ok (.h cs.length) (cs ++ [.dct ds]))) (hs : RlD K mg A (hid A H) vs ds) (hp : H p = none) : Q (.ref p) (upd H p (.dK vs)) := by
  have st := Stp.push' (o := .dK vs) ok hp
  exact h _ _ _ st (ok.push hp ⟨vs, upd_same, hs.mono (Stp.pre st) (Stp.sm st)⟩) (.hdl (ok.len ▸ get_push))
/-! what a handle, a tuple, the script holds -/
def lstV : Val → Mem → Option (List Val)
  | .h k, cs => match cs[k]? with
    | some (.lst ds) => some ds
    | _ => none
  | _, _ => none
/-- .. of lists, and the script -/
def lstR : Val → Mem → Option (List Val)
  | .h k, cs => match cs[k]? with
    | some (.lst ds) => some ds
    | _ => none
  | .scr ns, _ => some (ns.map Val.int)
  | _, _ => none
def dctV : Val → Mem → Option (List (Key × Val))
  | .h k, cs => match cs[k]? with
    | some (.dct ds) => some ds
    | _ => none
  | _, _ => none
theorem lst_v {v : V} {d : Val} {ds : List Val} (ok : Ok K mg A cs H) (s : RlV K mg A H v d) (e : lstV d cs = some ds) : ∃ k a vs, d = .h k ∧ A[k]? = some a ∧ v = .ref a ∧ H a = some (.lst vs) ∧ RlA K mg A (hid A H) vs ds := by
  unfold lstV at e
  split at e
  · cases s with
    | hdl ea =>
      obtain ⟨c, ec, hc⟩ := ok.hc ea
      split at e
      · rename_i ec'
        rw [ec] at ec'
        cases ec'
        cases e
        obtain ⟨vs, h, t⟩ := hc
        exact ⟨_, _, vs, rfl, ea, rfl, h, t⟩
      · cases e
  · cases e
theorem dct_v {v : V} {d : Val} {ds : List (Key × Val)} (ok : Ok K mg A cs H) (s : RlV K mg A H v d) (e : dctV d cs = some ds) : ∃ k a vs, d = .h k ∧ A[k]? = some a ∧ v = .ref a ∧ H a = some (.dK vs) ∧ RlD K mg A (hid A H) vs ds := by
  unfold dctV at e
  split at e
  · cases s with
    | hdl ea =>
      obtain ⟨c, ec, hc⟩ := ok.hc ea
      split at e
      · rename_i ec'
        rw [ec] at ec'
        cases ec'
        cases e
        obtain ⟨vs, h, t⟩ := hc
        exact ⟨_, _, vs, rfl, ea, rfl, h, t⟩
      · cases e
  · cases e
theorem lst_r {v : V} {d : Val} {ds : List Val} (ok : Ok K mg A cs H) (s : RlV K mg A H v d) (e : lstR d cs = some ds) : ∃ a vs, v = .ref a ∧ SqL K H a vs ∧ RlA K mg A (hid A H) vs ds := by
  unfold lstR at e
  split at e
  · rename_i k
    obtain ⟨_, a, vs, _, _, rfl, h, t⟩ := lst_v (d := .h k) ok s e
    exact ⟨a, vs, rfl, .inl (.inl h), t⟩
  · cases e
    cases s with
    | scr h => exact ⟨_, _, rfl, hid_same.seq h, RlA.ofInts _⟩
  · cases e
theorem tup_v {v : V} {ds : List Val} (s : RlV K mg A H v (.tup ds)) : ∃ a vs, v = .ref a ∧ SqT K H a vs ∧ RlA K mg A (hid A H) vs ds := by
  cases s with
  | tup h t => exact ⟨_, _, rfl, Mir.SqT.same hid_same h, t⟩
end

/-! ### names, constants -/
def mVar (i : Nat) : Rho → M Val := fun ρ cs => match ρ[i]? with
  | some (some sl) => .ok sl cs
  | _ => .bad
def mC (d : Val) : Rho → M Val := fun _ cs => .ok d cs
section
variable {X : Cx} {E : XK} {pos : Pos}
theorem em_of {e : Expr} {m : Rho → M Val} {t : TE} (h : PE X e t) (k : ∀ A ρ cs σ H, Ok X.K X.mg A cs H → RhoOk X.K X.mg A ρ σ H → ∀ Q, Post X.K X.mg A H Q E (m ρ cs) → t σ H Q) : EM X E e m := ⟨t, h, k⟩
theorem em_var (i : Nat) {x : Str} (hN : X.N[i]? = some x := by rfl) (hv : Vis X.env.scope x := by first | exact Or.inl rfl | exact Or.inr (Or.inl rfl) | exact Or.inr (Or.inr rfl)) (hd : (x == ("__debug__" : Str)) = false := by decide)
    (hcd : (x == ("__classdict__" : Str)) = false := by decide) : EM X E (.Name x pos) (mVar i) :=
  em_of (pe_var hN hv hd hcd) fun A ρ cs σ H ok rk Q h => by
    unfold mVar at h
    split at h
    · rename_i sl e
      obtain ⟨v, e1, e2⟩ := rk.2 i sl e
      exact ⟨v, e1, Post.ret ok h e2⟩
    · exact h.elim
theorem em_int {i : Int} {j : Nat} : EM X E (.Constant (.int i) j pos) (mC (.int i)) := em_of pe_int fun A ρ cs σ H ok rk Q h => Post.ret ok h (.int i)
theorem em_bl {b : Bool} {j : Nat} : EM X E (.Constant (.bool b) j pos) (mC (.bl b)) := em_of pe_bl fun A ρ cs σ H ok rk Q h => Post.ret ok h (.bl b)
theorem em_non {j : Nat} : EM X E (.Constant .none j pos) (mC .non) := em_of pe_non fun A ρ cs σ H ok rk Q h => Post.ret ok h .non
theorem em_str {x : Str} {j : Nat} : EM X E (.Constant (.str x) j pos) (mC (.str x)) := em_of pe_str fun A ρ cs σ H ok rk Q h => Post.ret ok h (.str x)
/-- a module's int -/
theorem em_globI {x : Str} {i : Int} (hg : Gl X x) (hm : ∃ t, X.mg x = some (.int i t)) (hd : (x == ("__debug__" : Str)) = false := by decide) : EM X E (.Name x pos) (mC (.int i)) := by
  obtain ⟨t, hm⟩ := hm
  exact em_of (pe_glob (v := .int i) hg hm ⟨t, rfl⟩ hd) fun A ρ cs σ H ok rk Q h => Post.ret ok h (.int i)
end

/-! ### operators -/
structure OpM (X : Cx) (E : XK) (f : Value → Value → Sem Value) (o : Val → Val → M Val) : Prop where
  ex : ∃ r, OpR X f r ∧ ∀ A cs H x y sx sy, Ok X.K X.mg A cs H → RlV X.K X.mg A H x sx → RlV X.K X.mg A H y sy → ∀ Q, Post X.K X.mg A H Q E (o sx sy cs) → r x y H Q
def mBin (o : Val → Val → M Val) (ma mb : Rho → M Val) : Rho → M Val := fun ρ cs => (ma ρ cs).bind fun x cs1 => (mb ρ cs1).bind fun y cs2 => o x y cs2
section
variable {X : Cx} {E : XK} {pos : Pos} {a b c : Expr} {ma mb mc : Rho → M Val} {o o' : Val → Val → M Val}
/-- two readings, one behind the other -/
theorem two {ta tb : TE} {A : List Addr} {ρ : Rho} {cs : Mem} {σ : L2.St} {H : Hp} (ka : ∀ A ρ cs σ H, Ok X.K X.mg A cs H → RhoOk X.K X.mg A ρ σ H → ∀ Q, Post X.K X.mg A H Q E (ma ρ cs) → ta σ H Q)
    (kb : ∀ A ρ cs σ H, Ok X.K X.mg A cs H → RhoOk X.K X.mg A ρ σ H → ∀ Q, Post X.K X.mg A H Q E (mb ρ cs) → tb σ H Q) (ok : Ok X.K X.mg A cs H) (rk : RhoOk X.K X.mg A ρ σ H) {S : Val → Val → Mem → Prop} {W : V → V → Hp → Prop}
    (h : PostX X.K X.mg A H E (fun x cs1 => PostX X.K X.mg A H E (fun y cs2 => S x y cs2) (mb ρ cs1)) (ma ρ cs))
    (hS : ∀ x y sx sy A2 cs2 H2, Stp A H A2 H2 → Ok X.K X.mg A2 cs2 H2 → RlV X.K X.mg A2 H2 x sx → RlV X.K X.mg A2 H2 y sy → S sx sy cs2 → W x y H2) : ta σ H fun x H1 => tb σ H1 fun y H2 => W x y H2 := by
  refine ka A ρ cs σ H ok rk _ (h.step (Stp.rfl' ok) fun sx cs1 h1 x A1 H1 s1 ok1 r1 => ?_)
  refine kb A1 ρ cs1 σ H1 ok1 (rk.step s1) _ (h1.step s1 fun sy cs2 h2 y A2 H2 s2 ok2 r2 => ?_)
  exact hS x y sx sy A2 cs2 H2 (s1.trans s2) ok2 (r1.step s2) r2 h2
theorem em_bin {op : Operator} (ho : OpM X E (binaryOp op) o) (ha : EM X E a ma) (hb : EM X E b mb) : EM X E (.BinOp a op b pos) (mBin o ma mb) := by
  obtain ⟨r, hr, kr⟩ := ho
  obtain ⟨ta, pa, ka⟩ := ha
  obtain ⟨tb, pb, kb⟩ := hb
  refine em_of (pe_op hr pa pb) fun A ρ cs σ H ok rk Q h => ?_
  refine two ka kb ok rk (S := fun x y cs2 => Post X.K X.mg A H Q E (o x y cs2)) ((PostX.bind h).step (Stp.rfl' ok) fun x cs1 h1 => PostX.bind h1) fun x y sx sy A2 cs2 H2 s ok2 r1 r2 hS => ?_
  exact kr A2 cs2 H2 x y sx sy ok2 r1 r2 Q (hS.step s fun sl cs3 q v A' H' s' => q v A' H' (s.trans s'))
theorem em_cmp {op : CmpOp} (ho : OpM X E (compareOp op) o) (ha : EM X E a ma) (hb : EM X E b mb) (hm : behindInMarks op b = false := by first | exact nomark _ | with_unfolding_all rfl) : EM X E (.Compare a [op] [b] pos) (mBin o ma mb) := by
  obtain ⟨r, hr, kr⟩ := ho
  obtain ⟨ta, pa, ka⟩ := ha
  obtain ⟨tb, pb, kb⟩ := hb
  refine em_of (pe_cmpR hr pa pb hm) fun A ρ cs σ H ok rk Q h => ?_
  refine two ka kb ok rk (S := fun x y cs2 => Post X.K X.mg A H Q E (o x y cs2)) ((PostX.bind h).step (Stp.rfl' ok) fun x cs1 h1 => PostX.bind h1) fun x y sx sy A2 cs2 H2 s ok2 r1 r2 hS => ?_
  exact kr A2 cs2 H2 x y sx sy ok2 r1 r2 Q (hS.step s fun sl cs3 q v A' H' s' => q v A' H' (s.trans s'))
/-- a value that is a bool -/
def toB : Val → M Bool
  | .bl b, cs => .ok b cs
  | _, _ => .bad
theorem toB_ok {K : PySem.W.Frag} {mg : Str → Option Value} {A : List Addr} {H : Hp} {v : V} {d : Val} {cs : Mem} {S : Bool → Mem → Prop} (r : RlV K mg A H v d) {A0 : List Addr} {H0 : Hp} (h : PostX K mg A0 H0 E S (toB d cs)) : ∃ b, v = .bl b ∧ S b cs := by
  cases d with
  | bl b =>
    cases r
    exact ⟨b, rfl, h⟩
  | _ => exact h.elim
/-- a value's truth -/
def toT : Val → M Bool
  | .bl b, cs => .ok b cs
  | .non, cs => .ok false cs
  | .int i, cs => .ok (i != 0) cs
  | .str x, cs => if x.length ≤ SL then .ok ((x.length : Int) != 0) cs else .bad
  | .tup l, cs => .ok (!l.isEmpty) cs
  | .h k, cs => match cs[k]? with
    | some (.lst l) => .ok (!l.isEmpty) cs
    | some (.dct l) => .ok (!l.isEmpty) cs
    | _ => .bad
  | _, _ => .bad
theorem RlA.empty {K : PySem.W.Frag} {mg : Str → Option Value} {A : List Addr} {H : Hp} {vs : List V} {ds : List Val} (h : RlA K mg A H vs ds) : vs.isEmpty = ds.isEmpty := by
  cases h <;> rfl
theorem toT_ok {K : PySem.W.Frag} {mg : Str → Option Value} {A : List Addr} {H : Hp} {v : V} {d : Val} {cs : Mem} {S : Bool → Mem → Prop} (ok : Ok K mg A cs H) (r : RlV K mg A H v d) {A0 : List Addr} {H0 : Hp} (h : PostX K mg A0 H0 E S (toT d cs)) : ∃ b, TruV K v H b ∧ S b cs := by
  unfold toT at h
  split at h
  · cases r
    exact ⟨_, rfl, h⟩
  · cases r
    exact ⟨_, rfl, h⟩
  · cases r
    exact ⟨_, rfl, h⟩
  · cases r
    split at h
    · rename_i hz
      exact ⟨_, ⟨SL_eq ▸ hz, rfl⟩, h⟩
    · exact h.elim
  · obtain ⟨a, vs, rfl, h1, h2⟩ := tup_v r
    exact ⟨_, .inr (.inl ⟨vs, h1, by rw [h2.empty]⟩), h⟩
  · rename_i k
    cases r with
    | hdl ea =>
      obtain ⟨c, ec, hc⟩ := ok.hc ea
      rw [ec] at h
      cases c with
      | lst l =>
        obtain ⟨vs, h1, h2⟩ := hc
        exact ⟨_, .inl ⟨vs, .inl (.inl h1), by rw [h2.empty]⟩, h⟩
      | dct l =>
        obtain ⟨vs, h1, h2⟩ := hc
        exact ⟨_, .inr (.inr ⟨vs, h1, by cases h2 <;> rfl⟩), h⟩
      | _ => exact h.elim
  · exact h.elim
def mTest (m : Rho → M Val) : Rho → M Bool := fun ρ cs => (m ρ cs).bind toT
theorem tm_val (h : EM X E a ma) (he : ∀ whole, isTrue a X.env whole = (do let v ← whole; standAt a.pos; holding [v] (truthy v)) := by intro _; rfl) : TM X E a (mTest ma) := by
  obtain ⟨ta, pa, ka⟩ := h
  refine ⟨_, pt_truth pa he, fun A ρ cs σ H ok rk Q h => ?_⟩
  refine ka A ρ cs σ H ok rk _ ((PostX.bind h).step (Stp.rfl' ok) fun sx cs1 h1 x A1 H1 s1 ok1 r1 => ?_)
  obtain ⟨b, e, q⟩ := toT_ok ok1 r1 h1
  exact ⟨b, e, q A1 H1 s1 ok1⟩
def mTestB (m : Rho → M Val) : Rho → M Bool := fun ρ cs => (m ρ cs).bind toB
theorem tm_cmp {op : CmpOp} (ho : OpM X E (compareOp op) o) (ha : EM X E a ma) (hb : EM X E b mb) (hm : behindInMarks op b = false := by first | exact nomark _ | with_unfolding_all rfl) : TM X E (.Compare a [op] [b] pos) (mTestB (mBin o ma mb)) := by
  obtain ⟨r, hr, kr⟩ := ho
  obtain ⟨ta, pa, ka⟩ := ha
  obtain ⟨tb, pb, kb⟩ := hb
  refine ⟨_, pt_cmpR hr pa pb hm, fun A ρ cs σ H ok rk Q h => ?_⟩
  have h' := PostX.bind h
  refine two ka kb ok rk (S := fun x y cs2 => PostX X.K X.mg A H E (fun sl cs3 => PostB X.K X.mg A H Q E (toB sl cs3)) (o x y cs2)) ((PostX.bind h').step (Stp.rfl' ok) fun x cs1 h1 => PostX.bind h1) fun x y sx sy A2 cs2 H2 s ok2 r1 r2 hS => ?_
  refine kr A2 cs2 H2 x y sx sy ok2 r1 r2 _ (hS.step s fun sl cs3 q v A' H' s' ok' r' => ?_)
  obtain ⟨b, e, q'⟩ := toB_ok r' q
  exact ⟨b, e, q' A' H' (s.trans s') ok'⟩
/-- a op b op' c -/
def mChain (o o' : Val → Val → M Val) (ma mb mc : Rho → M Val) : Rho → M Val := fun ρ cs => (ma ρ cs).bind fun x cs1 => (mb ρ cs1).bind fun y cs2 => (o x y cs2).bind fun z cs3 => (toB z cs3).bind fun k cs4 =>
  if k = true then (mc ρ cs4).bind fun w cs5 => o' y w cs5 else .ok (.bl false) cs4
theorem chain_run {op op' : CmpOp} {ta tb tc : TE} {r r' : R2} {A : List Addr} {ρ : Rho} {cs : Mem} {σ : L2.St} {H : Hp}
    (ka : ∀ A ρ cs σ H, Ok X.K X.mg A cs H → RhoOk X.K X.mg A ρ σ H → ∀ Q, Post X.K X.mg A H Q E (ma ρ cs) → ta σ H Q)
    (kb : ∀ A ρ cs σ H, Ok X.K X.mg A cs H → RhoOk X.K X.mg A ρ σ H → ∀ Q, Post X.K X.mg A H Q E (mb ρ cs) → tb σ H Q)
    (kc : ∀ A ρ cs σ H, Ok X.K X.mg A cs H → RhoOk X.K X.mg A ρ σ H → ∀ Q, Post X.K X.mg A H Q E (mc ρ cs) → tc σ H Q)
    (kr : ∀ A cs H x y sx sy, Ok X.K X.mg A cs H → RlV X.K X.mg A H x sx → RlV X.K X.mg A H y sy → ∀ Q, Post X.K X.mg A H Q E (o sx sy cs) → r x y H Q)
    (kr' : ∀ A cs H x y sx sy, Ok X.K X.mg A cs H → RlV X.K X.mg A H x sx → RlV X.K X.mg A H y sy → ∀ Q, Post X.K X.mg A H Q E (o' sx sy cs) → r' x y H Q)
    (ok : Ok X.K X.mg A cs H) (rk : RhoOk X.K X.mg A ρ σ H) {Q : VK} (h : Post X.K X.mg A H Q E (mChain o o' ma mb mc ρ cs)) : tChain r r' ta tb tc σ H Q := by
  refine two ka kb ok rk (S := fun x y cs2 => Post X.K X.mg A H Q E ((o x y cs2).bind fun z cs3 => (toB z cs3).bind fun k cs4 => if k = true then (mc ρ cs4).bind fun w cs5 => o' y w cs5 else .ok (.bl false) cs4))
    ((PostX.bind h).step (Stp.rfl' ok) fun x cs1 h1 => PostX.bind h1) fun x y sx sy A2 cs2 H2 s ok2 r1 r2 hS => ?_
  refine kr A2 cs2 H2 x y sx sy ok2 r1 r2 _ ((PostX.bind hS).step s fun z cs3 q v A3 H3 s3 ok3 r3 => ?_)
  obtain ⟨k, e, q'⟩ := toB_ok r3 (PostX.bind q)
  refine ⟨k, e, ?_⟩
  cases k with
  | false =>
    rw [if_neg Bool.false_ne_true] at q' ⊢
    exact q' _ A3 H3 (s.trans s3) ok3 (.bl false)
  | true =>
    rw [if_pos rfl] at q' ⊢
    refine kc A3 ρ cs3 σ H3 ok3 (rk.step (s.trans s3)) _ ((PostX.bind q').step (s.trans s3) fun sw cs5 q5 w A5 H5 s5 ok5 r5 => ?_)
    exact kr' A5 cs5 H5 y w sy sw ok5 (r2.step (s3.trans s5)) r5 Q (q5.step ((s.trans s3).trans s5) fun sl cs6 q6 v' A' H' s' => q6 v' A' H' (((s.trans s3).trans s5).trans s'))
theorem em_chain {op op' : CmpOp} (ho : OpM X E (compareOp op) o) (ho' : OpM X E (compareOp op') o') (ha : EM X E a ma) (hb : EM X E b mb) (hc : EM X E c mc) (hm : lastMarks [op, op'] [b, c] = false := by with_unfolding_all rfl) :
    EM X E (.Compare a [op, op'] [b, c] pos) (mChain o o' ma mb mc) := by
  obtain ⟨r, hr, kr⟩ := ho
  obtain ⟨r', hr', kr'⟩ := ho'
  obtain ⟨ta, pa, ka⟩ := ha
  obtain ⟨tb, pb, kb⟩ := hb
  obtain ⟨tc, pc, kc⟩ := hc
  exact em_of (pe_chain hr hr' pa pb pc hm) fun A ρ cs σ H ok rk Q h => chain_run (op := op) (op' := op') ka kb kc kr kr' ok rk h
theorem tm_chain {op op' : CmpOp} (ho : OpM X E (compareOp op) o) (ho' : OpM X E (compareOp op') o') (ha : EM X E a ma) (hb : EM X E b mb) (hc : EM X E c mc) (hm : lastMarks [op, op'] [b, c] = false := by with_unfolding_all rfl) :
    TM X E (.Compare a [op, op'] [b, c] pos) (mTestB (mChain o o' ma mb mc)) := by
  obtain ⟨r, hr, kr⟩ := ho
  obtain ⟨r', hr', kr'⟩ := ho'
  obtain ⟨ta, pa, ka⟩ := ha
  obtain ⟨tb, pb, kb⟩ := hb
  obtain ⟨tc, pc, kc⟩ := hc
  refine ⟨_, pt_chain hr hr' pa pb pc hm, fun A ρ cs σ H ok rk Q h => ?_⟩
  refine chain_run (op := op) (op' := op') ka kb kc kr kr' ok rk ((PostX.bind h).step (Stp.rfl' ok) fun sl cs3 q v A' H' s' ok' r' => ?_)
  obtain ⟨b', e, q'⟩ := toB_ok r' q
  exact ⟨b', e, q' A' H' s' ok'⟩

/-! ### and, or, not, if -/
variable {e : Expr} {rest : List Expr} {mt mu : Rho → M Bool}
def mAndT (mt mu : Rho → M Bool) : Rho → M Bool := fun ρ cs => (mt ρ cs).bind fun k cs1 => if k = true then mu ρ cs1 else .ok false cs1
def mOrT (mt mu : Rho → M Bool) : Rho → M Bool := fun ρ cs => (mt ρ cs).bind fun k cs1 => if k = true then .ok true cs1 else mu ρ cs1
def mNotT (mt : Rho → M Bool) : Rho → M Bool := fun ρ cs => (mt ρ cs).bind fun k cs1 => .ok (!k) cs1
theorem wm_and1 (h : TM X E a mt) : WM X E (.BoolOp .And [a] pos) mt := by
  obtain ⟨t, p, k⟩ := h
  exact ⟨t, pw_and1 p, k⟩
theorem wm_or1 (h : TM X E a mt) : WM X E (.BoolOp .Or [a] pos) mt := by
  obtain ⟨t, p, k⟩ := h
  exact ⟨t, pw_or1 p, k⟩
theorem wm_and (h : TM X E a mt) (h2 : WM X E (.BoolOp .And (b :: rest) pos) mu) : WM X E (.BoolOp .And (a :: b :: rest) pos) (mAndT mt mu) := by
  obtain ⟨t, p, k⟩ := h
  obtain ⟨u, p2, k2⟩ := h2
  refine ⟨_, pw_and p p2, fun A ρ cs σ H ok rk Q h => ?_⟩
  refine k A ρ cs σ H ok rk _ ((PostX.bind h).step (Stp.rfl' ok) fun c cs1 q A1 H1 s1 ok1 => ?_)
  cases c with
  | true => exact k2 A1 ρ cs1 σ H1 ok1 (rk.step s1) Q (PostX.step s1 (fun b cs2 q2 A' H' s' => q2 A' H' (s1.trans s')) q)
  | false => exact q A1 H1 s1 ok1
theorem wm_or (h : TM X E a mt) (h2 : WM X E (.BoolOp .Or (b :: rest) pos) mu) : WM X E (.BoolOp .Or (a :: b :: rest) pos) (mOrT mt mu) := by
  obtain ⟨t, p, k⟩ := h
  obtain ⟨u, p2, k2⟩ := h2
  refine ⟨_, pw_or p p2, fun A ρ cs σ H ok rk Q h => ?_⟩
  refine k A ρ cs σ H ok rk _ ((PostX.bind h).step (Stp.rfl' ok) fun c cs1 q A1 H1 s1 ok1 => ?_)
  cases c with
  | false => exact k2 A1 ρ cs1 σ H1 ok1 (rk.step s1) Q (PostX.step s1 (fun b cs2 q2 A' H' s' => q2 A' H' (s1.trans s')) q)
  | true => exact q A1 H1 s1 ok1
theorem WM.tm (h : WM X E e mt) : TM X E e mt := by
  obtain ⟨t, p, k⟩ := h
  exact ⟨t, p.pt, k⟩
theorem tm_not (h : TM X E a mt) : TM X E (.UnaryOp .Not a pos) (mNotT mt) := by
  obtain ⟨t, p, k⟩ := h
  refine ⟨_, pt_not p, fun A ρ cs σ H ok rk Q h => ?_⟩
  exact k A ρ cs σ H ok rk _ ((PostX.bind h).step (Stp.rfl' ok) fun c cs1 q A1 H1 s1 ok1 => q A1 H1 s1 ok1)
def mAnd (ma mb : Rho → M Val) : Rho → M Val := fun ρ cs => (ma ρ cs).bind fun x cs1 => (toT x cs1).bind fun k cs2 => if k = true then mb ρ cs2 else .ok x cs2
def mOr (ma mb : Rho → M Val) : Rho → M Val := fun ρ cs => (ma ρ cs).bind fun x cs1 => (toT x cs1).bind fun k cs2 => if k = true then .ok x cs2 else mb ρ cs2
def mNot (ma : Rho → M Val) : Rho → M Val := fun ρ cs => (ma ρ cs).bind fun x cs1 => (toT x cs1).bind fun k cs2 => .ok (.bl (!k)) cs2
theorem em_one {op : BoolOp} (h : EM X E a ma) : EM X E (.BoolOp op [a] pos) ma := by
  obtain ⟨t, p, k⟩ := h
  exact ⟨t, pe_one p, k⟩
theorem em_and (h : EM X E a ma) (h2 : EM X E (.BoolOp .And (b :: rest) pos) mb) : EM X E (.BoolOp .And (a :: b :: rest) pos) (mAnd ma mb) := by
  obtain ⟨t, p, k⟩ := h
  obtain ⟨u, p2, k2⟩ := h2
  refine em_of (pe_andT p p2) fun A ρ cs σ H ok rk Q h => ?_
  refine k A ρ cs σ H ok rk _ ((PostX.bind h).step (Stp.rfl' ok) fun sx cs1 q x A1 H1 s1 ok1 r1 => ?_)
  obtain ⟨c, e, q'⟩ := toT_ok ok1 r1 (PostX.bind q)
  refine ⟨c, e, ?_⟩
  cases c with
  | true => exact k2 A1 ρ cs1 σ H1 ok1 (rk.step s1) Q (PostX.step s1 (fun b cs2 q2 v A' H' s' => q2 v A' H' (s1.trans s')) q')
  | false => exact q' _ A1 H1 s1 ok1 r1
theorem em_or (h : EM X E a ma) (h2 : EM X E (.BoolOp .Or (b :: rest) pos) mb) : EM X E (.BoolOp .Or (a :: b :: rest) pos) (mOr ma mb) := by
  obtain ⟨t, p, k⟩ := h
  obtain ⟨u, p2, k2⟩ := h2
  refine em_of (pe_orT p p2) fun A ρ cs σ H ok rk Q h => ?_
  refine k A ρ cs σ H ok rk _ ((PostX.bind h).step (Stp.rfl' ok) fun sx cs1 q x A1 H1 s1 ok1 r1 => ?_)
  obtain ⟨c, e, q'⟩ := toT_ok ok1 r1 (PostX.bind q)
  refine ⟨c, e, ?_⟩
  cases c with
  | false => exact k2 A1 ρ cs1 σ H1 ok1 (rk.step s1) Q (PostX.step s1 (fun b cs2 q2 v A' H' s' => q2 v A' H' (s1.trans s')) q')
  | true => exact q' _ A1 H1 s1 ok1 r1
theorem em_not (h : EM X E a ma) : EM X E (.UnaryOp .Not a pos) (mNot ma) := by
  obtain ⟨t, p, k⟩ := h
  refine em_of (pe_notT p) fun A ρ cs σ H ok rk Q h => ?_
  refine k A ρ cs σ H ok rk _ ((PostX.bind h).step (Stp.rfl' ok) fun sx cs1 q x A1 H1 s1 ok1 r1 => ?_)
  obtain ⟨c, e, q'⟩ := toT_ok ok1 r1 (PostX.bind q)
  exact ⟨c, e, q' _ A1 H1 s1 ok1 (.bl _)⟩
def mIf {α : Type} (mt : Rho → M Bool) (ma mb : Rho → M α) : Rho → M α := fun ρ cs => (mt ρ cs).bind fun k cs1 => if k = true then ma ρ cs1 else mb ρ cs1
theorem em_if (h : TM X E c mt) (ha : EM X E a ma) (hb : EM X E b mb) : EM X E (.IfExp c a b pos) (mIf mt ma mb) := by
  obtain ⟨t, p, k⟩ := h
  obtain ⟨ta, pa, ka⟩ := ha
  obtain ⟨tb, pb, kb⟩ := hb
  refine em_of (pe_ifExp p pa pb) fun A ρ cs σ H ok rk Q h => ?_
  refine k A ρ cs σ H ok rk _ ((PostX.bind h).step (Stp.rfl' ok) fun c cs1 q A1 H1 s1 ok1 => ?_)
  cases c with
  | true => exact ka A1 ρ cs1 σ H1 ok1 (rk.step s1) Q (PostX.step s1 (fun b cs2 q2 v A' H' s' => q2 v A' H' (s1.trans s')) q)
  | false => exact kb A1 ρ cs1 σ H1 ok1 (rk.step s1) Q (PostX.step s1 (fun b cs2 q2 v A' H' s' => q2 v A' H' (s1.trans s')) q)
end
end Py
set_option maxHeartbeats 2000000
/-! operators; data read at a moment -/
namespace Py
open PySem PySem.Spec PyProof.Rows L2
open Mir (SL SL_eq)
variable [Tb]

/-! ### what a value is at a moment, as data -/
def mapO {α β : Type} (f : α → Option β) : List α → Option (List β)
  | [] => some []
  | a :: r => match f a, mapO f r with
    | some b, some t => some (b :: t)
    | _, _ => none
def kvO (f : Val → Option PyData) : List (Key × Val) → Option (List (PyData × PyData))
  | [] => some []
  | (k, a) :: r => match f a, kvO f r with
    | some b, some t => some ((Mir.kD k, b) :: t)
    | _, _ => none
def snap : Nat → Mem → Val → Option PyData
  | 0, _, _ => none
  | n + 1, cs, d => match d with
    | .non => some .none
    | .bl b => some (.bool b)
    | .int i => some (.int i)
    | .str x => some (.str x)
    | .tup l => (mapO (snap n cs) l).map .tuple
    | .h k => match cs[k]? with
      | some (.lst l) => (mapO (snap n cs) l).map .list
      | some (.dct l) => (kvO (snap n cs) l).map .dict
      | _ => none
    | _ => none
section
variable {K : PySem.W.Frag} {mg : Str → Option Value} {A : List Addr} {cs : Mem} {H : Hp}
theorem snap_map {f : Val → Option PyData} (hf : ∀ v d e, Rl K mg A (hid A H) v d → f d = some e → Mir.Sh K H v e) : ∀ {vs : List V} {ds : List Val} {es : List PyData}, RlA K mg A (hid A H) vs ds → mapO f ds = some es → Mir.ShA K H vs es
  | _, _, _, .nil, e => by
    cases e
    exact .nil
  | _, _, es, .cons h t, e => by
    unfold mapO at e
    split at e
    · rename_i e1 e2
      cases e
      exact .cons (hf _ _ _ h e1) (snap_map hf t e2)
    · cases e
theorem snap_kv {f : Val → Option PyData} (hf : ∀ v d e, Rl K mg A (hid A H) v d → f d = some e → Mir.Sh K H v e) : ∀ {vs : List (Key × V)} {ds : List (Key × Val)} {es : List (PyData × PyData)}, RlD K mg A (hid A H) vs ds → kvO f ds = some es → Mir.ShD K H vs es
  | _, _, _, .nil, e => by
    cases e
    exact .nil
  | _, _, es, .cons h t, e => by
    unfold kvO at e
    split at e
    · rename_i e1 e2
      cases e
      exact .cons (hf _ _ _ h e1) (snap_kv hf t e2)
    · cases e
theorem snap_sh (ok : Ok K mg A cs H) : ∀ (n : Nat) (v : V) (d : Val) (e : PyData), Rl K mg A (hid A H) v d → snap n cs d = some e → Mir.Sh K H v e
  | 0, _, _, _, _, h => by cases h
  | n + 1, v, d, e, r, h => by
    have ih := snap_sh ok n
    unfold snap at h
    split at h
    · cases h
      cases r
      exact .non
    · cases h
      cases r
      exact .bl _
    · cases h
      cases r
      exact .int _
    · cases h
      cases r
      exact .str _
    · rename_i l
      obtain ⟨es, q, rfl⟩ := Option.map_eq_some_iff.mp h
      cases r with
      | tup h1 h2 => exact .tup (Mir.SqT.same hid_same h1) (snap_map (fun v d e r q => ih v d e r q) h2 q)
    · cases r with
      | hdl ea =>
        obtain ⟨c, ec, hc⟩ := ok.hc ea
        rw [ec] at h
        cases c with
        | lst l =>
          obtain ⟨es, q, rfl⟩ := Option.map_eq_some_iff.mp h
          obtain ⟨vs, h1, h2⟩ := hc
          exact .lst h1 (snap_map (fun v d e r q => ih v d e r q) h2 q)
        | dct l =>
          obtain ⟨es, q, rfl⟩ := Option.map_eq_some_iff.mp h
          obtain ⟨vs, h1, h2⟩ := hc
          exact .dic h1 (snap_kv (fun v d e r q => ih v d e r q) h2 q)
        | _ => cases h
    · cases h
/-- new things alone -/
theorem ok_grow {H' : Hp} (ok : Ok K mg A cs H) (e : Same H H') : Stp A H A H' ∧ Ok K mg A cs H' := by
  have st : Stp A H A H' := ⟨⟨[], by simp, by simp⟩, fun b o _ _ h => e b o h, fun a _ o no h => ⟨o, no, e a o h⟩⟩
  refine ⟨st, ok.len, ok.nd, fun k a c e1 e2 => ?_⟩
  have h := ok.at k a c e1 e2
  refine h.mono Pre.refl (Stp.sm st) ?_
  have hn := h.some
  cases q : H a with
  | none => exact absurd q hn
  | some o => rw [e a o q]
end

/-! ### rules over data, brought over -/
def R0 : Mir.XR := fun _ _ _ _ => False
/-- a result that is no thing of its own -/
def scal (cs : Mem) : Mir.Res Mir.Sl → Res Val
  | .ok (.d .none) [] => .ok .non cs
  | .ok (.d (.bool b)) [] => .ok (.bl b) cs
  | .ok (.d (.int i)) [] => .ok (.int i) cs
  | .ok (.d (.str x)) [] => .ok (.str x) cs
  | _ => .bad
theorem okNil {K : PySem.W.Frag} {H : Hp} : Mir.Ok K [] [] [] H := ⟨fun _ h => (by cases h), rfl, .nil, fun k a c e => by cases e⟩
theorem hidNil {H : Hp} : Mir.hid [] H = H := by
  funext b
  simp [Mir.hid]
theorem shS_of {K : PySem.W.Frag} {H : Hp} {v : V} {d : PyData} (h : Mir.Sh K H v d) : Mir.ShS K [] [] H v (.d d) := by
  show Mir.Sh K (Mir.hid [] H) v d
  rw [hidNil]
  exact h
theorem same_nil {A' : List Addr} {H H' : Hp} (s : Mir.Stp [] H A' H') : Same H H' := fun b o h => s.keep b o (by simp) h
theorem scal_post {K : PySem.W.Frag} {mg : Str → Option Value} {A : List Addr} {cs : Mem} {H : Hp} {Q : VK} {E : XK} (ok : Ok K mg A cs H) {r : Mir.Res Mir.Sl} (h : Post K mg A H Q E (scal cs r)) : Mir.Post K R0 [] [] H Q E r := by
  cases r with
  | bad => exact h
  | exc x c => exact fun A' H' cls dx _ _ z => z.elim
  | ok sl c =>
    intro v A' H' st ok' sh
    unfold scal at h
    split at h
    · rename_i e
      cases e
      obtain ⟨s2, ok2⟩ := ok_grow ok (same_nil st)
      cases sh
      exact h _ A H' s2 ok2 .non
    · rename_i e
      cases e
      obtain ⟨s2, ok2⟩ := ok_grow ok (same_nil st)
      cases sh
      exact h _ A H' s2 ok2 (.bl _)
    · rename_i e
      cases e
      obtain ⟨s2, ok2⟩ := ok_grow ok (same_nil st)
      cases sh
      exact h _ A H' s2 ok2 (.int _)
    · rename_i e
      cases e
      obtain ⟨s2, ok2⟩ := ok_grow ok (same_nil st)
      cases sh
      exact h _ A H' s2 ok2 (.str _)
    · exact h.elim
def DEP : Nat := 20
def via2 (o : Mir.Sl → Mir.Sl → Mir.M Mir.Sl) : Val → Val → M Val := fun x y cs => match snap DEP cs x, snap DEP cs y with
  | some d, some e => scal cs (o (.d d) (.d e) [])
  | _, _ => .bad
def via1 (o : Mir.Sl → Mir.M Mir.Sl) : Val → M Val := fun x cs => match snap DEP cs x with
  | some d => scal cs (o (.d d) [])
  | _ => .bad
theorem opm_of {X : Cx} {E : XK} {f : Value → Value → Sem Value} {o : Val → Val → M Val} {r : R2} (h : OpR X f r)
    (k : ∀ A cs H x y sx sy, Ok X.K X.mg A cs H → RlV X.K X.mg A H x sx → RlV X.K X.mg A H y sy → ∀ Q, Post X.K X.mg A H Q E (o sx sy cs) → r x y H Q) : OpM X E f o := ⟨r, h, k⟩
theorem om_via {X : Cx} {E : XK} {f : Value → Value → Sem Value} {o : Mir.Sl → Mir.Sl → Mir.M Mir.Sl} (h : Mir.OpM X R0 E f o) : OpM X E f (via2 o) := by
  obtain ⟨r, hr, k⟩ := h
  refine ⟨r, hr, fun A cs H x y sx sy ok rx ry Q h => ?_⟩
  unfold via2 at h
  split at h
  · rename_i d e ed ee
    exact k [] [] [] H x y _ _ okNil (shS_of (snap_sh ok _ _ _ _ rx ed)) (shS_of (snap_sh ok _ _ _ _ ry ee)) Q (scal_post ok h)
  · exact h.elim
section
variable {X : Cx} {E : XK}
def oEq := via2 Mir.oEq
def oNe := via2 Mir.oNe
def oLt := via2 Mir.oLt
def oLe := via2 Mir.oLe
def oGt := via2 Mir.oGt
def oGe := via2 Mir.oGe
theorem om_eq (hu : X.A.units + 64 < cLine) : OpM X E (compareOp .Eq) oEq := om_via (Mir.om_eq hu)
theorem om_ne (hu : X.A.units + 64 < cLine) : OpM X E (compareOp .NotEq) oNe := om_via (Mir.om_ne hu)
theorem om_lt : OpM X E (compareOp .Lt) oLt := om_via Mir.om_lt
theorem om_le : OpM X E (compareOp .LtE) oLe := om_via Mir.om_le
theorem om_gt : OpM X E (compareOp .Gt) oGt := om_via Mir.om_gt
theorem om_ge : OpM X E (compareOp .GtE) oGe := om_via Mir.om_ge

/-! ### reckoning -/
def oAdd : Val → Val → M Val := fun x y cs => match x, y with
  | .int i, .int j => .ok (.int (i + j)) cs
  | .str a, .str b => if a.length + b.length ≤ SL then .ok (.str (a ++ b)) cs else .bad
  | .tup a, .tup b => if a.length + b.length ≤ SL then .ok (.tup (a ++ b)) cs else .bad
  | x, y => match lstV x cs, lstV y cs with
    | some a, some b => if a.length + b.length ≤ SL then .ok (.h cs.length) (cs ++ [.lst (a ++ b)]) else .bad
    | _, _ => .bad
def oSub : Val → Val → M Val := fun x y cs => match x, y with
  | .int i, .int j => .ok (.int (i - j)) cs
  | _, _ => .bad
def oMul : Val → Val → M Val := fun x y cs => match x, y with
  | .int i, .int j => if i.natAbs.log2 + j.natAbs.log2 < 1000000 then .ok (.int (i * j)) cs else .bad
  | .tup a, .int k => if -1000 ≤ k ∧ k ≤ 1000 ∧ a.length ≤ 1000 then .ok (.tup (List.replicate k.toNat a).flatten) cs else .bad
  | x, .int k => match lstV x cs with
    | some a => if -(2 ^ 63) ≤ k ∧ k < 2 ^ 63 ∧ a.length * k.toNat ≤ SL then .ok (.h cs.length) (cs ++ [.lst (List.replicate k.toNat a).flatten]) else .bad
    | none => .bad
  | _, _ => .bad
def oFdiv : Val → Val → M Val := fun x y cs => match x, y with
  | .int i, .int j => if 0 < j ∧ j.natAbs.log2 < 9000 then .ok (.int (i / j)) cs else .bad
  | _, _ => .bad
def oMod : Val → Val → M Val := fun x y cs => match x, y with
  | .int i, .int j => if 0 < j then .ok (.int (i % j)) cs else .bad
  | _, _ => .bad
def oPow : Val → Val → M Val := fun x y cs => match x, y with
  | .int i, .int j => if 0 ≤ j ∧ (Builtin.Int.intBits i : Int) * j ≤ 2 ^ 27 then .ok (.int (i ^ j.toNat)) cs else .bad
  | _, _ => .bad
theorem om_add : OpM X E (binaryOp .Add) oAdd := by
  refine opm_of (OpR.or op_add (OpR.or op_add_str (OpR.or op_catA op_cat))) fun A cs H x y sx sy ok rx ry Q h => ?_
  unfold oAdd at h
  split at h
  · cases rx
    cases ry
    exact .inl ⟨_, _, rfl, rfl, Post.ret ok h (.int _)⟩
  · cases rx
    cases ry
    split at h
    · rename_i hz
      exact .inr (.inl ⟨_, _, rfl, rfl, SL_eq ▸ hz, Post.ret ok h (.str _)⟩)
    · exact h.elim
  · split at h
    · rename_i a b hz
      obtain ⟨p, vs, rfl, h1, s1⟩ := tup_v rx
      obtain ⟨q, ws, rfl, h2, s2⟩ := tup_v ry
      refine .inr (.inr (.inl ⟨p, q, vs, ws, rfl, rfl, h1, h2, by rw [s1.length, s2.length]; exact SL_eq ▸ hz, fun e => ?_, fun _ e => ?_, fun _ _ p' hp => ?_⟩))
      · subst e
        have ea : a = [] := List.eq_nil_of_length_eq_zero s1.length.symm
        subst ea
        exact Post.ret ok h ry
      · subst e
        have eb : b = [] := List.eq_nil_of_length_eq_zero s2.length.symm
        subst eb
        rw [List.append_nil] at h
        exact Post.ret ok h rx
      · exact Post.tup ok h (s1.append s2) hp
    · exact h.elim
  · split at h
    · rename_i a b ea eb
      split at h
      · rename_i hz
        obtain ⟨_, p, vs, _, _, rfl, h1, s1⟩ := lst_v ok rx ea
        obtain ⟨_, q, ws, _, _, rfl, h2, s2⟩ := lst_v ok ry eb
        exact .inr (.inr (.inr ⟨p, q, vs, ws, rfl, rfl, h1, h2, by rw [s1.length, s2.length]; exact SL_eq ▸ hz, fun p' hp => Post.lst ok h (s1.append s2) hp⟩))
      · exact h.elim
    · exact h.elim
theorem om_sub : OpM X E (binaryOp .Sub) oSub := by
  refine opm_of op_sub fun A cs H x y sx sy ok rx ry Q h => ?_
  unfold oSub at h
  split at h
  · cases rx
    cases ry
    exact ⟨_, _, rfl, rfl, Post.ret ok h (.int _)⟩
  · exact h.elim
theorem rl_rep {K : PySem.W.Frag} {mg : Str → Option Value} {A : List Addr} {H : Hp} {vs : List V} {ds : List Val} (s : RlA K mg A H vs ds) : ∀ n : Nat, RlA K mg A H (List.replicate n vs).flatten (List.replicate n ds).flatten
  | 0 => .nil
  | n + 1 => by
    rw [List.replicate_succ, List.replicate_succ, List.flatten_cons, List.flatten_cons]
    exact s.append (rl_rep s n)
theorem om_mul : OpM X E (binaryOp .Mult) oMul := by
  refine opm_of (OpR.or op_mulW (OpR.or Mir.op_repA op_rep)) fun A cs H x y sx sy ok rx ry Q h => ?_
  unfold oMul at h
  split at h
  · split at h
    · rename_i hz
      cases rx
      cases ry
      exact .inl ⟨_, _, rfl, rfl, hz, Post.ret ok h (.int _)⟩
    · exact h.elim
  · split at h
    · rename_i a k hz
      obtain ⟨h2, h3, h4⟩ := hz
      obtain ⟨p, vs, rfl, h1, s1⟩ := tup_v rx
      cases ry
      refine .inr (.inl ⟨p, _, vs, rfl, rfl, h1, h2, h3, by rw [s1.length]; exact h4, fun e => ?_, fun _ _ p' hp => Post.tup ok h (rl_rep s1 _) hp⟩)
      have ea : (List.replicate k.toNat a).flatten = a := by
        rcases e with e | e
        · have ea : a = [] := List.eq_nil_of_length_eq_zero (by rw [← s1.length, e]; rfl)
          subst ea
          simp
        · subst e
          simp
      rw [ea] at h
      exact Post.ret ok h rx
    · exact h.elim
  · split at h
    · rename_i a ea
      split at h
      · rename_i hz
        obtain ⟨_, p, vs, _, _, rfl, h1, s1⟩ := lst_v ok rx ea
        cases ry
        exact .inr (.inr ⟨p, _, vs, rfl, rfl, h1, hz.1, hz.2.1, by rw [s1.length]; exact SL_eq ▸ hz.2.2, fun p' hp => Post.lst ok h (rl_rep s1 _) hp⟩)
      · exact h.elim
    · exact h.elim
  · exact h.elim
theorem om_fdiv : OpM X E (binaryOp .FloorDiv) oFdiv := by
  refine opm_of op_fdivW fun A cs H x y sx sy ok rx ry Q h => ?_
  unfold oFdiv at h
  split at h
  · split at h
    · rename_i hz
      cases rx
      cases ry
      exact ⟨_, _, rfl, rfl, hz, Post.ret ok h (.int _)⟩
    · exact h.elim
  · exact h.elim
theorem om_mod : OpM X E (binaryOp .Mod) oMod := by
  refine opm_of op_mod fun A cs H x y sx sy ok rx ry Q h => ?_
  unfold oMod at h
  split at h
  · split at h
    · rename_i hz
      cases rx
      cases ry
      exact ⟨_, _, rfl, rfl, hz, Post.ret ok h (.int _)⟩
    · exact h.elim
  · exact h.elim
theorem om_pow : OpM X E (binaryOp .Pow) oPow := by
  refine opm_of Mir.op_powX fun A cs H x y sx sy ok rx ry Q h => ?_
  unfold oPow at h
  split at h
  · split at h
    · rename_i hz
      cases rx
      cases ry
      exact ⟨_, _, rfl, rfl, hz, Post.ret ok h (.int _)⟩
    · exact h.elim
  · exact h.elim
/-! ### is -/
def isBV (d : Val) (b : Bool) : Bool := match d with
  | .bl c => c == b
  | _ => false
def isNoV (d : Val) : Bool := match d with
  | .non => true
  | _ => false
def oIs : Val → Val → M Val := fun x y cs => match y with
  | .non => .ok (.bl (isNoV x)) cs
  | .bl b => .ok (.bl (isBV x b)) cs
  | _ => .bad
def oNot : Val → Val → M Val := fun x y cs => match y with
  | .non => .ok (.bl (!isNoV x)) cs
  | .bl b => .ok (.bl (!isBV x b)) cs
  | _ => .bad
theorem rl_isB {K : PySem.W.Frag} {mg : Str → Option Value} {A : List Addr} {H : Hp} {v : V} {d : Val} (r : Rl K mg A H v d) (b : Bool) : decide (v = .bl b) = isBV d b := by
  cases r with
  | bl c =>
    show decide (V.bl c = V.bl b) = (c == b)
    by_cases e : c = b
    · subst e
      simp
    · rw [beq_eq_false_iff_ne.mpr e]
      exact decide_eq_false (fun z => e (V.bl.inj z))
  | _ => exact decide_eq_false (fun z => by cases z)
theorem rl_isNo {K : PySem.W.Frag} {mg : Str → Option Value} {A : List Addr} {H : Hp} {v : V} {d : Val} (r : Rl K mg A H v d) : decide (v = .non) = isNoV d := by
  cases r with
  | non => exact decide_eq_true rfl
  | _ => exact decide_eq_false (fun z => by cases z)
theorem om_is : OpM X E (compareOp .Is) oIs := by
  refine opm_of (OpR.or op_isN Mir.op_isBX) fun A cs H x y sx sy ok rx ry Q h => ?_
  unfold oIs at h
  split at h
  · cases ry
    refine .inl ⟨rfl, ?_⟩
    rw [rl_isNo rx]
    exact Post.ret ok h (.bl _)
  · cases ry
    refine .inr ⟨_, rfl, ?_⟩
    rw [rl_isB rx]
    exact Post.ret ok h (.bl _)
  · exact h.elim
theorem om_not : OpM X E (compareOp .IsNot) oNot := by
  refine opm_of (OpR.or op_notN Mir.op_notBX) fun A cs H x y sx sy ok rx ry Q h => ?_
  unfold oNot at h
  split at h
  · cases ry
    refine .inl ⟨rfl, ?_⟩
    rw [rl_isNo rx]
    exact Post.ret ok h (.bl _)
  · cases ry
    refine .inr ⟨_, rfl, ?_⟩
    rw [rl_isB rx]
    exact Post.ret ok h (.bl _)
  · exact h.elim
end
end Py
set_option maxHeartbeats 2000000
/-! arguments, displays, subscripts, slices, signs, built-in functions called -/
namespace Py
open PySem PySem.Spec PyProof.Rows L2
open Mir (SL SL_eq cut_whole)
variable [Tb]

section
variable {X : Cx} {E : XK} {pos : Pos} {a b c e : Expr} {es : List Expr} {ma mb mc : Rho → M Val} {ms : Rho → M (List Val)} {o : Val → Val → M Val}
/-! ### arguments -/
def mNil : Rho → M (List Val) := fun _ cs => .ok [] cs
def mCons (ma : Rho → M Val) (ms : Rho → M (List Val)) : Rho → M (List Val) := fun ρ cs => (ma ρ cs).bind fun x cs1 => (ms ρ cs1).bind fun xs cs2 => .ok (x :: xs) cs2
theorem am_nil : AM X E [] mNil := ⟨_, pa_nil, fun A ρ cs σ H ok rk Q h => h [] A H (Stp.rfl' ok) ok .nil⟩
theorem am_cons (h : EM X E e ma) (h2 : AM X E es ms) (hs : starEach (e :: es) X.env = (false, eval e X.env) :: starEach es X.env := by rfl) : AM X E (e :: es) (mCons ma ms) := by
  obtain ⟨t, p, k⟩ := h
  obtain ⟨u, p2, k2⟩ := h2
  refine ⟨_, pa_cons p p2 hs, fun A ρ cs σ H ok rk Q h => ?_⟩
  refine k A ρ cs σ H ok rk _ ((PostX.bind h).step (Stp.rfl' ok) fun sx cs1 q x A1 H1 s1 ok1 r1 => ?_)
  refine k2 A1 ρ cs1 σ H1 ok1 (rk.step s1) _ ((PostX.bind q).step s1 fun sxs cs2 q2 vs A2 H2 s2 ok2 r2 => ?_)
  exact q2 (x :: vs) A2 H2 (s1.trans s2) ok2 (.cons (r1.step s2) r2)
/-- what a list or a tuple holds -/
def seqV : Val → Mem → Option (List Val)
  | .tup ds, _ => some ds
  | d, cs => lstR d cs
theorem seq_v {K : PySem.W.Frag} {mg : Str → Option Value} {A : List Addr} {cs : Mem} {H : Hp} {v : V} {d : Val} {ds : List Val} (ok : Ok K mg A cs H) (s : RlV K mg A H v d) (e : seqV d cs = some ds) :
    ∃ p vs, v = .ref p ∧ (SqT K H p vs ∨ SqL K H p vs) ∧ RlA K mg A (hid A H) vs ds := by
  unfold seqV at e
  split at e
  · cases e
    obtain ⟨p, vs, rfl, h1, h2⟩ := tup_v s
    exact ⟨p, vs, rfl, .inl h1, h2⟩
  · obtain ⟨p, vs, rfl, h1, h2⟩ := lst_r ok s e
    exact ⟨p, vs, rfl, .inr h1, h2⟩
def mStar (ma : Rho → M Val) (ms : Rho → M (List Val)) : Rho → M (List Val) := fun ρ cs => (ma ρ cs).bind fun x cs1 => match seqV x cs1 with
  | some ds => (ms ρ cs1).bind fun xs cs2 => .ok (ds ++ xs) cs2
  | none => .bad
theorem am_star {p : Pos} (h : EM X E e ma) (h2 : AM X E es ms) (hs : starEach (.Starred e p :: es) X.env = (true, eval e X.env) :: starEach es X.env := by rfl) : AM X E (.Starred e p :: es) (mStar ma ms) := by
  obtain ⟨t, pt, k⟩ := h
  obtain ⟨u, p2, k2⟩ := h2
  refine ⟨_, StX.pa_star pt p2 hs, fun A ρ cs σ H ok rk Q h => ?_⟩
  refine k A ρ cs σ H ok rk _ ((PostX.bind h).step (Stp.rfl' ok) fun sx cs1 q x A1 H1 s1 ok1 r1 => ?_)
  split at q
  · rename_i ds ed
    obtain ⟨p, vs, rfl, h1, sa⟩ := seq_v ok1 r1 ed
    refine ⟨p, vs, rfl, h1, k2 A1 ρ cs1 σ H1 ok1 (rk.step s1) _ ((PostX.bind q).step s1 fun sxs cs2 q2 ws A2 H2 s2 ok2 r2 => ?_)⟩
    exact q2 (vs ++ ws) A2 H2 (s1.trans s2) ok2 ((sa.step s2).append r2)
  · exact q.elim

/-! ### displays -/
def mTup (ms : Rho → M (List Val)) : Rho → M Val := fun ρ cs => (ms ρ cs).bind fun xs cs1 => if xs.length ≤ SL then .ok (.tup xs) cs1 else .bad
def mLst (ms : Rho → M (List Val)) : Rho → M Val := fun ρ cs => (ms ρ cs).bind fun xs cs1 => if xs.length ≤ SL then .ok (.h cs1.length) (cs1 ++ [.lst xs]) else .bad
theorem em_tup {x1 : Nat} (h : AM X E es ms) : EM X E (.Tuple es x1 pos) (mTup ms) := by
  obtain ⟨t, p, k⟩ := h
  refine em_of (pe_tup p) fun A ρ cs σ H ok rk Q h => ?_
  refine k A ρ cs σ H ok rk _ ((PostX.bind h).step (Stp.rfl' ok) fun sxs cs1 q vs A1 H1 s1 ok1 r1 => ?_)
  split at q
  · rename_i hz
    refine ⟨by rw [r1.length]; exact SL_eq ▸ hz, fun p hp => ?_⟩
    exact Post.tup (E := E) ok1 (fun v A' H' s' => q v A' H' (s1.trans s')) r1 hp
  · exact q.elim
theorem em_lst (h : AM X E es ms) : EM X E (.List es pos) (mLst ms) := by
  obtain ⟨t, p, k⟩ := h
  refine em_of (pe_lst p) fun A ρ cs σ H ok rk Q h => ?_
  refine k A ρ cs σ H ok rk _ ((PostX.bind h).step (Stp.rfl' ok) fun sxs cs1 q vs A1 H1 s1 ok1 r1 => ?_)
  split at q
  · rename_i hz
    refine ⟨by rw [r1.length]; exact SL_eq ▸ hz, fun p hp => ?_⟩
    exact Post.lst (E := E) ok1 (fun v A' H' s' => q v A' H' (s1.trans s')) r1 hp
  · exact q.elim
theorem em_dict0 : EM X E (.Dict [] [] pos) (fun _ cs => .ok (.h cs.length) (cs ++ [.dct []])) := em_of pe_dnewK fun A ρ cs σ H ok rk Q h p hp => Post.dct (ds := []) ok h .nil hp

/-! ### subscripts -/
theorem RlA.atI {K : PySem.W.Frag} {mg : Str → Option Value} {A : List Addr} {H : Hp} {vs : List V} {ds : List Val} {i : Int} {d : Val} (s : RlA K mg A H vs ds) (e : L2.atI ds i = some d) : ∃ v, L2.atI vs i = some v ∧ Rl K mg A H v d := by
  unfold L2.atI at e ⊢
  rw [s.length]
  cases q : ixN ds.length i with
  | none =>
    rw [q] at e
    cases e
  | some j =>
    rw [q] at e
    exact s.get (show ds[j]? = some d from e)
def oIdx : Val → Val → M Val := fun x y cs => match x, y with
  | .tup ds, .int i => match L2.atI ds i with
    | some d => .ok d cs
    | none => .bad
  | .str z, .int i => match L2.atI z.cps.toList i with
    | some c => if z.length ≤ SL then .ok (.str ⟨#[c]⟩) cs else .bad
    | none => .bad
  | x, .int i => match lstR x cs with
    | some ds => match L2.atI ds i with
      | some d => .ok d cs
      | none => .bad
    | none => .bad
  | _, _ => .bad
theorem em_ix (ha : EM X E a ma) (hb : EM X E b mb) (hs : PlainIx b := by exact fun _ _ => rfl) : EM X E (.Subscript a b pos) (mBin oIdx ma mb) := by
  obtain ⟨ta, pa, ka⟩ := ha
  obtain ⟨tb, pb, kb⟩ := hb
  refine em_of (pe_ix (IxR.or ix_tup (IxR.or ix_str ix_list)) pa pb hs) fun A ρ cs σ H ok rk Q h => ?_
  refine two ka kb ok rk (S := fun x y cs2 => Post X.K X.mg A H Q E (oIdx x y cs2)) ((PostX.bind h).step (Stp.rfl' ok) fun x cs1 h1 => PostX.bind h1) fun x y sx sy A2 cs2 H2 s ok2 r1 r2 hS => ?_
  replace hS : Post X.K X.mg A2 H2 Q E (oIdx sx sy cs2) := hS.step s fun sl cs3 q v A' H' s' => q v A' H' (s.trans s')
  unfold oIdx at hS
  split at hS
  · split at hS
    · rename_i d ed
      obtain ⟨p, vs, rfl, h1, sa⟩ := tup_v r1
      obtain ⟨v, e1, e2⟩ := sa.atI ed
      cases r2
      exact .inl ⟨p, vs, _, v, rfl, rfl, h1, e1, Post.ret ok2 hS e2⟩
    · exact hS.elim
  · split at hS
    · rename_i c ec
      split at hS
      · rename_i hz
        cases r1
        cases r2
        exact .inr (.inl ⟨_, _, c, rfl, rfl, SL_eq ▸ hz, ec, Post.ret ok2 hS (.str _)⟩)
      · exact hS.elim
    · exact hS.elim
  · split at hS
    · rename_i ds eds
      split at hS
      · rename_i d ed
        obtain ⟨p, vs, rfl, h1, sa⟩ := lst_r ok2 r1 eds
        obtain ⟨v, e1, e2⟩ := sa.atI ed
        cases r2
        exact .inr (.inr ⟨p, vs, _, v, rfl, rfl, h1, e1, Post.ret ok2 hS e2⟩)
      · exact hS.elim
    · exact hS.elim
  · exact hS.elim
/-! slices -/
theorem RlA.cut {K : PySem.W.Frag} {mg : Str → Option Value} {A : List Addr} {H : Hp} {vs : List V} {ds : List Val} (s : RlA K mg A H vs ds) (lo hi : Option Int) : RlA K mg A H (cutV vs lo hi) (Mir.cutD ds lo hi) := by
  unfold cutV Mir.cutD
  rw [s.length]
  exact (s.drop _).take _
structure OM (X : Cx) (E : XK) (e : Option Expr) (m : Rho → M (Option Int)) : Prop where
  ex : ∃ t, PO X e t ∧ ∀ A ρ cs σ H, Ok X.K X.mg A cs H → RhoOk X.K X.mg A ρ σ H → ∀ Q : Option Int → Hp → Prop, PostX X.K X.mg A H E (fun i cs => ∀ A' H', Stp A H A' H' → Ok X.K X.mg A' cs H' → Q i H') (m ρ cs) → t σ H Q
def mNo : Rho → M (Option Int) := fun _ cs => .ok none cs
def mPart (m : Rho → M Val) : Rho → M (Option Int) := fun ρ cs => (m ρ cs).bind fun x cs1 => match x with
  | .int i => .ok (some i) cs1
  | _ => .bad
theorem om_none : OM X E none mNo := ⟨_, po_none, fun A ρ cs σ H ok rk Q h => h A H (Stp.rfl' ok) ok⟩
theorem om_some (h : EM X E e ma) : OM X E (some e) (mPart ma) := by
  obtain ⟨t, p, k⟩ := h
  refine ⟨_, po_some p, fun A ρ cs σ H ok rk Q h => ?_⟩
  refine k A ρ cs σ H ok rk _ ((PostX.bind h).step (Stp.rfl' ok) fun sx cs1 q x A1 H1 s1 ok1 r1 => ?_)
  split at q
  · cases r1
    exact ⟨_, rfl, q A1 H1 s1 ok1⟩
  · exact q.elim
def oCut : Val → Option Int → Option Int → M Val := fun x lo hi cs => match x with
  | .tup ds => .ok (.tup (Mir.cutD ds lo hi)) cs
  | .str z => if z.length ≤ SL then .ok (.str (cutS z lo hi)) cs else .bad
  | x => match lstR x cs with
    | some ds => .ok (.h cs.length) (cs ++ [.lst (Mir.cutD ds lo hi)])
    | none => .bad
def mCut (ma : Rho → M Val) (ml mh : Rho → M (Option Int)) : Rho → M Val := fun ρ cs => (ma ρ cs).bind fun x cs1 => (ml ρ cs1).bind fun lo cs2 => (mh ρ cs2).bind fun hi cs3 => oCut x lo hi cs3
theorem em_slice {lo hi : Option Expr} {ml mh : Rho → M (Option Int)} {p2 : Pos} (ha : EM X E a ma) (hl : OM X E lo ml) (hh : OM X E hi mh) : EM X E (.Subscript a (.Slice lo hi none p2) pos) (mCut ma ml mh) := by
  obtain ⟨ta, pa, ka⟩ := ha
  obtain ⟨tl, pl, kl⟩ := hl
  obtain ⟨th, ph, kh⟩ := hh
  refine em_of (pe_slice (SlR.or sl_tupA (SlR.or sl_str sl_list)) pa pl ph) fun A ρ cs σ H ok rk Q h => ?_
  refine ka A ρ cs σ H ok rk _ ((PostX.bind h).step (Stp.rfl' ok) fun sx cs1 q x A1 H1 s1 ok1 r1 => ?_)
  refine kl A1 ρ cs1 σ H1 ok1 (rk.step s1) _ ((PostX.bind q).step s1 fun l cs2 q2 A2 H2 s2 ok2 => ?_)
  refine kh A2 ρ cs2 σ H2 ok2 (rk.step (s1.trans s2)) _ ((PostX.bind q2).step (s1.trans s2) fun u cs3 q3 A3 H3 s3 ok3 => ?_)
  have sx3 := r1.step (s2.trans s3)
  have st := (s1.trans s2).trans s3
  replace q3 : Post X.K X.mg A3 H3 Q E (oCut sx l u cs3) := q3.step st fun sl cs3 q v A' H' s' => q v A' H' (st.trans s')
  unfold oCut at q3
  split at q3
  · obtain ⟨p, vs, rfl, h1, sa⟩ := tup_v sx3
    refine .inl ⟨p, vs, rfl, h1, fun hw => ?_, fun _ p' hp => Post.tup ok3 q3 (sa.cut l u) hp⟩
    rw [sa.length] at hw
    rw [cut_whole hw] at q3
    exact Post.ret ok3 q3 sx3
  · split at q3
    · rename_i hz
      cases sx3
      exact .inr (.inl ⟨_, rfl, SL_eq ▸ hz, Post.ret ok3 q3 (.str _)⟩)
    · exact q3.elim
  · split at q3
    · rename_i ds eds
      obtain ⟨p, vs, rfl, h1, sa⟩ := lst_r ok3 sx3 eds
      exact .inr (.inr ⟨p, vs, rfl, h1, fun p' hp => Post.lst ok3 q3 (sa.cut l u) hp⟩)
    · exact q3.elim
/-! signs -/
def oNeg : Val → M Val := fun x cs => match x with
  | .int i => .ok (.int (-i)) cs
  | _ => .bad
def mUn (o : Val → M Val) (ma : Rho → M Val) : Rho → M Val := fun ρ cs => (ma ρ cs).bind o
theorem em_neg (ha : EM X E a ma) : EM X E (.UnaryOp .USub a pos) (mUn oNeg ma) := by
  obtain ⟨t, p, k⟩ := ha
  refine em_of (pe_un un_neg p) fun A ρ cs σ H ok rk Q h => ?_
  refine k A ρ cs σ H ok rk _ ((PostX.bind h).step (Stp.rfl' ok) fun sx cs1 q x A1 H1 s1 ok1 r1 => ?_)
  unfold oNeg at q
  split at q
  · cases r1
    exact ⟨_, rfl, q _ A1 H1 s1 ok1 (.int _)⟩
  · exact q.elim

/-! ### calls of built-in functions -/
structure CbM (X : Cx) (E : XK) (f : Value) (o : List Val → M Val) : Prop where
  ex : ∃ r, CallR X f r ∧ ∀ A cs H vs ds, Ok X.K X.mg A cs H → RlA X.K X.mg A (hid A H) vs ds → ∀ Q, Post X.K X.mg A H Q E (o ds cs) → r vs H Q
def mCall (o : List Val → M Val) (ms : Rho → M (List Val)) : Rho → M Val := fun ρ cs => (ms ρ cs).bind o
theorem em_callB {x : Str} {id : String} {ob : List Val → M Val} {p : Pos} (hc : CbM X E (.builtin id) ob) (hg : Gl X x) (hm : X.mg x = none) (hv : bootBuiltins x = some (.builtin id)) (ha : AM X E (e :: es) ms) (hn : x ≠ "__name__" := by decide)
    (hdb : (x == ("__debug__" : Str)) = false := by decide) (hst : starEach (e :: es) X.env = (false, eval e X.env) :: starEach es X.env := by rfl) (hs : (backTo pos (starEach es X.env)).any (·.1) = false := by rfl) : EM X E (.Call (.Name x p) (e :: es) [] pos) (mCall ob ms) := by
  obtain ⟨r, hr, kr⟩ := hc
  obtain ⟨t, pt, k⟩ := ha
  refine em_of (pe_callB hr hg hm hv pt hn hdb hst hs) fun A ρ cs σ H ok rk Q h => ?_
  refine k A ρ cs σ H ok rk _ ((PostX.bind h).step (Stp.rfl' ok) fun sxs cs1 q vs A1 H1 s1 ok1 r1 => ?_)
  exact kr A1 cs1 H1 vs sxs ok1 r1 Q (q.step s1 fun sl cs3 q v A' H' s' => q v A' H' (s1.trans s'))
theorem em_callTy {x : Str} {T : String} {ob : List Val → M Val} {p : Pos} (hc : CbM X E (.type T) ob) (hg : Gl X x) (hm : X.mg x = none) (hv : bootBuiltins x = some (.type T)) (ha : AM X E (e :: es) ms) (hn : x ≠ "__name__" := by decide)
    (hdb : (x == ("__debug__" : Str)) = false := by decide) (hst : starEach (e :: es) X.env = (false, eval e X.env) :: starEach es X.env := by rfl) (hs : (backTo pos (starEach es X.env)).any (·.1) = false := by rfl) : EM X E (.Call (.Name x p) (e :: es) [] pos) (mCall ob ms) := by
  obtain ⟨r, hr, kr⟩ := hc
  obtain ⟨t, pt, k⟩ := ha
  refine em_of (pe_callTy hr hg hm hv pt hn hdb hst hs) fun A ρ cs σ H ok rk Q h => ?_
  refine k A ρ cs σ H ok rk _ ((PostX.bind h).step (Stp.rfl' ok) fun sxs cs1 q vs A1 H1 s1 ok1 r1 => ?_)
  exact kr A1 cs1 H1 vs sxs ok1 r1 Q (q.step s1 fun sl cs3 q v A' H' s' => q v A' H' (s1.trans s'))
/-- a function of the imports (gcd) -/
theorem em_callBf {x : Str} {id : String} {ob : List Val → M Val} {p : Pos} (hc : CbM X E (.builtin id) ob) (hg : Gl X x) (hm : X.mg x = some (.builtin id)) (ha : AM X E (e :: es) ms)
    (hdb : (x == ("__debug__" : Str)) = false := by decide) (hst : starEach (e :: es) X.env = (false, eval e X.env) :: starEach es X.env := by rfl) (hs : (backTo pos (starEach es X.env)).any (·.1) = false := by rfl) : EM X E (.Call (.Name x p) (e :: es) [] pos) (mCall ob ms) := by
  obtain ⟨r, hr, kr⟩ := hc
  obtain ⟨t, pt, k⟩ := ha
  refine em_of (pe_callBfun hr hg hm pt hdb hst hs) fun A ρ cs σ H ok rk Q h => ?_
  refine k A ρ cs σ H ok rk _ ((PostX.bind h).step (Stp.rfl' ok) fun sxs cs1 q vs A1 H1 s1 ok1 r1 => ?_)
  exact kr A1 cs1 H1 vs sxs ok1 r1 Q (q.step s1 fun sl cs3 q v A' H' s' => q v A' H' (s1.trans s'))
/-! rules over data, brought over -/
def dAll (cs : Mem) : List Val → Option (List Mir.Sl)
  | [] => some []
  | d :: r => match snap DEP cs d, dAll cs r with
    | some e, some t => some (.d e :: t)
    | _, _ => none
theorem dAll_ok {K : PySem.W.Frag} {mg : Str → Option Value} {A : List Addr} {cs : Mem} {H : Hp} (ok : Ok K mg A cs H) : ∀ {vs : List V} {ds : List Val} {es : List Mir.Sl}, RlA K mg A (hid A H) vs ds → dAll cs ds = some es → Mir.ShSs K [] [] H vs es
  | _, _, _, .nil, e => by
    cases e
    exact .nil
  | _, _, es, .cons h t, e => by
    unfold dAll at e
    split at e
    · rename_i e1 e2
      cases e
      exact .cons (shS_of (snap_sh ok _ _ _ _ h e1)) (dAll_ok ok t e2)
    · cases e
def viaN (o : List Mir.Sl → Mir.M Mir.Sl) : List Val → M Val := fun ds cs => match dAll cs ds with
  | some es => scal cs (o es [])
  | none => .bad
theorem cb_via {f : Value} {o : List Mir.Sl → Mir.M Mir.Sl} (h : Mir.CbM X R0 E f o) : CbM X E f (viaN o) := by
  obtain ⟨r, hr, k⟩ := h
  refine ⟨r, hr, fun A cs H vs ds ok rv Q h => ?_⟩
  unfold viaN at h
  split at h
  · rename_i es ee
    exact k [] [] [] H vs es okNil (dAll_ok ok rv ee) Q (scal_post ok h)
  · exact h.elim
end
end Py
set_option maxHeartbeats 2000000
/-! the built-in functions one by one; the program's own defs -/
namespace Py
open PySem PySem.Spec PyProof.Rows L2
open Mir (SL SL_eq)
variable [Tb]

section
variable {X : Cx} {E : XK}
theorem cb_of {f : Value} {o : List Val → M Val} {r : List V → Hp → VK → Prop} (h : CallR X f r)
    (k : ∀ A cs H vs ds, Ok X.K X.mg A cs H → RlA X.K X.mg A (hid A H) vs ds → ∀ Q, Post X.K X.mg A H Q E (o ds cs) → r vs H Q) : CbM X E f o := ⟨r, h, k⟩
theorem one_of {K : PySem.W.Frag} {mg : Str → Option Value} {A : List Addr} {H : Hp} {vs : List V} {d : Val} (s : RlA K mg A H vs [d]) : ∃ v, vs = [v] ∧ Rl K mg A H v d := by
  cases s with
  | cons h t =>
    cases t
    exact ⟨_, rfl, h⟩
theorem two_of {K : PySem.W.Frag} {mg : Str → Option Value} {A : List Addr} {H : Hp} {vs : List V} {d d' : Val} (s : RlA K mg A H vs [d, d']) : ∃ v w, vs = [v, w] ∧ Rl K mg A H v d ∧ Rl K mg A H w d' := by
  cases s with
  | cons h t =>
    obtain ⟨w, rfl, h2⟩ := one_of t
    exact ⟨_, _, rfl, h, h2⟩
/-- len -/
def bLen : List Val → M Val := fun xs cs => match xs with
  | [.str z] => if z.length ≤ SL then .ok (.int z.length) cs else .bad
  | [x] => match seqV x cs with
    | some ds => .ok (.int ds.length) cs
    | none => match dctV x cs with
      | some ds => .ok (.int ds.length) cs
      | none => .bad
  | _ => .bad
theorem cb_len : CbM X E (.builtin "len") bLen := by
  refine cb_of (CallR.or call_len call_lenD) fun A cs H vs ds ok rs Q h => ?_
  unfold bLen at h
  split at h
  · obtain ⟨v, rfl, r⟩ := one_of rs
    split at h
    · rename_i hz
      cases r
      exact .inl ⟨_, _, rfl, ⟨SL_eq ▸ hz, rfl⟩, Post.ret ok h (.int _)⟩
    · exact h.elim
  · obtain ⟨v, rfl, r⟩ := one_of rs
    split at h
    · rename_i ds ed
      obtain ⟨p, ws, rfl, hq, sa⟩ := seq_v ok r ed
      rw [← sa.length] at h
      refine .inl ⟨_, ws.length, rfl, ?_, Post.ret ok h (.int _)⟩
      rcases hq with hq | hq
      · exact .inr ⟨ws, hq, rfl⟩
      · exact .inl ⟨ws, hq, rfl⟩
    · split at h
      · rename_i ds ed
        obtain ⟨k, a, ws, _, _, rfl, h1, t⟩ := dct_v ok r ed
        rw [← t.length] at h
        exact .inr ⟨_, _, rfl, h1, Post.ret ok h (.int _)⟩
      · exact h.elim
  · exact h.elim
def bTuple : List Val → M Val := fun xs cs => match xs with
  | [.tup ds] => .ok (.tup ds) cs
  | [x] => match lstR x cs with
    | some ds => .ok (.tup ds) cs
    | none => .bad
  | _ => .bad
theorem cb_tuple : CbM X E (.type "tuple") bTuple := by
  refine cb_of call_tuple_of fun A cs H vs ds ok rs Q h => ?_
  unfold bTuple at h
  split at h
  · obtain ⟨v, rfl, r⟩ := one_of rs
    obtain ⟨p, ws, rfl, h1, sa⟩ := tup_v r
    exact ⟨p, ws, rfl, .inr ⟨h1, Post.ret ok h r⟩⟩
  · obtain ⟨v, rfl, r⟩ := one_of rs
    split at h
    · rename_i ds ed
      obtain ⟨p, ws, rfl, hq, sa⟩ := lst_r ok r ed
      exact ⟨p, ws, rfl, .inl ⟨hq, fun l hl => Post.tup ok h sa hl⟩⟩
    · exact h.elim
  · exact h.elim
/-- list(x): a new list -/
def bList : List Val → M Val := fun xs cs => match xs with
  | [x] => match seqV x cs with
    | some ds => .ok (.h cs.length) (cs ++ [.lst ds])
    | none => .bad
  | _ => .bad
theorem cb_list : CbM X E (.type "list") bList := by
  refine cb_of call_list_of fun A cs H vs ds ok rs Q h => ?_
  unfold bList at h
  split at h
  · obtain ⟨v, rfl, r⟩ := one_of rs
    split at h
    · rename_i ds ed
      obtain ⟨p, ws, rfl, hq, sa⟩ := seq_v ok r ed
      exact ⟨p, ws, rfl, hq.symm, fun l hl => Post.lst ok h sa hl⟩
    · exact h.elim
  · exact h.elim
def bAbs := viaN Mir.bAbs
def bInt := viaN Mir.bInt
def bMax := viaN Mir.bMaxX
def bMin := viaN Mir.bMinX
def bAll := viaN Mir.bAll
def bAny := viaN Mir.bAny
def bSum := viaN Mir.bSum
def bStr := viaN Mir.bStr
def bGcd := viaN Mir.bGcd
theorem cb_abs : CbM X E (.builtin "abs") bAbs := cb_via Mir.cb_abs
theorem cb_int : CbM X E (.type "int") bInt := cb_via Mir.cb_int
theorem cb_max (hc : X.calm = true) : CbM X E (.builtin "max") bMax := cb_via (Mir.cb_maxX hc)
theorem cb_min (hc : X.calm = true) : CbM X E (.builtin "min") bMin := cb_via (Mir.cb_minX hc)
theorem cb_all (hc : X.calm = true) : CbM X E (.builtin "all") bAll := cb_via (Mir.cb_all hc)
theorem cb_any (hc : X.calm = true) : CbM X E (.builtin "any") bAny := cb_via (Mir.cb_any hc)
theorem cb_sum (hc : X.calm = true) : CbM X E (.builtin "sum") bSum := cb_via (Mir.cb_sum hc)
theorem cb_str : CbM X E (.type "str") bStr := cb_via Mir.cb_str
theorem cb_gcd : CbM X E (.builtin "math.gcd") bGcd := cb_via Mir.cb_gcd
end

/-! ### the program's own defs -/
def spM (K : PySem.W.Frag) (mg : Str → Option Value) (n : Nat) (m : List Val → M Val) : Sp := fun vs H Q E => ∃ A cs ds, Ok K mg A cs H ∧ RlA K mg A (hid A H) vs ds ∧ ds.length = n ∧ Post K mg A H Q E (m ds cs)
/-- behind a body -/
def fin : Res Fl → Res Val
  | .ok (.rt d) cs => .ok d cs
  | .ok (.nx _) cs => .ok .non cs
  | .ok _ _ => .bad
  | .exc x cs => .exc x cs
  | .bad => .bad
def mDef (N : Nat) (mb : Rho → M Fl) : List Val → M Val := fun ds cs => fin (mb (ds.map some ++ List.replicate (N - ds.length) none) cs)
section
variable {K : PySem.W.Frag} {mg : Str → Option Value} {A A' : List Addr} {cs cs' : Mem} {H H' : Hp}
theorem fin_ok {Q : VK} {E : XK} {r : Res Fl} (h : Post K mg A H Q E (fin r)) : PostS K mg A H { nx := fun _ H' => Q .non H', rt := Q } E r := by
  cases r with
  | bad => exact h
  | exc x cs' => exact h
  | ok f cs' =>
    cases f with
    | nx ρ => exact fun σ' A' H' s ok _ => h _ A' H' s ok .non
    | bk ρ => exact (show False from h).elim
    | ct ρ => exact (show False from h).elim
    | rt d => exact h
theorem rho_start {N ps : List Str} {vs : List V} {ds : List Val} (h : RlA K mg A (hid A H) vs ds) : RhoOk K mg A (ds.map some ++ List.replicate (N.length - ds.length) none) (L2.start N vs) H := by
  refine ⟨?_, fun i sl e => ?_⟩
  · unfold L2.start
    simp [h.length]
  · by_cases hi : i < ds.length
    · rw [List.getElem?_append_left (by simpa using hi), List.getElem?_map] at e
      have e' : ds[i]? = some sl := by
        cases q : ds[i]? with
        | none => rw [q] at e; cases e
        | some z => rw [q] at e; cases e; rfl
      obtain ⟨v, e1, e2⟩ := h.get e'
      refine ⟨v, ?_, e2⟩
      unfold L2.start
      rw [List.getElem?_append_left (by rw [List.length_map, h.length]; exact hi), List.getElem?_map, e1]
      rfl
    · rw [List.getElem?_append_right (by simpa using hi)] at e
      rw [List.getElem?_replicate] at e
      split at e
      · cases e
      · cases e
end
abbrev TakesE (X : Cx) (E : XK) : Prop := Takes X (fun c d _ H => E c d H)
def E0' : XK := fun _ _ _ => False
theorem tk0 {X : Cx} : TakesE X E0' := L2.takes0
theorem passX {X : Cx} {E : XK} (tk : TakesE X E) : Passes (L2.CX X.prog X.w) X E := passes_call tk fun _ _ _ _ h => h
section
variable {P : Program} {w : World} {K : PySem.W.Frag} {mg : Str → Option Value} {base : Heap}
/-- a def that an exception may leave -/
theorem def_okX {x qual : Str} {st : Stmt} {f : Addr} {fd : FuncData} {N ps : List Str} {k : Nat} {mb : Rho → M Fl} (F : Fun K x qual st f fd) (S : FnScope N ps (defScope st))
    (hb : ∀ (cdv : Value) (A : Around) (outer : List Env) (s : Shared) (H : Hp) (E : XK), Room k (A.deeper (envOfC qual (defScope st) s.heap.objs.size f cdv)) → TakesE (cxOf (L2.CX P w) P w K mg base N qual (defScope st) f cdv A outer s H E) E →
      BM (cxOf (L2.CX P w) P w K mg base N qual (defScope st) f cdv A outer s H E) E (defBody st) mb) :
    FnOk P w K mg base (L2.CX P w) (k + 1) f fd ps (spM K mg ps.length (mDef N.length mb)) := by
  refine F.okX S (fun vs H Q E h => ?_) (fun cdv A outer s H vs Q E hr h => ?_)
  · obtain ⟨A, cs, ds, _, hs, hn, _⟩ := h
    exact hs.length.trans hn
  · obtain ⟨A', cs, ds, ok, hs, hn, h⟩ := h
    obtain ⟨t, p, kk⟩ := hb cdv A outer s H E hr (takes_of rfl rfl rfl rfl)
    exact ⟨t, p, kk A' _ cs _ H ok (rho_start (ps := ps) hs) _ (fin_ok h)⟩
/-- the law itself: nothing leaves it -/
theorem def_ok {x qual : Str} {st : Stmt} {f : Addr} {fd : FuncData} {N ps : List Str} {k : Nat} {mb : Rho → M Fl} (F : Fun K x qual st f fd) (S : FnScope N ps (defScope st))
    (hb : ∀ (cdv : Value) (A : Around) (outer : List Env) (s : Shared) (H : Hp) (E : XK), Room k (A.deeper (envOfC qual (defScope st) s.heap.objs.size f cdv)) → BM (cxOf CX0 P w K mg base N qual (defScope st) f cdv A outer s H E).nox E0' (defBody st) mb) :
    FnOk P w K mg base CX0 (k + 1) f fd ps (fun vs H Q _ => spM K mg ps.length (mDef N.length mb) vs H Q E0') := by
  refine F.ok S (fun vs H Q E h => ?_) (fun cdv A outer s H vs Q E hr h => ?_)
  · obtain ⟨A, cs, ds, _, hs, hn, _⟩ := h
    exact hs.length.trans hn
  · obtain ⟨A', cs, ds, ok, hs, hn, h⟩ := h
    obtain ⟨t, p, kk⟩ := hb cdv A outer s H E hr
    exact ⟨t, p, kk A' _ cs _ H ok (rho_start (ps := ps) hs) _ (fin_ok h)⟩
end
def mOwn (n : Nat) (m : List Val → M Val) (ms : Rho → M (List Val)) : Rho → M Val := fun ρ cs => (ms ρ cs).bind fun xs cs1 => if xs.length = n then m xs cs1 else .bad
/-! ### defs by their names -/
structure At (K : PySem.W.Frag) (mg : Str → Option Value) (x : Str) (st : Stmt) (ps : List Str) : Prop where
  ex : ∃ f fd, Fun K x x st f fd ∧ mg x = some (.ref f) ∧ Binds K fd ps []
structure Df (P : Program) (w : World) (K : PySem.W.Frag) (mg : Str → Option Value) (base : Heap) (x : Str) (k n : Nat) (m : List Val → M Val) : Prop where
  ex : ∃ f fd ps, FnOk P w K mg base (L2.CX P w) k f fd ps (spM K mg n m) ∧ mg x = some (.ref f) ∧ PySem.W.keepIn K (.ref f) = true ∧ Binds K fd ps []
section
variable {P : Program} {w : World} {K : PySem.W.Frag} {mg : Str → Option Value} {base : Heap}
theorem Df.mk' {x : Str} {st : Stmt} {N ps : List Str} {k : Nat} {mb : Rho → M Fl} (a : At K mg x st ps) (S : FnScope N ps (defScope st))
    (hb : ∀ (f : Addr) (cdv : Value) (A : Around) (outer : List Env) (s : Shared) (H : Hp) (E : XK), Room k (A.deeper (envOfC x (defScope st) s.heap.objs.size f cdv)) → TakesE (cxOf (L2.CX P w) P w K mg base N x (defScope st) f cdv A outer s H E) E →
      BM (cxOf (L2.CX P w) P w K mg base N x (defScope st) f cdv A outer s H E) E (defBody st) mb) :
    Df P w K mg base x (k + 1) ps.length (mDef N.length mb) := by
  obtain ⟨f, fd, F, hm, hB⟩ := a
  exact ⟨f, fd, ps, def_okX F S (hb f), hm, F.kp, hB⟩
end
section
variable {X : Cx} {E : XK} {pos : Pos} {e : Expr} {es : List Expr} {ms : Rho → M (List Val)} {CX : CXT} {k n : Nat} {f : Addr} {fd : FuncData} {ps : List Str} {m : List Val → M Val}
theorem em_call {x : Str} {p : Pos} (F : FnOk X.prog X.w X.K X.mg X.base CX k f fd ps (spM X.K X.mg n m)) (hr : Room k X.A) (hg : Gl X x) (hm : X.mg x = some (.ref f)) (hk : PySem.W.keepIn X.K (.ref f) = true) (hb : Binds X.K fd ps []) (hx : Passes CX X E)
    (ha : AM X E (e :: es) ms) (hd : (x == ("__debug__" : Str)) = false := by decide) (hst : starEach (e :: es) X.env = (false, eval e X.env) :: starEach es X.env := by rfl) (hs : (backTo pos (starEach es X.env)).any (·.1) = false := by rfl) :
    EM X E (.Call (.Name x p) (e :: es) [] pos) (mOwn n m ms) := by
  obtain ⟨t, pt, kk⟩ := ha
  refine em_of (pe_call F hr hg hm hk hb .nil hx pt hd hst hs) fun A ρ cs σ H ok rk Q h => ?_
  refine kk A ρ cs σ H ok rk _ ((PostX.bind h).step (Stp.rfl' ok) fun sxs cs1 q vs A1 H1 s1 ok1 r1 => ?_)
  split at q
  · rename_i hn
    exact ⟨A1, cs1, sxs, ok1, by rw [List.append_nil]; exact r1, hn, post_step s1 q⟩
  · exact q.elim
theorem em_callD {x : Str} {p : Pos} (F : Df X.prog X.w X.K X.mg X.base x k n m) (hr : Room k X.A) (tk : TakesE X E) (hg : Gl X x) (ha : AM X E (e :: es) ms)
    (hd : (x == ("__debug__" : Str)) = false := by decide) (hst : starEach (e :: es) X.env = (false, eval e X.env) :: starEach es X.env := by rfl) (hs : (backTo pos (starEach es X.env)).any (·.1) = false := by rfl) :
    EM X E (.Call (.Name x p) (e :: es) [] pos) (mOwn n m ms) := by
  obtain ⟨f, fd, ps, F, hm, hk, hb⟩ := F
  exact em_call F hr hg hm hk hb (passX tk) ha hd hst hs
/-- f() -/
theorem em_call0 {x : Str} {p : Pos} (F : Df X.prog X.w X.K X.mg X.base x k n m) (hr : Room k X.A) (tk : TakesE X E) (hg : Gl X x) (hd : (x == ("__debug__" : Str)) = false := by decide) : EM X E (.Call (.Name x p) [] [] pos) (mOwn n m mNil) := by
  obtain ⟨f, fd, ps, F, hm, hk, hb⟩ := F
  refine em_of (pe_call0 F hr hg hm hk hb .nil (passX tk) hd) fun A ρ cs σ H ok rk Q h => ?_
  replace h : Post X.K X.mg A H Q E (if ([] : List Val).length = n then m [] cs else .bad) := h
  split at h
  · rename_i hn
    exact ⟨A, cs, [], ok, .nil, hn, h⟩
  · exact h.elim
end
/-! ### what a def made and nobody holds any more is given up -/
mutual
def ltV (n : Nat) : Val → Bool
  | .tup l => ltL n l
  | .h k => decide (k < n)
  | .ex1 _ _ v => ltV n v
  | _ => true
def ltL (n : Nat) : List Val → Bool
  | [] => true
  | d :: r => ltV n d && ltL n r
end
def ltC (n : Nat) : Cel → Bool
  | .lst l => ltL n l
  | .dct l => ltL n (l.map (·.2))
  | .dtt l => ltL n (l.map (·.2))
  | .obj _ l => ltL n (l.map (·.2))
  | .tab _ => true
def gcOk (n : Nat) (cs : Mem) : Bool := (cs.take n).all (ltC n)
def gc (n : Nat) : Res Val → Res Val
  | .ok d cs => if ltV n d = true ∧ gcOk n cs = true then .ok d (cs.take n) else .ok d cs
  | .exc x cs => if ltL n (x.fs.map (·.2)) = true ∧ gcOk n cs = true then .exc x (cs.take n) else .exc x cs
  | .bad => .bad
section
variable {K : PySem.W.Frag} {mg : Str → Option Value} {A A' : List Addr} {cs cs' : Mem} {H H' : Hp}
mutual
theorem Rl.less {Hd Hd' : Hp} (n : Nat) (p : ∀ k a, k < n → A'[k]? = some a → A[k]? = some a) (e : Same Hd Hd') : ∀ {v : V} {d : Val}, Rl K mg A' Hd v d → ltV n d = true → Rl K mg A Hd' v d
  | _, _, .non, _ => .non
  | _, _, .bl b, _ => .bl b
  | _, _, .int i, _ => .int i
  | _, _, .str x, _ => .str x
  | _, _, .tup h t, l => .tup (Mir.SqT.same e h) (RlA.less n p e t (by simpa [ltV] using l))
  | _, _, .hdl h, l => .hdl (p _ _ (by simpa [ltV] using l) h)
  | _, _, .fn h k, _ => .fn h k
  | _, _, .scr h, _ => .scr (e.seq h)
  | _, _, .ex0 g h, _ => .ex0 g (e _ _ h)
  | _, _, .ex1 g h1 h2 r, l => .ex1 g (e _ _ h1) (e _ _ h2) (Rl.less n p e r (by simpa [ltV] using l))
theorem RlA.less {Hd Hd' : Hp} (n : Nat) (p : ∀ k a, k < n → A'[k]? = some a → A[k]? = some a) (e : Same Hd Hd') : ∀ {vs : List V} {ds : List Val}, RlA K mg A' Hd vs ds → ltL n ds = true → RlA K mg A Hd' vs ds
  | _, _, .nil, _ => .nil
  | _, _, .cons h t, l => by
    have l' := (Bool.and_eq_true _ _).mp (show (ltV n _ && ltL n _) = true by simpa [ltL] using l)
    exact .cons (Rl.less n p e h l'.1) (RlA.less n p e t l'.2)
end
theorem RlD.less {κ : Type} {Hd Hd' : Hp} (n : Nat) (p : ∀ k a, k < n → A'[k]? = some a → A[k]? = some a) (e : Same Hd Hd') : ∀ {vs : List (κ × V)} {ds : List (κ × Val)}, RlD K mg A' Hd vs ds → ltL n (ds.map (·.2)) = true → RlD K mg A Hd' vs ds
  | _, _, .nil, _ => .nil
  | _, _, .cons h t, l => by
    have l' := (Bool.and_eq_true _ _).mp (show (ltV n _ && ltL n _) = true by simpa [ltL] using l)
    exact .cons (h.less n p e l'.1) (RlD.less n p e t l'.2)
theorem HcAt.less {a : Addr} (n : Nat) (p : ∀ k a, k < n → A'[k]? = Option.some a → A[k]? = Option.some a) (e : Same (hid A' H) (hid A H)) : ∀ {c : Cel}, HcAt K mg A' H a c → ltC n c = true → HcAt K mg A H a c
  | .lst _, ⟨vs, h, t⟩, l => ⟨vs, h, t.less n p e (by simpa [ltC] using l)⟩
  | .dct _, ⟨vs, h, t⟩, l => ⟨vs, h, t.less n p e (by simpa [ltC] using l)⟩
  | .dtt _, ⟨vs, h, t⟩, l => ⟨vs, h, t.less n p e (by simpa [ltC] using l)⟩
  | .obj _ _, ⟨C, dx, vs, h, g, t⟩, l => ⟨C, dx, vs, h, g, t.less n p e (by simpa [ltC] using l)⟩
  | .tab _, ⟨ea, vs, h, t, f⟩, _ => ⟨ea, vs, h, t, fun pos cv hc => by
    obtain ⟨c, e1, e2⟩ := f pos cv hc
    exact ⟨c, e1, e _ _ e2⟩⟩
/-- behind a step: the handles of its start alone -/
theorem gc_at (hn : A.length = cs.length) (s : Stp A H A' H') (ok : Ok K mg A' cs' H') (g : gcOk cs.length cs' = true) :
    Stp A H A H' ∧ Ok K mg A (cs'.take cs.length) H' ∧ (∀ k a, k < cs.length → A'[k]? = some a → A[k]? = some a) ∧ Same (hid A' H') (hid A H') := by
  obtain ⟨⟨B, eB, fB⟩, kp, lv⟩ := s
  have pp : ∀ k a, k < cs.length → A'[k]? = some a → A[k]? = some a := fun k a hk e => by
    rw [eB, List.getElem?_append_left (by omega)] at e
    exact e
  have sm : Same (hid A' H') (hid A H') := by
    intro b o h
    obtain ⟨hb, no, e⟩ := hid_some.mp h
    exact hid_some.mpr ⟨fun z => hb (by rw [eB]; exact List.mem_append_left _ z), no, e⟩
  refine ⟨⟨⟨[], by simp, by simp⟩, kp, lv⟩, ⟨?_, ?_, fun k a c e1 e2 => ?_⟩, pp, sm⟩
  · have hl := ok.len
    rw [eB, List.length_append] at hl
    rw [List.length_take]
    omega
  · have nd := ok.nd
    rw [eB] at nd
    exact (List.nodup_append.mp nd).1
  · obtain ⟨hk, _⟩ := List.getElem?_eq_some_iff.mp e1
    have e1' : A'[k]? = some a := by rw [eB, List.getElem?_append_left hk]; exact e1
    have e2' : cs'[k]? = some c := by
      rw [List.getElem?_take] at e2
      split at e2
      · exact e2
      · cases e2
    refine (ok.at k a c e1' e2').less cs.length pp sm ?_
    exact List.all_eq_true.mp g c (List.mem_of_getElem? e2)
theorem gc_ok {Q : VK} {E : XK} (hn : A.length = cs.length) {r : Res Val} (h : Post K mg A H Q E (gc cs.length r)) : Post K mg A H Q E r := by
  cases r with
  | bad => exact h
  | ok d cs' =>
    replace h : Post K mg A H Q E (if ltV cs.length d = true ∧ gcOk cs.length cs' = true then .ok d (cs'.take cs.length) else .ok d cs') := h
    split at h
    · rename_i hg
      intro v A' H' s ok r
      obtain ⟨s2, ok2, pp, sm⟩ := gc_at hn s ok hg.2
      exact h v A H' s2 ok2 (r.less cs.length pp sm hg.1)
    · exact h
  | exc x cs' =>
    replace h : Post K mg A H Q E (if ltL cs.length (x.fs.map (·.2)) = true ∧ gcOk cs.length cs' = true then .exc x (cs'.take cs.length) else .exc x cs') := h
    split at h
    · rename_i hg
      intro A' H' cls dx s ok r
      obtain ⟨s2, ok2, pp, sm⟩ := gc_at hn s ok hg.2
      refine h A H' cls dx s2 ok2 ⟨r.1, ?_⟩
      rcases r.2 with z | ⟨d, vs, e1, e2, e3⟩
      · exact .inl z
      · exact .inr ⟨d, vs, e1, sm _ _ e2, e3.less cs.length pp sm hg.1⟩
    · exact h
def mGc (m : List Val → M Val) : List Val → M Val := fun ds cs => gc cs.length (m ds cs)
theorem Df.gc {P : Program} {w : World} {base : Heap} {x : Str} {k n : Nat} {m : List Val → M Val} (F : Df P w K mg base x k n m) : Df P w K mg base x k n (mGc m) := by
  obtain ⟨f, fd, ps, F, hm, hk, hb⟩ := F
  refine ⟨f, fd, ps, F.imp fun vs H Q E h => ?_, hm, hk, hb⟩
  obtain ⟨A, cs, ds, ok, r, hn, h⟩ := h
  exact ⟨A, cs, ds, ok, r, hn, gc_ok ok.len h⟩
end
end Py
set_option maxHeartbeats 2000000
/-! statements; lists written -/
namespace Py
open PySem PySem.Spec PyProof.Rows L2
open Mir (SL SL_eq)
variable [Tb]

section
variable {X : Cx} {E : XK} {pos : Pos} {a b c e tg iter : Expr} {es : List Expr} {st : Stmt} {rest body : List Stmt} {ma mb mc : Rho → M Val} {ms : Rho → M (List Val)} {mt : Rho → M Bool} {f g : Rho → M Fl}
theorem sm_of {m : Rho → M Fl} {t : TS} (h : PS X st t) (k : ∀ A ρ cs σ H, Ok X.K X.mg A cs H → RhoOk X.K X.mg A ρ σ H → ∀ De, PostS X.K X.mg A H De E (m ρ cs) → t De σ H) : SM X E st m := ⟨t, h, k⟩
def mDead {α : Type} : Rho → M α := fun _ _ => .bad
theorem em_dead {e : Expr} : EM X E e mDead := ⟨fun _ _ _ => False, ⟨fun _ _ _ _ _ _ h => h.elim⟩, fun _ _ _ _ _ _ _ _ h => h⟩
theorem sm_dead {st : Stmt} : SM X E st mDead := ⟨fun _ _ _ => False, ⟨fun _ _ _ _ _ _ h => h.elim⟩, fun _ _ _ _ _ _ _ _ h => h⟩
theorem bm_dead {st : List Stmt} : BM X E st mDead := ⟨fun _ _ _ => False, ⟨fun _ _ _ _ _ _ h => h.elim⟩, fun _ _ _ _ _ _ _ _ h => h⟩
def sDrop (ma : Rho → M Val) : Rho → M Fl := fun ρ cs => (ma ρ cs).bind fun _ cs1 => .ok (.nx ρ) cs1
theorem sm_drop (he : EM X E e ma) (hs : swapsWith e none pos.line X.env = pure false := by rfl) : SM X E (.Expr e pos) (sDrop ma) := by
  obtain ⟨t, p, k⟩ := he
  refine sm_of (ps_expr p hs) fun A ρ cs σ H ok rk De h => ?_
  refine k A ρ cs σ H ok rk _ (PostX.step (Stp.rfl' ok) (fun sx cs1 q x A1 H1 s1 ok1 r1 => ?_) (PostX.bind h))
  exact q σ A1 H1 s1 ok1 (rk.step s1)
/-! ### blocks -/
def sNil : Rho → M Fl := fun ρ cs => .ok (.nx ρ) cs
def sSeq (f g : Rho → M Fl) : Rho → M Fl := fun ρ cs => (f ρ cs).bind fun x cs1 => match x with
  | .nx ρ1 => g ρ1 cs1
  | x => .ok x cs1
theorem bm_nil : BM X E [] sNil := ⟨_, pss_nil, fun A ρ cs σ H ok rk De h => h σ A H (Stp.rfl' ok) ok rk⟩
theorem bm_one (h : SM X E st f) : BM X E [st] f := by
  obtain ⟨t, p, k⟩ := h
  exact ⟨t, pss_one p, k⟩
theorem bm_cons (h : SM X E st f) (h2 : BM X E rest g) : BM X E (st :: rest) (sSeq f g) := by
  obtain ⟨t, p, k⟩ := h
  obtain ⟨u, p2, k2⟩ := h2
  refine ⟨_, pss_cons p p2, fun A ρ cs σ H ok rk De h => ?_⟩
  refine k A ρ cs σ H ok rk { De with nx := u De } (PostX.step (Stp.rfl' ok) (fun x cs1 q => ?_) (PostX.bind h))
  cases x with
  | nx ρ1 => exact fun σ' A' H' s ok' rk' => k2 A' ρ1 cs1 σ' H' ok' rk' De (PostS.step (De := De) (r := g ρ1 cs1) s q)
  | rt d => exact q
  | bk ρ1 => exact q
  | ct ρ1 => exact q
theorem sm_pass : SM X E (.Pass pos) sNil := sm_of ps_pass fun A ρ cs σ H ok rk De h => h σ A H (Stp.rfl' ok) ok rk
def sBreak : Rho → M Fl := fun ρ cs => .ok (.bk ρ) cs
def sCont : Rho → M Fl := fun ρ cs => .ok (.ct ρ) cs
theorem sm_break : SM X E (.Break pos) sBreak := sm_of ps_break fun A ρ cs σ H ok rk De h => h σ A H (Stp.rfl' ok) ok rk
theorem sm_cont : SM X E (.Continue pos) sCont := sm_of ps_continue fun A ρ cs σ H ok rk De h => h σ A H (Stp.rfl' ok) ok rk
def sRet (ma : Rho → M Val) : Rho → M Fl := fun ρ cs => (ma ρ cs).bind fun x cs1 => .ok (.rt x) cs1
theorem sm_ret (h : EM X E e ma) : SM X E (.Return (some e) pos) (sRet ma) := by
  obtain ⟨t, p, k⟩ := h
  exact sm_of (ps_ret p) fun A ρ cs σ H ok rk De h => k A ρ cs σ H ok rk _ (PostX.step (Stp.rfl' ok) (fun x cs1 q => q) (PostX.bind h))
theorem sm_retN : SM X E (.Return none pos) (sRet (mC .non)) := sm_of ps_retN fun A ρ cs σ H ok rk De h => h .non A H (Stp.rfl' ok) ok .non
def sIf (mt : Rho → M Bool) (f g : Rho → M Fl) : Rho → M Fl := mIf mt f g
theorem sm_if {bs cs' : List Stmt} (hc : TM X E c mt) (ha : BM X E bs f) (hb : BM X E cs' g) : SM X E (.If c bs cs' pos) (sIf mt f g) := by
  obtain ⟨t, p, k⟩ := hc
  obtain ⟨ta, pa, ka⟩ := ha
  obtain ⟨tb, pb, kb⟩ := hb
  refine sm_of (ps_if p pa pb) fun A ρ cs σ H ok rk De h => ?_
  refine k A ρ cs σ H ok rk _ (PostX.step (Stp.rfl' ok) (fun c cs1 q A1 H1 s1 ok1 => ?_) (PostX.bind h))
  cases c with
  | true => exact ka A1 ρ cs1 σ H1 ok1 (rk.step s1) De (PostS.step (De := De) (r := f ρ cs1) s1 q)
  | false => exact kb A1 ρ cs1 σ H1 ok1 (rk.step s1) De (PostS.step (De := De) (r := g ρ cs1) s1 q)
/-! ### names set -/
def sSet (i : Nat) (ma : Rho → M Val) : Rho → M Fl := fun ρ cs => (ma ρ cs).bind fun x cs1 => .ok (.nx (ρ.set i (some x))) cs1
theorem set_run {t : TE} {i : Nat} (k : ∀ A ρ cs σ H, Ok X.K X.mg A cs H → RhoOk X.K X.mg A ρ σ H → ∀ Q, Post X.K X.mg A H Q E (ma ρ cs) → t σ H Q) {A : List Addr} {ρ : Rho} {cs : Mem} {σ : L2.St} {H : Hp} (ok : Ok X.K X.mg A cs H) (rk : RhoOk X.K X.mg A ρ σ H) {De : Ends}
    (h : PostS X.K X.mg A H De E (sSet i ma ρ cs)) : tAsg t (gName i) De σ H := by
  refine k A ρ cs σ H ok rk _ (PostX.step (Stp.rfl' ok) (fun sx cs1 q x A1 H1 s1 ok1 r1 => ?_) (PostX.bind h))
  exact q _ A1 H1 s1 ok1 ((rk.step s1).set r1)
theorem sm_set (i : Nat) {x : Str} {pos' : Pos} (hN : X.N.Nodup) (he : EM X E e ma) (hi : X.N[i]? = some x := by rfl) (hx : Loc X.env.scope x := by first | exact Or.inl rfl | exact Or.inr rfl) (hs : swapsWith e (some (.Name x pos')) pos.line X.env = pure false := by rfl)
    (hf : X.fn x = true ∨ X.env.scope.names.lookup x = some .local := by first | exact .inl rfl | exact .inr rfl | assumption) : SM X E (.Assign [.Name x pos'] e pos) (sSet i ma) := by
  obtain ⟨t, p, k⟩ := he
  exact sm_of (ps_set hN hi hx p hs hf) fun A ρ cs σ H ok rk De h => set_run k ok rk h

/-! ### x[i] = e -/
theorem Ok.putL {K : PySem.W.Frag} {mg : Str → Option Value} {A : List Addr} {cs : Mem} {H : Hp} {k : Nat} {a : Addr} {ds : List Val} {vs : List V} (ok : Ok K mg A cs H) (ha : A[k]? = some a) (hs : RlA K mg A (hid A H) vs ds) :
    Stp A H A (upd H a (.lst vs)) ∧ Ok K mg A (cs.set k (.lst ds)) (upd H a (.lst vs)) := by
  have st := Stp.wr' (o := .lst vs) ok (List.mem_of_getElem? ha)
  exact ⟨st, ok.wr ha (fun ps z => by cases z) ⟨vs, upd_same, hs.step st⟩⟩
def putAt (x y z : Val) (cs : Mem) : Option Mem := match x, y with
  | .h k, .int i => match cs[k]? with
    | some (.lst ds) => match ixN ds.length i with
      | some j => some (cs.set k (.lst (ds.set j z)))
      | none => none
    | _ => none
  | _, _ => none
def sPut (mo mi mv : Rho → M Val) : Rho → M Fl := fun ρ cs => (mv ρ cs).bind fun z cs1 => (mo ρ cs1).bind fun x cs2 => (mi ρ cs2).bind fun y cs3 => match putAt x y z cs3 with
  | some cs4 => .ok (.nx ρ) cs4
  | none => .bad
theorem sm_put {o i v : Expr} {p : Pos} {mo mi mv : Rho → M Val} (hv : EM X E v mv) (ho : EM X E o mo) (hi : EM X E i mi) (ha : ∀ v, assign (.Subscript o i p) X.env v = (do
      let ov ← holding [v] (eval o X.env)
      let iv ← holding [v, ov] (eval i X.env)
      standAt p
      holding [v, ov, iv] (setItem ov iv v)
      release [v, ov, iv] []) := by intro _; rfl) (hs : swapsWithSole [.Subscript o i p] v pos.line X.env = pure false := by rfl) (hw : swappedStores [.Subscript o i p] v X.env = pure none := by rfl)
    (h1 : (assignEach [.Subscript o i p] X.env).map (·.2) = [assign (.Subscript o i p) X.env] := by rfl) : SM X E (.Assign [.Subscript o i p] v pos) (sPut mo mi mv) := by
  obtain ⟨tv, pv', kv⟩ := hv
  obtain ⟨to, po, ko⟩ := ho
  obtain ⟨ti, pi, ki⟩ := hi
  refine sm_of (ps_asg pv' (pg_sub po pi set_list ha) hs hw h1) fun A ρ cs σ H ok rk De h => ?_
  refine kv A ρ cs σ H ok rk _ (PostX.step (Stp.rfl' ok) (fun sz cs1 q1 z A1 H1 s1 ok1 r1 => ?_) (PostX.bind h))
  refine ko A1 ρ cs1 σ H1 ok1 (rk.step s1) _ (PostX.step s1 (fun sx cs2 q2 x A2 H2 s2 ok2 r2 => ?_) (PostX.bind q1))
  have s12 := s1.trans s2
  refine ki A2 ρ cs2 σ H2 ok2 (rk.step s12) _ (PostX.step s12 (fun sy cs3 q3 y A3 H3 s3 ok3 r3 => ?_) (PostX.bind q2))
  have st := s12.trans s3
  have rz := Rl.step (s2.trans s3) r1
  have rx := Rl.step s3 r2
  cases e : putAt sx sy sz cs3 with
  | none =>
    rw [e] at q3
    exact q3.elim
  | some cs4 =>
    rw [e] at q3
    unfold putAt at e
    split at e
    · rename_i k i
      split at e
      · rename_i ds ed
        split at e
        · rename_i j ej
          cases e
          cases rx with
          | hdl ea =>
            obtain ⟨vs, hl, hsh⟩ := ok3.at k _ _ ea ed
            cases r3
            obtain ⟨s4, ok4⟩ := ok3.putL ea (RlA.set rz j hsh)
            refine ⟨_, vs, i, j, rfl, rfl, hl, by rw [hsh.length]; exact ej, ?_⟩
            exact q3 σ A3 _ (st.trans s4) ok4 ((rk.step st).step s4)
        · cases e
      · cases e
    · cases e
/-! ### methods of lists -/
structure MbM (X : Cx) (E : XK) (r : V → List V → Hp → VK → Prop) (o : Val → List Val → M Val) : Prop where
  ex : ∀ A cs H x d vs ds, Ok X.K X.mg A cs H → RlV X.K X.mg A H x d → RlA X.K X.mg A (hid A H) vs ds → ∀ Q, Post X.K X.mg A H Q E (o d ds cs) → r x vs H Q
def tyM (T : String) (x : Val) (cs : Mem) : Bool := match x with
  | .str _ => T == "str"
  | .h k => match cs[k]? with
    | some (.lst _) => T == "list"
    | some (.dct _) => T == "dict"
    | some (.dtt _) => T == "dict"
    | _ => false
  | _ => false
theorem tyM_ok {K : PySem.W.Frag} {mg : Str → Option Value} {A : List Addr} {cs : Mem} {H : Hp} {x : V} {d : Val} {T : String} (ok : Ok K mg A cs H) (r : RlV K mg A H x d) (h : tyM T d cs = true) : tyV K T x H := by
  unfold tyM at h
  split at h
  · cases r
    exact beq_iff_eq.mp h
  · cases r with
    | hdl ea =>
      obtain ⟨c, ec, hc⟩ := ok.hc ea
      rw [ec] at h
      cases c with
      | lst l =>
        obtain ⟨vs, h1, h2⟩ := hc
        exact .inl ⟨beq_iff_eq.mp h, vs, .inl (.inl h1)⟩
      | dct l =>
        obtain ⟨vs, h1, h2⟩ := hc
        exact .inr (.inr (.inl ⟨beq_iff_eq.mp h, .inl ⟨vs, h1⟩⟩))
      | dtt l =>
        obtain ⟨vs, h1, h2⟩ := hc
        exact .inr (.inr (.inl ⟨beq_iff_eq.mp h, .inr ⟨vs, h1⟩⟩))
      | _ => cases h
  · cases h
def mMeth (T : String) (o : Val → List Val → M Val) (mo : Rho → M Val) (ms : Rho → M (List Val)) : Rho → M Val := fun ρ cs => (mo ρ cs).bind fun x cs1 => if tyM T x cs1 = true then (ms ρ cs1).bind fun xs cs2 => o x xs cs2 else .bad
theorem em_meth {T id : String} {name : Str} {r : V → List V → Hp → VK → Prop} {ob : Val → List Val → M Val} {o : Expr} {mo : Rho → M Val} {apos cpos : Pos} (pa : PlainAttrs T) (slot : Slot T name id) (hty : typeOf (.builtin id) = pure (.type "method_descriptor")) (hm : MtR X id r) (hb : MbM X E r ob) (ho : EM X E o mo) (ha : AM X E (e :: es) ms)
    (hbase : attributeBase o name X.env (eval o X.env) = eval o X.env := by rfl)
    (hfew : ((backTo cpos (starEach (e :: es) X.env)).all (fun x => !x.1) && (backToKw cpos (keywordEach [] X.env)).all (fun x => x.1.isSome)
      && decide ((e :: es).length + ([] : List Keyword).length + (if ([] : List Keyword).isEmpty then 0 else 1) < 30)) = true := by rfl)
    (hline : (apos.endLine == cpos.line) = true := by rfl) (hs : starEach (e :: es) X.env = (false, eval e X.env) :: starEach es X.env := by rfl) (hplain : (backTo cpos (starEach es X.env)).any (·.1) = false := by rfl) :
    EM X E (.Call (.Attribute o name apos) (e :: es) [] cpos) (mMeth T ob mo ms) := by
  obtain ⟨to, po, ko⟩ := ho
  obtain ⟨t, pt, k⟩ := ha
  refine em_of (pe_bm pa slot hty hm po pt hbase hfew hline hs hplain) fun A ρ cs σ H ok rk Q h => ?_
  refine ko A ρ cs σ H ok rk _ ((PostX.bind h).step (Stp.rfl' ok) fun sx cs1 q x A1 H1 s1 ok1 r1 => ?_)
  split at q
  · rename_i ht
    refine ⟨tyM_ok ok1 r1 ht, k A1 ρ cs1 σ H1 ok1 (rk.step s1) _ ((PostX.bind q).step s1 fun xs cs2 q2 vs A2 H2 s2 ok2 r2 => ?_)⟩
    exact hb.ex A2 cs2 H2 x sx vs xs ok2 (Rl.step s2 r1) r2 Q (post_step (s1.trans s2) q2)
  · exact q.elim
theorem em_meth0 {T id : String} {name : Str} {r : V → List V → Hp → VK → Prop} {ob : Val → List Val → M Val} {o : Expr} {mo : Rho → M Val} {apos cpos : Pos} (pa : PlainAttrs T) (slot : Slot T name id) (hty : typeOf (.builtin id) = pure (.type "method_descriptor")) (hm : MtR X id r) (hb : MbM X E r ob) (ho : EM X E o mo)
    (hbase : attributeBase o name X.env (eval o X.env) = eval o X.env := by rfl) (hline : (apos.endLine == cpos.line) = true := by rfl) :
    EM X E (.Call (.Attribute o name apos) [] [] cpos) (mMeth T ob mo mNil) := by
  obtain ⟨to, po, ko⟩ := ho
  refine em_of (pe_bm0 pa slot hty hm po hbase hline) fun A ρ cs σ H ok rk Q h => ?_
  refine ko A ρ cs σ H ok rk _ ((PostX.bind h).step (Stp.rfl' ok) fun sx cs1 q x A1 H1 s1 ok1 r1 => ?_)
  split at q
  · rename_i ht
    exact ⟨tyM_ok ok1 r1 ht, hb.ex A1 cs1 H1 x sx [] [] ok1 r1 .nil Q (post_step s1 q)⟩
  · exact q.elim
def bAppend : Val → List Val → M Val := fun x xs cs => match x, xs with
  | .h k, [z] => match cs[k]? with
    | some (.lst ds) => if ds.length < SL then .ok .non (cs.set k (.lst (ds ++ [z]))) else .bad
    | _ => .bad
  | _, _ => .bad
theorem mb_append : MbM X E rAppend bAppend := by
  refine ⟨fun A cs H x d vs ds ok rx rs Q h => ?_⟩
  unfold bAppend at h
  split at h
  · rename_i k z
    split at h
    · rename_i l ed
      split at h
      · rename_i hz
        cases rx with
        | hdl ea =>
          obtain ⟨ws, hl, hsh⟩ := ok.at k _ _ ea ed
          obtain ⟨v, rfl, r1⟩ := one_of rs
          obtain ⟨s4, ok4⟩ := ok.putL ea (hsh.append (.cons r1 .nil))
          exact ⟨_, ws, v, rfl, rfl, hl, by rw [hsh.length]; exact SL_eq ▸ hz, h .non A _ s4 ok4 .non⟩
      · exact h.elim
    · exact h.elim
  · exact h.elim
def bExtend : Val → List Val → M Val := fun x xs cs => match x, xs with
  | .h k, [.h j] => match cs[k]?, cs[j]? with
    | some (.lst ds), some (.lst es) => if ds.length + es.length ≤ SL then .ok .non (cs.set k (.lst (ds ++ es))) else .bad
    | _, _ => .bad
  | _, _ => .bad
theorem mb_extend : MbM X E rExtend bExtend := by
  refine ⟨fun A cs H x d vs ds ok rx rs Q h => ?_⟩
  unfold bExtend at h
  split at h
  · rename_i k j
    split at h
    · rename_i l l2 ed ed2
      split at h
      · rename_i hz
        cases rx with
        | hdl ea =>
          obtain ⟨ws, hl, hsh⟩ := ok.at k _ _ ea ed
          obtain ⟨v, rfl, r1⟩ := one_of rs
          cases r1 with
          | hdl eb =>
            obtain ⟨zs, hl2, hsh2⟩ := ok.at j _ _ eb ed2
            obtain ⟨s4, ok4⟩ := ok.putL ea (hsh.append hsh2)
            exact ⟨_, _, ws, zs, rfl, rfl, hl, hl2, by rw [hsh.length, hsh2.length]; exact SL_eq ▸ hz, h .non A _ s4 ok4 .non⟩
      · exact h.elim
    · exact h.elim
  · exact h.elim
theorem RlA.dropLast {K : PySem.W.Frag} {mg : Str → Option Value} {A : List Addr} {H : Hp} {vs : List V} {ds : List Val} (h : RlA K mg A H vs ds) : RlA K mg A H vs.dropLast ds.dropLast := by
  rw [List.dropLast_eq_take, List.dropLast_eq_take, h.length]
  exact h.take _
def bPop : Val → List Val → M Val := fun x xs cs => match x, xs with
  | .h k, [] => match cs[k]? with
    | some (.lst ds) => match ds[ds.length - 1]? with
      | some y => .ok y (cs.set k (.lst ds.dropLast))
      | none => .bad
    | _ => .bad
  | _, _ => .bad
theorem mb_pop : MbM X E rPop bPop := by
  refine ⟨fun A cs H x d vs ds ok rx rs Q h => ?_⟩
  unfold bPop at h
  split at h
  · rename_i k
    split at h
    · rename_i l ed
      split at h
      · rename_i y ey
        cases rx with
        | hdl ea =>
          obtain ⟨ws, hl, hsh⟩ := ok.at k _ _ ea ed
          cases rs
          obtain ⟨v, e1, r1⟩ := hsh.get ey
          obtain ⟨s4, ok4⟩ := ok.putL ea hsh.dropLast
          exact ⟨_, ws, v, rfl, rfl, hl, by rw [hsh.length]; exact e1, h v A _ s4 ok4 (Rl.step s4 r1)⟩
      · exact h.elim
    · exact h.elim
  · exact h.elim
end
end Py
set_option maxHeartbeats 2000000
/-! targets, what is walked, for, while -/
namespace Py
open PySem PySem.Spec PyProof.Rows L2
open Mir (SL SL_eq pi_or)
open MirZ (SqV ItzM pi_zipM)
variable [Tb]

/-! ### targets: told a value, which slots change -/
structure GM (X : Cx) (tg : Expr) (L : List Nat) (f : Val → Rho → Option Rho) : Prop where
  ex : ∃ g, PG X tg g ∧ ∀ A cs ρ σ H x d ρ', Ok X.K X.mg A cs H → RhoOk X.K X.mg A ρ σ H → RlV X.K X.mg A H x d → f d ρ = some ρ' → ∀ Q : L2.St → Hp → Prop, (∀ σ', RhoOk X.K X.mg A ρ' σ' H → σ'.length = σ.length → (∀ i, i ∉ L → σ'[i]? = σ[i]?) → Q σ' H) → g x σ H Q
structure GsM (X : Cx) (tgs : List Expr) (L : List Nat) (f : List Val → Rho → Option Rho) : Prop where
  ex : ∃ g, PGs X tgs g ∧ ∀ A cs ρ σ H xs ds ρ', Ok X.K X.mg A cs H → RhoOk X.K X.mg A ρ σ H → RlA X.K X.mg A (hid A H) xs ds → f ds ρ = some ρ' → ∀ Q : L2.St → Hp → Prop, (∀ σ', RhoOk X.K X.mg A ρ' σ' H → σ'.length = σ.length → (∀ i, i ∉ L → σ'[i]? = σ[i]?) → Q σ' H) → g xs σ H Q
section
variable {X : Cx} {pos : Pos} {e : Expr} {es : List Expr} {L L' : List Nat}
def gSet (i : Nat) : Val → Rho → Option Rho := fun d ρ => some (ρ.set i (some d))
theorem gm_name (i : Nat) {x : Str} (hN : X.N.Nodup) (hi : X.N[i]? = some x := by rfl) (hx : Loc X.env.scope x := by first | exact Or.inl rfl | exact Or.inr rfl) (hf : X.fn x = true ∨ X.env.scope.names.lookup x = some .local := by first | exact .inl rfl | exact .inr rfl | assumption) : GM X (.Name x pos) [i] (gSet i) := by
  refine ⟨_, pg_name hN hi hx hf, fun A cs ρ σ H x d ρ' ok rk rx e Q q => ?_⟩
  cases e
  refine q _ (rk.set rx) (List.length_set) fun j hj => ?_
  rw [List.getElem?_set_ne (fun z => hj (by rw [z]; exact List.mem_singleton_self j))]
def gsNil : List Val → Rho → Option Rho := fun ds ρ => match ds with
  | [] => some ρ
  | _ => none
def gsCons (f : Val → Rho → Option Rho) (g : List Val → Rho → Option Rho) : List Val → Rho → Option Rho := fun ds ρ => match ds with
  | d :: r => match f d ρ with
    | some ρ' => g r ρ'
    | none => none
  | [] => none
theorem gs_nil : GsM X [] [] gsNil := by
  refine ⟨_, pgs_nil, fun A cs ρ σ H xs ds ρ' ok rk rx e Q q => ?_⟩
  cases rx with
  | nil =>
    cases e
    exact ⟨rfl, q σ rk rfl fun _ _ => rfl⟩
  | cons _ _ => cases e
theorem gs_cons {f : Val → Rho → Option Rho} {g : List Val → Rho → Option Rho} (h : GM X e L f) (h2 : GsM X es L' g) (hs : (assignEach (e :: es) X.env).map (·.2) = assign e X.env :: (assignEach es X.env).map (·.2) := by rfl) : GsM X (e :: es) (L ++ L') (gsCons f g) := by
  obtain ⟨t, p, k⟩ := h
  obtain ⟨u, p2, k2⟩ := h2
  refine ⟨_, pgs_cons p p2 hs, fun A cs ρ σ H xs ds ρ' ok rk rx e Q q => ?_⟩
  cases rx with
  | nil => cases e
  | cons r rr =>
    rename_i v vs d ds
    simp only [gsCons] at e
    split at e
    · rename_i ρ1 e1
      refine ⟨v, vs, rfl, k A cs ρ σ H v d ρ1 ok rk r e1 _ fun σ1 rk1 l1 f1 => ?_⟩
      refine k2 A cs ρ1 σ1 H vs ds ρ' ok rk1 rr e Q fun σ2 rk2 l2 f2 => ?_
      exact q σ2 rk2 (l2.trans l1) fun i hi => (f2 i fun z => hi (List.mem_append_right _ z)).trans (f1 i fun z => hi (List.mem_append_left _ z))
    · cases e
def gTupM (n : Nat) (g : List Val → Rho → Option Rho) : Val → Rho → Option Rho := fun d ρ => match d with
  | .tup ds => if ds.length = n then g ds ρ else none
  | _ => none
theorem gm_tup {k n : Nat} {g : List Val → Rho → Option Rho} (hc : X.calm = true) (h : GsM X es L g) (hn : (assignEach es X.env).length = n := by rfl) (hst : (assignEach es X.env).findIdx? (·.1) = none := by rfl) : GM X (.Tuple es k pos) L (gTupM n g) := by
  obtain ⟨t, p, kk⟩ := h
  refine ⟨_, pg_tup hc p hn hst, fun A cs ρ σ H x d ρ' ok rk rx e Q q => ?_⟩
  cases d with
  | tup ds =>
    simp only [gTupM] at e
    split at e
    · rename_i hl
      obtain ⟨a, vs, rfl, h1, sa⟩ := tup_v rx
      exact ⟨a, vs, rfl, h1, sa.length.trans hl, kk A cs ρ σ H vs ds ρ' ok rk sa e Q q⟩
    · cases e
  | _ => cases e
end

/-! ### what is walked: the item at a turn -/
/-- none: not known; some none: at its end -/
abbrev Src := Nat → Mem → Option (Option Val)
def Feeds (K : PySem.W.Frag) (mg : Str → Option Value) (A0 : List Addr) (H0 : Hp) (J : It) (src : Src) : Prop := ∀ A cs H, Stp A0 H0 A H → Ok K mg A cs H → ∀ i : Nat, (src i cs = some none → J.stop i H) ∧
  ∀ d, src i cs = some (some d) → J.go i H ∧ ∀ x H', J.yld i H x H' → Stp A H A H' ∧ Ok K mg A cs H' ∧ RlV K mg A H' x d
structure IM (X : Cx) (E : XK) (tg iter : Expr) (m : Rho → M Src) : Prop where
  ex : ∃ wi, PI X tg iter wi ∧ ∀ A ρ cs σ H, Ok X.K X.mg A cs H → RhoOk X.K X.mg A ρ σ H → ∀ S : It → Hp → Prop, PostX X.K X.mg A H E (fun src cs1 => ∀ J A' H', Stp A H A' H' → Ok X.K X.mg A' cs1 H' → Feeds X.K X.mg A' H' J src → S J H') (m ρ cs) → wi σ H S
def srcS (x : Val) : Src := fun i cs => (seqV x cs).map fun ds => ds[i]?
def srcZ (x y : Val) : Src := fun i cs => match seqV x cs, seqV y cs with
  | some a, some b => match a[i]?, b[i]? with
    | some u, some v => some (some (.tup [u, v]))
    | _, _ => some none
  | _, _ => none
def srcE (x : Val) : Src := fun i cs => match seqV x cs with
  | some a => match a[i]? with
    | some u => some (some (.tup [.int (i : Int), u]))
    | none => some none
  | _ => none
def srcT (z : Str) : Src := fun i _ => some (z.cps.toList[i]?.map fun c => .str ⟨#[c]⟩)
def srcR (lo : Int) (n : Nat) : Src := fun i _ => some (if i < n then some (.int (lo + i)) else none)
/-- whether it is a tuple; told of lists and tuples alone -/
def tupS (x : Val) (cs : Mem) : Option Bool := match x with
  | .tup _ => some true
  | .scr _ => some false
  | .h k => match cs[k]? with
    | some (.lst _) => some false
    | _ => none
  | _ => none
theorem seq_b {K : PySem.W.Frag} {mg : Str → Option Value} {A : List Addr} {cs : Mem} {H : Hp} {v : V} {d : Val} {b : Bool} {ds : List Val} (ok : Ok K mg A cs H) (s : RlV K mg A H v d) (t : tupS d cs = some b) (e : seqV d cs = some ds) :
    ∃ a vs, v = .ref a ∧ SqV b K H a vs ∧ RlA K mg A (hid A H) vs ds := by
  unfold tupS at t
  split at t
  · cases t
    cases e
    exact tup_v s
  · cases t
    exact lst_r ok s e
  · split at t
    · cases t
      exact lst_r ok s e
    · cases t
  · cases t
theorem tup_ref {K : PySem.W.Frag} {mg : Str → Option Value} {A : List Addr} {cs : Mem} {H : Hp} {v : V} {d : Val} {b : Bool} (s : RlV K mg A H v d) (t : tupS d cs = some b) : ∃ a, v = .ref a := by
  unfold tupS at t
  split at t
  · cases s
    exact ⟨_, rfl⟩
  · cases s
    exact ⟨_, rfl⟩
  · cases s
    exact ⟨_, rfl⟩
  · cases t
/-- later: what still holds a list is of the same kind -/
theorem tupS_at {d : Val} {cs cs' : Mem} {b : Bool} {ds : List Val} (t : tupS d cs = some b) (e : seqV d cs' = some ds) : tupS d cs' = some b := by
  unfold tupS at t ⊢
  split at t
  · exact t
  · exact t
  · rename_i k
    split at t
    · cases t
      have e' : lstV (.h k) cs' = some ds := e
      unfold lstV at e'
      simp only at e'
      split at e'
      · rename_i q
        first | rw [q] | rfl
      · cases e'
    · cases t
  · cases t
theorem tup2 {K : PySem.W.Frag} {mg : Str → Option Value} {A : List Addr} {cs : Mem} {H : Hp} {T : Addr} {x y : V} {d e : Val} (ok : Ok K mg A cs H) (nT : H T = none) (h1 : Rl K mg A (hid A H) x d) (h2 : Rl K mg A (hid A H) y e) :
    Stp A H A (upd H T (.tup [x, y])) ∧ Ok K mg A cs (upd H T (.tup [x, y])) ∧ RlV K mg A (upd H T (.tup [x, y])) (.ref T) (.tup [d, e]) := by
  have st := Stp.new' (o := .tup [x, y]) ok nT
  refine ⟨st, ok.new nT, .tup (.inl (.inl (hid_in (ok.ne nT) upd_same))) (.cons (h1.step st) (.cons (h2.step st) .nil))⟩
section
variable {K : PySem.W.Frag} {mg : Str → Option Value} {A0 : List Addr} {H0 : Hp} {cs0 : Mem}
theorem feeds_list {a : Addr} {d : Val} (h : RlV K mg A0 H0 (.ref a) d) (t : tupS d cs0 = some false) : Feeds K mg A0 H0 (Itl K a) (srcS d) := by
  intro A cs H s ok i
  have h' := Rl.step s h
  unfold srcS
  cases e : seqV d cs with
  | none => exact ⟨fun z => (by cases z), fun d z => (by cases z)⟩
  | some ds =>
    obtain ⟨a', vs, ea, q, sa⟩ := seq_b ok h' (tupS_at t e) e
    cases ea
    refine ⟨fun z => ⟨vs, q, ?_⟩, fun d z => ?_⟩
    · have : ds[i]? = none := Option.some.inj z
      rw [sa.length]
      exact List.getElem?_eq_none_iff.mp this
    · have z : ds[i]? = some d := Option.some.inj z
      obtain ⟨v, e1, e2⟩ := sa.get z
      refine ⟨⟨vs, v, q, e1⟩, fun x H' y => ?_⟩
      obtain ⟨rfl, y⟩ := y
      have ex := y vs q
      rw [e1] at ex
      cases ex
      exact ⟨Stp.rfl' ok, ok, e2⟩
theorem feeds_tup {a : Addr} {d : Val} (h : RlV K mg A0 H0 (.ref a) d) (t : tupS d cs0 = some true) : Feeds K mg A0 H0 (Itt K a) (srcS d) := by
  intro A cs H s ok i
  have h' := Rl.step s h
  unfold srcS
  cases e : seqV d cs with
  | none => exact ⟨fun z => (by cases z), fun d z => (by cases z)⟩
  | some ds =>
    obtain ⟨a', vs, ea, q, sa⟩ := seq_b ok h' (tupS_at t e) e
    cases ea
    refine ⟨fun z => ⟨vs, q, ?_⟩, fun d z => ?_⟩
    · have : ds[i]? = none := Option.some.inj z
      rw [sa.length]
      exact List.getElem?_eq_none_iff.mp this
    · have z : ds[i]? = some d := Option.some.inj z
      obtain ⟨v, e1, e2⟩ := sa.get z
      refine ⟨⟨vs, v, q, e1⟩, fun x H' y => ?_⟩
      obtain ⟨rfl, y⟩ := y
      have ex := y vs q
      rw [e1] at ex
      cases ex
      exact ⟨Stp.rfl' ok, ok, e2⟩
theorem feeds_zip {a b : Addr} {d e : Val} {b1 b2 : Bool} (hx : RlV K mg A0 H0 (.ref a) d) (tx : tupS d cs0 = some b1) (hy : RlV K mg A0 H0 (.ref b) e) (ty : tupS e cs0 = some b2) : Feeds K mg A0 H0 (ItzM b1 b2 K a b) (srcZ d e) := by
  intro A cs H s ok i
  have hx' := Rl.step s hx
  have hy' := Rl.step s hy
  unfold srcZ
  cases ex : seqV d cs with
  | none => exact ⟨fun z => (by cases z), fun d z => (by cases z)⟩
  | some ds =>
    cases ey : seqV e cs with
    | none => exact ⟨fun z => (by cases z), fun d z => (by cases z)⟩
    | some es =>
      obtain ⟨a', vs, ea, q1, t1⟩ := seq_b ok hx' (tupS_at tx ex) ex
      obtain ⟨b', ws, eb, q2, t2⟩ := seq_b ok hy' (tupS_at ty ey) ey
      cases ea
      cases eb
      refine ⟨fun z => ⟨_, _, q1, q2, ?_⟩, fun d z => ?_⟩
      · simp only at z
        rw [t1.length, t2.length]
        split at z
        · cases z
        · rename_i hn
          by_cases h1 : i < ds.length
          · by_cases h2 : i < es.length
            · exact (hn _ _ (List.getElem?_eq_getElem h1) (List.getElem?_eq_getElem h2)).elim
            · omega
          · omega
      · simp only at z
        split at z
        · rename_i u v e1 e2
          cases z
          obtain ⟨v1, g1, s1⟩ := t1.get e1
          obtain ⟨v2, g2, s2⟩ := t2.get e2
          refine ⟨⟨_, _, v1, v2, q1, q2, g1, g2⟩, fun x H' y => ?_⟩
          obtain ⟨T, x1, x2, rfl, nT, rfl, f1, f2⟩ := y
          have ex1 := f1 _ q1
          have ex2 := f2 _ q2
          rw [g1] at ex1
          rw [g2] at ex2
          cases ex1
          cases ex2
          exact tup2 ok nT s1 s2
        · cases z
theorem feeds_enum {a : Addr} {d : Val} (h : RlV K mg A0 H0 (.ref a) d) (t : tupS d cs0 = some false) : Feeds K mg A0 H0 (Ite K a) (srcE d) := by
  intro A cs H s ok i
  have h' := Rl.step s h
  unfold srcE
  cases e : seqV d cs with
  | none => exact ⟨fun z => (by cases z), fun d z => (by cases z)⟩
  | some ds =>
    obtain ⟨a', vs, ea, q, sa⟩ := seq_b ok h' (tupS_at t e) e
    cases ea
    refine ⟨fun z => ⟨vs, q, ?_⟩, fun d z => ?_⟩
    · simp only at z
      split at z
      · cases z
      · rename_i hn
        rw [sa.length]
        exact List.getElem?_eq_none_iff.mp hn
    · simp only at z
      split at z
      · rename_i u e1
        cases z
        obtain ⟨v, g1, s1⟩ := sa.get e1
        refine ⟨⟨vs, v, q, g1⟩, fun x H' y => ?_⟩
        obtain ⟨T, x1, rfl, nT, rfl, f1⟩ := y
        have ex := f1 _ q
        rw [g1] at ex
        cases ex
        exact tup2 ok nT (.int _) s1
      · cases z
theorem feeds_str {z : Str} : Feeds K mg A0 H0 (Its z) (srcT z) := by
  intro A cs H s ok i
  unfold srcT
  refine ⟨fun hi => ?_, fun d hd => ?_⟩
  · have hi := Option.some.inj hi
    have : z.cps.toList[i]? = none := by
      cases q : z.cps.toList[i]? with
      | none => rfl
      | some c => rw [q] at hi; cases hi
    show z.cps.size ≤ i
    simpa using List.getElem?_eq_none_iff.mp this
  · have hd := Option.some.inj hd
    cases q : z.cps.toList[i]? with
    | none =>
      rw [q] at hd
      cases hd
    | some c =>
      rw [q] at hd
      cases hd
      have hi : i < z.cps.size := by
        have := (List.getElem?_eq_some_iff.mp q).1
        simpa using this
      refine ⟨hi, fun x H' y => ?_⟩
      obtain ⟨rfl, c', e1, rfl⟩ := y
      have e2 : z.cps[i]? = some c := by rw [← q]; simp
      rw [e2] at e1
      cases e1
      exact ⟨Stp.rfl' ok, ok, .str _⟩
theorem feeds_rng {lo : Int} {n : Nat} : Feeds K mg A0 H0 (Itr lo n) (srcR lo n) := by
  intro A cs H s ok i
  unfold srcR
  by_cases hi : i < n
  · rw [if_pos hi]
    refine ⟨fun z => (by cases z), fun d z => ?_⟩
    cases z
    refine ⟨hi, fun x H' y => ?_⟩
    obtain ⟨rfl, rfl⟩ := y
    exact ⟨Stp.rfl' ok, ok, .int _⟩
  · rw [if_neg hi]
    exact ⟨fun _ => (show n ≤ i by omega), fun d z => (by cases z)⟩
end
def mSeq (ma : Rho → M Val) : Rho → M Src := fun ρ cs => (ma ρ cs).bind fun x cs1 => match x with
  | .str z => .ok (srcT z) cs1
  | x => if (tupS x cs1).isSome = true then .ok (srcS x) cs1 else .bad
def mZip (ma mb : Rho → M Val) : Rho → M Src := fun ρ cs => (ma ρ cs).bind fun x cs1 => (mb ρ cs1).bind fun y cs2 => if (tupS x cs2).isSome = true ∧ (tupS y cs2).isSome = true then .ok (srcZ x y) cs2 else .bad
def mRng1 (ma : Rho → M Val) : Rho → M Src := fun ρ cs => (ma ρ cs).bind fun x cs1 => match x with
  | .int j => if -(2 ^ 62) ≤ j ∧ j < 2 ^ 62 then .ok (srcR 0 j.toNat) cs1 else .bad
  | _ => .bad
def mRng2 (ma mb : Rho → M Val) : Rho → M Src := fun ρ cs => (ma ρ cs).bind fun x cs1 => (mb ρ cs1).bind fun y cs2 => match x, y with
  | .int i, .int j => if -(2 ^ 62) ≤ i ∧ i < 2 ^ 62 ∧ -(2 ^ 62) ≤ j ∧ j < 2 ^ 62 then .ok (srcR i (j - i).toNat) cs2 else .bad
  | _, _ => .bad
section
variable {X : Cx} {E : XK} {pos tpos : Pos} {tg e e2 iter : Expr} {ma mb : Rho → M Val} {elts : List Expr} {kk : Nat}
theorem has_seq {K : PySem.W.Frag} {mg : Str → Option Value} {A : List Addr} {cs : Mem} {H : Hp} {v : V} {d : Val} {b : Bool} (ok : Ok K mg A cs H) (r : RlV K mg A H v d) (t : tupS d cs = some b) : ∃ a vs, v = .ref a ∧ SqV b K H a vs := by
  have : ∃ ds, seqV d cs = some ds := by
    unfold tupS at t
    split at t
    · exact ⟨_, rfl⟩
    · exact ⟨_, rfl⟩
    · split at t
      · rename_i l q
        refine ⟨l, ?_⟩
        unfold seqV lstR
        simp only [q]
      · cases t
    · cases t
  obtain ⟨ds, e⟩ := this
  obtain ⟨a, vs, h1, h2, _⟩ := seq_b ok r t e
  exact ⟨a, vs, h1, h2⟩
theorem im_seq (h : EM X E e ma) : IM X E tg e (mSeq ma) := by
  obtain ⟨t, p, k⟩ := h
  refine ⟨_, pi_or (pi_list p) (pi_or (pi_tup p) (pi_str p)), fun A ρ cs σ H ok rk S h => ?_⟩
  have h' := PostX.bind h
  cases q : ma ρ cs with
  | bad =>
    rw [q] at h'
    exact h'.elim
  | exc x cs1 =>
    rw [q] at h'
    refine .inl (k A ρ cs σ H ok rk _ ?_)
    rw [q]
    exact h'
  | ok sx cs1 =>
    rw [q] at h'
    have fin : ∀ (W : VK), (∀ v A' H', Stp A H A' H' → Ok X.K X.mg A' cs1 H' → RlV X.K X.mg A' H' v sx → W v H') → t σ H W := fun W w => k A ρ cs σ H ok rk W (by rw [q]; exact w)
    have go : ∀ (h2 : PostX X.K X.mg A H E (fun src cs1 => ∀ J A' H', Stp A H A' H' → Ok X.K X.mg A' cs1 H' → Feeds X.K X.mg A' H' J src → S J H') (if (tupS sx cs1).isSome = true then .ok (srcS sx) cs1 else .bad)), iList X.K t σ H S ∨ iTup X.K t σ H S ∨ iStr t σ H S := fun h2 => by
      cases et : tupS sx cs1 with
      | none =>
        rw [et] at h2
        exact (show False from h2).elim
      | some b =>
        rw [et] at h2
        have h3 : ∀ J A' H', Stp A H A' H' → Ok X.K X.mg A' cs1 H' → Feeds X.K X.mg A' H' J (srcS sx) → S J H' := h2
        cases b
        · refine .inl (fin _ fun v A' H' s' ok' r => ?_)
          obtain ⟨a, vs, rfl, hl⟩ := has_seq ok' r et
          exact ⟨a, rfl, ⟨vs, hl⟩, h3 _ A' H' s' ok' (feeds_list r et)⟩
        · refine .inr (.inl (fin _ fun v A' H' s' ok' r => ?_))
          obtain ⟨a, vs, rfl, hl⟩ := has_seq ok' r et
          exact ⟨a, rfl, ⟨vs, hl⟩, h3 _ A' H' s' ok' (feeds_tup r et)⟩
    cases sx with
    | str z =>
      refine .inr (.inr (fin _ fun v A' H' s' ok' r => ?_))
      cases r
      exact ⟨_, rfl, h' _ A' H' s' ok' feeds_str⟩
    | _ => exact go h'
theorem im_range1 {p : Pos} (hg : Gl X "range") (hm : X.mg "range" = none) (h : EM X E e ma) (hs : starEach [e] X.env = [(false, eval e X.env)] := by rfl) : IM X E tg (.Call (.Name "range" p) [e] [] pos) (mRng1 ma) := by
  obtain ⟨t, pt, k⟩ := h
  refine ⟨_, pi_range1 hg hm (pa_cons pt pa_nil (by rw [hs]; rfl)) hs, fun A ρ cs σ H ok rk S h => ?_⟩
  refine k A ρ cs σ H ok rk _ (PostX.step (Stp.rfl' ok) (fun sx cs1 q x A1 H1 s1 ok1 r1 => ?_) (PostX.bind h))
  split at q
  · rename_i j
    split at q
    · rename_i hz
      cases r1
      exact ⟨j, rfl, hz.1, hz.2, q _ A1 H1 s1 ok1 feeds_rng⟩
    · exact q.elim
  · exact q.elim
theorem im_range2 {p : Pos} (hg : Gl X "range") (hm : X.mg "range" = none) (h : EM X E e ma) (h2 : EM X E e2 mb) (hs : starEach [e, e2] X.env = [(false, eval e X.env), (false, eval e2 X.env)] := by rfl) (hs2 : starEach [e2] X.env = [(false, eval e2 X.env)] := by rfl) :
    IM X E tg (.Call (.Name "range" p) [e, e2] [] pos) (mRng2 ma mb) := by
  obtain ⟨t, pt, k⟩ := h
  obtain ⟨u, pu, k2⟩ := h2
  refine ⟨_, pi_range2 hg hm (pa_cons pt (pa_cons pu pa_nil (by rw [hs2]; rfl)) (by rw [hs, hs2])) hs hs2, fun A ρ cs σ H ok rk S h => ?_⟩
  refine k A ρ cs σ H ok rk _ (PostX.step (Stp.rfl' ok) (fun sx cs1 q x A1 H1 s1 ok1 r1 => ?_) (PostX.bind h))
  refine k2 A1 ρ cs1 σ H1 ok1 (rk.step s1) _ (PostX.step s1 (fun sy cs2 q2 y A2 H2 s2 ok2 r2 => ?_) (PostX.bind q))
  split at q2
  · rename_i i j
    split at q2
    · rename_i hz
      cases r1
      cases r2
      exact ⟨i, j, rfl, hz, q2 _ A2 H2 (s1.trans s2) ok2 feeds_rng⟩
    · exact q2.elim
  · exact q2.elim
theorem im_enum {p : Pos} (hg : Gl X "enumerate") (hm : X.mg "enumerate" = none) (h : EM X E e ma) (hs : starEach [e] X.env = [(false, eval e X.env)] := by rfl) : IM X E (.Tuple elts kk tpos) (.Call (.Name "enumerate" p) [e] [] pos) (fun ρ cs => (ma ρ cs).bind fun x cs1 => if tupS x cs1 = some false then .ok (srcE x) cs1 else .bad) := by
  obtain ⟨t, pt, k⟩ := h
  refine ⟨_, pi_enum hg hm (pa_cons pt pa_nil (by rw [hs]; rfl)) hs, fun A ρ cs σ H ok rk S h => ?_⟩
  refine k A ρ cs σ H ok rk _ (PostX.step (Stp.rfl' ok) (fun sx cs1 q x A1 H1 s1 ok1 r1 => ?_) (PostX.bind h))
  split at q
  · rename_i et
    obtain ⟨a, vs, rfl, hl⟩ := has_seq ok1 r1 et
    exact ⟨a, vs, rfl, hl, q _ A1 H1 s1 ok1 (feeds_enum r1 et)⟩
  · exact q.elim
theorem feeds_as {K : PySem.W.Frag} {mg : Str → Option Value} {A0 : List Addr} {H0 : Hp} {J J' : It} {src : Src} (h : Feeds K mg A0 H0 J src) (e1 : ∀ i H, J.stop i H → J'.stop i H) (e2 : ∀ i H, J.go i H → J'.go i H) (e3 : ∀ i H v H', J'.yld i H v H' → J.yld i H v H') : Feeds K mg A0 H0 J' src := by
  intro A cs H s ok i
  obtain ⟨f1, f2⟩ := h A cs H s ok i
  exact ⟨fun hi => e1 _ _ (f1 hi), fun d hd => ⟨e2 _ _ (f2 d hd).1, fun x H' y => (f2 d hd).2 x H' (e3 _ _ _ _ y)⟩⟩
theorem im_zip {p : Pos} (hg : Gl X "zip") (hm : X.mg "zip" = none) (h : EM X E e ma) (h2 : EM X E e2 mb) (hs : starEach [e, e2] X.env = (false, eval e X.env) :: starEach [e2] X.env := by rfl) (hs2 : starEach [e2] X.env = (false, eval e2 X.env) :: starEach [] X.env := by rfl)
    (hpl : (backTo pos (starEach [e2] X.env)).any (·.1) = false := by rfl) : IM X E (.Tuple elts kk tpos) (.Call (.Name "zip" p) [e, e2] [] pos) (mZip ma mb) := by
  obtain ⟨t, pt, k⟩ := h
  obtain ⟨u, pu, k2⟩ := h2
  refine ⟨_, pi_or (RZ.pi_zipA hg hm (pa_cons pt (pa_cons pu pa_nil hs2) hs) hs hpl) (pi_zipM hg hm (pa_cons pt (pa_cons pu pa_nil hs2) hs) hs hpl), fun A ρ cs σ H ok rk S h => ?_⟩
  cases hx : ma ρ cs with
  | bad =>
    unfold mZip at h
    rw [hx] at h
    exact (show False from h).elim
  | exc x c =>
    refine .inl (k A ρ cs σ H ok rk _ ?_)
    unfold mZip at h
    rw [hx] at h ⊢
    exact h
  | ok sx cs1 =>
    cases hy : mb ρ cs1 with
    | bad =>
      unfold mZip at h
      rw [hx] at h
      simp only [Res.bind, hy] at h
      exact (show False from h).elim
    | exc x c =>
      unfold mZip at h
      rw [hx] at h
      simp only [Res.bind, hy] at h
      refine .inl (k A ρ cs σ H ok rk _ ?_)
      rw [hx]
      intro x A1 H1 s1 ok1 r1
      refine k2 A1 ρ cs1 σ H1 ok1 (rk.step s1) _ ?_
      rw [hy]
      exact fun A' H' cls dx s' ok r => h A' H' cls dx (s1.trans s') ok r
    | ok sy cs2 =>
      have h' := h
      unfold mZip at h'
      rw [hx] at h'
      simp only [Res.bind, hy] at h'
      cases ex : tupS sx cs2 with
      | none =>
        rw [ex] at h'
        exact (show False from h').elim
      | some b1 =>
        cases ey : tupS sy cs2 with
        | none =>
          rw [ex, ey] at h'
          exact (show False from h').elim
        | some b2 =>
          rw [ex, ey] at h'
          have h3 : ∀ J A' H', Stp A H A' H' → Ok X.K X.mg A' cs2 H' → Feeds X.K X.mg A' H' J (srcZ sx sy) → S J H' := h'
          have go : ∀ {W : V → V → Hp → Prop}, (∀ x y A2 H2, Stp A H A2 H2 → Ok X.K X.mg A2 cs2 H2 → RlV X.K X.mg A2 H2 x sx → RlV X.K X.mg A2 H2 y sy → W x y H2) → t σ H fun x H1 => u σ H1 fun y H2 => W x y H2 := fun {W} w => by
            refine k A ρ cs σ H ok rk _ ?_
            rw [hx]
            intro x A1 H1 s1 ok1 r1
            refine k2 A1 ρ cs1 σ H1 ok1 (rk.step s1) _ ?_
            rw [hy]
            exact fun y A2 H2 s2 ok2 r2 => w x y A2 H2 (s1.trans s2) ok2 (Rl.step s2 r1) r2
          have mk : ∀ {x y : V} {A2 : List Addr} {H2 : Hp}, Ok X.K X.mg A2 cs2 H2 → RlV X.K X.mg A2 H2 x sx → RlV X.K X.mg A2 H2 y sy → ∃ a b vs ws, x = .ref a ∧ y = .ref b ∧ SqV b1 X.K H2 a vs ∧ SqV b2 X.K H2 b ws ∧ Feeds X.K X.mg A2 H2 (ItzM b1 b2 X.K a b) (srcZ sx sy) := fun ok2 r1 r2 => by
            obtain ⟨a, vs, rfl, q1⟩ := has_seq ok2 r1 ex
            obtain ⟨b, ws, rfl, q2⟩ := has_seq ok2 r2 ey
            exact ⟨a, b, vs, ws, rfl, rfl, q1, q2, feeds_zip r1 ex r2 ey⟩
          cases b1 <;> cases b2
          · refine .inl (go fun x y A2 H2 s ok2 r1 r2 => ?_)
            obtain ⟨a, b, vs, ws, rfl, rfl, q1, q2, fd⟩ := mk ok2 r1 r2
            exact ⟨a, b, vs, ws, rfl, .inl ⟨q1, q2, h3 _ A2 H2 s ok2 (feeds_as fd (fun _ _ z => z) (fun _ _ z => z) fun _ _ _ _ z => z)⟩⟩
          · refine .inr (go fun x y A2 H2 s ok2 r1 r2 => ?_)
            obtain ⟨a, b, vs, ws, rfl, rfl, q1, q2, fd⟩ := mk ok2 r1 r2
            exact ⟨a, b, vs, ws, rfl, .inl ⟨q1, q2, h3 _ A2 H2 s ok2 fd⟩⟩
          · refine .inr (go fun x y A2 H2 s ok2 r1 r2 => ?_)
            obtain ⟨a, b, vs, ws, rfl, rfl, q1, q2, fd⟩ := mk ok2 r1 r2
            exact ⟨a, b, vs, ws, rfl, .inr ⟨q1, q2, h3 _ A2 H2 s ok2 fd⟩⟩
          · refine .inl (go fun x y A2 H2 s ok2 r1 r2 => ?_)
            obtain ⟨a, b, vs, ws, rfl, rfl, q1, q2, fd⟩ := mk ok2 r1 r2
            exact ⟨a, b, vs, ws, rfl, .inr ⟨q1, q2, h3 _ A2 H2 s ok2 (feeds_as fd (fun _ _ z => z) (fun _ _ z => z) fun _ _ _ _ z => z)⟩⟩
end

/-! ### for -/
def forN (src : Src) (f : Val → Rho → Option Rho) (body : Rho → M Fl) : Nat → Nat → Rho → M Fl
  | 0, _, _, _ => .bad
  | n + 1, i, ρ, cs => match src i cs with
    | none => .bad
    | some none => .ok (.nx ρ) cs
    | some (some d) => match f d ρ with
      | some ρ1 => (body ρ1 cs).bind fun x cs1 => match x with
        | .nx ρ2 => forN src f body n (i + 1) ρ2 cs1
        | .ct ρ2 => forN src f body n (i + 1) ρ2 cs1
        | .bk ρ2 => .ok (.nx ρ2) cs1
        | .rt d => .ok (.rt d) cs1
      | none => .bad
def sFor (mi : Rho → M Src) (f : Val → Rho → Option Rho) (body : Rho → M Fl) : Rho → M Fl := fun ρ cs => (mi ρ cs).bind fun src cs1 => forN src f body SL 0 ρ cs1
def whileN (mt : Rho → M Bool) (body : Rho → M Fl) : Nat → Rho → M Fl
  | 0, _, _ => .bad
  | n + 1, ρ, cs => (mt ρ cs).bind fun k cs1 => if k = true then (body ρ cs1).bind fun x cs2 => match x with
      | .nx ρ2 => whileN mt body n ρ2 cs2
      | .ct ρ2 => whileN mt body n ρ2 cs2
      | .bk ρ2 => .ok (.nx ρ2) cs2
      | .rt d => .ok (.rt d) cs2
    else .ok (.nx ρ) cs1
section
variable {X : Cx} {E : XK} {pos : Pos} {c tg iter : Expr} {body : List Stmt} {mt : Rho → M Bool} {mb' : Rho → M Fl} {L : List Nat} {f : Val → Rho → Option Rho} {mi : Rho → M Src}
theorem sm_for (hp : PassesOwn (model X.prog X.w) X.A X.env X.xe) (hc : X.calm = true) (hi : IM X E tg iter mi) (hg : GM X tg L f) (hb : BM X E body mb') (hs : ∀ x, foldedSetIterable iter X.env x = pure x := by intro _; rfl) :
    SM X E (.For tg iter body [] pos) (sFor mi f mb') := by
  obtain ⟨wi, pi, ki⟩ := hi
  obtain ⟨g, pg, kg⟩ := hg
  obtain ⟨tb, pb, kb⟩ := hb
  refine sm_of (ps_for hp hc pi pg pb hs) fun A ρ cs σ H ok rk De h => ?_
  refine ki A ρ cs σ H ok rk _ (PostX.step (Stp.rfl' ok) (fun nth cs1 q J A1 H1 s1 ok1 fd => ?_) (PostX.bind h))
  refine ⟨fun i m σ' H' => ∃ A' cs' ρ', Stp A H A' H' ∧ Stp A1 H1 A' H' ∧ Ok X.K X.mg A' cs' H' ∧ RhoOk X.K X.mg A' ρ' σ' H' ∧ PostS X.K X.mg A H De E (forN nth f mb' m i ρ' cs'),
    ⟨_, A1, cs1, ρ, s1, Stp.rfl' ok1, ok1, rk.step s1, q⟩, ?_⟩
  rintro i m σ' H' ⟨A', cs', ρ', s, s', ok', rk', hq⟩
  cases m with
  | zero => exact (show False from hq).elim
  | succ m =>
    obtain ⟨f1, f2⟩ := fd A' cs' H' s' ok' i
    unfold forN at hq
    split at hq
    · exact (show False from hq).elim
    · rename_i en
      exact .inl ⟨f1 en, hq σ' A' H' s ok' rk'⟩
    · rename_i d en
      obtain ⟨go, yl⟩ := f2 d en
      refine .inr ⟨go, fun σ2 H2 => ∃ A2 cs2 ρ2, Stp A H A2 H2 ∧ Stp A1 H1 A2 H2 ∧ Ok X.K X.mg A2 cs2 H2 ∧ RhoOk X.K X.mg A2 ρ2 σ2 H2 ∧ PostS X.K X.mg A H De E (forN nth f mb' m (i + 1) ρ2 cs2), fun σ2 H2 hN => ⟨m, Nat.lt_succ_self m, hN⟩, fun x H2 y => ?_⟩
      obtain ⟨s2, ok2, r2⟩ := yl x H2 y
      split at hq
      · rename_i ρ1 e1
        refine kg A' cs' ρ' σ' H2 x d ρ1 ok2 (rk'.step s2) r2 e1 _ fun σ3 rk3 _ _ => ?_
        have st := s.trans s2
        have st' := s'.trans s2
        refine kb A' ρ1 cs' σ3 H2 ok2 rk3 _ (PostX.step st (fun fl cs3 q3 => ?_) (PostX.bind hq))
        cases fl with
        | nx ρ2 => exact fun σ4 A4 H4 s4 ok4 rk4 => ⟨A4, cs3, ρ2, st.trans s4, st'.trans s4, ok4, rk4, q3⟩
        | ct ρ2 => exact fun σ4 A4 H4 s4 ok4 rk4 => ⟨A4, cs3, ρ2, st.trans s4, st'.trans s4, ok4, rk4, q3⟩
        | bk ρ2 => exact fun σ4 A4 H4 s4 ok4 rk4 => q3 σ4 A4 H4 (st.trans s4) ok4 rk4
        | rt sl => exact fun v A4 H4 s4 ok4 r4 => q3 v A4 H4 (st.trans s4) ok4 r4
      · exact (show False from hq).elim
theorem sm_while (n : Nat) (hp : PassesOwn (model X.prog X.w) X.A X.env X.xe) (hc : TM X E c mt) (hb : BM X E body mb') : SM X E (.While c body [] pos) (whileN mt mb' n) := by
  obtain ⟨tc, pc, kc⟩ := hc
  obtain ⟨tb, pb, kb⟩ := hb
  refine sm_of (ps_while hp pc pb) fun A ρ cs σ H ok rk De h => ?_
  refine ⟨fun m σ' H' => ∃ A' cs' ρ', Stp A H A' H' ∧ Ok X.K X.mg A' cs' H' ∧ RhoOk X.K X.mg A' ρ' σ' H' ∧ PostS X.K X.mg A H De E (whileN mt mb' m ρ' cs'), ⟨n, A, cs, ρ, Stp.rfl' ok, ok, rk, h⟩, ?_⟩
  rintro m σ' H' ⟨A', cs', ρ', s, ok', rk', hq⟩
  cases m with
  | zero => exact hq.elim
  | succ m =>
    unfold whileN at hq
    refine kc A' ρ' cs' σ' H' ok' rk' _ (PostX.step s (fun k cs1 q A1 H1 s1 ok1 => ?_) (PostX.bind hq))
    have st := s.trans s1
    cases k with
    | false => exact q σ' A1 H1 st ok1 (rk'.step s1)
    | true =>
      refine ⟨fun σ2 H2 => ∃ A2 cs2 ρ2, Stp A H A2 H2 ∧ Ok X.K X.mg A2 cs2 H2 ∧ RhoOk X.K X.mg A2 ρ2 σ2 H2 ∧ PostS X.K X.mg A H De E (whileN mt mb' m ρ2 cs2), fun σ2 H2 hN => ⟨m, Nat.lt_succ_self m, hN⟩, ?_⟩
      refine kb A1 ρ' cs1 σ' H1 ok1 (rk'.step s1) _ (PostX.step st (fun fl cs3 q3 => ?_) (PostX.bind q))
      cases fl with
      | nx ρ2 => exact fun σ4 A4 H4 s4 ok4 rk4 => ⟨A4, cs3, ρ2, st.trans s4, ok4, rk4, q3⟩
      | ct ρ2 => exact fun σ4 A4 H4 s4 ok4 rk4 => ⟨A4, cs3, ρ2, st.trans s4, ok4, rk4, q3⟩
      | bk ρ2 => exact fun σ4 A4 H4 s4 ok4 rk4 => q3 σ4 A4 H4 (st.trans s4) ok4 rk4
      | rt sl => exact fun v A4 H4 s4 ok4 r4 => q3 v A4 H4 (st.trans s4) ok4 r4
end
end Py
set_option maxHeartbeats 2000000
/-! comprehensions; several names at once -/
namespace Py
open PySem PySem.Spec PyProof.Rows L2
open Mir (SL SL_eq wipe_ext)
variable [Tb]

def wipeR (ρ : Rho) : List Nat → Rho
  | [] => ρ
  | v :: vs => (wipeR ρ vs).set v none
theorem wipeR_len (ρ : Rho) : ∀ vs : List Nat, (wipeR ρ vs).length = ρ.length
  | [] => rfl
  | v :: vs => by
    show ((wipeR ρ vs).set v none).length = ρ.length
    rw [List.length_set]
    exact wipeR_len ρ vs
theorem wipeR_some {ρ : Rho} {i : Nat} {d : Val} : ∀ {vs : List Nat}, (wipeR ρ vs)[i]? = some (some d) → ρ[i]? = some (some d) ∧ i ∉ vs
  | [], h => ⟨h, by simp⟩
  | v :: vs, h => by
    have h' : ((wipeR ρ vs).set v none)[i]? = some (some d) := h
    by_cases e : v = i
    · subst e
      rw [List.getElem?_set] at h'
      simp at h'
    · rw [List.getElem?_set_ne e] at h'
      obtain ⟨h1, h2⟩ := wipeR_some h'
      exact ⟨h1, fun z => (List.mem_cons.mp z).elim (fun q => e q.symm) h2⟩
theorem RhoOk.wipe {K : PySem.W.Frag} {mg : Str → Option Value} {A : List Addr} {ρ : Rho} {σ : L2.St} {H : Hp} (r : RhoOk K mg A ρ σ H) (vs : List Nat) : RhoOk K mg A (wipeR ρ vs) (L2.wipe σ vs) H := by
  refine ⟨by rw [wipeR_len, wipe_length]; exact r.1, fun i d e => ?_⟩
  obtain ⟨e1, hi⟩ := wipeR_some e
  obtain ⟨v, h1, h2⟩ := r.2 i d e1
  exact ⟨v, by rw [Mir.wipe_at hi]; exact h1, h2⟩
structure QM (X : Cx) (E : XK) (ifs : List Expr) (m : Rho → M Bool) : Prop where
  ex : ∃ t, PTs X ifs t ∧ ∀ A ρ cs σ H, Ok X.K X.mg A cs H → RhoOk X.K X.mg A ρ σ H → ∀ Q, PostB X.K X.mg A H Q E (m ρ cs) → t σ H Q
def mYes : Rho → M Bool := fun _ cs => .ok true cs
section
variable {X : Cx} {E : XK} {pos : Pos} {a b c e elt tg iter : Expr} {es : List Expr} {ifs : List Expr} {ma mb : Rho → M Val} {ms : Rho → M (List Val)} {mt : Rho → M Bool} {L : List Nat} {f : Val → Rho → Option Rho} {mi : Rho → M Src}
theorem qm_nil : QM X E [] mYes := ⟨_, pts_nil, fun A ρ cs σ H ok rk Q h => h A H (Stp.rfl' ok) ok⟩
theorem qm_one (h : TM X E c mt) : QM X E [c] mt := by
  obtain ⟨t, p, k⟩ := h
  exact ⟨_, pts_one p, k⟩
/-- no exception leaves a comprehension -/
def quiet {α : Type} : Res α → Res α
  | .ok a cs => .ok a cs
  | _ => .bad
theorem quiet_post {K : PySem.W.Frag} {mg : Str → Option Value} {A : List Addr} {H : Hp} {α : Type} {S : α → Mem → Prop} {r : Res α} {A0 : List Addr} {H0 : Hp} {E1 : XK} (h : PostX K mg A0 H0 E1 S (quiet r)) : PostX K mg A H E S r := by
  cases r with
  | ok a cs => exact h
  | exc x cs => exact h.elim
  | bad => exact h.elim
/-! the readings that are the same whatever the block's context -/
def tEm (K : PySem.W.Frag) (mg : Str → Option Value) (E : XK) (m : Rho → M Val) : TE := fun σ H Q => ∃ A ρ cs, Ok K mg A cs H ∧ RhoOk K mg A ρ σ H ∧ Post K mg A H Q E (m ρ cs)
theorem EM.pe {m : Rho → M Val} (h : EM X E e m) : PE X e (tEm X.K X.mg E m) := ⟨fun pins s σ H Q I h' => by
  obtain ⟨A, ρ, cs, ok, rk, p⟩ := h'
  obtain ⟨t, pt, k⟩ := h
  exact pt.run pins s σ H Q I (k A ρ cs σ H ok rk Q p)⟩
def tQm (K : PySem.W.Frag) (mg : Str → Option Value) (E : XK) (m : Rho → M Bool) : TT := fun σ H Q => ∃ A ρ cs, Ok K mg A cs H ∧ RhoOk K mg A ρ σ H ∧ PostB K mg A H Q E (m ρ cs)
theorem QM.pe {m : Rho → M Bool} (h : QM X E ifs m) : PTs X ifs (tQm X.K X.mg E m) := ⟨fun pins s σ H Q I h' => by
  obtain ⟨A, ρ, cs, ok, rk, p⟩ := h'
  obtain ⟨t, pt, k⟩ := h
  exact pt.run pins s σ H Q I (k A ρ cs σ H ok rk Q p)⟩
def tGm (K : PySem.W.Frag) (mg : Str → Option Value) (L : List Nat) (f : Val → Rho → Option Rho) : TG := fun x σ H Q => ∃ A cs ρ d ρ', Ok K mg A cs H ∧ RhoOk K mg A ρ σ H ∧ RlV K mg A H x d ∧ f d ρ = some ρ' ∧ ∀ σ', RhoOk K mg A ρ' σ' H → σ'.length = σ.length → (∀ i, i ∉ L → σ'[i]? = σ[i]?) → Q σ' H
theorem GM.pg (h : GM X tg L f) : PG X tg (tGm X.K X.mg L f) := ⟨fun pins s σ H v u Q I r h' => by
  obtain ⟨A, cs, ρ, d, ρ', ok, rk, rx, ef, q⟩ := h'
  obtain ⟨g, pg, k⟩ := h
  exact pg.run pins s σ H v u Q I r (k A cs ρ σ H v d ρ' ok rk rx ef Q q)⟩
def tIm (K : PySem.W.Frag) (mg : Str → Option Value) (E : XK) (m : Rho → M Src) : TI := fun σ H S => ∃ A ρ cs, Ok K mg A cs H ∧ RhoOk K mg A ρ σ H ∧ PostX K mg A H E (fun src cs1 => ∀ J A' H', Stp A H A' H' → Ok K mg A' cs1 H' → Feeds K mg A' H' J src → S J H') (m ρ cs)
theorem IM.pi (h : IM X E tg iter mi) : PI X tg iter (tIm X.K X.mg E mi) := ⟨fun pins s σ H S I h' => by
  obtain ⟨A, ρ, cs, ok, rk, p⟩ := h'
  obtain ⟨t, pt, k⟩ := h
  exact pt.run pins s σ H S I (k A ρ cs σ H ok rk S p)⟩
/-! ### lists -/
def pushAt (D : Nat) (x : Val) (cs : Mem) : Option Mem := match cs[D]? with
  | some (.lst ds) => if ds.length < SL then some (cs.set D (.lst (ds ++ [x]))) else none
  | _ => none
def lcN (src : Src) (f : Val → Rho → Option Rho) (mt : Rho → M Bool) (me : Rho → M Val) (ρ : Rho) (D : Nat) : Nat → Nat → M Val
  | 0, _, _ => .bad
  | n + 1, i, cs => match src i cs with
    | none => .bad
    | some none => .ok (.h D) cs
    | some (some d) => match f d ρ with
      | some ρ1 => (quiet (mt ρ1 cs)).bind fun k cs1 => if k = true then (quiet (me ρ1 cs1)).bind fun x cs2 => match pushAt D x cs2 with
          | some cs3 => lcN src f mt me ρ D n (i + 1) cs3
          | none => .bad
        else lcN src f mt me ρ D n (i + 1) cs1
      | none => .bad
def mLc (mi : Rho → M Src) (f : Val → Rho → Option Rho) (mt : Rho → M Bool) (me : Rho → M Val) (vs : List Nat) : Rho → M Val := fun ρ cs => (mi ρ cs).bind fun src cs1 => lcN src f mt me (wipeR ρ vs) cs1.length SL 0 (cs1 ++ [.lst []])
theorem push_ok {K : PySem.W.Frag} {mg : Str → Option Value} {A : List Addr} {cs cs' : Mem} {H : Hp} {D : Nat} {Dl : Addr} {x : V} {d : Val} (ok : Ok K mg A cs H) (hD : A[D]? = some Dl) (r : RlV K mg A H x d) (e : pushAt D d cs = some cs') :
    ∃ acc, H Dl = some (.lst acc) ∧ acc.length < sizeLine ∧ Stp A H A (upd H Dl (.lst (acc ++ [x]))) ∧ Ok K mg A cs' (upd H Dl (.lst (acc ++ [x]))) := by
  unfold pushAt at e
  split at e
  · rename_i ds ed
    split at e
    · rename_i hz
      cases e
      obtain ⟨vs, hl, hs⟩ := ok.at D Dl _ hD ed
      obtain ⟨s4, ok4⟩ := ok.putL hD (hs.append (.cons r .nil))
      exact ⟨vs, hl, by rw [hs.length]; exact SL_eq ▸ hz, s4, ok4⟩
    · cases e
  · cases e
theorem lc_read {wi : TI} {me : Rho → M Val} {vs : List Nat} (ki : ∀ A ρ cs σ H, Ok X.K X.mg A cs H → RhoOk X.K X.mg A ρ σ H → ∀ S : It → Hp → Prop, PostX X.K X.mg A H E (fun src cs1 => ∀ J A' H', Stp A H A' H' → Ok X.K X.mg A' cs1 H' → Feeds X.K X.mg A' H' J src → S J H') (mi ρ cs) → wi σ H S)
    (hL : ∀ i ∈ L, i ∈ vs) {A : List Addr} {ρ : Rho} {cs : Mem} {σ : L2.St} {H : Hp} (ok : Ok X.K X.mg A cs H) (rk : RhoOk X.K X.mg A ρ σ H) {Q : VK} (h : Post X.K X.mg A H Q E (mLc mi f mt me vs ρ cs)) :
    tLc wi (tGm X.K X.mg L f) (tQm X.K X.mg E0' mt) (tEm X.K X.mg E0' me) vs σ H Q := by
  refine ki A ρ cs σ H ok rk _ (PostX.step (Stp.rfl' ok) (fun src cs1 q J A1 H1 s1 ok1 fd => ?_) (PostX.bind h))
  intro Dl nD
  have okp : Ok X.K X.mg (A1 ++ [Dl]) (cs1 ++ [.lst []]) (upd H1 Dl (.lst [])) := ok1.push nD ⟨[], upd_same, .nil⟩
  have sp : Stp A1 H1 (A1 ++ [Dl]) (upd H1 Dl (.lst [])) := Stp.push' ok1 nD
  have hD0 : (A1 ++ [Dl])[cs1.length]? = some Dl := ok1.len ▸ get_push
  refine ⟨fun i m Hc => ∃ A' cs', Stp A H A' Hc ∧ Stp A1 H1 A' Hc ∧ Ok X.K X.mg A' cs' Hc ∧ A'[cs1.length]? = some Dl ∧ Post X.K X.mg A H Q E (lcN src f mt me (wipeR ρ vs) cs1.length m i cs'),
    ⟨_, _, _, s1.trans sp, sp, okp, hD0, q⟩, ?_⟩
  rintro i m Hc ⟨A', cs', s, s', ok', hD, hq⟩
  cases m with
  | zero => exact (show False from hq).elim
  | succ m =>
    obtain ⟨f1, f2⟩ := fd A' cs' Hc s' ok' i
    unfold lcN at hq
    split at hq
    · exact (show False from hq).elim
    · rename_i en
      exact .inl ⟨f1 en, hq _ A' Hc s ok' (.hdl hD)⟩
    · rename_i d en
      obtain ⟨go, yl⟩ := f2 d en
      refine .inr ⟨go, fun Hn => ∃ A2 cs2, Stp A H A2 Hn ∧ Stp A1 H1 A2 Hn ∧ Ok X.K X.mg A2 cs2 Hn ∧ A2[cs1.length]? = some Dl ∧ Post X.K X.mg A H Q E (lcN src f mt me (wipeR ρ vs) cs1.length m (i + 1) cs2), fun Hn hN => ⟨m, Nat.lt_succ_self m, hN⟩, fun x H2 y => ?_⟩
      obtain ⟨s2, ok2, r2⟩ := yl x H2 y
      split at hq
      · rename_i ρ1 e1
        have st := s.trans s2
        have st' := s'.trans s2
        refine ⟨A', cs', wipeR ρ vs, d, ρ1, ok2, (rk.step st).wipe vs, r2, e1, fun σ3 rk3 l3 f3 => ⟨wipe_ext l3 fun i hi => f3 i fun z => hi (hL i z), ?_⟩⟩
        refine ⟨A', ρ1, cs', ok2, rk3, quiet_post (PostX.step st (fun k cs2 q2 A3 H3 s3 ok3 => ?_) (PostX.bind hq))⟩
        have hD3 := Stp.pre s3 _ _ hD
        cases k with
        | false =>
          rw [if_neg Bool.false_ne_true] at q2
          show ite (false = true) _ _
          rw [if_neg Bool.false_ne_true]
          exact ⟨A3, cs2, st.trans s3, st'.trans s3, ok3, hD3, q2⟩
        | true =>
          rw [if_pos rfl] at q2
          show ite (true = true) _ _
          rw [if_pos rfl]
          refine ⟨A3, ρ1, cs2, ok3, rk3.step s3, quiet_post (PostX.step (st.trans s3) (fun d2 cs3 q3 v A4 H4 s4 ok4 r4 => ?_) (PostX.bind q2))⟩
          have hD4 := Stp.pre s4 _ _ hD3
          split at q3
          · rename_i cs4 ep
            obtain ⟨acc, h1, h2, s5, ok5⟩ := push_ok ok4 hD4 r4 ep
            exact ⟨acc, h1, h2, A4, cs4, ((st.trans s3).trans s4).trans s5, ((st'.trans s3).trans s4).trans s5, ok5, hD4, q3⟩
          · exact (show False from q3).elim
      · exact (show False from hq).elim
theorem em_lc {scope : Scope} {own : List (Str × Nat)} {me : Rho → M Val} (hc : X.calm = true) (hN : X.N.Nodup) (hi : IM X E tg iter mi) (okb : BlkOk X.N X.env.scope scope own) (hL : ∀ i ∈ L, i ∈ own.map (·.2))
    (hg : ∀ (s : Shared) (H : Hp) (C : Addr) (cl : List (Str × Addr)) (fp : List Addr), GM (X.blk s H scope (compEnvC scope cl C X.env) fp) tg L f)
    (ht : ∀ (s : Shared) (H : Hp) (C : Addr) (cl : List (Str × Addr)) (fp : List Addr), QM (X.blk s H scope (compEnvC scope cl C X.env) fp) E0' ifs mt)
    (he : ∀ (s : Shared) (H : Hp) (C : Addr) (cl : List (Str × Addr)) (fp : List Addr), EM (X.blk s H scope (compEnvC scope cl C X.env) fp) E0' elt me) (hs : ∀ x, foldedSetIterable iter X.env x = pure x := by intro _; rfl) :
    EM X E (.ListComp elt [⟨tg, iter, ifs, 0⟩] scope pos) (mLc mi f mt me (own.map (·.2))) := by
  obtain ⟨wi, pi, ki⟩ := hi
  exact ⟨_, pe_lc (g := tGm X.K X.mg L f) (tt := tQm X.K X.mg E0' mt) (te := tEm X.K X.mg E0' me) hc hN pi okb (fun s H C cl fp => (hg s H C cl fp).pg) (fun s H C cl fp => (ht s H C cl fp).pe) (fun s H C cl fp => (he s H C cl fp).pe) hs, fun A ρ cs σ H ok rk Q h => lc_read ki hL ok rk h⟩
/-- x = [..] on one line -/
theorem sm_setLc (i : Nat) {y : Str} {py spos : Pos} {scope : Scope} {own : List (Str × Nat)} {me : Rho → M Val} (hc : X.calm = true) (hN : X.N.Nodup) (hsw : swapsWith (.ListComp elt [⟨tg, iter, ifs, 0⟩] scope pos) (some (.Name y py)) spos.line X.env = pure true)
    (hi : IM X E tg iter mi) (okb : BlkOk X.N X.env.scope scope own) (hL : ∀ i ∈ L, i ∈ own.map (·.2))
    (hg : ∀ (s : Shared) (H : Hp) (C : Addr) (cl : List (Str × Addr)) (fp : List Addr), GM (X.blk s H scope (compEnvC scope cl C X.env) fp) tg L f)
    (ht : ∀ (s : Shared) (H : Hp) (C : Addr) (cl : List (Str × Addr)) (fp : List Addr), QM (X.blk s H scope (compEnvC scope cl C X.env) fp) E0' ifs mt)
    (he : ∀ (s : Shared) (H : Hp) (C : Addr) (cl : List (Str × Addr)) (fp : List Addr), EM (X.blk s H scope (compEnvC scope cl C X.env) fp) E0' elt me)
    (hy : X.N[i]? = some y := by rfl) (hyl : X.env.scope.names.lookup y = some .local := by rfl) (hs : ∀ x, foldedSetIterable iter X.env x = pure x := by intro _; rfl) :
    SM X E (.Assign [.Name y py] (.ListComp elt [⟨tg, iter, ifs, 0⟩] scope pos) spos) (sSet i (mLc mi f mt me (own.map (·.2)))) := by
  obtain ⟨wi, pi, ki⟩ := hi
  exact sm_of (ps_setLc (g := tGm X.K X.mg L f) (tt := tQm X.K X.mg E0' mt) (te := tEm X.K X.mg E0' me) hc hN hy hyl hsw pi okb (fun s H C cl fp => (hg s H C cl fp).pg) (fun s H C cl fp => (ht s H C cl fp).pe) (fun s H C cl fp => (he s H C cl fp).pe) hs) fun A ρ cs σ H ok rk De h =>
    set_run (fun A ρ cs σ H ok rk Q h => lc_read ki hL ok rk h) ok rk h
/-! two clauses -/
def lcI (src : Src) (f : Val → Rho → Option Rho) (mt : Rho → M Bool) (me : Rho → M Val) (ρ : Rho) (D : Nat) : Nat → Nat → M Unit
  | 0, _, _ => .bad
  | n + 1, i, cs => match src i cs with
    | none => .bad
    | some none => .ok () cs
    | some (some d) => match f d ρ with
      | some ρ1 => (quiet (mt ρ1 cs)).bind fun k cs1 => if k = true then (quiet (me ρ1 cs1)).bind fun x cs2 => match pushAt D x cs2 with
          | some cs3 => lcI src f mt me ρ D n (i + 1) cs3
          | none => .bad
        else lcI src f mt me ρ D n (i + 1) cs1
      | none => .bad
def lcO (src : Src) (f : Val → Rho → Option Rho) (mt : Rho → M Bool) (mi1 : Rho → M Src) (f1 : Val → Rho → Option Rho) (mt1 : Rho → M Bool) (me : Rho → M Val) (vs1 : List Nat) (ρ : Rho) (D : Nat) : Nat → Nat → M Val
  | 0, _, _ => .bad
  | n + 1, i, cs => match src i cs with
    | none => .bad
    | some none => .ok (.h D) cs
    | some (some d) => match f d ρ with
      | some ρ1 => (quiet (mt ρ1 cs)).bind fun k cs1 => if k = true then (quiet (mi1 ρ1 cs1)).bind fun src1 cs2 => (lcI src1 f1 mt1 me (wipeR ρ1 vs1) D SL 0 cs2).bind fun _ cs3 => lcO src f mt mi1 f1 mt1 me vs1 ρ D n (i + 1) cs3
        else lcO src f mt mi1 f1 mt1 me vs1 ρ D n (i + 1) cs1
      | none => .bad
def mLc2 (mi : Rho → M Src) (f : Val → Rho → Option Rho) (mt : Rho → M Bool) (mi1 : Rho → M Src) (f1 : Val → Rho → Option Rho) (mt1 : Rho → M Bool) (me : Rho → M Val) (vs vs1 : List Nat) : Rho → M Val := fun ρ cs => (mi ρ cs).bind fun src cs1 => lcO src f mt mi1 f1 mt1 me vs1 (wipeR ρ vs) cs1.length SL 0 (cs1 ++ [.lst []])
theorem lcI_quiet {src : Src} {f : Val → Rho → Option Rho} {mt : Rho → M Bool} {me : Rho → M Val} {ρ : Rho} {D : Nat} : ∀ (n i : Nat) (cs : Mem) (x : Ex) (c : Mem), lcI src f mt me ρ D n i cs ≠ .exc x c
  | 0, _, _, _, _, h => by cases h
  | n + 1, i, cs, x, c, h => by
    unfold lcI at h
    split at h
    · cases h
    · cases h
    · split at h
      · rename_i ρ1 _
        cases q : mt ρ1 cs with
        | bad => rw [q] at h; cases h
        | exc x c => rw [q] at h; cases h
        | ok k cs1 =>
          rw [q] at h
          replace h : (if k = true then (quiet (me ρ1 cs1)).bind fun x cs2 => match pushAt D x cs2 with
            | some cs3 => lcI src f mt me ρ D n (i + 1) cs3
            | none => .bad
            else lcI src f mt me ρ D n (i + 1) cs1) = .exc x c := h
          split at h
          · cases q2 : me ρ1 cs1 with
            | bad => rw [q2] at h; cases h
            | exc x c => rw [q2] at h; cases h
            | ok v cs2 =>
              rw [q2] at h
              replace h : (match pushAt D v cs2 with
                | some cs3 => lcI src f mt me ρ D n (i + 1) cs3
                | none => .bad) = .exc x c := h
              split at h
              · exact lcI_quiet n _ _ _ _ h
              · cases h
          · exact lcI_quiet n _ _ _ _ h
      · cases h
theorem lc2_read {tg1 iter1 : Expr} {ifs1 : List Expr} {mi1 : Rho → M Src} {f1 : Val → Rho → Option Rho} {mt1 : Rho → M Bool} {L1 : List Nat} {wi : TI} {me : Rho → M Val} {vs vs1 : List Nat} (ki : ∀ A ρ cs σ H, Ok X.K X.mg A cs H → RhoOk X.K X.mg A ρ σ H → ∀ S : It → Hp → Prop, PostX X.K X.mg A H E (fun src cs1 => ∀ J A' H', Stp A H A' H' → Ok X.K X.mg A' cs1 H' → Feeds X.K X.mg A' H' J src → S J H') (mi ρ cs) → wi σ H S)
    (hL : ∀ i ∈ L, i ∈ vs) (hL1 : ∀ i ∈ L1, i ∈ vs1) {A : List Addr} {ρ : Rho} {cs : Mem} {σ : L2.St} {H : Hp} (ok : Ok X.K X.mg A cs H) (rk : RhoOk X.K X.mg A ρ σ H) {Q : VK} (h : Post X.K X.mg A H Q E (mLc2 mi f mt mi1 f1 mt1 me vs vs1 ρ cs)) :
    tLc2 wi (tGm X.K X.mg L f) (tQm X.K X.mg E0' mt) (tIm X.K X.mg E0' mi1) (tGm X.K X.mg L1 f1) (tQm X.K X.mg E0' mt1) (tEm X.K X.mg E0' me) vs vs1 σ H Q := by
  refine ki A ρ cs σ H ok rk _ (PostX.step (Stp.rfl' ok) (fun src cs1 q J A1 H1 s1 ok1 fd => ?_) (PostX.bind h))
  intro Dl nD
  have okp : Ok X.K X.mg (A1 ++ [Dl]) (cs1 ++ [.lst []]) (upd H1 Dl (.lst [])) := ok1.push nD ⟨[], upd_same, .nil⟩
  have sp : Stp A1 H1 (A1 ++ [Dl]) (upd H1 Dl (.lst [])) := Stp.push' ok1 nD
  have hD0 : (A1 ++ [Dl])[cs1.length]? = some Dl := ok1.len ▸ get_push
  refine ⟨fun i m Hc => ∃ A' cs', Stp A H A' Hc ∧ Stp A1 H1 A' Hc ∧ Ok X.K X.mg A' cs' Hc ∧ A'[cs1.length]? = some Dl ∧ Post X.K X.mg A H Q E (lcO src f mt mi1 f1 mt1 me vs1 (wipeR ρ vs) cs1.length m i cs'),
    ⟨_, _, _, s1.trans sp, sp, okp, hD0, q⟩, ?_⟩
  rintro i m Hc ⟨A', cs', s, s', ok', hD, hq⟩
  cases m with
  | zero => exact (show False from hq).elim
  | succ m =>
    obtain ⟨g1, g2⟩ := fd A' cs' Hc s' ok' i
    unfold lcO at hq
    split at hq
    · exact (show False from hq).elim
    · rename_i en
      exact .inl ⟨g1 en, hq _ A' Hc s ok' (.hdl hD)⟩
    · rename_i d en
      obtain ⟨go, yl⟩ := g2 d en
      refine .inr ⟨go, fun Hn => ∃ A2 cs2, Stp A H A2 Hn ∧ Stp A1 H1 A2 Hn ∧ Ok X.K X.mg A2 cs2 Hn ∧ A2[cs1.length]? = some Dl ∧ Post X.K X.mg A H Q E (lcO src f mt mi1 f1 mt1 me vs1 (wipeR ρ vs) cs1.length m (i + 1) cs2), fun Hn hN => ⟨m, Nat.lt_succ_self m, hN⟩, fun x H2 y => ?_⟩
      obtain ⟨s2, ok2, r2⟩ := yl x H2 y
      split at hq
      · rename_i ρ1 e1
        have st := s.trans s2
        have st' := s'.trans s2
        refine ⟨A', cs', wipeR ρ vs, d, ρ1, ok2, (rk.step st).wipe vs, r2, e1, fun σ3 rk3 l3 f3 => ⟨wipe_ext l3 fun i hi => f3 i fun z => hi (hL i z), ?_⟩⟩
        refine ⟨A', ρ1, cs', ok2, rk3, quiet_post (PostX.step st (fun k cs2 q2 A3 H3 s3 ok3 => ?_) (PostX.bind hq))⟩
        have hD3 := Stp.pre s3 _ _ hD
        have st3 := st.trans s3
        have st3' := st'.trans s3
        cases k with
        | false =>
          rw [if_neg Bool.false_ne_true] at q2
          show ite (false = true) _ _
          rw [if_neg Bool.false_ne_true]
          exact ⟨A3, cs2, st3, st3', ok3, hD3, q2⟩
        | true =>
          rw [if_pos rfl] at q2
          show ite (true = true) _ _
          rw [if_pos rfl]
          refine ⟨A3, ρ1, cs2, ok3, rk3.step s3, quiet_post (PostX.step st3 (fun src1 cs3 q3 J1 A4 H4 s4 ok4 fd1 => ?_) (PostX.bind q2))⟩
          have hD4 := Stp.pre s4 _ _ hD3
          have st4 := st3.trans s4
          have st4' := st3'.trans s4
          have rk4 := rk3.step (s3.trans s4)
          refine ⟨fun j k Hj => ∃ A' cs', Stp A H A' Hj ∧ Stp A1 H1 A' Hj ∧ Stp A4 H4 A' Hj ∧ Ok X.K X.mg A' cs' Hj ∧ A'[cs1.length]? = some Dl ∧ Post X.K X.mg A H Q E ((lcI src1 f1 mt1 me (wipeR ρ1 vs1) cs1.length k j cs').bind fun _ cs3 => lcO src f mt mi1 f1 mt1 me vs1 (wipeR ρ vs) cs1.length m (i + 1) cs3),
            ⟨_, A4, cs3, st4, st4', Stp.rfl' ok4, ok4, hD4, q3⟩, ?_⟩
          rintro j k Hj ⟨A5, cs5, t1, t2, t3, ok5, hD5, hr⟩
          cases k with
          | zero => exact (show False from hr).elim
          | succ k =>
            obtain ⟨k1, k2⟩ := fd1 A5 cs5 Hj t3 ok5 j
            unfold lcI at hr
            split at hr
            · exact (show False from hr).elim
            · rename_i en1
              exact .inl ⟨k1 en1, A5, cs5, t1, t2, ok5, hD5, hr⟩
            · rename_i d1 en1
              obtain ⟨go1, yl1⟩ := k2 d1 en1
              refine .inr ⟨go1, fun Hn => ∃ A2 cs2, Stp A H A2 Hn ∧ Stp A1 H1 A2 Hn ∧ Stp A4 H4 A2 Hn ∧ Ok X.K X.mg A2 cs2 Hn ∧ A2[cs1.length]? = some Dl ∧ Post X.K X.mg A H Q E ((lcI src1 f1 mt1 me (wipeR ρ1 vs1) cs1.length k (j + 1) cs2).bind fun _ cs3 => lcO src f mt mi1 f1 mt1 me vs1 (wipeR ρ vs) cs1.length m (i + 1) cs3), fun Hn hN => ⟨k, Nat.lt_succ_self k, hN⟩, fun x6 H6 y6 => ?_⟩
              obtain ⟨s6, ok6, r6⟩ := yl1 x6 H6 y6
              split at hr
              · rename_i ρ2 e2
                refine ⟨A5, cs5, wipeR ρ1 vs1, d1, ρ2, ok6, (rk4.step (t3.trans s6)).wipe vs1, r6, e2, fun σ7 rk7 l7 f7 => ⟨wipe_ext l7 fun i hi => f7 i fun z => hi (hL1 i z), ?_⟩⟩
                have u1 := t1.trans s6
                have u2 := t2.trans s6
                have u3 := t3.trans s6
                refine ⟨A5, ρ2, cs5, ok6, rk7, ?_⟩
                cases qt : mt1 ρ2 cs5 with
                | bad => rw [qt] at hr; exact (show False from hr).elim
                | exc x c => rw [qt] at hr; exact (show False from hr).elim
                | ok kk cs8 =>
                  rw [qt] at hr
                  intro A8 H8 s8 ok8
                  have hD8 := Stp.pre s8 _ _ hD5
                  cases kk with
                  | false => exact ⟨A8, cs8, u1.trans s8, u2.trans s8, u3.trans s8, ok8, hD8, hr⟩
                  | true =>
                    refine ⟨A8, ρ2, cs8, ok8, rk7.step s8, ?_⟩
                    cases qe : me ρ2 cs8 with
                    | bad =>
                      simp only [quiet, Res.bind, if_true, qe] at hr
                      exact (show False from hr).elim
                    | exc x c =>
                      simp only [quiet, Res.bind, if_true, qe] at hr
                      exact (show False from hr).elim
                    | ok d9 cs9 =>
                      intro v A9 H9 s9 ok9 r9
                      have hD9 := Stp.pre s9 _ _ hD8
                      replace hr : Post X.K X.mg A H Q E ((match pushAt cs1.length d9 cs9 with
                          | some cs3 => lcI src1 f1 mt1 me (wipeR ρ1 vs1) cs1.length k (j + 1) cs3
                          | none => .bad).bind fun _ cs3 => lcO src f mt mi1 f1 mt1 me vs1 (wipeR ρ vs) cs1.length m (i + 1) cs3) := by
                        simp only [quiet, Res.bind, if_true, qe] at hr
                        exact hr
                      split at hr
                      · rename_i cs10 ep
                        obtain ⟨acc, h1, h2, s10, ok10⟩ := push_ok ok9 hD9 r9 ep
                        exact ⟨acc, h1, h2, A9, cs10, ((u1.trans s8).trans s9).trans s10, ((u2.trans s8).trans s9).trans s10, ((u3.trans s8).trans s9).trans s10, ok10, hD9, hr⟩
                      · exact (show False from hr).elim
              · exact (show False from hr).elim
      · exact (show False from hq).elim
theorem em_lc2 {tg1 iter1 : Expr} {ifs1 : List Expr} {mi1 : Rho → M Src} {f1 : Val → Rho → Option Rho} {mt1 : Rho → M Bool} {L1 : List Nat} {scope : Scope} {own : List (Str × Nat)} {vs1 : List Nat} {me : Rho → M Val} (hc : X.calm = true) (hN : X.N.Nodup) (hi : IM X E tg iter mi) (okb : BlkOk X.N X.env.scope scope own) (hv : ∀ i ∈ vs1, i ∈ own.map (·.2)) (hL : ∀ i ∈ L, i ∈ own.map (·.2)) (hL1 : ∀ i ∈ L1, i ∈ vs1)
    (hg : ∀ (s : Shared) (H : Hp) (C : Addr) (cl : List (Str × Addr)) (fp : List Addr), GM (X.blk s H scope (compEnvC scope cl C X.env) fp) tg L f)
    (ht : ∀ (s : Shared) (H : Hp) (C : Addr) (cl : List (Str × Addr)) (fp : List Addr), QM (X.blk s H scope (compEnvC scope cl C X.env) fp) E0' ifs mt)
    (hi1 : ∀ (s : Shared) (H : Hp) (C : Addr) (cl : List (Str × Addr)) (fp : List Addr), IM (X.blk s H scope (compEnvC scope cl C X.env) fp) E0' tg1 iter1 mi1)
    (hg1 : ∀ (s : Shared) (H : Hp) (C : Addr) (cl : List (Str × Addr)) (fp : List Addr), GM (X.blk s H scope (compEnvC scope cl C X.env) fp) tg1 L1 f1)
    (ht1 : ∀ (s : Shared) (H : Hp) (C : Addr) (cl : List (Str × Addr)) (fp : List Addr), QM (X.blk s H scope (compEnvC scope cl C X.env) fp) E0' ifs1 mt1)
    (he : ∀ (s : Shared) (H : Hp) (C : Addr) (cl : List (Str × Addr)) (fp : List Addr), EM (X.blk s H scope (compEnvC scope cl C X.env) fp) E0' elt me) (hs : ∀ x, foldedSetIterable iter X.env x = pure x := by intro _; rfl) (hs1 : ∀ env x, foldedSetIterable iter1 env x = pure x := by intro _ _; rfl) :
    EM X E (.ListComp elt [⟨tg, iter, ifs, 0⟩, ⟨tg1, iter1, ifs1, 0⟩] scope pos) (mLc2 mi f mt mi1 f1 mt1 me (own.map (·.2)) vs1) := by
  obtain ⟨wi, pi, ki⟩ := hi
  exact ⟨_, pe_lc2 (g := tGm X.K X.mg L f) (tt := tQm X.K X.mg E0' mt) (wi1 := tIm X.K X.mg E0' mi1) (g1 := tGm X.K X.mg L1 f1) (tt1 := tQm X.K X.mg E0' mt1) (te := tEm X.K X.mg E0' me) hc hN pi okb hv (fun s H C cl fp => (hg s H C cl fp).pg) (fun s H C cl fp => (ht s H C cl fp).pe) (fun s H C cl fp => (hi1 s H C cl fp).pi) (fun s H C cl fp => (hg1 s H C cl fp).pg) (fun s H C cl fp => (ht1 s H C cl fp).pe) (fun s H C cl fp => (he s H C cl fp).pe) hs hs1,
    fun A ρ cs σ H ok rk Q h => lc2_read (tg1 := tg1) (iter1 := iter1) (ifs1 := ifs1) ki hL hL1 ok rk h⟩
end
end Py
set_option maxHeartbeats 2000000
/-! several names at once; dict comprehensions -/
namespace Py
open PySem PySem.Spec PyProof.Rows L2
open Mir (SL SL_eq wipe_ext)
variable [Tb]

section
variable {X : Cx} {E : XK} {pos : Pos} {a b c e elt tg iter : Expr} {es tgs : List Expr} {ifs : List Expr} {ma mb : Rho → M Val} {ms : Rho → M (List Val)} {mt : Rho → M Bool} {L is : List Nat} {f : Val → Rho → Option Rho} {mi : Rho → M Src}
def sAsg (ma : Rho → M Val) (f : Val → Rho → Option Rho) : Rho → M Fl := fun ρ cs => (ma ρ cs).bind fun x cs1 => match f x ρ with
  | some ρ1 => .ok (.nx ρ1) cs1
  | none => .bad
theorem sm_asg (he : EM X E e ma) (hg : GM X tg L f) (hs : swapsWithSole [tg] e pos.line X.env = pure false := by rfl) (hw : swappedStores [tg] e X.env = pure none := by rfl) (h1 : (assignEach [tg] X.env).map (·.2) = [assign tg X.env] := by rfl) : SM X E (.Assign [tg] e pos) (sAsg ma f) := by
  obtain ⟨t, p, k⟩ := he
  obtain ⟨g, pg, kg⟩ := hg
  refine sm_of (ps_asg p pg hs hw h1) fun A ρ cs σ H ok rk De h => ?_
  refine k A ρ cs σ H ok rk _ (PostX.step (Stp.rfl' ok) (fun d cs1 q x A1 H1 s1 ok1 r1 => ?_) (PostX.bind h))
  split at q
  · rename_i ρ1 e1
    exact kg A1 cs1 ρ σ H1 x _ ρ1 ok1 (rk.step s1) r1 e1 _ fun σ' rk' _ _ => q σ' A1 H1 s1 ok1 rk'
  · exact q.elim
def setAllR : List Nat → List Val → Rho → Option Rho
  | [], [], ρ => some ρ
  | i :: is, s :: ss, ρ => setAllR is ss (ρ.set i (some s))
  | _, _, _ => none
def sParN (is : List Nat) (ms : Rho → M (List Val)) : Rho → M Fl := fun ρ cs => (ms ρ cs).bind fun xs cs1 => match setAllR is xs ρ with
  | some ρ1 => .ok (.nx ρ1) cs1
  | none => .bad
structure NsM (X : Cx) (tgs : List Expr) (is : List Nat) : Prop where
  ex : ∃ g, PGs X tgs g ∧ ∀ (K : PySem.W.Frag) (mg : Str → Option Value) (A : List Addr) (ρ ρ' : Rho) (σ : L2.St) (H : Hp) (vs : List V) (ds : List Val), RhoOk K mg A ρ σ H → RlA K mg A (hid A H) vs ds → setAllR is ds ρ = some ρ' → ∀ Q, (∀ σ', RhoOk K mg A ρ' σ' H → Q σ' H) → g vs σ H Q
theorem ns_nil : NsM X [] [] := ⟨_, pgs_nil, fun K mg A ρ ρ' σ H vs sls rk rs e Q q => by
  cases rs with
  | nil =>
    cases e
    exact ⟨rfl, q σ rk⟩
  | cons _ _ => cases e⟩
theorem ns_cons (i : Nat) {x : Str} (hN : X.N.Nodup) (h2 : NsM X es is) (hi : X.N[i]? = some x := by rfl) (hx : Loc X.env.scope x := by first | exact Or.inl rfl | exact Or.inr rfl) (hf : X.fn x = true ∨ X.env.scope.names.lookup x = some .local := by first | exact .inl rfl | exact .inr rfl | assumption)
    (hs : (assignEach (.Name x pos :: es) X.env).map (·.2) = assign (.Name x pos) X.env :: (assignEach es X.env).map (·.2) := by rfl) : NsM X (.Name x pos :: es) (i :: is) := by
  obtain ⟨u, p2, k2⟩ := h2
  refine ⟨_, pgs_cons (pg_name hN hi hx hf) p2 hs, fun K mg A ρ ρ' σ H vs sls rk rs e Q q => ?_⟩
  cases rs with
  | nil => cases e
  | cons r rr => exact ⟨_, _, rfl, k2 K mg A _ ρ' _ H _ _ (rk.set r) rr e Q q⟩
theorem sm_parN {kt k2 n : Nat} {pt pt2 : Pos} (hc : X.calm = true) (ha : AM X E es ms) (hg : NsM X tgs is)
    (hn : (assignEach tgs X.env).length = n := by rfl) (hst : (assignEach tgs X.env).findIdx? (·.1) = none := by rfl) (hl : is.length = n := by rfl) (hsm : is.length ≤ 100 := by exact Nat.le_of_ble_eq_true rfl)
    (hs : swapsWithSole [.Tuple tgs kt pt] (.Tuple es k2 pt2) pos.line X.env = pure false := by rfl) (hw : swappedStores [.Tuple tgs kt pt] (.Tuple es k2 pt2) X.env = pure none := by rfl)
    (h1 : (assignEach [.Tuple tgs kt pt] X.env).map (·.2) = [assign (.Tuple tgs kt pt) X.env] := by rfl) :
    SM X E (.Assign [.Tuple tgs kt pt] (.Tuple es k2 pt2) pos) (sParN is ms) := by
  obtain ⟨ta, pa, ka⟩ := ha
  obtain ⟨g, pg, kg⟩ := hg
  refine sm_of (ps_asg (pe_tup pa) (pg_tup hc pg hn hst) hs hw h1) fun A ρ cs σ H ok rk De h => ?_
  refine ka A ρ cs σ H ok rk _ (PostX.step (Stp.rfl' ok) (fun sxs cs1 q vs A1 H1 s1 ok1 r1 => ?_) (PostX.bind h))
  have hlen : sxs.length = is.length ∨ setAllR is sxs ρ = none := by
    clear q r1 ok1 s1
    have go : ∀ (is : List Nat) (sxs : List Val) (ρ : Rho), sxs.length = is.length ∨ setAllR is sxs ρ = none := by
      intro is
      induction is with
      | nil => intro sxs ρ; cases sxs with
        | nil => exact .inl rfl
        | cons _ _ => exact .inr rfl
      | cons i is ih => intro sxs ρ; cases sxs with
        | nil => exact .inr rfl
        | cons s ss =>
          rcases ih ss (ρ.set i (some s)) with h | h
          · exact .inl (by simp [h])
          · exact .inr h
    exact go is sxs ρ
  rcases hlen with hlen | hno
  · split at q
    · rename_i ρ1 e1
      have hv : vs.length = n := by rw [r1.length, hlen, hl]
      refine ⟨by rw [sizeLine_eq, hv]; omega, fun p hp => ?_⟩
      have s3 := Stp.new' (o := .tup vs) ok1 hp
      refine ⟨p, vs, rfl, .inl (.inl upd_same), hv, ?_⟩
      exact kg X.K X.mg A1 ρ ρ1 σ _ vs sxs (rk.step (s1.trans s3)) (r1.step s3) e1 _ fun σ' rk' => q σ' A1 _ (s1.trans s3) (ok1.new hp) rk'
    · exact (show False from q).elim
  · rw [hno] at q
    exact (show False from q).elim
theorem sm_par (i j : Nat) {x y : Str} {px py pt : Pos} {kt k2 : Nat} {pt2 : Pos} (hc : X.calm = true) (hN : X.N.Nodup) (ha : AM X E [a, b] ms) (hw : swappedStores [.Tuple [.Name x px, .Name y py] kt pt] (.Tuple [a, b] k2 pt2) X.env = pure (some [x, y]))
    (hi : X.N[i]? = some x := by rfl) (hj : X.N[j]? = some y := by rfl) (hij : i ≠ j := by decide) (hx : X.env.scope.names.lookup x = some .local := by rfl) (hy : X.env.scope.names.lookup y = some .local := by rfl)
    (hs : swapsWithSole [.Tuple [.Name x px, .Name y py] kt pt] (.Tuple [a, b] k2 pt2) pos.line X.env = pure false := by rfl) :
    SM X E (.Assign [.Tuple [.Name x px, .Name y py] kt pt] (.Tuple [a, b] k2 pt2) pos) (sParN [i, j] ms) := by
  obtain ⟨ta, pa, ka⟩ := ha
  refine sm_of (ps_par hc hN hi hj hij hx hy pa hw hs) fun A ρ cs σ H ok rk De h => ?_
  refine ka A ρ cs σ H ok rk _ (PostX.step (Stp.rfl' ok) (fun sxs cs1 q vs A1 H1 s1 ok1 r1 => ?_) (PostX.bind h))
  split at q
  · rename_i ρ1 e1
    cases r1 with
    | nil => cases e1
    | cons ra t1 =>
      cases t1 with
      | nil => cases e1
      | cons rb t2 =>
        cases t2 with
        | nil =>
          cases e1
          exact ⟨_, _, rfl, q _ A1 H1 s1 ok1 (((rk.step s1).set ra).set rb)⟩
        | cons _ _ => cases e1
  · exact (show False from q).elim
theorem sm_par3 (i j l : Nat) {x y z : Str} {px py pz pt : Pos} {kt k2 : Nat} {pt2 : Pos} (hc : X.calm = true) (hN : X.N.Nodup) (ha : AM X E [a, b, c] ms)
    (hw : swappedStores [.Tuple [.Name x px, .Name y py, .Name z pz] kt pt] (.Tuple [a, b, c] k2 pt2) X.env = pure (some [x, y, z]))
    (hi : X.N[i]? = some x := by rfl) (hj : X.N[j]? = some y := by rfl) (hl : X.N[l]? = some z := by rfl) (hij : i ≠ j := by decide) (hil : i ≠ l := by decide) (hjl : j ≠ l := by decide)
    (hx : X.env.scope.names.lookup x = some .local := by rfl) (hy : X.env.scope.names.lookup y = some .local := by rfl) (hz : X.env.scope.names.lookup z = some .local := by rfl)
    (hs : swapsWithSole [.Tuple [.Name x px, .Name y py, .Name z pz] kt pt] (.Tuple [a, b, c] k2 pt2) pos.line X.env = pure false := by rfl) :
    SM X E (.Assign [.Tuple [.Name x px, .Name y py, .Name z pz] kt pt] (.Tuple [a, b, c] k2 pt2) pos) (sParN [i, j, l] ms) := by
  obtain ⟨ta, pa, ka⟩ := ha
  refine sm_of (ps_par3 hc hN hi hj hl hij hil hjl hx hy hz pa hw hs) fun A ρ cs σ H ok rk De h => ?_
  refine ka A ρ cs σ H ok rk _ (PostX.step (Stp.rfl' ok) (fun sxs cs1 q vs A1 H1 s1 ok1 r1 => ?_) (PostX.bind h))
  split at q
  · rename_i ρ1 e1
    cases r1 with
    | nil => cases e1
    | cons ra t1 =>
      cases t1 with
      | nil => cases e1
      | cons rb t2 =>
        cases t2 with
        | nil => cases e1
        | cons rc t3 =>
          cases t3 with
          | nil =>
            cases e1
            exact ⟨_, _, _, rfl, q _ A1 H1 s1 ok1 ((((rk.step s1).set ra).set rb).set rc)⟩
          | cons _ _ => cases e1
  · exact (show False from q).elim

/-! ### dicts -/
def putV {κ : Type} [DecidableEq κ] (kvs : List (κ × Val)) (k : κ) (v : Val) : List (κ × Val) :=
  if (kvs.any fun kv => decide (kv.1 = k)) = true then kvs.map (fun kv => if kv.1 = k then (kv.1, v) else kv) else kvs ++ [(k, v)]
section
variable {K : PySem.W.Frag} {mg : Str → Option Value} {A : List Addr} {H : Hp}
theorem RlD.anyK {κ : Type} [DecidableEq κ] (k : κ) : ∀ {kvs : List (κ × V)} {acc : List (κ × Val)}, RlD K mg A H kvs acc → (kvs.any fun kv => decide (kv.1 = k)) = acc.any fun kv => decide (kv.1 = k)
  | _, _, .nil => rfl
  | _, _, .cons _ t => by
    rw [List.any_cons, List.any_cons, RlD.anyK k t]
theorem RlD.mapK {κ : Type} [DecidableEq κ] (k : κ) {z : V} {d : Val} (hz : Rl K mg A H z d) : ∀ {kvs : List (κ × V)} {acc : List (κ × Val)}, RlD K mg A H kvs acc → RlD K mg A H (kvs.map (fun kv => if kv.1 = k then (kv.1, z) else kv)) (acc.map (fun kv => if kv.1 = k then (kv.1, d) else kv))
  | _, _, .nil => .nil
  | _, _, .cons (k := k') h t => by
    rw [List.map_cons, List.map_cons]
    by_cases e : k' = k
    · rw [if_pos e, if_pos e]
      exact .cons hz (RlD.mapK k hz t)
    · rw [if_neg e, if_neg e]
      exact .cons h (RlD.mapK k hz t)
theorem RlD.append {κ : Type} : ∀ {kvs : List (κ × V)} {acc : List (κ × Val)} {k : κ} {z : V} {d : Val}, RlD K mg A H kvs acc → Rl K mg A H z d → RlD K mg A H (kvs ++ [(k, z)]) (acc ++ [(k, d)])
  | _, _, _, _, _, .nil, hz => .cons hz .nil
  | _, _, _, _, _, .cons h t, hz => .cons h (RlD.append t hz)
theorem RlD.put {kvs : List (Key × V)} {acc : List (Key × Val)} (h : RlD K mg A H kvs acc) {z : V} {d : Val} (hz : Rl K mg A H z d) (k : Key) : RlD K mg A H (putK kvs k z) (putV acc k d) := by
  unfold putK putV
  rw [h.anyK k]
  split
  · exact h.mapK k hz
  · exact h.append hz
theorem Ok.putD {cs : Mem} {k : Nat} {a : Addr} {ds : List (Key × Val)} {vs : List (Key × V)} (ok : Ok K mg A cs H) (ha : A[k]? = some a) (hs : RlD K mg A (hid A H) vs ds) :
    Stp A H A (upd H a (.dK vs)) ∧ Ok K mg A (cs.set k (.dct ds)) (upd H a (.dK vs)) := by
  have st := Stp.wr' (o := .dK vs) ok (List.mem_of_getElem? ha)
  exact ⟨st, ok.wr ha (fun ps z => by cases z) ⟨vs, upd_same, hs.mono (Stp.pre st) (Stp.sm st)⟩⟩
end
def keyV : Val → Option Key
  | .int i => some (.inl i)
  | .str x => some (.inr x)
  | _ => none
theorem rl_key {K : PySem.W.Frag} {mg : Str → Option Value} {A : List Addr} {H : Hp} {v : V} {d : Val} {k : Key} (r : Rl K mg A H v d) (e : keyV d = some k) : v = kV k := by
  cases r with
  | int i =>
    cases e
    rfl
  | str x =>
    cases e
    rfl
  | _ => cases e
/-! comprehensions -/
def dputAt (D : Nat) (y z : Val) (cs : Mem) : Option Mem := match cs[D]?, keyV y with
  | some (.dct ds), some k => if ds.length < SL then some (cs.set D (.dct (putV ds k z))) else none
  | _, _ => none
theorem dput_ok {K : PySem.W.Frag} {mg : Str → Option Value} {A : List Addr} {cs cs' : Mem} {H : Hp} {D : Nat} {Dl : Addr} {y z : V} {dy dz : Val} (ok : Ok K mg A cs H) (hD : A[D]? = some Dl) (ry : RlV K mg A H y dy) (rz : RlV K mg A H z dz) (e : dputAt D dy dz cs = some cs') :
    ∃ kvs k, y = kV k ∧ H Dl = some (.dK kvs) ∧ kvs.length < sizeLine ∧ Stp A H A (upd H Dl (.dK (putK kvs k z))) ∧ Ok K mg A cs' (upd H Dl (.dK (putK kvs k z))) := by
  unfold dputAt at e
  split at e
  · rename_i ds k ed ek
    split at e
    · rename_i hz
      cases e
      obtain ⟨vs, hl, hs⟩ := ok.at D Dl _ hD ed
      obtain ⟨s4, ok4⟩ := ok.putD hD (hs.put rz k)
      exact ⟨vs, k, rl_key ry ek, hl, by rw [hs.length]; exact SL_eq ▸ hz, s4, ok4⟩
    · cases e
  · cases e
def dcN (src : Src) (f : Val → Rho → Option Rho) (mt : Rho → M Bool) (mk mv : Rho → M Val) (ρ : Rho) (D : Nat) : Nat → Nat → M Val
  | 0, _, _ => .bad
  | n + 1, i, cs => match src i cs with
    | none => .bad
    | some none => .ok (.h D) cs
    | some (some d) => match f d ρ with
      | some ρ1 => (quiet (mt ρ1 cs)).bind fun k cs1 => if k = true then (quiet (mk ρ1 cs1)).bind fun y cs2 => (quiet (mv ρ1 cs2)).bind fun z cs3 => match dputAt D y z cs3 with
          | some cs4 => dcN src f mt mk mv ρ D n (i + 1) cs4
          | none => .bad
        else dcN src f mt mk mv ρ D n (i + 1) cs1
      | none => .bad
def mDc (mi : Rho → M Src) (f : Val → Rho → Option Rho) (mt : Rho → M Bool) (mk mv : Rho → M Val) (vs : List Nat) : Rho → M Val := fun ρ cs => (mi ρ cs).bind fun src cs1 => dcN src f mt mk mv (wipeR ρ vs) cs1.length SL 0 (cs1 ++ [.dct []])
theorem dc_read {mk mv : Rho → M Val} {wi : TI} {vs : List Nat} (ki : ∀ A ρ cs σ H, Ok X.K X.mg A cs H → RhoOk X.K X.mg A ρ σ H → ∀ S : It → Hp → Prop, PostX X.K X.mg A H E (fun src cs1 => ∀ J A' H', Stp A H A' H' → Ok X.K X.mg A' cs1 H' → Feeds X.K X.mg A' H' J src → S J H') (mi ρ cs) → wi σ H S)
    (hL : ∀ i ∈ L, i ∈ vs) {A : List Addr} {ρ : Rho} {cs : Mem} {σ : L2.St} {H : Hp} (ok : Ok X.K X.mg A cs H) (rk : RhoOk X.K X.mg A ρ σ H) {Q : VK} (h : Post X.K X.mg A H Q E (mDc mi f mt mk mv vs ρ cs)) :
    tDc wi (tGm X.K X.mg L f) (tQm X.K X.mg E0' mt) (tEm X.K X.mg E0' mk) (tEm X.K X.mg E0' mv) vs σ H Q := by
  refine ki A ρ cs σ H ok rk _ (PostX.step (Stp.rfl' ok) (fun src cs1 q J A1 H1 s1 ok1 fd => ?_) (PostX.bind h))
  intro Dl nD
  have okp : Ok X.K X.mg (A1 ++ [Dl]) (cs1 ++ [.dct []]) (upd H1 Dl (.dK [])) := ok1.push nD ⟨[], upd_same, .nil⟩
  have sp : Stp A1 H1 (A1 ++ [Dl]) (upd H1 Dl (.dK [])) := Stp.push' ok1 nD
  have hD0 : (A1 ++ [Dl])[cs1.length]? = some Dl := ok1.len ▸ get_push
  refine ⟨fun i m Hc => ∃ A' cs', Stp A H A' Hc ∧ Stp A1 H1 A' Hc ∧ Ok X.K X.mg A' cs' Hc ∧ A'[cs1.length]? = some Dl ∧ Post X.K X.mg A H Q E (dcN src f mt mk mv (wipeR ρ vs) cs1.length m i cs'),
    ⟨_, _, _, s1.trans sp, sp, okp, hD0, q⟩, ?_⟩
  rintro i m Hc ⟨A', cs', s, s', ok', hD, hq⟩
  cases m with
  | zero => exact (show False from hq).elim
  | succ m =>
    obtain ⟨f1, f2⟩ := fd A' cs' Hc s' ok' i
    unfold dcN at hq
    split at hq
    · exact (show False from hq).elim
    · rename_i en
      exact .inl ⟨f1 en, hq _ A' Hc s ok' (.hdl hD)⟩
    · rename_i d en
      obtain ⟨go, yl⟩ := f2 d en
      refine .inr ⟨go, fun Hn => ∃ A2 cs2, Stp A H A2 Hn ∧ Stp A1 H1 A2 Hn ∧ Ok X.K X.mg A2 cs2 Hn ∧ A2[cs1.length]? = some Dl ∧ Post X.K X.mg A H Q E (dcN src f mt mk mv (wipeR ρ vs) cs1.length m (i + 1) cs2), fun Hn hN => ⟨m, Nat.lt_succ_self m, hN⟩, fun x H2 y => ?_⟩
      obtain ⟨s2, ok2, r2⟩ := yl x H2 y
      split at hq
      · rename_i ρ1 e1
        have st := s.trans s2
        have st' := s'.trans s2
        refine ⟨A', cs', wipeR ρ vs, d, ρ1, ok2, (rk.step st).wipe vs, r2, e1, fun σ3 rk3 l3 f3 => ⟨wipe_ext l3 fun i hi => f3 i fun z => hi (hL i z), ?_⟩⟩
        refine ⟨A', ρ1, cs', ok2, rk3, quiet_post (PostX.step st (fun k cs2 q2 A3 H3 s3 ok3 => ?_) (PostX.bind hq))⟩
        have hD3 := Stp.pre s3 _ _ hD
        cases k with
        | false =>
          rw [if_neg Bool.false_ne_true] at q2
          show ite (false = true) _ _
          rw [if_neg Bool.false_ne_true]
          exact ⟨A3, cs2, st.trans s3, st'.trans s3, ok3, hD3, q2⟩
        | true =>
          rw [if_pos rfl] at q2
          show ite (true = true) _ _
          rw [if_pos rfl]
          refine ⟨A3, ρ1, cs2, ok3, rk3.step s3, quiet_post (PostX.step (st.trans s3) (fun dy cs3 q3 vy A4 H4 s4 ok4 r4 => ?_) (PostX.bind q2))⟩
          refine ⟨A4, ρ1, cs3, ok4, rk3.step (s3.trans s4), quiet_post (PostX.step ((st.trans s3).trans s4) (fun dz cs4 q4 vz A5 H5 s5 ok5 r5 => ?_) (PostX.bind q3))⟩
          have hD5 := Stp.pre (s4.trans s5) _ _ hD3
          split at q4
          · rename_i cs6 ep
            obtain ⟨kvs, kk, h0, h1, h2, s6, ok6⟩ := dput_ok ok5 hD5 (Rl.step s5 r4) r5 ep
            exact ⟨kvs, kk, h0, h1, h2, A5, cs6, (((st.trans s3).trans s4).trans s5).trans s6, (((st'.trans s3).trans s4).trans s5).trans s6, ok6, hD5, q4⟩
          · exact (show False from q4).elim
      · exact (show False from hq).elim
theorem em_dc {kx vx : Expr} {mk mv : Rho → M Val} {scope : Scope} {own : List (Str × Nat)} (hc : X.calm = true) (hN : X.N.Nodup) (hi : IM X E tg iter mi) (okb : BlkOk X.N X.env.scope scope own) (hL : ∀ i ∈ L, i ∈ own.map (·.2))
    (hg : ∀ (s : Shared) (H : Hp) (C : Addr) (cl : List (Str × Addr)) (fp : List Addr), GM (X.blk s H scope (compEnvC scope cl C X.env) fp) tg L f)
    (ht : ∀ (s : Shared) (H : Hp) (C : Addr) (cl : List (Str × Addr)) (fp : List Addr), QM (X.blk s H scope (compEnvC scope cl C X.env) fp) E0' ifs mt)
    (hk : ∀ (s : Shared) (H : Hp) (C : Addr) (cl : List (Str × Addr)) (fp : List Addr), EM (X.blk s H scope (compEnvC scope cl C X.env) fp) E0' kx mk)
    (he : ∀ (s : Shared) (H : Hp) (C : Addr) (cl : List (Str × Addr)) (fp : List Addr), EM (X.blk s H scope (compEnvC scope cl C X.env) fp) E0' vx mv) (hs : ∀ x, foldedSetIterable iter X.env x = pure x := by intro _; rfl) :
    EM X E (.DictComp kx vx [⟨tg, iter, ifs, 0⟩] scope pos) (mDc mi f mt mk mv (own.map (·.2))) := by
  obtain ⟨wi, pi, ki⟩ := hi
  exact ⟨_, pe_dc (g := tGm X.K X.mg L f) (tt := tQm X.K X.mg E0' mt) (tk := tEm X.K X.mg E0' mk) (tv := tEm X.K X.mg E0' mv) hc hN pi okb (fun s H C cl fp => (hg s H C cl fp).pg) (fun s H C cl fp => (ht s H C cl fp).pe) (fun s H C cl fp => (hk s H C cl fp).pe) (fun s H C cl fp => (he s H C cl fp).pe) hs, fun A ρ cs σ H ok rk Q h => dc_read ki hL ok rk h⟩
end
end Py
set_option maxHeartbeats 2000000
/-! exceptions' classes whose __new__ is that of a class further down (KeyError's is LookupError's) -/
namespace Py
open PySem PySem.Spec PySem.Calls

/-- what makes the instances of a class over bmB -/
structure MkF (bmB : List Value) (newId : String) : Prop where
  ex : ∃ B initId bmF, ExcBaseFacts B newId initId bmF ∧ bmB.contains (.type B) = true ∧ bmB.contains (.type "AttributeError") = false ∧ bmB.contains (.type "NameError") = false
theorem MkF.of {B newId initId : String} {bm : List Value} (F : ExcBaseFacts B newId initId bm) : MkF bm newId := ⟨B, initId, bm, F, F.hasB, F.noAttr, F.noName⟩
section
variable {prog : Program} {w : World} {M : Model} {A : Around} {E : Value → Shared → Prop} {R : Result → Shared → Prop} {h : Heap} {g : Array GenState} {d : Drawn} {t : Nat} {os : OsState}
variable {nm q : Str} {C N : Addr} {bs bm bmF : List Value} {hdct : Bool} {sn : List Str} {sub : List Value} {ab : Bool} {col : Option Bool} {dd : Option Addr} {k0 k1 k2 k3 k5 : Option Value} {B newId initId : String}
abbrev clsO (nm q : Str) (C N : Addr) (bs bm : List Value) (hdct : Bool) (sn : List Str) (sub : List Value) (ab : Bool) (col : Option Bool) (dd : Option Addr) (k0 k1 k2 k3 k5 : Option Value) (newId : String) : Obj := excClassObj nm q C N bs bm hdct sn sub ab col dd k0 k1 k2 k3 k5 newId
/-- the arguments of __new__ are looked at -/
theorem look_new (F : ExcBaseFacts B newId initId bmF) (in1 : bm.contains (.type B) = true) {rest : List Value} {Q : Unit → Shared → Prop} (hC : h.get? C = some (clsO nm q C N bs bm hdct sn sub ab col dd k0 k1 k2 k3 k5 newId)) (fine : Q () ⟨h, g, d, t, os⟩) :
    wpAny M A (checkBuiltinCall newId ⟨.ref C :: rest, []⟩) Q E ⟨h, g, d, t, os⟩ := by
  have c1 : (Value.ref C :: bm).contains (.type B) = true := by
    rw [List.contains_cons, in1]
    exact Bool.or_true _
  have st := F.noStar
  simp only [checkBuiltinCall, F.newRow, F.newSplit, F.newKind]
  repeat (first
    | refine wpAny_loadPart_at hC ?_
    | (refine wpAny_isSubtype_exc hC ?_; rw [c1])
    | refine wpAny_staticBase_exc hC ?_
    | refine wpAny_madeBy_exc hC ?_
    | simp only [Bool.false_eq_true, bne_self_eq_false, if_false]
    | wp_step)
  exact fine
/-- __new__ itself -/
theorem run_new (F : ExcBaseFacts B newId initId bmF) (in1 : bm.contains (.type B) = true) (in2 : bm.contains (.type "AttributeError") = false) (in3 : bm.contains (.type "NameError") = false) {rest : List Value} (hC : h.get? C = some (clsO nm q C N bs bm hdct sn sub ab col dd k0 k1 k2 k3 k5 newId))
    (fine : R (.ok (.ret (.ref (h.objs.size + 1)))) ⟨(h.push (PySem.W.kdv_tup rest)).push (PySem.HandSPX.excO C h.objs.size), g, d, t, os⟩) (small : rest.length ≤ sizeLine) :
    codeAny (model prog w) A (.builtin newId ⟨.ref C :: rest, []⟩) R ⟨h, g, d, t, os⟩ := by
  have ends := F.ends
  have c1 : (Value.ref C :: bm).contains (.type B) = true := by
    rw [List.contains_cons, in1]
    exact Bool.or_true _
  have c2 : (Value.ref C :: bm).contains (.type "AttributeError") = false := by
    rw [List.contains_cons, in2]
    rfl
  have c3 : (Value.ref C :: bm).contains (.type "NameError") = false := by
    rw [List.contains_cons, in3]
    rfl
  refine codeAny_builtinAt F.entry ?go
  unfold Builtin.«BaseException.__new__»
  refine wpAt_bind ?more
  show wpAt _ _ _ (stack >>= _) _ _ _
  refine wpAt_bind (wpAt_stack fun p below => wpAt_of_wpAny ?walk)
  wp_walk
  refine wpAt_of_wpAny ?last
  rw [F.owner]
  repeat (first
    | with_reducible refine wpAny_madeHere_exc F.canon hC ?_
    | with_reducible refine wpAny_loadPart_at hC ?_
    | (with_reducible refine wpAny_isSubtype_exc hC ?_; first | rw [c1] | rw [c2] | rw [c3])
    | wp_step)
  show R _ _
  rw [Heap.size_push]
  exact fine
/-- type.__call__: __new__, then the own __init__ -/
theorem run_made (F : ExcBaseFacts B newId initId bmF) (in1 : bm.contains (.type B) = true) (in2 : bm.contains (.type "AttributeError") = false) (in3 : bm.contains (.type "NameError") = false) {rest : List Value} {fI : Addr} {Q : Fin → Shared → Prop} (hC : h.get? C = some (clsO nm q C N bs bm hdct sn sub ab col dd k0 k1 k2 k3 k5 newId))
    (li : PySem.W.Looks (model prog w) h (typeLookup (.ref C) "__init__") (some (.ref fI))) (lb : ∀ self, PySem.W.Looks (model prog w) h (bindSpecial (.ref fI) self) (.ref fI, [self])) (small : rest.length ≤ sizeLine)
    (fine : codeAny (model prog w) A (.call (.ref fI) ⟨.ref (h.objs.size + 1) :: rest, []⟩) (fun r s' => match r with | .ok (.ret v) => v = .none ∧ Q (.done (.ret (.ref (h.objs.size + 1)))) s' | .ok _ => False | .error e => E e s')
      ⟨(h.push (PySem.W.kdv_tup rest)).push (PySem.HandSPX.excO C h.objs.size), g, d, t, os⟩) : wpAny (model prog w) A (Builtin.«type.__call__» ⟨.ref C :: rest, []⟩) Q E ⟨h, g, d, t, os⟩ := by
  repeat (first
    | with_reducible refine wpAny_loadPart_at hC ?_
    | with_reducible refine wpAny_madeBy_exc hC ?_
    | wp_step)
  refine codeAny_call_builtin_code (Code.quiet_builtin _ F.quiet) (look_new F in1 hC (run_new F in1 in2 in3 hC ?made small))
  show wpAny _ _ _ _ _ _
  have kp : ∀ b o, h.get? b = some o → ((h.push (PySem.W.kdv_tup rest)).push (PySem.HandSPX.excO C h.objs.size)).get? b = some o := fun b o e => Heap.get?_push_of_some _ (Heap.get?_push_of_some _ e)
  have hC1 := kp _ _ hC
  have there : ((h.push (PySem.W.kdv_tup rest)).push (PySem.HandSPX.excO C h.objs.size)).get? (h.objs.size + 1) = some (PySem.HandSPX.excO C h.objs.size) := by heap_get
  have own : (Value.ref C :: bm).contains (.ref C) = true := by simp
  have li1 := li.keeps kp
  have lb1 := (lb (.ref (h.objs.size + 1))).keeps kp
  unfold isInstance
  repeat (first
    | with_reducible refine wpAny_loadPart_at there ?_
    | (with_reducible refine wpAny_isSubtype_exc hC1 ?_; rw [own])
    | wp_step)
  show wpAny _ _ (typeLookup (.ref C) _) _ _ _
  refine li1.at (wpAny_holding (wpAny_bind (lb1.at (wpAny_bind (wpAny_call (codeAny_mono fine fun r s' z => ?ends))))))
  rcases r with e | (v | _ | _ | _) <;> first | exact z | exact z.elim | skip
  obtain ⟨rfl, z⟩ := z
  first
    | exact wpAny_pure (wpAny_pure z)
    | (wp_walk; exact z)
/-- the class called -/
theorem run_class (F : ExcBaseFacts B newId initId bmF) (in1 : bm.contains (.type B) = true) (in2 : bm.contains (.type "AttributeError") = false) (in3 : bm.contains (.type "NameError") = false) {rest : List Value} {fI : Addr} (hC : h.get? C = some (clsO nm q C N bs bm hdct sn sub ab col dd k0 k1 k2 k3 k5 newId))
    (li : PySem.W.Looks (model prog w) h (typeLookup (.ref C) "__init__") (some (.ref fI))) (lb : ∀ self, PySem.W.Looks (model prog w) h (bindSpecial (.ref fI) self) (.ref fI, [self])) (small : rest.length ≤ sizeLine)
    (fine : codeAny (model prog w) (A.under (.builtin "type.__call__" ⟨.ref C :: rest, []⟩)) (.call (.ref fI) ⟨.ref (h.objs.size + 1) :: rest, []⟩) (PySem.W.InitBack (h.objs.size + 1) R)
      ⟨(h.push (PySem.W.kdv_tup rest)).push (PySem.HandSPX.excO C h.objs.size), g, d, t, os⟩) : codeAny (model prog w) A (.call (.ref C) ⟨rest, []⟩) R ⟨h, g, d, t, os⟩ := by
  have e1 := tc_lookup
  have e2 := tc_bind (.ref C)
  have ty : (⟨h, g, d, t, os⟩ : Shared).TypeIs (.ref C) "type" := ⟨_, hC, rfl⟩
  refine codeAny_of_tree ?tree
  show wpAny _ _ (callAny (.ref C) _) _ _ _
  repeat (any_goals (first
    | assumption
    | with_reducible refine wpAny_loadPart_at hC ?_
    | wp_step))
  refine ⟨rfl, codeAny_call_builtin_at (Code.quiet_builtin _ (by decide +kernel)) entry_typeCall (wpAny_check_type_call_sub hC (run_made F in1 in2 in3 hC li lb small (codeAny_mono fine fun r s' z => ?ends)))⟩
  rcases r with e | (v | _ | _ | _) <;> exact z
end
end Py
set_option maxHeartbeats 2000000
/-! exceptions whose own __init__ keeps one thing, over any built-in class -/
namespace Py
open PySem PySem.Spec PyProof.Rows L2 Builtin Builtin.ObjectAttr

/-- what the written part says of such a class: B's chain, what makes it, its __init__, the attribute -/
structure OxC (K : PySem.W.Frag) (C fI : Addr) (bmB : List Value) (newId : String) (f : Str) : Prop where
  q1 : PySem.W.excInitIn K C bmB newId = true
  q2 : PySem.W.excOver K C bmB = true
  tk : PySem.W.takerIn K C f = some none
  hd : PySem.W.hasDictIn K C = true
  sa : PySem.W.findIn K (.ref C) "__setattr__" = some (some (.builtin "object.__setattr__"))
  ex : PySem.W.subIn K (.ref C) (.type "BaseException") = some true
  ty : PySem.W.typeIn K (.ref C) = some (.type "type")
  kp : PySem.W.keepIn K (.ref C) = true
  ic : PySem.W.findIn K (.ref C) "__init__" = some (some (.ref fI))
  ti : PySem.W.typeIn K (.ref fI) = some (.type "function")
section
variable {X : Cx} {pins : List (Addr × Obj)} {σ : L2.St} {H : Hp} {s : Shared} {a C fI : Addr} {bmB : List Value} {B newId : String} {f : Str} {y : V} {u : Value}
/-- the first store -/
theorem own_store {QU : Unit → Shared → Prop} {EE : Value → Shared → Prop} (SF : StoreFacts B bmB "object.__setattr__" "object") (T : OxC X.K C fI bmB newId f) (I : Inv X pins σ H s) (e : H a = some (exo a C none)) (ry : RelV y u)
    (fine : ∀ dx s', H dx = none → dx ≠ a → Inv X pins σ (upd (upd H dx (exd dx [(f, y)])) a (exo a C (some dx))) s' → QU () s') : wpAny (model X.prog X.w) X.A (setAttr (.ref a) f u) QU EE s := by
  obtain ⟨cd, hcl, hdd⟩ := PySem.W.any_some T.hd
  obtain ⟨t1, ho⟩ := exo_at I.hok e
  obtain ⟨hp, g, dr, t, os⟩ := s
  have at0 : PySem.W.InstAt hp a { cls := .ref C, dict := none, data := .fields #[.ref t1, .none, .none, .none, .bool false, .none] } C none := ⟨ho, rfl, rfl, trivial⟩
  refine PySem.W.set_plain I.kIn at0 T.sa (PySem.W.osa_openX SF (I.tok _).kIn at0 T.q2 T.tk fun _ => ?_)
  refine wpAny_bind (wpAny_pure (wpAny_bind (PySem.W.instanceDict_exc ho (PySem.W.looks_clsIn I.kIn hcl) hdd ?_)))
  show wpAny _ _ (storeInDict hp.objs.size (.str f _) f u) _ _ _
  have ne : a ≠ hp.objs.size := Nat.ne_of_lt (Heap.lt_size ho)
  have empt : Heap.Ns ((hp.push (PySem.W.dictOf [] 0)).update a fun o => { o with dict := some hp.objs.size }) hp.objs.size (fun _ => none) :=
    ⟨_, #[], _, (Heap.get?_update_ne _ _ _ _ ne.symm).trans (Heap.get?_push_at rfl rfl), rfl, fun _ z => absurd z (by simp), fun _ => rfl⟩
  refine PySem.HandSPX.store_in_new empt fun h' tk' nn sb => ?_
  have hnd : H hp.objs.size = none := I.hok.fresh (Nat.le_refl _)
  have keepO : ∀ b o, b ≠ a → hp.get? b = some o → h'.get? b = some o := fun b o hb z =>
    (sb.2 b (Nat.ne_of_lt (Heap.lt_size z))).trans ((Heap.get?_update_ne _ _ _ _ hb).trans (Heap.get?_push_of_some _ z))
  have hx : h'.get? a = some ({ cls := .ref C, dict := some hp.objs.size, data := .fields #[.ref t1, .none, .none, .none, .bool false, .none] } : Obj) :=
    (sb.2 a ne).trans (Heap.get?_update_self _ (Heap.get?_push_of_some _ ho) rfl)
  have na : ∀ {b : Addr}, H b = none → b ≠ a := fun n z => by rw [z, e] at n; cases n
  have nd : ∀ {b : Addr} {o : Obj}, hp.get? b = some o → b ≠ hp.objs.size := fun z => Nat.ne_of_lt (Heap.lt_size z)
  have U : Un X.fs [] H (upd (upd H hp.objs.size (exd hp.objs.size [(f, y)])) a (exo a C (some hp.objs.size))) hp h' := {
    keep := fun b o z n _ _ => keepO b o (na n) z
    slot := fun b o z n _ _ => ⟨o.slots, keepO b o (na n) z⟩
    free := fun b o z n _ => (upd_ne (na n)).trans ((upd_ne (nd z)).trans n)
    there := fun b o z _ => (Decidable.em (b = a)).elim (fun hb => ⟨_, hb ▸ hx⟩) fun hb => ⟨o, keepO b o hb z⟩
    tups := fun b xs z => (upd_ne (at_ne e z exo_tup)).trans ((upd_ne (ne_of_none z hnd)).trans z)
    frzs := fun b o v z => (upd_ne (at_ne e z exo_frz)).trans ((upd_ne (ne_of_none z hnd)).trans z)
    tbls := fun b ps z => ⟨#[], by rw [upd_ne (at_ne e z exo_tbl), upd_ne (ne_of_none z hnd), z]; simp⟩ }
  refine fine hp.objs.size _ hnd ne.symm (I.un (t' := tk') U fun b o z => ?_)
  by_cases hb : b = a
  · rw [hb, upd_same] at z
    cases z
    rw [hb]
    exact exo_ok hx
  · rw [upd_ne hb] at z
    by_cases hd : b = hp.objs.size
    · rw [hd, upd_same] at z
      cases z
      rw [hd]
      exact exd_ok nn (relO_put (fs := []) ry fun _ => True.intro)
    · rw [upd_ne hd] at z
      refine (I.hok b o z).stay (fun c v hc w => keepO c v ?_ w) (fun c hc => (upd_ne (at_ne e hc exo_own)).trans ((upd_ne (ne_of_none hc hnd)).trans hc)) fun c xs hc => (upd_ne (at_ne e hc exo_tup)).trans ((upd_ne (ne_of_none hc hnd)).trans hc)
      rcases hc with hc | hc
      · exact hc ▸ hb
      · exact at_ne e hc exo_own
end
theorem tCons_one {te : TE} {σ : L2.St} {H : Hp} {P : V → Hp → Prop} (h : te σ H P) : tCons te tNil σ H (fun vs H1 => ∃ v, vs = [v] ∧ P v H1) := by
  show te σ H fun v H1 => (∃ w, [v] = [w] ∧ P w H1)
  have : (fun v H1 => ∃ w, [v] = [w] ∧ P w H1) = P := by
    funext v H1
    exact propext ⟨fun ⟨w, e, q⟩ => by cases e; exact q, fun q => ⟨v, rfl, q⟩⟩
  rw [this]
  exact h
/-- what __init__ keeps -/
def spIni (C : Addr) (f : Str) : Sp := fun vs H Q _ => ∃ a v, vs = [.ref a, v] ∧ H a = some (exo a C none) ∧ ∀ dx, H dx = none → dx ≠ a → Q .non (upd (upd H dx (exd dx [(f, v)])) a (exo a C (some dx)))
theorem ini_ok {P : Program} {w : World} {K : PySem.W.Frag} {mg : Str → Option Value} {base : Heap} {k : Nat} {C fI : Addr} {bmB : List Value} {B newId qual : String} {f g : Str} {st : Stmt} {fd : FuncData} {p1 p2 p3 p4 : Pos} (SF : StoreFacts B bmB "object.__setattr__" "object")
    (T : OxC K C fI bmB newId f) (F : Fun K "__init__" qual st fI fd) (S : FnScope ["self", g] ["self", g] (defScope st)) (hb : defBody st = [.Assign [.Attribute (.Name "self" p1) f p2] (.Name g p3) p4])
    (hg1 : (g == ("__debug__" : Str)) = false) (hg2 : (g == ("__classdict__" : Str)) = false) : FnOk P w K mg base (L2.CX P w) (k + 1) fI fd ["self", g] (spIni C f) := by
  refine F.okX S (fun vs H Q E h => ?_) (fun cdv A outer s H vs Q E hr h => ?_)
  · obtain ⟨a, v, e, _⟩ := h
    rw [e]
    rfl
  · obtain ⟨a, v, rfl, ea, fine⟩ := h
    have v0 : Vis (defScope st) "self" := (S.par "self" (List.Mem.head _)).elim (fun z => .inl z) fun z => .inr (.inl z)
    have v1 : Vis (defScope st) g := (S.par g (List.Mem.tail _ (List.Mem.head _))).elim (fun z => .inl z) fun z => .inr (.inl z)
    refine ⟨fun D σ H => ∃ y, σ[1]? = some (some y) ∧ ∃ a, σ[0]? = some (some (.ref a)) ∧ H a = some (exo a C none) ∧ ∀ dx, H dx = none → dx ≠ a → D.nx σ (upd (upd H dx (exd dx [(f, y)])) a (exo a C (some dx))), ?_, v, rfl, a, rfl, ea, fine⟩
    rw [hb]
    refine pss_one ⟨fun pins s1 σ H D I h => ?_⟩
    obtain ⟨y, e1, a, e0, ea, nx⟩ := h
    refine plainObj_wpAny_Assign_Attribute (thn ((pe_var (i := 1) rfl v1 hg1 hg2).run pins s1 σ H (fun v' H' => v' = y ∧ H' = H) I ⟨y, e1, rfl, rfl⟩) fun u2 s2 ⟨y2, H2, I2, r2, q2, q3⟩ => thn ((pe_var (i := 0) rfl v0).run pins s2 σ H2 (fun v' H' => v' = .ref a ∧ H' = H2) I2 ⟨.ref a, e0, rfl, rfl⟩) fun u3 s3 ⟨y3, H3, I3, r3, q4, q5⟩ => ?_) rfl
    subst q2 q3 q4 q5
    obtain rfl : u3 = Value.ref a := r3
    exact own_store SF T I3 ea r2 fun dx s4 n ne J => ⟨σ, _, J, nx dx n ne⟩
section
variable {X : Cx}
/-- C(e) -/
theorem pmk_keep {C fI : Addr} {bmB : List Value} {newId : String} {f x g : Str} {k : Nat} {fd : FuncData} {e : Expr} {te : TE} {p pos : Pos} (FB : MkF bmB newId) (T : OxC X.K C fI bmB newId f)
    (F1 : FnOk X.prog X.w X.K X.mg X.base (L2.CX X.prog X.w) k fI fd ["self", g] (spIni C f)) (hr : Room (k + 1) X.A) (hb : Binds X.K fd ["self", g] []) (hg : Gl X x) (hm : X.mg x = some (.ref C)) (he : PE X e te)
    (hdb : (x == ("__debug__" : Str)) = false := by decide) (hs : starEach [e] X.env = (false, eval e X.env) :: starEach [] X.env := by rfl) (hpl : (backTo pos (starEach [] X.env)).any (·.1) = false := by rfl) :
    PMk X (.Call (.Name x p) [e] [] pos) (fun σ H Q => te σ H fun v H1 => ∀ d, H1 d = none → Q (.ref C) (some d) (upd H1 d (.xd [(f, v)]))) := by
  intro pins s σ H Q I h
  refine wpAny_Call_Name_kw (ld_glob I hg hm ?_ hdb)
  have hpa : PA X [e] (tCons te tNil) := pa_cons he pa_nil hs
  refine PySem.W.callWith_K (h₀ := X.base) I.ok.mod.kin T.kp (thn (hpa.run pos pins s σ H (fun vs H1 => ∃ v, vs = [v] ∧ ∀ d, H1 d = none → Q (.ref C) (some d) (upd H1 d (.xd [(f, v)]))) I (tCons_one h)) fun us s1 ⟨vs, H1, I1, r1, v, ev, fine⟩ => ⟨I1.kIn, ?_⟩) hs hpl
  subst ev
  obtain ⟨nm, N, qn, bs, bm, hdct, sn, sub, ab, col, dd, k0, k1, k2, k3, k5, hC, hT⟩ := PySem.W.excInit_of I1.kIn T.q1
  obtain ⟨B0, i0, bmF, FF, f1, f2, f3⟩ := FB
  obtain ⟨hp, g0, dr, tk, os⟩ := s1
  have up : hp.objs.size ≤ hp.objs.size + 1 := Nat.le_succ _
  have nw : H1 (hp.objs.size + 1) = none := I1.hok.fresh up
  have kk : ∀ b o, hp.get? b = some o → ((hp.push (PySem.W.kdv_tup us)).push (PySem.HandSPX.excO C hp.objs.size)).get? b = some o := fun b o z => Heap.get?_push_of_some _ (Heap.get?_push_of_some _ z)
  have here : ((hp.push (PySem.W.kdv_tup us)).push (PySem.HandSPX.excO C hp.objs.size)).get? (hp.objs.size + 1) = some (PySem.HandSPX.excO C hp.objs.size) := by heap_get
  have I2 : Inv X pins σ (upd H1 (hp.objs.size + 1) (exo (hp.objs.size + 1) C none)) ⟨(hp.push (PySem.W.kdv_tup us)).push (PySem.HandSPX.excO C hp.objs.size), g0, dr, tk, os⟩ := I1.laid (t' := tk) kk up (exo_ok here)
  have hlen : us.length ≤ sizeLine := by
    rw [← Paired.length r1, sizeLine_eq]
    exact (by decide : 1 ≤ 16777216)
  have r2 : Vals [V.ref (hp.objs.size + 1), v] (Value.ref (hp.objs.size + 1) :: us) := .cons rfl r1
  have hsp : spIni C f [V.ref (hp.objs.size + 1), v] (upd H1 (hp.objs.size + 1) (exo (hp.objs.size + 1) C none)) (fun z H2 => z = .non ∧ ∃ d : Addr, H2 (hp.objs.size + 1) = some (exo (hp.objs.size + 1) C (some d)) ∧ H2 d = some (exd d [(f, v)]) ∧ H1 d = none ∧ Q (.ref C) (some d) (upd (del H2 (hp.objs.size + 1)) d (.xd [(f, v)]))) E0 := by
    refine ⟨_, v, rfl, upd_same, fun dx n ne => ⟨rfl, dx, upd_same, (upd_ne ne).trans upd_same, (upd_ne ne).symm.trans n, ?_⟩⟩
    have ee : upd (del (upd (upd (upd H1 (hp.objs.size + 1) (exo (hp.objs.size + 1) C none)) dx (exd dx [(f, v)])) (hp.objs.size + 1) (exo (hp.objs.size + 1) C (some dx))) (hp.objs.size + 1)) dx (.xd [(f, v)]) = upd H1 dx (.xd [(f, v)]) := by
      funext b
      by_cases h1 : b = dx
      · rw [h1, upd_same, upd_same]
      · rw [upd_ne h1, upd_ne h1]
        by_cases h2 : b = hp.objs.size + 1
        · rw [h2, del_same, nw]
        · rw [del_ne h2, upd_ne h2, upd_ne h1, upd_ne h2]
    rw [ee]
    exact fine dx ((upd_ne ne).symm.trans n)
  have hl : (Value.ref (hp.objs.size + 1) :: us ++ []).length = ([("self" : Str), g] : List Str).length := by
    have z := r2.length
    rw [List.append_nil]
    exact z.symm
  have bt := hb _ (Value.ref (hp.objs.size + 1) :: us) I2.kIn hl
  rw [List.cons_append] at bt
  show wpAny _ _ (call (.ref C) us) _ _ _
  refine wpAny_call (run_class FF ((hT _).trans f1) ((hT _).trans f2) ((hT _).trans f3) hC (PySem.W.looks_findIn I1.kIn T.ic) (fun self => PySem.W.bind_fn I1.kIn self T.ti) hlen
    (codeAny_mono (F1.run _ X.stack _ _ ⟨Value.ref (hp.objs.size + 1) :: us, []⟩ (Value.ref (hp.objs.size + 1) :: (us ++ [])) _ _ E0 (hr.make C us []) (I2.env0.make C us []) bt (by rw [List.append_nil]; exact r2) hsp) fun r s' done => ?_))
  cases r with
  | error er => exact passL pins σ _ _ er s' I2 done
  | ok fl =>
    cases fl with
    | ret u =>
      obtain ⟨z, H2, os2, bare2, un2, hok2, rv, ez, d, ea, ed, hd1, fine2⟩ := done
      subst ez
      obtain ⟨h2, g2, d2, t2, os'⟩ := s'
      exact ⟨rv, mk_end (raises_own T.ex T.ty) I1 up kk un2 hok2 os2 bare2 ea ed hd1 fine2⟩
    | next => exact False.elim done
    | brk => exact False.elim done
    | cont => exact False.elim done
end
end Py
set_option maxHeartbeats 2000000
/-! try with clauses of which some bear a name; raise -/
namespace Py
open PySem PySem.Spec PyProof.Rows L2
open Mir (SL SL_eq)
variable [Tb]

/-- a clause: the class asked for, the slot of its name, the suite's reading -/
structure Cl where
  c : Value
  i : Option Nat
  ts : Addr → Value → Option Addr → TS
/-- behind a named suite the name is gone -/
def gone (i : Option Nat) (D : Ends) : Ends := match i with
  | none => D
  | some i => { nx := fun σ H => D.nx (σ.set i none) H, rt := D.rt, bk := fun σ H => D.bk (σ.set i none) H, ct := fun σ H => D.ct (σ.set i none) H }
def named (i : Option Nat) (a : Addr) (σ : L2.St) : L2.St := match i with
  | none => σ
  | some i => σ.set i (some (.ref a))
def wMix (K : PySem.W.Frag) (Wout : WX) (D : Ends) : List Cl → WX
  | [] => Wout
  | q :: r => fun cls d σ H => ∃ b, PySem.W.exmOne K cls q.c = some b ∧ (b = true → ∀ a, H a = none → q.ts a cls d (gone q.i D) (named q.i a σ) H) ∧ (b = false → wMix K Wout D r cls d σ H)
/-- a suite's own rule -/
def Suit (X : Cx) (st : List Stmt) (ts : Addr → Value → Option Addr → TS) : Prop :=
  ∀ (a : Addr) (oe : Obj) (cls : Value) (d : Option Addr) (pn : List (Addr × Obj)), Zc cls d oe → (∃ vs, oe.data = .fields vs) → PSs (X.suite a ((a, oe) :: pn)) st (ts a cls d)
inductive Cls' (X : Cx) : List ExceptHandler → List Cl → Prop
  | nil : Cls' X [] []
  | bare {x : Str} {c : Value} {ts : Addr → Value → Option Addr → TS} {b : Stmt} {st : List Stmt} {p q : Pos} {hds : List ExceptHandler} {l : List Cl} (hc : Names X x c) (su : Suit X (b :: st) ts) (r : Cls' X hds l) :
      Cls' X (.ExceptHandler (some (.Name x p)) none (b :: st) q :: hds) (⟨c, none, ts⟩ :: l)
  | name {x n : Str} {c : Value} {i : Nat} {ts : Addr → Value → Option Addr → TS} {b : Stmt} {st : List Stmt} {p q : Pos} {hds : List ExceptHandler} {l : List Cl} (hc : Names X x c) (hN : X.N.Nodup) (hi : X.N[i]? = some n) (hl : X.env.kindOf n = some .local) (su : Suit X (b :: st) ts) (r : Cls' X hds l) :
      Cls' X (.ExceptHandler (some (.Name x p)) (some n) (b :: st) q :: hds) (⟨c, some i, ts⟩ :: l)
section
variable {X : Cx} {body : List Stmt} {h₀ : ExceptHandler} {hds : List ExceptHandler} {l : List Cl} {pos : Pos} {tb : WX → TS} {Wout : WX}
theorem ps_mix (hs : X.stack = X.env :: X.outer) (hf : X.env.frame = some X.env.locals) (tk : Takes X Wout)
    (hb : ∀ (W : WX) (pn : List (Addr × Obj)) (xe : Value → Shared → Prop), Takes (X.tr pn xe) W → PassesOwn (model X.prog X.w) X.A X.env xe → PSs (X.tr pn xe) body (tb W))
    (hh : Cls' X (h₀ :: hds) l) : PS X (.Try body (h₀ :: hds) [] [] pos) (fun D σ H => tb (wMix X.K Wout D l) D σ H) := by
  refine ⟨fun pins s σ H D I hyp => ?_⟩
  have good := I.ok
  have frm : X.A.frames = some (X.env :: X.outer) := good.frames.trans (congrArg some hs)
  refine wpAny_Try_except (wpAny_mono ((hb (wMix X.K Wout D l) (X.pn ++ pins) (fun e t1 => wpAny (model X.prog X.w) X.A (noteFrame e X.env) (fun _ t2 => wpAny (model X.prog X.w) X.A (setFlight e none)
    (fun _ t3 => wpAny (model X.prog X.w) X.A (handleBy e X.env (h₀ :: hds)) (SP X pins D) X.xe t3) X.xe t2) X.xe t1) (fun u sC caught => ?_) PassesOwn.looking).run [] s σ H D (I.toTry _) hyp) (fun f sE fin => ?_) (fun _ _ z => z))
  · obtain ⟨a, B, sI, pins', τ, G, cls, d, rfl, J0, nb, up, sky, na, os, ag, w⟩ := caught
    have J : Inv X pins τ G sI := J0.ofTry good
    rw [hs] at sky
    show wpAny (model X.prog X.w) X.A (noteFrame (.ref a) X.env) _ _ _
    refine Sky.land Zc.steady frm hf sky fun hL flL upL => ?_
    have JL : Inv X pins τ G { sC with heap := hL } := J.landed nb flL.1 (up.trans upL) os ag
    obtain ⟨oL, vL, eL, zL, dL⟩ := flL.there
    have off : a ∉ frs (X.env :: X.outer) := fun hm => by
      obtain ⟨_, o', e', hnf⟩ := flL.2.2.1.mem hm
      rw [eL] at e'
      cases e'
      exact hnf _ dL
    have nL : a ≠ X.env.locals := fun z => off (List.mem_filterMap.mpr ⟨X.env, List.mem_cons_self, by rw [hf, z]⟩)
    have nF : a ∉ X.fs := fun hm => by
      obtain ⟨e, he, q⟩ := List.mem_filterMap.mp hm
      exact off (List.mem_filterMap.mpr ⟨e, List.mem_cons_of_mem _ he, q⟩)
    have SL' := JL.suite eL dL na nL nF
    have isA : PySem.W.Looks (model X.prog X.w) hL (typeOf (.ref a)) cls := fun A Q E s k q => wpAny_typeOf_ref (k _ _ eL) (by rw [zL.1]; exact q)
    have ask : ∀ (x : Str) (c : Value) (p : Pos), Names X x c → ∀ (Q : Value → Shared → Prop) (E : Value → Shared → Prop), Q c { sC with heap := hL } → wpAny (model X.prog X.w) (X.A.mark (some (.ref a))) (eval (.Name x p) X.env) Q E { sC with heap := hL } := by
      intro x c p hc Q E q
      rcases hc with ⟨g1, g2, g3 | ⟨g3, g4, g5⟩⟩
      · exact ld_glob (X := X.suite a ((a, oL) :: (X.pn ++ pins))) SL' g1 g3 q g2
      · exact ld_blt (X := X.suite a ((a, oL) :: (X.pn ++ pins))) SL' g1 g3 g4 q g5 g2
    have go : ∀ {hds' : List ExceptHandler} {l' : List Cl}, Cls' X hds' l' → wMix X.K Wout D l' cls d τ G → wpAny (model X.prog X.w) X.A (handleBy (.ref a) X.env hds') (SP X pins D) X.xe { sC with heap := hL } := by
      intro hds' l' hk
      induction hk with
      | nil =>
        intro w
        refine wpAny_handleBy_nil ?_
        obtain ⟨_, _, _, oe, vs, T, oT, ts', he, hz, hd, h1, hr⟩ := id flL
        unfold PySem.passOn
        refine wpAny_bind (wpAny_field he hd h1 ?_)
        rw [if_neg (show ¬ ((Value.ref T == Value.none) = true) by simp)]
        have out : wpAny (model X.prog X.w) X.A (setFlight (.ref a) X.env.frame) (fun _ t4 => wpAny (model X.prog X.w) X.A (throw (.ref a) : Sem Flow) (SP X pins D) X.xe t4) X.xe { sC with heap := hL } := by
          rw [hf]
          refine HandSPX.setFlight_upZ flL fun h4 hh4 up4 => wpAny_throw (tk _ _ ⟨a, B, sI, pins, τ, G, cls, d, rfl, J, nb, (up.trans upL).trans up4, .inr (.inr ?_), na, os, ag, w⟩)
          rw [hs]
          exact hh4
        first
          | exact wpAny_bind (wpAny_pure (wpAny_bind out))
          | exact wpAny_bind out
      | @bare x c ts b st p q hds2 l2 hc su r ih =>
        intro w
        obtain ⟨k, is, yes, no⟩ := w
        refine wpAny_handleBy_cons (codeAny_handlers_test ?_) (by intro z; cases z)
        refine ask _ _ _ hc _ _ ((PySem.W.exm_one (M := model X.prog X.w) JL.kIn isA is).here ?_)
        cases k with
        | false => exact (show wpAny _ X.A (handleBy (.ref a) X.env hds2) _ _ _ from ih (no rfl))
        | true =>
          refine codeAny_handlers_suite (HandSPX.lands_againZ flL fun h4 fl4 up4 => ?_)
          have J4 : Inv X pins τ G { sC with heap := h4 } := J.landed nb fl4.1 ((up.trans upL).trans up4) os ag
          obtain ⟨o4, v4, e4, z4, d4⟩ := fl4.there
          refine wpAny_mono ((su a o4 cls d (X.pn ++ pins) z4 ⟨_, d4⟩).run [] _ _ G _ (J4.suite e4 d4 na nL nF) (yes rfl a na)) (fun f sF hF => ?_) (fun _ _ z => False.elim z)
          cases f with
          | next => exact hF.elim fun τ6 hF => hF.elim fun G6 hF => ⟨τ6, G6, hF.1.unsuite good, hF.2⟩
          | brk => exact hF.elim fun τ6 hF => hF.elim fun G6 hF => ⟨τ6, G6, hF.1.unsuite good, hF.2⟩
          | cont => exact hF.elim fun τ6 hF => hF.elim fun G6 hF => ⟨τ6, G6, hF.1.unsuite good, hF.2⟩
          | ret u => exact hF.elim fun v6 hF => hF.elim fun τ6 hF => hF.elim fun G6 hF => ⟨v6, τ6, G6, hF.1.unsuite good, hF.2.1, hF.2.2⟩
      | @name x n c i ts b st p q hds2 l2 hc hN hi hl su r ih =>
        intro w
        obtain ⟨k, is, yes, no⟩ := w
        refine wpAny_handleBy_cons (codeAny_handlers_test ?_) (by intro z; cases z)
        refine ask _ _ _ hc _ _ ((PySem.W.exm_one (M := model X.prog X.w) JL.kIn isA is).here ?_)
        cases k with
        | false => exact (show wpAny _ X.A (handleBy (.ref a) X.env hds2) _ _ _ from ih (no rfl))
        | true =>
          refine codeAny_handlers_suite_as (HandSPX.lands_againZ flL fun h4 fl4 up4 => ?_)
          have J4 : Inv X pins τ G { sC with heap := h4 } := J.landed nb fl4.1 ((up.trans upL).trans up4) os ag
          obtain ⟨o4, v4, e4, z4, d4⟩ := fl4.there
          have hloc : Loc X.env.scope n := .inl hl
          refine store_ok (X := X.suite a ((a, o4) :: (X.pn ++ pins))) (v := .ref a) (J4.suite e4 d4 na nL nF) hN hi hloc rfl (fun s5 S5 => ?_) (.inr hl)
          refine wpAny_mono ((su a o4 cls d (X.pn ++ pins) z4 ⟨_, d4⟩).run [] s5 _ G _ S5 (yes rfl a na)) (fun f sF hF => ?_) (fun _ _ z => False.elim z)
          have leave : ∀ {τ6 : L2.St} {G6 : Hp} {Q : Shared → Prop}, Inv (X.suite a ((a, o4) :: (X.pn ++ pins))) [] τ6 G6 sF → (∀ s7, Inv X pins (τ6.set i none) G6 s7 → Q s7) →
              wpAny (model X.prog X.w) X.A (do bindName X.env n .none; unbindBehindTheSuite X.env n q) (fun _ s7 => Q s7) X.xe sF := fun S6 hq => gone_ok (S6.unsuite good) hN hi hl hq
          cases f with
          | next => exact hF.elim fun τ6 hF => hF.elim fun G6 hF => leave hF.1 fun s7 J7 => ⟨_, _, J7, hF.2⟩
          | brk => exact hF.elim fun τ6 hF => hF.elim fun G6 hF => leave hF.1 fun s7 J7 => ⟨_, _, J7, hF.2⟩
          | cont => exact hF.elim fun τ6 hF => hF.elim fun G6 hF => leave hF.1 fun s7 J7 => ⟨_, _, J7, hF.2⟩
          | ret u => exact hF.elim fun v6 hF => hF.elim fun τ6 hF => hF.elim fun G6 hF => leave hF.1 fun s7 J7 => ⟨_, _, _, J7, hF.2.1, hF.2.2⟩
    exact go hh w
  · cases f with
    | next => exact fin.elim fun τ hF => hF.elim fun G hF => wpAny_execs_nil ⟨τ, G, hF.1.ofTry good, hF.2⟩
    | brk => exact fin.elim fun τ hF => hF.elim fun G hF => ⟨τ, G, hF.1.ofTry good, hF.2⟩
    | cont => exact fin.elim fun τ hF => hF.elim fun G hF => ⟨τ, G, hF.1.ofTry good, hF.2⟩
    | ret u => exact fin.elim fun v hF => hF.elim fun τ hF => hF.elim fun G hF => ⟨v, τ, G, hF.1.ofTry good, hF.2.1, hF.2.2⟩
end
end Py
set_option maxHeartbeats 2000000
/-! raise, try, lambdas handed to a def -/
namespace Py
open PySem PySem.Spec PyProof.Rows L2
open Mir (SL SL_eq)
variable [Tb]

/-! ### raise -/
def sRaise (c : Str) : Rho → M Fl := fun _ cs => .exc ⟨c, []⟩ cs
def sRaise1 (c f : Str) (me : Rho → M Val) : Rho → M Fl := fun ρ cs => (me ρ cs).bind fun v cs1 => .exc ⟨c, [(f, v)]⟩ cs1
/-- a class without an own __init__ -/
structure XcA (K : PySem.W.Frag) (mg : Str → Option Value) (c : Str) : Prop where
  ex : ∃ C bmB B newId initId, ExcBaseFacts B newId initId bmB ∧ PySem.W.excIn K C bmB newId = true ∧ mg c = some (.ref C) ∧ PySem.W.keepIn K (.ref C) = true ∧ PySem.W.subIn K (.ref C) (.type "BaseException") = some true ∧ PySem.W.typeIn K (.ref C) = some (.type "type")
/-- a class whose own __init__ keeps one thing -/
structure XcB (P : Program) (w : World) (K : PySem.W.Frag) (mg : Str → Option Value) (base : Heap) (c f : Str) (k : Nat) : Prop where
  ex : ∃ C fI bmB newId g fd, MkF bmB newId ∧ OxC K C fI bmB newId f ∧ FnOk P w K mg base (L2.CX P w) k fI fd ["self", g] (spIni C f) ∧ Binds K fd ["self", g] [] ∧ mg c = some (.ref C)
section
variable {X : Cx} {E : XK} {e : Expr} {me : Rho → M Val}
theorem sm_raise {c m : Str} {j : Nat} {p p2 p3 pos : Pos} (F : XcA X.K X.mg c) (hg : Gl X c) (hc : X.calm = true) (tk : TakesE X E) (hdb : (c == ("__debug__" : Str)) = false := by decide) :
    SM X E (.Raise (some (.Call (.Name c p) [.Constant (.str m) j p2] [] p3)) none pos) (sRaise c) := by
  obtain ⟨C, bmB, B, newId, initId, FB, q, gC, kC, h1, h2⟩ := F.ex
  exact ⟨_, ps_raise hc tk (pmk_own FB q gC kC (raises_own h1 h2) hg hdb), fun A ρ cs σ H ok rk De h => h A H (.ref C) none (Stp.rfl' ok) ok ⟨gC, .inl ⟨rfl, rfl⟩⟩⟩
theorem sm_raise1 {c f : Str} {k : Nat} {p p3 pos : Pos} (F : XcB X.prog X.w X.K X.mg X.base c f k) (hr : Room (k + 1) X.A) (hg : Gl X c) (hc : X.calm = true) (tk : TakesE X E) (he : EM X E e me) (hdb : (c == ("__debug__" : Str)) = false := by decide)
    (hs : starEach [e] X.env = (false, eval e X.env) :: starEach [] X.env := by rfl) (hpl : (backTo p3 (starEach [] X.env)).any (·.1) = false := by rfl) :
    SM X E (.Raise (some (.Call (.Name c p) [e] [] p3)) none pos) (sRaise1 c f me) := by
  obtain ⟨C, fI, bmB, newId, g, fd, FB, T, F1, hb, gC⟩ := F.ex
  obtain ⟨t, pt, kk⟩ := he
  refine ⟨_, ps_raise hc tk (pmk_keep FB T F1 hr hb hg gC pt hdb hs hpl), fun A ρ cs σ H ok rk De h => ?_⟩
  refine kk A ρ cs σ H ok rk _ (PostX.step (Stp.rfl' ok) (fun dv cs1 q v A1 H1 s1 ok1 r1 d nd => ?_) (PostX.bind h))
  have s2 := Stp.new' (o := .xd [(f, v)]) ok1 nd
  exact q A1 _ (.ref C) (some d) (s1.trans s2) (ok1.new nd) ⟨gC, .inr ⟨d, [(f, v)], rfl, hid_in (ok1.ne nd) upd_same, .cons (Rl.step s2 r1) .nil⟩⟩
end

/-! ### try -/
def noX {α : Type} : Res α → Res α
  | .exc _ _ => .bad
  | r => r
theorem noX_of {K : PySem.W.Frag} {mg : Str → Option Value} {A : List Addr} {H : Hp} {α : Type} {E E' : XK} {S : α → Mem → Prop} {r : Res α} (h : PostX K mg A H E S (noX r)) : PostX K mg A H E' S r := by
  cases r with
  | ok a cs => exact h
  | exc x cs => exact h.elim
  | bad => exact h.elim
/-- what an exception at its suite's start looks like -/
def PD (K : PySem.W.Frag) (mg : Str → Option Value) (d : Option Addr) (x : Ex) (A : List Addr) (H : Hp) : Prop := (x.fs = [] ∧ d = none) ∨ ∃ dd vs, d = some dd ∧ hid A H dd = some (.xd vs) ∧ RlD K mg A (hid A H) vs x.fs
theorem PD.step {K : PySem.W.Frag} {mg : Str → Option Value} {d : Option Addr} {x : Ex} {A A' : List Addr} {H H' : Hp} (s : Stp A H A' H') : PD K mg d x A H → PD K mg d x A' H'
  | .inl h => .inl h
  | .inr ⟨dd, vs, h1, h2, h3⟩ => .inr ⟨dd, vs, h1, s.sm _ _ h2, h3.mono s.pre s.sm⟩
/-- a statement that starts where P holds of the slots; its exceptions are told with these slots -/
structure BS (X : Cx) (W : WX) (P : L2.St → List Addr → Hp → Prop) (st : List Stmt) (m : Rho → M Fl) : Prop where
  ex : ∃ t, PSs X st t ∧ ∀ A ρ cs σ H, Ok X.K X.mg A cs H → RhoOk X.K X.mg A ρ σ H → P σ A H → ∀ De, PostS X.K X.mg A H De (fun c d H' => W c d σ H') (m ρ cs) → t De σ H
/-- a named clause's suite: it hands something back -/
def RetX (X : Cx) (i : Nat) (st : List Stmt) (mh : Ex → Rho → M Val) : Prop :=
  ∀ (a : Addr) (oe : Obj) (cls : Value) (d : Option Addr) (pn : List (Addr × Obj)), Zc cls d oe → (∃ vs, oe.data = .fields vs) → ∀ x : Ex, X.mg x.cls = some cls →
    ∃ t, PSs (X.suite a ((a, oe) :: pn)) st t ∧ ∀ A ρ cs σ H, Ok X.K X.mg A cs H → RhoOk X.K X.mg A ρ σ H → σ[i]? = some (some (.ref a)) → PD X.K X.mg d x A H → ∀ De : Ends, Post X.K X.mg A H De.rt E0' (mh x ρ cs) → t De σ H
inductive HM (X : Cx) (isA : Str → Str → Option Bool) : List ExceptHandler → List (Str × Option Nat × (Ex → Rho → M Fl)) → Prop
  | nil : HM X isA [] []
  | bare {x : Str} {c : Value} {mh : Rho → M Fl} {b : Stmt} {st : List Stmt} {p q : Pos} {hds : List ExceptHandler} {l : List (Str × Option Nat × (Ex → Rho → M Fl))} (hc : Names X x c)
      (hI : ∀ y v k, isA y x = some k → X.mg y = some v → PySem.W.exmOne X.K v c = some k) (hsu : ∀ (a : Addr) (pn : List (Addr × Obj)), BM (X.suite a pn) E0' (b :: st) mh) (r : HM X isA hds l) :
      HM X isA (.ExceptHandler (some (.Name x p)) none (b :: st) q :: hds) ((x, none, fun _ => mh) :: l)
  | name {x n : Str} {c : Value} {i : Nat} {mh : Ex → Rho → M Val} {b : Stmt} {st : List Stmt} {p q : Pos} {hds : List ExceptHandler} {l : List (Str × Option Nat × (Ex → Rho → M Fl))} (hc : Names X x c)
      (hI : ∀ y v k, isA y x = some k → X.mg y = some v → PySem.W.exmOne X.K v c = some k) (hN : X.N.Nodup) (hi : X.N[i]? = some n) (hl : X.env.kindOf n = some .local) (hsu : RetX X i (b :: st) mh) (r : HM X isA hds l) :
      HM X isA (.ExceptHandler (some (.Name x p)) (some n) (b :: st) q :: hds) ((x, some i, fun x ρ cs => (mh x ρ cs).bind fun d cs1 => .ok (.rt d) cs1) :: l)
def rhoN (i : Option Nat) (ρ : Rho) : Rho := match i with
  | none => ρ
  | some i => ρ.set i none
def pick (isA : Str → Str → Option Bool) : List (Str × Option Nat × (Ex → Rho → M Fl)) → Ex → Rho → M Fl
  | [], x, _, cs => .exc x cs
  | (c, i, mh) :: r, x, ρ, cs => match isA x.cls c with
    | some true => noX (mh x (rhoN i ρ) cs)
    | some false => pick isA r x ρ cs
    | none => .bad
def mTry (isA : Str → Str → Option Bool) (m : Rho → M Fl) (hl : List (Str × Option Nat × (Ex → Rho → M Fl))) : Rho → M Fl := fun ρ cs => match m ρ cs with
  | .exc x cs' => pick isA hl x ρ cs'
  | r => r
theorem RhoOk.unset {K : PySem.W.Frag} {mg : Str → Option Value} {A : List Addr} {ρ : Rho} {σ : L2.St} {H : Hp} (r : RhoOk K mg A ρ σ H) (i : Nat) (v : Option V) : RhoOk K mg A (ρ.set i none) (σ.set i v) H := by
  refine ⟨by rw [List.length_set, List.length_set]; exact r.1, fun j d e => ?_⟩
  by_cases hj : i = j
  · subst hj
    rw [List.getElem?_set] at e
    simp at e
  · rw [List.getElem?_set_ne hj] at e
    obtain ⟨w, h1, h2⟩ := r.2 j d e
    exact ⟨w, by rw [List.getElem?_set_ne hj]; exact h1, h2⟩
section
variable {X : Cx} {E : XK} {isA : Str → Str → Option Bool}
theorem hm_ok {hds : List ExceptHandler} {hl : List (Str × Option Nat × (Ex → Rho → M Fl))} (hm : HM X isA hds hl) :
    ∃ l, Cls' X hds l ∧ ∀ De A ρ cs σ H x cls dx, Ok X.K X.mg A cs H → RhoOk X.K X.mg A ρ σ H → σ.length = X.N.length → RX X.K X.mg A H x cls dx → PostS X.K X.mg A H De E (pick isA hl x ρ cs) → wMix X.K (fun c d _ H => E c d H) De l cls dx σ H := by
  induction hm with
  | nil => exact ⟨[], .nil, fun De A ρ cs σ H x cls dx ok rk hlen r h => h A H cls dx (Stp.rfl' ok) ok r⟩
  | @bare x c mh b st p q hds l hc hI hsu r ih =>
    obtain ⟨l', hl', kk⟩ := ih
    refine ⟨⟨c, none, fun a cls d D σ H => ∀ pn, ∃ t, PSs (X.suite a pn) (b :: st) t ∧ t D σ H⟩ :: l', .bare hc (fun a oe cls d pn _ _ => ⟨fun pins s σ H D I h => ?_⟩) hl', fun De A ρ cs σ H y cls dx ok rk hlen ry h => ?_⟩
    · obtain ⟨t, pt, h⟩ := h ((a, oe) :: pn)
      exact pt.run pins s σ H D I h
    · unfold pick at h
      cases e : isA y.cls x with
      | none =>
        rw [e] at h
        exact h.elim
      | some k =>
        rw [e] at h
        refine ⟨k, hI _ _ _ e ry.1, fun ek a ha pn => ?_, fun ek => ?_⟩
        · subst ek
          obtain ⟨t, pt, k2⟩ := hsu a pn
          exact ⟨t, pt, k2 A ρ cs σ H ok rk De (noX_of h)⟩
        · subst ek
          exact kk De A ρ cs σ H y cls dx ok rk hlen ry h
  | @name x n c i mh b st p q hds l hc hI hN hi hln hsu r ih =>
    obtain ⟨l', hl', kk⟩ := ih
    refine ⟨⟨c, some i, fun a cls d D σ H => ∀ oe pn, Zc cls d oe → (∃ vs, oe.data = .fields vs) → ∃ t, PSs (X.suite a ((a, oe) :: pn)) (b :: st) t ∧ t D σ H⟩ :: l', .name hc hN hi hln (fun a oe cls d pn z1 z2 => ⟨fun pins s σ H D I h => ?_⟩) hl', fun De A ρ cs σ H y cls dx ok rk hlen ry h => ?_⟩
    · obtain ⟨t, pt, h⟩ := h oe pn z1 z2
      exact pt.run pins s σ H D I h
    · unfold pick at h
      cases e : isA y.cls x with
      | none =>
        rw [e] at h
        exact h.elim
      | some k =>
        rw [e] at h
        refine ⟨k, hI _ _ _ e ry.1, fun ek a ha oe pn z1 z2 => ?_, fun ek => ?_⟩
        · subst ek
          obtain ⟨t, pt, k2⟩ := hsu a oe cls dx pn z1 z2 y ry.1
          have hlt : i < σ.length := by
            rw [hlen]
            exact (List.getElem?_eq_some_iff.mp hi).1
          refine ⟨t, pt, k2 A (ρ.set i none) cs (σ.set i (some (.ref a))) H ok (rk.unset i _) (List.getElem?_set_self hlt) ry.2 _ ?_⟩
          replace h : PostS X.K X.mg A H De E (noX ((mh y (ρ.set i none) cs).bind fun d cs1 => .ok (.rt d) cs1)) := h
          cases qm : mh y (ρ.set i none) cs with
          | bad => rw [qm] at h; exact h.elim
          | exc z c => rw [qm] at h; exact h.elim
          | ok d c => rw [qm] at h; exact h
        · subst ek
          exact kk De A ρ cs σ H y cls dx ok rk hlen ry h
theorem bs_try {P : L2.St → List Addr → Hp → Prop} {body : List Stmt} {h₀ : ExceptHandler} {hds : List ExceptHandler} {m : Rho → M Fl} {hl : List (Str × Option Nat × (Ex → Rho → M Fl))} {pos : Pos} (hs : X.stack = X.env :: X.outer) (hf : X.env.frame = some X.env.locals) (tk : TakesE X E)
    (hP : ∀ σ A H, P σ A H → σ.length = X.N.length)
    (hb : ∀ (W : WX) (pn : List (Addr × Obj)) (xe : Value → Shared → Prop), Takes (X.tr pn xe) W → PassesOwn (model X.prog X.w) X.A X.env xe → BS (X.tr pn xe) W P body m) (hh : HM X isA (h₀ :: hds) hl) :
    ∃ t, PS X (.Try body (h₀ :: hds) [] [] pos) t ∧ ∀ A ρ cs σ H, Ok X.K X.mg A cs H → RhoOk X.K X.mg A ρ σ H → P σ A H → ∀ De, PostS X.K X.mg A H De E (mTry isA m hl ρ cs) → t De σ H := by
  obtain ⟨l, hl', kl⟩ := hm_ok (E := E) hh
  refine ⟨_, ps_mix (tb := fun W D σ H => ∀ pn xe, Takes (X.tr pn xe) W → PassesOwn (model X.prog X.w) X.A X.env xe → ∃ t, PSs (X.tr pn xe) body t ∧ t D σ H) hs hf tk (fun W pn xe tkW po => ⟨fun pins s σ H D I h => ?_⟩) hl', fun A ρ cs σ H ok rk hp De h => ?_⟩
  · obtain ⟨t, p, h⟩ := h pn xe tkW po
    exact p.run pins s σ H D I h
  · intro pn xe tkW po
    obtain ⟨t, p, k⟩ := hb _ pn xe tkW po
    refine ⟨t, p, k A ρ cs σ H ok rk hp De ?_⟩
    unfold mTry at h
    cases e : m ρ cs with
    | bad =>
      rw [e] at h
      exact h
    | ok f cs1 =>
      rw [e] at h
      exact h
    | exc x cs1 =>
      rw [e] at h
      exact fun A' H' cls dx s ok' r => kl De A' ρ cs1 σ H' x cls dx ok' (rk.step s) (hP σ A H hp) r (PostS.step (De := De) s h)
end

/-! ### within a named clause: the caught exception's attribute -/
structure EMP (X : Cx) (P : L2.St → List Addr → Hp → Prop) (e : Expr) (m : Rho → M Val) : Prop where
  ex : ∃ t, PE X e t ∧ ∀ A ρ cs σ H, Ok X.K X.mg A cs H → RhoOk X.K X.mg A ρ σ H → P σ A H → ∀ Q, Post X.K X.mg A H Q E0' (m ρ cs) → t σ H Q
structure AMP (X : Cx) (P : L2.St → List Addr → Hp → Prop) (es : List Expr) (m : Rho → M (List Val)) : Prop where
  ex : ∃ t, PA X es t ∧ ∀ A ρ cs σ H, Ok X.K X.mg A cs H → RhoOk X.K X.mg A ρ σ H → P σ A H → ∀ Q, PostA X.K X.mg A H Q E0' (m ρ cs) → t σ H Q
def Mono (P : L2.St → List Addr → Hp → Prop) : Prop := ∀ σ A H A' H', Stp A H A' H' → P σ A H → P σ A' H'
section
variable {X : Cx} {P : L2.St → List Addr → Hp → Prop} {pos : Pos} {a b e : Expr} {es : List Expr} {ma mb : Rho → M Val} {ms : Rho → M (List Val)}
theorem EM.p (h : EM X E0' e ma) : EMP X P e ma := by
  obtain ⟨t, p, k⟩ := h
  exact ⟨t, p, fun A ρ cs σ H ok rk _ => k A ρ cs σ H ok rk⟩
theorem ap_nil : AMP X P [] mNil := ⟨_, pa_nil, fun A ρ cs σ H ok rk _ Q h => h [] A H (Stp.rfl' ok) ok .nil⟩
theorem ap_cons (hP : Mono P) (h : EMP X P e ma) (h2 : AMP X P es ms) (hs : starEach (e :: es) X.env = (false, eval e X.env) :: starEach es X.env := by rfl) : AMP X P (e :: es) (mCons ma ms) := by
  obtain ⟨t, p, k⟩ := h
  obtain ⟨u, p2, k2⟩ := h2
  refine ⟨_, pa_cons p p2 hs, fun A ρ cs σ H ok rk hp Q h => ?_⟩
  refine k A ρ cs σ H ok rk hp _ ((PostX.bind h).step (Stp.rfl' ok) fun sx cs1 q x A1 H1 s1 ok1 r1 => ?_)
  refine k2 A1 ρ cs1 σ H1 ok1 (rk.step s1) (hP _ _ _ _ _ s1 hp) _ ((PostX.bind q).step s1 fun sxs cs2 q2 vs A2 H2 s2 ok2 r2 => ?_)
  exact q2 (x :: vs) A2 H2 (s1.trans s2) ok2 (.cons (r1.step s2) r2)
theorem ep_tup {x1 : Nat} (h : AMP X P es ms) : EMP X P (.Tuple es x1 pos) (mTup ms) := by
  obtain ⟨t, p, k⟩ := h
  refine ⟨_, pe_tup p, fun A ρ cs σ H ok rk hp Q h => ?_⟩
  refine k A ρ cs σ H ok rk hp _ ((PostX.bind h).step (Stp.rfl' ok) fun sxs cs1 q vs A1 H1 s1 ok1 r1 => ?_)
  split at q
  · rename_i hz
    refine ⟨by rw [r1.length]; exact SL_eq ▸ hz, fun p hp => ?_⟩
    exact Post.tup (E := E0') ok1 (fun v A' H' s' => q v A' H' (s1.trans s')) r1 hp
  · exact q.elim
theorem ep_add (hP : Mono P) (ha : EMP X P a ma) (hb : EMP X P b mb) : EMP X P (.BinOp a .Add b pos) (mBin oAdd ma mb) := by
  obtain ⟨r, hr, kr⟩ := om_add (X := X) (E := E0')
  obtain ⟨ta, pa, ka⟩ := ha
  obtain ⟨tb, pb, kb⟩ := hb
  refine ⟨_, pe_op hr pa pb, fun A ρ cs σ H ok rk hp Q h => ?_⟩
  refine ka A ρ cs σ H ok rk hp _ ((PostX.bind h).step (Stp.rfl' ok) fun sx cs1 q x A1 H1 s1 ok1 r1 => ?_)
  refine kb A1 ρ cs1 σ H1 ok1 (rk.step s1) (hP _ _ _ _ _ s1 hp) _ ((PostX.bind q).step s1 fun sy cs2 q2 y A2 H2 s2 ok2 r2 => ?_)
  exact kr A2 cs2 H2 x y sx sy ok2 (Rl.step s2 r1) r2 Q (post_step (s1.trans s2) q2)
theorem ep_callB {x : Str} {id : String} {ob : List Val → M Val} {p : Pos} (hc : CbM X E0' (.builtin id) ob) (hg : Gl X x) (hm : X.mg x = none) (hv : bootBuiltins x = some (.builtin id)) (ha : AMP X P (e :: es) ms) (hn : x ≠ "__name__" := by decide)
    (hdb : (x == ("__debug__" : Str)) = false := by decide) (hst : starEach (e :: es) X.env = (false, eval e X.env) :: starEach es X.env := by rfl) (hs : (backTo pos (starEach es X.env)).any (·.1) = false := by rfl) : EMP X P (.Call (.Name x p) (e :: es) [] pos) (mCall ob ms) := by
  obtain ⟨r, hr, kr⟩ := hc
  obtain ⟨t, pt, k⟩ := ha
  refine ⟨_, pe_callB hr hg hm hv pt hn hdb hst hs, fun A ρ cs σ H ok rk hp Q h => ?_⟩
  refine k A ρ cs σ H ok rk hp _ ((PostX.bind h).step (Stp.rfl' ok) fun sxs cs1 q vs A1 H1 s1 ok1 r1 => ?_)
  exact kr A1 cs1 H1 vs sxs ok1 r1 Q (post_step s1 q)
/-- error.f -/
def mXf (f : Str) (x : Ex) : Rho → M Val := fun _ cs => match x.fs.lookup f with
  | some d => .ok d cs
  | none => .bad
theorem RlD.look {K : PySem.W.Frag} {mg : Str → Option Value} {A : List Addr} {H : Hp} {f : Str} : ∀ {fs : List (Str × V)} {ds : List (Str × Val)}, RlD K mg A H fs ds → ∀ {d : Val}, ds.lookup f = some d → ∃ v, fs.lookup f = some v ∧ Rl K mg A H v d
  | _, _, .nil, d, e => by cases e
  | _, _, .cons (k := g) h t, d, e => by
    rw [List.lookup_cons] at e ⊢
    cases q : f == g with
    | true =>
      rw [q] at e
      cases e
      exact ⟨_, rfl, h⟩
    | false =>
      rw [q] at e
      exact t.look e
theorem ep_xf {a : Addr} {oe : Obj} {cls : Value} {d : Option Addr} {pn : List (Addr × Obj)} {i : Nat} {n f : Str} {x : Ex} {C : Addr} {p1 pos : Pos} (T : XfC X.K C) (hno : PySem.W.findIn X.K (.ref C) f = some none) (hC : cls = .ref C) (hz : Zc cls d oe) (hf : ∃ vs, oe.data = .fields vs)
    (hN : X.N[i]? = some n) (hv : Vis X.env.scope n) (hd : (n == ("__debug__" : Str)) = false) (hcd : (n == ("__classdict__" : Str)) = false) (hb : attributeBase (.Name n p1) f X.env (eval (.Name n p1) X.env) = eval (.Name n p1) X.env := by rfl) :
    EMP (X.suite a ((a, oe) :: pn)) (fun σ A H => σ[i]? = some (some (.ref a)) ∧ PD X.K X.mg d x A H) (.Attribute (.Name n p1) f pos) (mXf f x) := by
  refine ⟨_, pe_xf (X := X) T hno hz hf (pe_var (X := X.suite a ((a, oe) :: pn)) (i := i) hN hv hd hcd) hb, fun A ρ cs σ H ok rk hp Q h => ?_⟩
  obtain ⟨h1, h2⟩ := hp
  refine ⟨.ref a, h1, rfl, hC, ?_⟩
  unfold mXf at h
  split at h
  · rename_i dv el
    rcases h2 with ⟨e1, _⟩ | ⟨dd, vs, e1, e2, e3⟩
    · rw [e1] at el
      cases el
    · obtain ⟨v, l1, l2⟩ := e3.look el
      exact ⟨dd, vs, v, e1, hid_same _ _ e2, l1, Post.ret (E := E0') ok h l2⟩
  · exact h.elim
theorem xmono {K : PySem.W.Frag} {mg : Str → Option Value} {d : Option Addr} {x : Ex} {i : Nat} {a : Addr} : Mono fun σ A H => σ[i]? = some (some (.ref a)) ∧ PD K mg d x A H := fun _ _ _ _ _ s h => ⟨h.1, PD.step s h.2⟩
/-- return e -/
theorem ret_x {i : Nat} {mh : Ex → Rho → M Val} (h : ∀ (a : Addr) (oe : Obj) (cls : Value) (d : Option Addr) (pn : List (Addr × Obj)), Zc cls d oe → (∃ vs, oe.data = .fields vs) → ∀ x : Ex, X.mg x.cls = some cls → EMP (X.suite a ((a, oe) :: pn)) (fun σ A H => σ[i]? = some (some (.ref a)) ∧ PD X.K X.mg d x A H) e (mh x)) :
    RetX X i [.Return (some e) pos] mh := by
  intro a oe cls d pn z1 z2 x hx
  obtain ⟨t, p, k⟩ := h a oe cls d pn z1 z2 x hx
  exact ⟨_, pss_one (ps_ret p), fun A ρ cs σ H ok rk hs hp De q => k A ρ cs σ H ok rk ⟨hs, hp⟩ _ q⟩
end
end Py
set_option maxHeartbeats 2000000
/-! a lambda without parameters handed to a def that calls it once, in a try -/
namespace Py
open PySem PySem.Spec PyProof.Rows L2 LamX
open Mir (SL SL_eq)
variable [Tb]

theorem takes_len {X : Cx} {W : WX} (t : Takes X W) : Takes X (fun c d σ H => σ.length = X.N.length → W c d σ H) := fun u s' ⟨a, B, sI, pins, σ, H, cls, d, e, I, nb, up, sky, na, os, ag, w⟩ =>
  t u s' ⟨a, B, sI, pins, σ, H, cls, d, e, I, nb, up, sky, na, os, ag, w I.len⟩
/-- what the lambda's reading is worth, from a state on -/
def TL (K : PySem.W.Frag) (mg : Str → Option Value) (tl : XK → Hp → VK → Prop) (th : M Val) (A : List Addr) (H : Hp) : Prop :=
  ∀ A' cs' H', Stp A H A' H' → Ok K mg A' cs' H' → ∀ E' Q', Post K mg A' H' Q' E' (th cs') → tl E' H' Q'
/-- the def: the try around the call, what follows -/
def mHeard (N : Nat) (isA : Str → Str → Option Bool) (hl : List (Str × Option Nat × (Ex → Rho → M Fl))) (mr : Rho → M Fl) (th : M Val) : M Val := fun cs =>
  fin (sSeq (mTry isA (fun ρ cs => (th cs).bind fun _ cs1 => .ok (.nx ρ) cs1) hl) mr (List.replicate N none) cs)
def TTm (K : PySem.W.Frag) (mg : Str → Option Value) (mh : M Val → M Val) : (XK → Hp → VK → Prop) → Hp → VK → Prop := fun tl H Q =>
  ∃ A cs th, Ok K mg A cs H ∧ TL K mg tl th A H ∧ Post K mg A H Q E0' (mh th cs)
theorem rho_none {K : PySem.W.Frag} {mg : Str → Option Value} {A : List Addr} {H : Hp} {σ : L2.St} {n : Nat} (h : σ.length = n) : RhoOk K mg A (List.replicate n none) σ H := by
  refine ⟨by rw [List.length_replicate, h], fun i d e => ?_⟩
  rw [List.getElem?_replicate] at e
  split at e
  · cases e
  · cases e
section
variable {X : Cx} {isA : Str → Str → Option Bool}
theorem gives {Ng : List Str} {x a q : Str} {sg : Scope} {g : Addr} {cdg : Value} {h₀ : ExceptHandler} {hds : List ExceptHandler} {rest : List Stmt} {hl : List (Str × Option Nat × (Ex → Rho → M Fl))} {mr : Rho → M Fl} {p1 p2 p3 p4 : Pos} (h0 : ∀ f : Addr, (L2.start Ng [V.ref f])[0]? = some (some (V.ref f))) (hlen : ∀ f : Addr, (L2.start Ng [V.ref f]).length = Ng.length)
    (hh : ∀ (s : Shared) (H : Hp), HM (cxOf C8.CX0 X.prog X.w X.K X.mg X.base Ng x sg g cdg X.A X.stack s H C8.E0).nox isA (h₀ :: hds) hl)
    (hr : ∀ (s : Shared) (H : Hp), BM (cxOf C8.CX0 X.prog X.w X.K X.mg X.base Ng x sg g cdg X.A X.stack s H C8.E0).nox E0' rest mr)
    (hsw : ∀ (s : Shared) (H : Hp), swapsWith (.Call (.Name a p1) [] [] p2) none p3.line (cxOf C8.CX0 X.prog X.w X.K X.mg X.base Ng x sg g cdg X.A X.stack s H C8.E0).env = pure false) :
    GivesTo X Ng x sg g cdg (.Try [.Expr (.Call (.Name a p1) [] [] p2) p3] (h₀ :: hds) [] [] p4 :: rest) a q (TTm X.K X.mg (mHeard Ng.length isA hl mr)) := by
  intro f c' s H Q tl act hc' hyp
  obtain ⟨A, cs, th, ok, htl, hp⟩ := hyp
  have hc : hid A H c' = some (CodeO c' q) ∨ True := .inr trivial
  obtain ⟨l, hl', kl⟩ := hm_ok (E := E0') (hh s H)
  obtain ⟨u, pu, ku⟩ := hr s H
  refine ⟨_, pss_cons (ps_mix (X := (cxOf C8.CX0 X.prog X.w X.K X.mg X.base Ng x sg g cdg X.A X.stack s H C8.E0).nox)
      (tb := fun W D σ H => σ[0]? = some (some (.ref f)) ∧ H c' = some (CodeO c' q) ∧ tl (fun c d H' => ∀ σ' : L2.St, σ'.length = Ng.length → W c d σ' H') H fun _ H1 => D.nx σ H1) rfl rfl tk0 (fun W pn xe tkW po => ?_) hl') pu, ?_⟩
  · exact pss_one (ps_expr (act _ pn xe _ p1 p2 (takes_len tkW) fun cls d σ' H' z hz => z σ' hz) (hsw s H))
  · refine ⟨h0 f, hc', htl A cs H (Stp.rfl' ok) ok _ _ ?_⟩
    unfold mHeard at hp
    have hp2 := fin_ok hp
    have hp3 := PostX.bind hp2
    have em : mTry isA (fun ρ cs => (th cs).bind fun _ cs1 => .ok (.nx ρ) cs1) hl (List.replicate Ng.length none) cs = (match th cs with
      | .bad => .bad
      | .exc x c => pick isA hl x (List.replicate Ng.length none) c
      | .ok _ c => .ok (.nx (List.replicate Ng.length none)) c) := by
      unfold mTry
      dsimp only
      cases th cs <;> rfl
    rw [em] at hp3
    cases e : th cs with
    | bad =>
      rw [e] at hp3
      exact hp3.elim
    | ok d cs1 =>
      rw [e] at hp3
      intro v A1 H1 s1 ok1 _
      exact ku A1 _ cs1 _ H1 ok1 (rho_none (hlen f)) _ (PostS.step s1 hp3)
    | exc xx cs1 =>
      rw [e] at hp3
      intro A1 H1 cls dx s1 ok1 rx σ' hσ
      refine kl _ A1 (List.replicate Ng.length none) cs1 σ' H1 xx cls dx ok1 (rho_none hσ) hσ rx ?_
      replace hp3 : PostX X.K X.mg A H E0' (fun x cs1 => PostS X.K X.mg A H { nx := fun _ H' => Q .non H', rt := Q } E0' (match x with
        | .nx ρ1 => mr ρ1 cs1
        | x => .ok x cs1)) (pick isA hl xx (List.replicate Ng.length none) cs1) := hp3
      refine PostX.step s1 (fun fl cs2 q2 => ?_) hp3
      cases fl with
      | nx ρ1 => exact fun σ4 A4 H4 s4 ok4 rk4 => ku A4 ρ1 cs2 σ4 H4 ok4 rk4 _ (PostS.step (s1.trans s4) q2)
      | rt d => exact fun v A4 H4 s4 ok4 r4 => q2 v A4 H4 (s1.trans s4) ok4 r4
      | bk ρ1 => exact fun σ4 A4 H4 s4 ok4 rk4 => q2 σ4 A4 H4 (s1.trans s4) ok4 rk4
      | ct ρ1 => exact fun σ4 A4 H4 s4 ok4 rk4 => q2 σ4 A4 H4 (s1.trans s4) ok4 rk4
/-! the tables of code objects stand ahead of all handles, in their sequence -/
def tabsAt : List Str → Mem → Bool
  | [], cs => cs.all fun c => match c with
    | .tab _ => false
    | _ => true
  | q :: r, .tab q' :: cs => decide (q' = q) && tabsAt r cs
  | _ :: _, _ => false
theorem tabs_get : ∀ {Ts : List Str} {cs : Mem}, tabsAt Ts cs = true → ∀ (i : Nat) (q : Str), Ts[i]? = some q → cs[i]? = some (.tab q)
  | [], _, _, _, _, e => by simp at e
  | q :: r, .tab q' :: cs, h, i, q2, e => by
    rw [tabsAt, Bool.and_eq_true] at h
    cases i with
    | zero =>
      simp at e ⊢
      rw [← e]
      exact of_decide_eq_true h.1
    | succ i => exact tabs_get h.2 i q2 (by simpa using e)
  | _ :: _, [], h, _, _, _ => by cases h
  | _ :: _, .lst _ :: _, h, _, _, _ => by cases h
  | _ :: _, .dct _ :: _, h, _, _, _ => by cases h
  | _ :: _, .dtt _ :: _, h, _, _, _ => by cases h
  | _ :: _, .obj _ _ :: _, h, _, _, _ => by cases h
theorem tabs_mem : ∀ {Ts : List Str} {cs : Mem}, tabsAt Ts cs = true → ∀ (i : Nat) (q : Str), cs[i]? = some (.tab q) → q ∈ Ts
  | [], cs, h, i, q, e => by
    have := List.all_eq_true.mp (show cs.all _ = true from h) _ (List.mem_of_getElem? e)
    cases this
  | q :: r, .tab q' :: cs, h, i, q2, e => by
    rw [tabsAt, Bool.and_eq_true] at h
    cases i with
    | zero =>
      simp at e
      rw [← e, of_decide_eq_true h.1]
      exact List.mem_cons_self
    | succ i => exact List.mem_cons_of_mem _ (tabs_mem h.2 i q2 (by simpa using e))
  | _ :: _, [], h, _, _, _ => by cases h
  | _ :: _, .lst _ :: _, h, _, _, _ => by cases h
  | _ :: _, .dct _ :: _, h, _, _, _ => by cases h
  | _ :: _, .dtt _ :: _, h, _, _, _ => by cases h
  | _ :: _, .obj _ _ :: _, h, _, _, _ => by cases h
def tabL (Ts : List Str) : List (Addr × Str) := Ts.map fun q => (Tb.ad q, q)
theorem tabs_grow {K : PySem.W.Frag} {mg : Str → Option Value} {A : List Addr} {cs : Mem} {H H1 : Hp} {Ts : List Str} (ok : Ok K mg A cs H) (ht : tabsAt Ts cs = true) (eN : ExtN H H1) (T1 : Tabs (tabL Ts) H1) : Stp A H A H1 ∧ Ok K mg A cs H1 := by
  have st : Stp A H A H1 := ⟨⟨[], by simp, by simp⟩, fun b o _ no e => eN b o e no, fun b _ o no e => ⟨o, no, eN b o e no⟩⟩
  have stay : ∀ {b : Addr} {cc : Cel}, HcAt K mg A H b cc → (∃ r, cc = .tab r) ∨ (H1 b = H b ∧ ∃ o, H b = some o ∧ ∀ φ, o ≠ .ext φ) := by
    intro b cc hcc
    cases cc with
    | lst l =>
      obtain ⟨vs, z, _⟩ := hcc
      exact .inr ⟨(eN b _ z (fun _ q => by cases q)).trans z.symm, _, z, fun _ q => by cases q⟩
    | dct l =>
      obtain ⟨vs, z, _⟩ := hcc
      exact .inr ⟨(eN b _ z (fun _ q => by cases q)).trans z.symm, _, z, fun _ q => by cases q⟩
    | dtt l =>
      obtain ⟨vs, z, _⟩ := hcc
      exact .inr ⟨(eN b _ z (fun _ q => by cases q)).trans z.symm, _, z, fun _ q => by cases q⟩
    | obj c l =>
      obtain ⟨C, dx, vs, z, _⟩ := hcc
      exact .inr ⟨(eN b _ z (fun _ q => by cases q)).trans z.symm, _, z, fun _ q => by cases q⟩
    | tab r => exact .inl ⟨r, rfl⟩
  have tb : ∀ {i : Nat} {a : Addr} {r : Str}, A[i]? = some a → cs[i]? = some (.tab r) → a = Tb.ad r ∧ TabS H1 a r := by
    intro i a r e1 e2
    obtain ⟨ea, _⟩ := ok.at i a _ e1 e2
    refine ⟨ea, ?_⟩
    rw [ea]
    exact T1 (Tb.ad r, r) (List.mem_map.mpr ⟨r, tabs_mem ht i r e2, rfl⟩)
  have noext : ∀ {b : Addr}, b ∈ A → ∀ φ, H1 b ≠ some (.ext φ) := by
    intro b hb φ z
    obtain ⟨k, hk, e⟩ := List.getElem_of_mem hb
    have h1 : A[k]? = some b := by rw [List.getElem?_eq_getElem hk, e]
    obtain ⟨cc, ec, hcc⟩ := ok.hc h1
    rcases stay hcc with ⟨r, rfl⟩ | ⟨q1, o, q2, q3⟩
    · obtain ⟨_, ps, q, _⟩ := tb h1 ec
      rw [q] at z
      cases z
    · rw [q1, q2] at z
      exact q3 φ (Option.some.inj z)
  refine ⟨st, ok.len, ok.nd, fun k a c e1 e2 => ?_⟩
  have h := ok.at k a c e1 e2
  rcases stay h with ⟨r, rfl⟩ | ⟨q1, _⟩
  · obtain ⟨ea, ps, h1, h2, h3⟩ := tb e1 e2
    refine ⟨ea, ps, h1, h2, fun pos cv hc => ?_⟩
    obtain ⟨c, w1, w2⟩ := h3 pos cv hc
    exact ⟨c, w1, hid_in (fun z => noext z _ w2) w2 (fun ps q => codeO_ne ps q)⟩
  · exact h.mono Pre.refl (Stp.sm st) q1
/-- x(lambda: body): mh is the def -/
def mLam (Ts : List Str) (mh : M Val → M Val) (mb : Rho → M Val) : Rho → M Val := fun ρ cs => if tabsAt Ts cs = true then noX (mh (mb ρ) cs) else .bad
theorem em_lam {E : XK} {Ts : List Str} {mh : M Val → M Val} {mb : Rho → M Val} {x a : Str} {g c : Addr} {j : Nat} {pg : Arguments} {bg : List Stmt} {sg : Scope} {dV kV doc pm cdv ct oc : Value} {an od : Option Addr} {osl : Array (Option Value)} {Ng : List Str}
    {params : Arguments} {body : Expr} {scope : Scope} {p lpos pos : Pos} (hg : Gl X x) (hm : X.mg x = some (.ref g)) (hk : PySem.W.keepIn X.K (.ref g) = true)
    (lk : X.K.lookup g = some ⟨oc, od, .func (PySem.W.fnOf x x pg bg sg dV kV doc pm an cdv ct), osl⟩) (hcg : PySem.W.codeIn X.K cdv x = true) (hb : L2.Binds X.K (PySem.W.fnOf x x pg bg sg dV kV doc pm an cdv ct) [a] []) (Sg : FnScope Ng [a] sg) (hNg : Ng[0]? = some a) (hva : Vis sg a)
    (hG : GivesTo X Ng x sg g cdv bg a (X.env.qual ++ "<lambda>") (TTm X.K X.mg mh))
    (hq : X.env.qual ++ "<lambda>" ∈ Ts) (hinj : ∀ q1 ∈ Ts, ∀ q2 ∈ Ts, Tb.ad q1 = Tb.ad q2 → q1 = q2)
    (TB : TabB X.base X.mg c (Tb.ad (X.env.qual ++ "<lambda>"))) (hcode : X.env.code = .ref c) (hr : Room (j + 2) X.A) (L : LamS X.env.scope scope) (hdef : defaultsOf params X.env = ([], []))
    (hbind : ∀ (q : Str) (cl : List (Str × Addr)) (pm cv ctv : Value), bindArgs (PySem.W.kla_fn "<lambda>" q params body scope cl pm cv ctv) ⟨[], []⟩ = pure [])
    (hbody : ∀ (A : Around) (outer : List Env) (s : Shared) (H : Hp) (E : XK) (f c' : Addr), Room j (A.deeper (lamEnv X scope s.heap.objs.size f c')) → EM (lamCx X A outer s H E scope f c') E body mb)
    (hdb : (x == ("__debug__" : Str)) = false := by decide) (hd : (a == ("__debug__" : Str)) = false := by decide) (hcd : (a == ("__classdict__" : Str)) = false := by decide) :
    EM X E (.Call (.Name x p) [.Lambda params body scope lpos] [] pos) (mLam Ts mh mb) := by
  refine em_of (pe_lamcall (T := tabL Ts) (t := fun E => tEm X.K X.mg E mb) hg hm hk lk hcg hb Sg hNg hva hG TB hcode (List.mem_map.mpr ⟨_, hq, rfl⟩) (fun p hp e => ?_) hr L hdef hbind (fun A outer s H E f c' hr' => (hbody A outer s H E f c' hr').pe) hdb hd hcd) fun A ρ cs σ H ok rk Q h => ?_
  · obtain ⟨q, h1, h2⟩ := List.mem_map.mp hp
    rw [← h2] at e ⊢
    exact hinj _ h1 _ hq e
  unfold mLam at h
  split at h
  · rename_i ht
    refine ⟨fun p hp => ?_, fun H1 eN T1 => ?_⟩
    · obtain ⟨q, h1, h2⟩ := List.mem_map.mp hp
      obtain ⟨i, hi, e⟩ := List.getElem_of_mem h1
      have e1 : cs[i]? = some (.tab q) := tabs_get ht i q (by rw [List.getElem?_eq_getElem hi, e])
      have hlt : i < A.length := by
        rw [ok.len]
        exact (List.getElem?_eq_some_iff.mp e1).1
      obtain ⟨ea, ps, g1, g2, g3⟩ := ok.at i A[i] _ (List.getElem?_eq_getElem hlt) e1
      rw [← h2]
      refine ⟨ps, by rw [← ea]; exact g1, g2, fun pos cv hc => ?_⟩
      obtain ⟨c, w1, w2⟩ := g3 pos cv hc
      exact ⟨c, w1, hid_same _ _ w2⟩
    · obtain ⟨st, ok1⟩ := tabs_grow ok ht eN T1
      refine ⟨A, cs, mb ρ, ok1, fun A' cs' H' s' ok' E' Q' hp => ⟨A', ρ, cs', ok', (rk.step st).step s', hp⟩, ?_⟩
      exact post_step st (noX_of (E' := E0') h)
  · exact h.elim
end
end Py
set_option maxHeartbeats 2000000
/-! isinstance against the kinds of the built-in values; repr, where no other repr runs -/
namespace Py
open PySem PySem.Spec PyProof.Rows L2
open Mir (SL SL_eq isT kit_is)
variable [Tb]

/-- a value's kind, where it has one of these -/
def tyV : Val → Mem → Option String
  | .non, _ => some "NoneType"
  | .bl _, _ => some "bool"
  | .int _, _ => some "int"
  | .str _, _ => some "str"
  | .tup _, _ => some "tuple"
  | .scr _, _ => none
  | .h k, cs => match cs[k]? with
    | some (.lst _) => some "list"
    | some (.dct _) => some "dict"
    | some (.dtt _) => some "dict"
    | _ => none
  | .fn _, _ => none
  | .ex0 _, _ => none
  | .ex1 _ _ _, _ => none
def mIsi (u : String) (ma : Rho → M Val) : Rho → M Val := fun ρ cs => (ma ρ cs).bind fun x cs1 => match tyV x cs1 with
  | some t => .ok (.bl (isT t u)) cs1
  | none => .bad
section
variable {X : Cx} {E : XK} {pos : Pos} {e : Expr} {es : List Expr} {ma : Rho → M Val}
theorem em_isi {u : String} {n : Str} {p p2 : Pos} (hu : u = "int" ∨ u = "bool" ∨ u = "str" ∨ u = "tuple" ∨ u = "list" ∨ u = "dict") (hg : Gl X "isinstance") (hm : X.mg "isinstance" = none) (hg2 : Gl X n) (hm2 : X.mg n = none) (hv2 : bootBuiltins n = some (.type u)) (ha : EM X E e ma)
    (hn2 : n ≠ "__name__" := by decide) (hd2 : (n == ("__debug__" : Str)) = false := by decide)
    (hst : starEach [e, .Name n p2] X.env = (false, eval e X.env) :: starEach [.Name n p2] X.env := by rfl) (hst2 : starEach [.Name n p2] X.env = (false, eval (.Name n p2) X.env) :: starEach [] X.env := by rfl) (hs : (backTo pos (starEach [.Name n p2] X.env)).any (·.1) = false := by rfl) :
    EM X E (.Call (.Name "isinstance" p) [e, .Name n p2] [] pos) (mIsi u ma) := by
  obtain ⟨t, pt, k⟩ := ha
  refine em_of (pe_callB call_isi hg hm (by decide +kernel) (pa_cons pt (pa_cons (pe_bltn (v := .ty u) hg2 hm2 hv2 rfl hn2 hd2) pa_nil hst2) hst) (by decide) (by decide) hst hs) fun A ρ cs σ H ok rk Q h => ?_
  refine k A ρ cs σ H ok rk _ ((PostX.bind h).step (Stp.rfl' ok) fun sx cs1 q x A1 H1 s1 ok1 r1 => ?_)
  cases et : tyV sx cs1 with
  | none =>
    rw [et] at q
    exact q.elim
  | some t0 =>
    rw [et] at q
    have fin : TyX X.K H1 x (.type t0) → (t0 = "NoneType" ∨ t0 = "bool" ∨ t0 = "int" ∨ t0 = "str" ∨ t0 = "list" ∨ t0 = "tuple" ∨ t0 = "dict") → rIsi X.K [x, V.ty u] H1 Q := fun ty ht =>
      ⟨x, .ty u, .type t0, .type u, isT t0 u, rfl, .ty u, ty, kit_is ht hu, q _ A1 H1 s1 ok1 (.bl _)⟩
    cases r1 with
    | non => cases et; exact fin (.base .non) (by simp)
    | bl b => cases et; exact fin (.base (.bl b)) (by simp)
    | int i => cases et; exact fin (.base (.int i)) (by simp)
    | str z => cases et; exact fin (.base (.str z)) (by simp)
    | tup h t =>
      cases et
      refine fin ?_ (by simp)
      rcases Mir.SqT.same hid_same h with (h | ⟨o, h⟩) | ⟨o, its, n, hk, hc, _⟩
      · exact .base (.tup h)
      · exact .fTuple h
      · exact .kTuple hk hc
    | fn _ _ => cases et
    | scr h => cases et
    | ex0 _ _ => cases et
    | ex1 _ _ _ _ => cases et
    | hdl ea =>
      obtain ⟨c, ec, hc⟩ := ok1.hc ea
      replace et : (match cs1[_]? with
        | some (Cel.lst _) => some "list"
        | some (Cel.dct _) => some "dict"
        | some (Cel.dtt _) => some "dict"
        | _ => none) = some t0 := et
      rw [ec] at et
      cases c with
      | lst l =>
        cases et
        obtain ⟨vs, h1, h2⟩ := hc
        exact fin (.base (.lst h1)) (by simp)
      | dct l =>
        cases et
        obtain ⟨vs, h1, h2⟩ := hc
        exact fin (.base (.dK h1)) (by simp)
      | dtt l =>
        cases et
        obtain ⟨vs, h1, h2⟩ := hc
        exact fin (.base (.dT h1)) (by simp)
      | _ => cases et
/-! ### repr -/
mutual
theorem sh_dp {K : PySem.W.Frag} {H : Hp} : ∀ {d : PyData} {v : V}, Mir.Sh K H v d → d.hasDict = false → Dp K H v d
  | _, _, .non, _ => .non
  | _, _, .bl b, _ => .bl b
  | _, _, .int i, _ => .int i
  | _, _, .str x, _ => .str x
  | _, _, .lst h t, c => .lst (.inl (.inl h)) (sh_dps t (by simpa [PyData.hasDict] using c))
  | _, _, .tup h t, c => .tup h (sh_dps t (by simpa [PyData.hasDict] using c))
  | _, _, .dic h t, c => by simp [PyData.hasDict] at c
theorem sh_dps {K : PySem.W.Frag} {H : Hp} : ∀ {ds : List PyData} {vs : List V}, Mir.ShA K H vs ds → PyData.hasDictAll ds = false → DpAll K H vs ds
  | _, _, .nil, _ => .nil
  | _, _, .cons h t, c => by
    simp only [PyData.hasDictAll, Bool.or_eq_false_iff] at c
    exact .cons (sh_dp h c.1) (sh_dps t c.2)
end
def RepOk (d : PyData) : Bool := d.showable && !d.hasDict && decide (d.depth ≤ 50) && decide (d.shown.length ≤ SL)
def rRepr (K : PySem.W.Frag) : List V → Hp → VK → Prop := fun xs H Q => ∃ v d, xs = [v] ∧ Mir.Sh K H v d ∧ RepOk d = true ∧ Q (.str d.shown) H
theorem call_repr (hg : X.A.guards = some []) (hu : X.A.units + 64 < cLine) : CallR X (.builtin "repr") (rRepr X.K) := by
  intro pins s σ H xs us Q I r h
  obtain ⟨v, d, rfl, hs, hd, q⟩ := h
  obtain ⟨u, rfl, rv⟩ := vals1 r
  simp only [RepOk, Bool.and_eq_true, decide_eq_true_eq, Bool.not_eq_true'] at hd
  obtain ⟨⟨⟨h1, h2⟩, h3⟩, h4⟩ := hd
  have h5 : d.shown.length ≤ sizeLine := SL_eq ▸ h4
  cases hs with
  | non =>
    cases rv
    exact PySem.P.repr_of_none ⟨.str _, H, I.tok _, ⟨_, rfl⟩, q⟩
  | bl b =>
    cases rv
    exact PySem.P.repr_of_bool ⟨.str _, H, I.tok _, ⟨_, rfl⟩, by cases b <;> exact q⟩
  | int i =>
    obtain ⟨t, rfl⟩ := rv
    exact PySem.P.repr_of_int (by simpa [PyData.showable] using h1) ⟨.str _, H, I.tok _, ⟨_, rfl⟩, q⟩
  | str x =>
    obtain ⟨t, rfl⟩ := rv
    exact PySem.P.repr_of_str ⟨.str _, H, I.tok _, ⟨_, rfl⟩, q⟩ h5
  | lst ha hb =>
    cases rv
    obtain ⟨as, rd⟩ := Dp.reads I _ _ _ (sh_dp (Mir.Sh.lst ha hb) h2) rfl
    exact repr_of_reads' rd h1 (PyData.noDict_hsm h2) hg (by omega) (fun _ _ e => e) (fun h' u tk hk => ⟨.str _, H, I.kept hk, ⟨_, rfl⟩, q⟩) h5
  | tup ha hb =>
    cases rv
    obtain ⟨as, rd⟩ := Dp.reads I _ _ _ (sh_dp (Mir.Sh.tup ha hb) h2) rfl
    exact repr_of_reads' rd h1 (PyData.noDict_hsm h2) hg (by omega) (fun _ _ e => e) (fun h' u tk hk => ⟨.str _, H, I.kept hk, ⟨_, rfl⟩, q⟩) h5
  | dic ha hb => simp [PyData.hasDict] at h2
def bRepr : List Val → M Val := fun ds cs => match ds with
  | [x] => match snap DEP cs x with
    | some d => if RepOk d = true then .ok (.str d.shown) cs else .bad
    | none => .bad
  | _ => .bad
theorem cb_repr (hg : X.A.guards = some []) (hu : X.A.units + 64 < cLine) : CbM X E (.builtin "repr") bRepr := by
  refine ⟨_, call_repr hg hu, fun A cs H vs ds ok rs Q h => ?_⟩
  unfold bRepr at h
  split at h
  · obtain ⟨v, rfl, r⟩ := one_of rs
    split at h
    · rename_i d ed
      split at h
      · rename_i hz
        exact ⟨v, d, rfl, snap_sh ok _ _ _ _ r ed, hz, Post.ret ok h (.str _)⟩
      · exact h.elim
    · exact h.elim
  · exact h.elim
end
end Py
set_option maxHeartbeats 2000000
/-! defs that are called where no repr runs; a law's end with them -/
namespace Py
open PySem PySem.Spec PyProof.Rows L2 LamX
open Mir (SL SL_eq)

/-- as FnOk, asked only where it is known that no repr runs around -/
structure FnG (P : Program) (w : World) (K : PySem.W.Frag) (mg : Str → Option Value) (base : Heap) (CX : CXT) (k : Nat) (f : Addr) (fd : FuncData) (ps : List Str) (sp : Sp) : Prop where
  len : ∀ vs H Q E, sp vs H Q E → vs.length = ps.length
  go : ∀ (A : Around), A.guards = some [] → Room k A → ∀ (up : List Env) (s : Shared) (H : Hp), Env0 P w K mg base A up s H → ∀ (ar : Args) (us : List Value) (vs : List V), Vals vs us → BindsTo s fd ar (ps.zip us) → ∀ (Q : VK) (E : XK), sp vs H Q E →
    codeAny (model P w) A (.call (.ref f) ar) (CR CX up P w H s Q E) s
section
variable {P : Program} {w : World} {K : PySem.W.Frag} {mg : Str → Option Value} {base : Heap} {CX : CXT}
theorem FnG.imp {k : Nat} {f : Addr} {fd : FuncData} {ps : List Str} {sp sp' : Sp} (F : FnG P w K mg base CX k f fd ps sp) (h : ∀ vs H Q E, sp' vs H Q E → sp vs H Q E) : FnG P w K mg base CX k f fd ps sp' :=
  ⟨fun vs H Q E q => F.len vs H Q E (h _ _ _ _ q), fun A g r up s H e ar us vs rv b Q E q => F.go A g r up s H e ar us vs rv b Q E (h _ _ _ _ q)⟩
theorem fng {k : Nat} {x qual : Str} {st : Stmt} {f : Addr} {N ps : List Str} {sp : Sp} {oc kV doc pm cdv ct : Value} {od an : Option Addr} {osl : Array (Option Value)} (lk : K.lookup f = some ⟨oc, od, .func (PySem.W.fnOf x qual (defArgs st) (defBody st) (defScope st) .none kV doc pm an cdv ct), osl⟩) (hcd : PySem.W.codeIn K cdv qual = true)
    (S : FnScope N ps (defScope st)) (len : ∀ vs H Q E, sp vs H Q E → vs.length = ps.length)
    (body : ∀ (A : Around), A.guards = some [] → ∀ (up : List Env) (s : Shared) (H : Hp) (vs : List V) (Q : VK) (E : XK), Room k (A.deeper (envOfC qual (defScope st) s.heap.objs.size f cdv)) → sp vs H Q E →
      ∃ t, PSs (cxOf CX P w K mg base N qual (defScope st) f cdv A up s H E) (defBody st) t ∧ t { nx := fun _ H' => Q .non H', rt := Q } (start N vs) H) : FnG P w K mg base CX (k + 1) f (PySem.W.fnOf x qual (defArgs st) (defBody st) (defScope st) .none kV doc pm an cdv ct) ps sp := by
  refine ⟨len, fun A ga room up s H env ar us vs rv bt Q E q => ?_⟩
  have inK : K.In s.heap := env.mod.kin.keeps fun b o z => (env.bs b o z).1
  have kinds : ∀ y ∈ ps.zip us, (defScope st).names.lookup y.1 = some .local ∨ ((defScope st).names.lookup y.1 = some .cell ∧ ((cellsFrom (s.heap.objs.size + 1) (defScope st).names []).lookup y.1).isSome = true) := by
    rintro ⟨n, v⟩ hy
    have hn := (List.of_mem_zip hy).1
    exact (S.par n hn).imp id fun z => ⟨z, PySem.W.cellsFrom_some _ _ _ (.inl z)⟩
  refine codeAny_call_function room.depth (inK _ _ lk) rfl S.co S.gen rfl (PySem.W.codeRec_of inK hcd) (bt _ _ _ _ (wpAny_newFunctionEnv_cells S.kind kinds ?_))
  rintro _ rfl s1 xx
  refine ⟨(env.mod.nolimit.keeps fun b o z => (env.bs b o z).1).keeps xx.toInCall.keep, codeAny_func ?_⟩
  obtain ⟨t, pt, ht⟩ := body A ga up s H vs Q E (room.deeper _) q
  refine wpAny_mono (pt.run [] s1 (start N vs) H _ (inv_start S room.hd env (len _ _ _ _ q) rv xx) ht) ?_ fun _ _ z => z
  rintro (_ | _ | _ | u) s' hs
  · obtain ⟨σ', H', J, z⟩ := hs
    exact ⟨.non, H', J.os, J.bare, J.base, J.hok, rfl, z⟩
  · exact hs.elim fun _ z => z.elim fun _ z => z.2.elim
  · exact hs.elim fun _ z => z.elim fun _ z => z.2.elim
  · obtain ⟨v, σ', H', J, ru, z⟩ := hs
    exact ⟨v, H', J.os, J.bare, J.base, J.hok, ru, z⟩
end
section
variable {X : Cx} {CX : CXT} {k : Nat} {f : Addr} {fd : FuncData} {ps : List Str} {sp : Sp} {E : XK} {x : Str} {p pos : Pos} {e : Expr} {es : List Expr} {t : TA}
theorem runG {pins : List (Addr × Obj)} {σ : L2.St} {H : Hp} {s : Shared} {Q : VK} {us : List Value} {vs : List V} (F : FnG X.prog X.w X.K X.mg X.base CX k f fd ps sp) (ga : X.A.guards = some []) (room : Room k X.A) (hb : Binds X.K fd ps []) (hx : Passes CX X E)
    (I : Inv X pins σ H s) (rv : Vals vs us) (q : sp vs H Q E) : wpAny (model X.prog X.w) X.A (call (.ref f) us) (EP X pins σ Q) X.xe s := by
  have bt := hb s us I.kIn (by rw [List.append_nil, ← rv.length]; exact F.len _ _ _ _ q)
  rw [List.append_nil] at bt
  refine wpAny_call (codeAny_mono (F.go X.A ga room X.stack s H I.env0 ⟨us, []⟩ us vs rv bt Q E q) ?_)
  rintro (er | _ | _ | _ | u) s' z
  · exact hx pins σ H s er s' I z
  · exact (show False from z).elim
  · exact (show False from z).elim
  · exact (show False from z).elim
  · exact I.after z
theorem pe_callG (F : FnG X.prog X.w X.K X.mg X.base CX k f fd ps sp) (ga : X.A.guards = some []) (room : Room k X.A) (hg : Gl X x) (hm : X.mg x = some (.ref f)) (hk : PySem.W.keepIn X.K (.ref f) = true) (hb : Binds X.K fd ps []) (hx : Passes CX X E)
    (ha : PA X (e :: es) t) (hdb : (x == ("__debug__" : Str)) = false) (hst : starEach (e :: es) X.env = (false, eval e X.env) :: starEach es X.env) (hpl : (backTo pos (starEach es X.env)).any (·.1) = false) :
    PE X (.Call (.Name x p) (e :: es) [] pos) (fun σ H Q => t σ H fun vs H1 => sp vs H1 Q E) :=
  ⟨fun pins s σ H Q I h => wpAny_Call_Name_kw (ld_glob I hg hm (PySem.W.callWith_K (h₀ := X.base) I.ok.mod.kin hk (thn (ha.run pos pins s σ H _ I h) fun us s1 z => z.elim fun vs z => z.elim fun H1 z =>
    ⟨z.1.kIn, runG F ga room hb hx z.1 z.2.1 z.2.2⟩) hst hpl) hdb)⟩
end
variable [Tb]
/-- a def of the text whose code object lies at c -/
structure AtL (K : PySem.W.Frag) (mg : Str → Option Value) (x : Str) (st : Stmt) (ps : List Str) (c : Addr) : Prop where
  ex : ∃ (f : Addr) (oc kV doc pm ct : Value) (od an : Option Addr) (osl : Array (Option Value)), mg x = some (.ref f) ∧ K.lookup f = some ⟨oc, od, .func (PySem.W.fnOf x x (defArgs st) (defBody st) (defScope st) .none kV doc pm an (.ref c) ct), osl⟩ ∧ PySem.W.codeIn K (.ref c) x = true ∧
    PySem.W.keepIn K (.ref f) = true ∧ Binds K (PySem.W.fnOf x x (defArgs st) (defBody st) (defScope st) .none kV doc pm an (.ref c) ct) ps []
/-- by its name -/
structure DfG (P : Program) (w : World) (K : PySem.W.Frag) (mg : Str → Option Value) (base : Heap) (x : Str) (k n : Nat) (m : List Val → M Val) : Prop where
  ex : ∃ f fd ps, FnG P w K mg base (L2.CX P w) k f fd ps (spM K mg n m) ∧ mg x = some (.ref f) ∧ PySem.W.keepIn K (.ref f) = true ∧ Binds K fd ps []
section
variable {P : Program} {w : World} {K : PySem.W.Frag} {mg : Str → Option Value} {base : Heap}
theorem DfG.mk' {x : Str} {st : Stmt} {N ps : List Str} {k : Nat} {c : Addr} {mb : Rho → M Fl} (a : AtL K mg x st ps c) (S : FnScope N ps (defScope st))
    (hb : ∀ (f : Addr) (A : Around) (outer : List Env) (s : Shared) (H : Hp) (E : XK), A.guards = some [] → Room k (A.deeper (envOfC x (defScope st) s.heap.objs.size f (.ref c))) → TakesE (cxOf (L2.CX P w) P w K mg base N x (defScope st) f (.ref c) A outer s H E) E →
      BM (cxOf (L2.CX P w) P w K mg base N x (defScope st) f (.ref c) A outer s H E) E (defBody st) mb) : DfG P w K mg base x (k + 1) ps.length (mDef N.length mb) := by
  obtain ⟨f, oc, kV, doc, pm, ct, od, an, osl, hm, lk, hcd, kp, hB⟩ := a
  refine ⟨f, _, ps, fng lk hcd S (fun vs H Q E h => ?_) (fun A ga outer s H vs Q E hr h => ?_), hm, kp, hB⟩
  · obtain ⟨A, cs, ds, _, hs, hn, _⟩ := h
    exact hs.length.trans hn
  · obtain ⟨A', cs, ds, ok, hs, hn, h⟩ := h
    obtain ⟨t, p, kk⟩ := hb f A outer s H E ga hr (takes_of rfl rfl rfl rfl)
    exact ⟨t, p, kk A' _ cs _ H ok (rho_start (ps := ps) hs) _ (fin_ok h)⟩
theorem DfG.gc {x : Str} {k n : Nat} {m : List Val → M Val} (F : DfG P w K mg base x k n m) : DfG P w K mg base x k n (mGc m) := by
  obtain ⟨f, fd, ps, F, hm, hk, hb⟩ := F
  refine ⟨f, fd, ps, F.imp fun vs H Q E h => ?_, hm, hk, hb⟩
  obtain ⟨A, cs, ds, ok, r, hn, h⟩ := h
  exact ⟨A, cs, ds, ok, r, hn, gc_ok ok.len h⟩
/-- the law -/
theorem law_okG {x : Str} {st : Stmt} {f : Addr} {N ps : List Str} {k : Nat} {c : Addr} {mb : Rho → M Fl} {oc kV doc pm ct : Value} {od an : Option Addr} {osl : Array (Option Value)}
    (lk : K.lookup f = some ⟨oc, od, .func (PySem.W.fnOf x x (defArgs st) (defBody st) (defScope st) .none kV doc pm an (.ref c) ct), osl⟩) (hcd : PySem.W.codeIn K (.ref c) x = true) (S : FnScope N ps (defScope st))
    (hb : ∀ (A : Around) (outer : List Env) (s : Shared) (H : Hp) (E : XK), A.guards = some [] → Room k (A.deeper (envOfC x (defScope st) s.heap.objs.size f (.ref c))) →
      BM (cxOf CX0 P w K mg base N x (defScope st) f (.ref c) A outer s H E).nox E0' (defBody st) mb) :
    FnG P w K mg base CX0 (k + 1) f (PySem.W.fnOf x x (defArgs st) (defBody st) (defScope st) .none kV doc pm an (.ref c) ct) ps (fun vs H Q _ => spM K mg ps.length (mDef N.length mb) vs H Q E0') := by
  refine fng lk hcd S (fun vs H Q E h => ?_) (fun A ga outer s H vs Q E hr h => ?_)
  · obtain ⟨A, cs, ds, _, hs, hn, _⟩ := h
    exact hs.length.trans hn
  · obtain ⟨A', cs, ds, ok, hs, hn, h⟩ := h
    obtain ⟨t, p, kk⟩ := hb A outer s H E ga hr
    exact ⟨t, p.nox, kk A' _ cs _ H ok (rho_start (ps := ps) hs) _ (fin_ok h)⟩
end
section
variable {X : Cx} {E : XK} {pos : Pos} {e : Expr} {es : List Expr} {ms : Rho → M (List Val)} {k n : Nat} {m : List Val → M Val}
theorem em_callG {x : Str} {p : Pos} (F : DfG X.prog X.w X.K X.mg X.base x k n m) (ga : X.A.guards = some []) (hr : Room k X.A) (tk : TakesE X E) (hg : Gl X x) (ha : AM X E (e :: es) ms)
    (hd : (x == ("__debug__" : Str)) = false := by decide) (hst : starEach (e :: es) X.env = (false, eval e X.env) :: starEach es X.env := by rfl) (hs : (backTo pos (starEach es X.env)).any (·.1) = false := by rfl) :
    EM X E (.Call (.Name x p) (e :: es) [] pos) (mOwn n m ms) := by
  obtain ⟨f, fd, ps, F, hm, hk, hb⟩ := F
  obtain ⟨t, pt, kk⟩ := ha
  refine em_of (pe_callG F ga hr hg hm hk hb (passX tk) pt hd hst hs) fun A ρ cs σ H ok rk Q h => ?_
  refine kk A ρ cs σ H ok rk _ ((PostX.bind h).step (Stp.rfl' ok) fun sxs cs1 q vs A1 H1 s1 ok1 r1 => ?_)
  split at q
  · rename_i hn
    exact ⟨A1, cs1, sxs, ok1, r1, hn, post_step s1 q⟩
  · exact q.elim
end
end Py
set_option maxHeartbeats 2000000
/-! a law's end: its text holds lambdas, no repr runs around it -/
namespace Py
open PySem PySem.Spec PyProof.Rows L2 LamX

/-- the heap as it is told at a law's start: the empty tables, the script -/
def H00 (T : List Addr) (scr : Bool) (a : Addr) (o : Obj) (xs : List V) : Hp := fun b => if b ∈ T then some (.tbl #[]) else if scr = true ∧ b = a then some (.frz o (.lst xs)) else none
theorem H00_in {T : List Addr} {scr : Bool} {a : Addr} {o : Obj} {xs : List V} {b : Addr} {u : HO} (h : H00 T scr a o xs b = some u) : (b ∈ T ∧ u = .tbl #[]) ∨ (b ∉ T ∧ scr = true ∧ b = a ∧ u = .frz o (.lst xs)) := by
  unfold H00 at h
  split at h
  · exact .inl ⟨‹_›, (Option.some.inj h).symm⟩
  · split at h
    · rename_i h1 h2
      exact .inr ⟨h1, h2.1, h2.2, (Option.some.inj h).symm⟩
    · cases h
theorem law_run {P : Program} {w : World} {K : PySem.W.Frag} {mg mb : Str → Option Value} {k : Nat} {fa a : Addr} {ts : List (Addr × Addr)} {fd : FuncData} {x : Str} {sp : Sp} {s : Shared} {its : List Value} {ns : List Int}
    (inK : K.In s.heap) (gl : s.heap.Ns mainGlobals mg) (bl : s.heap.Ns builtinsNs mb) (bb : ∀ x : Str, x ≠ "__name__" → mb x = bootBuiltins x) (nl : s.heap.NoLimit) (ge : s.gens = #[])
    (tb : ∀ q ∈ ts, PySem.W.CodeHd s.heap q.1 q.2 ∧ s.heap.get? q.2 = some (PySem.W.tabObj #[])) (tk : ∀ q ∈ ts, K.lookup q.2 = none)
    (bm : ∃ (m : Addr) (ob : Obj), mg "__builtins__" = some (.ref m) ∧ m ≠ builtinsNs ∧ s.heap.get? m = some ob ∧ ob.cls = .type "module" ∧ ob.dict = some builtinsNs ∧ ob.data = .plain)
    (ha : s.heap.get? a = some { cls := .type "list", data := .seq its.toArray }) (hi : IntsAre its ns) (hl : ns.length ≤ sizeLine) (room : Room k callerA)
    (F : ∀ base : Heap, K.In base → base.Ns mainGlobals mg → (∀ q ∈ ts, TabB base mg q.1 q.2) → FnG P w K mg base CX0 k fa fd [x] sp) (bind : ∀ (s : Shared) (u : Value), BindsTo s fd ⟨[u], []⟩ [(x, u)])
    (hsp : ∀ H : Hp, (∀ q ∈ ts, H q.2 = some (.tbl #[])) → SqL K H a (ns.map V.int) → sp [.ref a] H (fun v _ => v = .bl true) fun _ _ _ => False) :
    codeAny (model P w) callerA (.call (.ref fa) ⟨[.ref a], []⟩) (fun r s' => r = .ok (.ret (.bool true)) ∧ OldK s.heap s'.heap ∧ s'.os = s.os ∧ AllBare s'.gens) s := by
  have vi := vals_ints hi
  have T0 : ∀ b ∈ ts.map (·.2), s.heap.get? b = some (PySem.W.tabObj #[]) := fun b hb => (List.mem_map.mp hb).elim fun q z => z.2 ▸ (tb q z.1).2
  have aT : a ∉ ts.map (·.2) := fun z => by
    have := (T0 a z).symm.trans ha
    exact absurd (congrArg Obj.cls (Option.some.inj this)) (by intro z; cases z)
  generalize hH : H00 (ts.map (·.2)) (K.lookup a).isNone a { cls := .type "list", data := .seq its.toArray } (ns.map V.int) = H
  have Hin : ∀ {b : Addr} {u : HO}, H b = some u → (b ∈ ts.map (·.2) ∧ u = .tbl #[]) ∨ (b ∉ ts.map (·.2) ∧ (K.lookup a).isNone = true ∧ b = a ∧ u = .frz { cls := .type "list", data := .seq its.toArray } (.lst (ns.map V.int))) := fun {b u} h => H00_in (hH ▸ h)
  have Ht : ∀ q ∈ ts, H q.2 = some (.tbl #[]) := fun q hq => by
    rw [← hH]
    exact if_pos (List.mem_map.mpr ⟨q, hq, rfl⟩)
  have Hs : SqL K H a (ns.map V.int) := by
    cases hk : K.lookup a with
    | none =>
      refine .inl (.inr ⟨{ cls := .type "list", data := .seq its.toArray }, ?_⟩)
      rw [← hH]
      unfold H00
      rw [if_neg aT, if_pos ⟨by rw [hk]; rfl, rfl⟩]
    | some o =>
      have e := (inK a o hk).symm.trans ha
      cases e
      exact .inr ⟨_, its.toArray, _, hk, rfl, rfl, rfl, by rw [List.size_toArray, hi.length]; exact hl, by simpa using vi⟩
  have hok : HOk P w H s.heap := fun b u z => by
    rcases Hin z with ⟨h1, rfl⟩ | ⟨_, _, rfl, rfl⟩
    · exact T0 b h1
    · exact ⟨ha, by rw [List.length_map]; exact hl, its, _, vi, ha⟩
  -- of what is neither a table nor the tracked script nothing is told
  have free : ∀ {b : Addr}, b ∉ ts.map (·.2) → (b = a → (K.lookup a).isNone = false) → H b = none := fun {b} n1 n2 => by
    cases q : H b with
    | none => rfl
    | some u =>
      rcases Hin q with ⟨h1, _⟩ | ⟨_, h2, h3, _⟩
      · exact absurd h1 n1
      · exact absurd h2 (by rw [n2 h3]; decide)
  -- an object of another kind
  have other : ∀ {b : Addr} {o : Obj}, s.heap.get? b = some o → o.data ≠ .fields #[] → (∀ l m, o.data ≠ .seq l m) → H b = none := fun e n1 n2 => free
    (fun z => n1 (congrArg Obj.data (Option.some.inj (e.symm.trans (T0 _ z))))) fun z => absurd (congrArg Obj.data (Option.some.inj ((z ▸ e).symm.trans ha))) (n2 _ _)
  have nsD : ∀ {b : Addr} {m : Str → Option Value}, s.heap.Ns b m → (hidT s.heap H).Ns b m := by
    rintro b m ⟨o, es, ep, e, d, r⟩
    exact ⟨o, es, ep, hidT_get e (other e (by rw [d]; intro z; cases z) (by rw [d]; intro _ _ z; cases z)), d, r⟩
  have inB : K.In (hidT s.heap H) := fun b o e => hidT_get (inK b o e) (free (fun z => by
    obtain ⟨q, hq, eq⟩ := List.mem_map.mp z
    have := tk q hq
    rw [eq] at this
    rw [this] at e
    cases e) fun z => by rw [← z, e]; rfl)
  have tabB : ∀ q ∈ ts, TabB (hidT s.heap H) mg q.1 q.2 := fun q hq => by
    obtain ⟨hc, ht⟩ := tb q hq
    refine ⟨?_, ?_, fun z => ?_⟩
    · obtain ⟨o, us, file, tf, flags, tg, inF, text, tt, e1, r1, r2, r3, r⟩ := hc
      refine ⟨o, us, file, tf, flags, tg, inF, text, tt, hidT_get e1 (other e1 (fun z => ?_) fun _ _ z => ?_), r1, r2, r3, r⟩
      · rw [r2] at z
        cases z
        simp at r3
      · rw [r2] at z
        cases z
    · obtain ⟨m, ob, b1, b2, b3, b4, b5, b6⟩ := bm
      refine ⟨m, ob, b1, b2, fun z => ?_, fun z => ?_, hidT_get b3 (other b3 (by rw [b6]; intro z; cases z) (by rw [b6]; intro _ _ z; cases z)), b4, b5, b6⟩
      · obtain ⟨o, es, ep, e, d, _⟩ := gl
        rw [z, e] at b3
        cases b3
        rw [d] at b6
        cases b6
      · rw [z, ht] at b3
        cases b3
        cases b6
    · obtain ⟨o, es, ep, e, d, _⟩ := gl
      rw [z, ht] at e
      cases e
      cases d
  have env : Env0 P w K mg (hidT s.heap H) callerA [] s H := by
    refine ⟨rfl, ⟨inB, nsD gl, ⟨mb, nsD bl, bb⟩, ?_⟩, fun b o e => of_hidT e, Nat.le_of_eq (hidT_size _ _), trivial, fun b hb => ?_, hok, .of_eq ge⟩
    · obtain ⟨mc, c1, c2⟩ := nl
      exact ⟨mc, nsD c1, c2⟩
    · exact absurd (show b ∈ ([] : List Addr) from hb) List.not_mem_nil
  refine codeAny_mono ((F _ inB (nsD gl) tabB).go callerA rfl room [] s H env ⟨[.ref a], []⟩ [.ref a] [.ref a] (.cons rfl .nil) (bind s (.ref a)) _ _ (hsp H Ht Hs)) ?_
  rintro (er | _ | _ | _ | u) s' z
  · exact (show False from z).elim
  · exact (show False from z).elim
  · exact (show False from z).elim
  · exact (show False from z).elim
  obtain ⟨v, H', os, bare, un, hok', ru, ev⟩ := z
  replace ev : v = .bl true := ev
  subst ev
  obtain rfl : u = Value.bool true := ru
  have stay : ∀ b o, b ∉ ts.map (·.2) → s.heap.get? b = some o → s'.heap.get? b = some o := fun b o nb e => by
    cases q : H b with
    | none => exact un.keep b o e q (by intro y; exact absurd (show b ∈ ([] : List Addr) from y) List.not_mem_nil) (by simp)
    | some u =>
      rcases Hin q with ⟨h1, _⟩ | ⟨_, _, rfl, rfl⟩
      · exact absurd h1 nb
      · exact (Option.some.inj (ha.symm.trans e)) ▸ (hok' _ _ (un.frzs _ _ _ q)).1
  have more : ∀ b ∈ ts.map (·.2), ∃ m : Array Value, s'.heap.get? b = some { cls := .none, data := .fields m } := fun b hb => by
    obtain ⟨q, hq, rfl⟩ := List.mem_map.mp hb
    obtain ⟨m, y⟩ := un.tbls q.2 #[] (Ht q hq)
    exact ⟨_, hok' q.2 _ y⟩
  refine ⟨rfl, ⟨fun b o e => (Decidable.em (b ∈ ts.map (·.2))).elim (fun hb => ?_) fun hb => .inl (stay b o hb e), fun b o e => (Decidable.em (b ∈ ts.map (·.2))).elim (fun hb => (more b hb).elim fun m y => ⟨_, y⟩) fun hb => ⟨o, stay b o hb e⟩⟩, os, bare⟩
  obtain ⟨m, y⟩ := more b hb
  obtain ⟨q, hq, rfl⟩ := List.mem_map.mp hb
  obtain rfl : o = PySem.W.tabObj #[] := Option.some.inj (e.symm.trans (tb q hq).2)
  exact .inr (.inl ⟨((tb q hq).1.tab (tb q hq).2).isCodeTable, rfl, #[], m, rfl, by rw [Array.empty_append]; exact y⟩)
/-- what the rules ask of the law: the defs with lambdas are told by their names -/
structure LawG (l : PySem.W.OpenLaw) (w : World) (K : PySem.W.Frag) (k n : Nat) (x : Str) (mg : Str → Option Value) (fa : Addr) (ts : List (Addr × Addr)) (fd : FuncData) : Prop where
  ex : ∃ sp : Sp, (∀ q ∈ ts, K.lookup q.2 = none) ∧ (∀ (s : Shared) (u : Value), BindsTo s fd ⟨[u], []⟩ [(x, u)]) ∧
    (∀ (H : Hp) (a : Addr) (ns : List Int), ns.length ≤ n → (∀ z ∈ ns, Builtin.Int.intBits z ≤ 1048576) → (∀ q ∈ ts, H q.2 = some (.tbl #[])) → SqL K H a (ns.map V.int) → sp [.ref a] H (fun v _ => v = .bl true) fun _ _ _ => False) ∧
    ∀ base : Heap, K.In base → base.Ns mainGlobals mg → (∀ q ∈ ts, TabB base mg q.1 q.2) → FnG l.prog w K mg base CX0 k fa fd [x] sp
theorem walkG {l : PySem.W.OpenLaw} {n k : Nat} {q : Program} {loose : List Str} {XP : (Str → Option Value) → Heap → Prop} {YP : World → Heap → Prop} {d : DefRec} {K : Params → PySem.W.Frag} {x : Str} (names : List Str)
    (hn : l.most = some n) (hn2 : n ≤ sizeLine) (hdf : d.params.defaults = []) (room : Room k callerA) (hY : ∀ (w : World) (h : Heap), YP w h → (K w.params).In h) (hrec : ∀ y ∈ names, ((recsOf q).find? fun e => e.name == y).isSome = true)
    (F : ∀ (w : World) (mg : Str → Option Value) (fa : Addr) (h : Heap), (K w.params).In h → h.Ns mainGlobals mg → mg d.name = some (.ref fa) →
      ∃ (ts : List (Addr × Addr)) (fd : FuncData), (∀ p ∈ ts, ∃ y ∈ names, PySem.W.tabIn (K w.params) y = some p) ∧ LawG l w (K w.params) k n x mg fa ts fd) :
    PySem.W.WalkO q loose XP YP l.row.toRowW d [] (fun f vs => PySem.call f vs) := by
  refine Att.attach_callB hn hdf fun w _ s mg mb fa _ _ _ _ a its ns G Y _ _ _ hm ha hi hlen hbits ge => ?_
  have inK := hY w _ Y
  obtain ⟨ts, fd, ht, sp, tk, hb, hsp, hF⟩ := F w mg fa _ inK G.T.g hm
  refine law_run inK G.T.g G.T.b G.T.builtins G.T.nolimit ge (fun p hp => ?_) tk G.T.bmain ha hi (Nat.le_trans hlen hn2) room hF hb fun H h1 h2 => hsp H a ns hlen hbits h1 h2
  obtain ⟨y, hy, e⟩ := ht p hp
  obtain ⟨dr, hd⟩ := Option.isSome_iff_exists.mp (hrec y hy)
  exact PySem.W.tab_of G.T inK hd e
end Py
set_option maxHeartbeats 2000000
/-! from the head's frame to the names; the start of the law -/
namespace Py
open PySem PySem.Spec PyProof.Rows L2 LamX
section
variable {K : PySem.W.Frag} {h : Heap} {mg : Str → Option Value} {x : Str} {st : Stmt} {f c : Addr} {oc : Value} {od an : Option Addr} {osl : Array (Option Value)} {kV doc pm cdv ct : Value} {ps : List Str}
theorem At.of (X : K.In h) (G : h.Ns mainGlobals mg) (a : PySem.W.nsIn K mainGlobals x = some (some (.ref f))) (l : K.lookup f = some ⟨oc, od, .func (PySem.W.fnOf x x (defArgs st) (defBody st) (defScope st) .none kV doc pm an cdv ct), osl⟩) (cd : PySem.W.codeIn K cdv x = true)
    (k : PySem.W.keepIn K (.ref f) = true) (b : ∀ (kV doc pm : Value) (an : Option Addr) (cdv ct : Value) (us : List Value), us.length = ps.length → bindArgs (PySem.W.fnOf x x (defArgs st) (defBody st) (defScope st) .none kV doc pm an cdv ct) ⟨us, []⟩ = pure (ps.zip us)) : At K mg x st ps :=
  ⟨f, _, fun_mk l cd k, PySem.W.mg_of X G a, (fun_mk l cd k).binds b⟩
theorem AtL.of (X : K.In h) (G : h.Ns mainGlobals mg) (a : PySem.W.nsIn K mainGlobals x = some (some (.ref f))) (l : K.lookup f = some ⟨oc, od, .func (PySem.W.fnOf x x (defArgs st) (defBody st) (defScope st) .none kV doc pm an (.ref c) ct), osl⟩) (cd : PySem.W.codeIn K (.ref c) x = true)
    (k : PySem.W.keepIn K (.ref f) = true) (b : ∀ (kV doc pm : Value) (an : Option Addr) (cdv ct : Value) (us : List Value), us.length = ps.length → bindArgs (PySem.W.fnOf x x (defArgs st) (defBody st) (defScope st) .none kV doc pm an cdv ct) ⟨us, []⟩ = pure (ps.zip us)) : AtL K mg x st ps c :=
  ⟨f, oc, kV, doc, pm, ct, od, an, osl, PySem.W.mg_of X G a, l, cd, k, (fun_mk l cd k).binds b⟩
theorem Int.of {i : Int} {t : Tok} (X : K.In h) (G : h.Ns mainGlobals mg) (a : PySem.W.nsIn K mainGlobals x = some (some (.int i t))) : ∃ t, mg x = some (.int i t) := ⟨t, PySem.W.mg_of X G a⟩
end
variable [Tb]
theorem start_ok {K : PySem.W.Frag} {mg : Str → Option Value} {H : Hp} {Ts : List Str} (nd : (Ts.map Tb.ad).Nodup) (h : ∀ q ∈ Ts, H (Tb.ad q) = some (.tbl #[])) : Ok K mg (Ts.map Tb.ad) (Ts.map Cel.tab) H := by
  refine ⟨by simp, nd, fun k a c e1 e2 => ?_⟩
  rw [List.getElem?_map] at e1 e2
  cases q : Ts[k]? with
  | none => rw [q] at e1; cases e1
  | some z =>
    rw [q] at e1 e2
    cases e1
    cases e2
    refine ⟨rfl, #[], h z (List.mem_of_getElem? q), True.intro, fun pos cv hc => ?_⟩
    obtain ⟨_, h1, h2, h3⟩ := TabS.nil (q := z) (h z (List.mem_of_getElem? q))
    rw [h z (List.mem_of_getElem? q)] at h1
    cases h1
    obtain ⟨c, e, z2⟩ := h3 pos cv hc
    exact absurd hc (by simp [codeAmong])
theorem law_end {K : PySem.W.Frag} {mg : Str → Option Value} {H : Hp} {Ts : List Str} {ts : List (Addr × Addr)} {a : Addr} {ns : List Int} {m : List Val → M Val} (et : ts.map (·.2) = Ts.map Tb.ad) (nd : (Ts.map Tb.ad).Nodup) (hT : ∀ q ∈ ts, H q.2 = some (.tbl #[])) (hS : SqL K H a (ns.map V.int))
    (hm : ∃ cs, m [.scr ns] (Ts.map Cel.tab) = .ok (.bl true) cs) : spM K mg 1 m [.ref a] H (fun v _ => v = .bl true) E0' := by
  have h : ∀ q ∈ Ts, H (Tb.ad q) = some (.tbl #[]) := fun q hq => by
    have : Tb.ad q ∈ ts.map (·.2) := et ▸ List.mem_map.mpr ⟨q, hq, rfl⟩
    obtain ⟨p, hp, e⟩ := List.mem_map.mp this
    rw [← e]
    exact hT p hp
  obtain ⟨cs, e⟩ := hm
  refine ⟨_, _, [.scr ns], start_ok nd h, .cons (.scr ?_) .nil, rfl, ?_⟩
  · have out : ∀ {o : HO}, H a = some o → NoT o → hid (Ts.map Tb.ad) H a = some o := fun {o} z no => hid_some.mpr ⟨fun ha => by
      obtain ⟨q, hq, eq⟩ := List.mem_map.mp ha
      rw [← eq, h q hq] at z
      cases z
      exact no _ rfl, no, z⟩
    rcases hS with (z | ⟨o, z⟩) | z
    · exact .inl (.inl (out z (by intro ps y; cases y)))
    · exact .inl (.inr ⟨o, out z (by intro ps y; cases y)⟩)
    · exact .inr z
  · rw [e]
    intro v A' H' _ _ r
    cases r
    rfl
end Py
set_option maxHeartbeats 2000000
/-! what the generator's derivations name -/
namespace Py
open PySem PySem.Spec PyProof.Rows L2 LamX
/-- an exception's class with an own __init__ that keeps one thing -/
structure XcI (K : PySem.W.Frag) (mg : Str → Option Value) (c f g : Str) (qn : String) (st : Stmt) (bmB : List Value) (newId : String) : Prop where
  ex : ∃ (C fI : Addr) (fd : FuncData), OxC K C fI bmB newId f ∧ Fun K "__init__" qn st fI fd ∧ Binds K fd ["self", g] [] ∧ mg c = some (.ref C) ∧ XfC K C ∧ PySem.W.findIn K (.ref C) f = some none
section
variable {P : Program} {w : World} {K : PySem.W.Frag} {mg : Str → Option Value} {base : Heap} {c f g : Str} {st : Stmt} {bmB : List Value} {B newId initId qn : String}
theorem XcI.xb (x : XcI K mg c f g qn st bmB newId) (FB : MkF bmB newId) (SF : StoreFacts B bmB "object.__setattr__" "object") (S : FnScope ["self", g] ["self", g] (defScope st)) {p1 p2 p3 p4 : Pos}
    (hb : defBody st = [.Assign [.Attribute (.Name "self" p1) f p2] (.Name g p3) p4]) (hg1 : (g == ("__debug__" : Str)) = false) (hg2 : (g == ("__classdict__" : Str)) = false) : XcB P w K mg base c f 1 := by
  obtain ⟨C, fI, fd, T, F, hB, hm, _, _⟩ := x
  exact ⟨C, fI, bmB, newId, g, fd, FB, T, ini_ok (k := 0) SF T F S hb hg1 hg2, hB, hm⟩
theorem XcI.of {h : Heap} {C fI : Addr} {oc : Value} {od an : Option Addr} {osl : Array (Option Value)} {kV doc pm cdv ct : Value} (X : K.In h) (G : h.Ns mainGlobals mg) (a : PySem.W.nsIn K mainGlobals c = some (some (.ref C))) (q1 : PySem.W.excInitIn K C bmB newId = true) (q2 : PySem.W.excOver K C bmB = true)
    (tk : PySem.W.takerIn K C f = some none) (hd : PySem.W.hasDictIn K C = true) (sa : PySem.W.findIn K (.ref C) "__setattr__" = some (some (.builtin "object.__setattr__"))) (ex : PySem.W.subIn K (.ref C) (.type "BaseException") = some true) (ty : PySem.W.typeIn K (.ref C) = some (.type "type"))
    (kp : PySem.W.keepIn K (.ref C) = true) (ic : PySem.W.findIn K (.ref C) "__init__" = some (some (.ref fI))) (ti : PySem.W.typeIn K (.ref fI) = some (.type "function"))
    (l : K.lookup fI = some ⟨oc, od, .func (PySem.W.fnOf "__init__" qn (defArgs st) (defBody st) (defScope st) .none kV doc pm an cdv ct), osl⟩) (cd : PySem.W.codeIn K cdv qn = true) (k : PySem.W.keepIn K (.ref fI) = true)
    (b : ∀ (kV doc pm : Value) (an : Option Addr) (cdv ct : Value) (us : List Value), us.length = 2 → bindArgs (PySem.W.fnOf "__init__" qn (defArgs st) (defBody st) (defScope st) .none kV doc pm an cdv ct) ⟨us, []⟩ = pure ((["self", g] : List Str).zip us))
    (xf : xfB K C = true) (no : PySem.W.findIn K (.ref C) f = some none) : XcI K mg c f g qn st bmB newId :=
  ⟨C, fI, _, ⟨q1, q2, tk, hd, sa, ex, ty, kp, ic, ti⟩, fun_mk l cd k, (fun_mk l cd k).binds b, PySem.W.mg_of X G a, xfB_ok xf, no⟩
theorem XcA.of {h : Heap} {C : Addr} (FB : ExcBaseFacts B newId initId bmB) (X : K.In h) (G : h.Ns mainGlobals mg) (a : PySem.W.nsIn K mainGlobals c = some (some (.ref C))) (q : PySem.W.excIn K C bmB newId = true) (k : PySem.W.keepIn K (.ref C) = true) (h1 : PySem.W.subIn K (.ref C) (.type "BaseException") = some true)
    (h2 : PySem.W.typeIn K (.ref C) = some (.type "type")) : XcA K mg c := ⟨C, bmB, B, newId, initId, FB, q, PySem.W.mg_of X G a, k, h1, h2⟩
/-- one class asked for another -/
structure IsA (K : PySem.W.Frag) (mg : Str → Option Value) (y x : Str) (b : Bool) : Prop where
  ex : ∃ v c, mg y = some v ∧ mg x = some c ∧ PySem.W.exmOne K v c = some b
theorem IsA.of {h : Heap} {y x : Str} {v u : Value} {b : Bool} (X : K.In h) (G : h.Ns mainGlobals mg) (a : PySem.W.nsIn K mainGlobals y = some (some v)) (a2 : PySem.W.nsIn K mainGlobals x = some (some u)) (q : PySem.W.exmOne K v u = some b) : IsA K mg y x b := ⟨v, u, PySem.W.mg_of X G a, PySem.W.mg_of X G a2, q⟩
def isAT (l : List (Str × Str × Bool)) (y x : Str) : Option Bool := match l with
  | [] => none
  | (y', x', b) :: r => if y' = y ∧ x' = x then some b else isAT r y x
theorem isAT_ok {l : List (Str × Str × Bool)} (h : ∀ t ∈ l, IsA K mg t.1 t.2.1 t.2.2) {x : Str} {c : Value} (hc : mg x = some c) : ∀ y v k, isAT l y x = some k → mg y = some v → PySem.W.exmOne K v c = some k := by
  intro y v k e hv
  induction l with
  | nil => cases e
  | cons t r ih =>
    obtain ⟨y', x', b⟩ := t
    unfold isAT at e
    split at e
    · rename_i q
      obtain ⟨v', c', h1, h2, h3⟩ := h _ List.mem_cons_self
      obtain ⟨rfl, rfl⟩ := q
      cases e
      cases hv.symm.trans h1
      cases hc.symm.trans h2
      exact h3
    · exact ih (fun t ht => h t (List.mem_cons_of_mem _ ht)) e
end
theorem takes_lam {X : Cx} {A : Around} {outer : List Env} {s : Shared} {H : Hp} {E : XK} {scope : Scope} {f c' : Addr} : TakesE (lamCx X A outer s H E scope f c') E := takes_of rfl rfl rfl rfl
variable [Tb]
abbrev mDict0 : Rho → M Val := fun _ cs => .ok (.h cs.length) (cs ++ [.dct []])
theorem units3 {A : Around} {k : Nat} (hr : Room k A) : A.units + 3 + 64 < cLine := by
  have := hr.un
  omega
def mOnly (c : Str) (mh : Ex → Rho → M Val) : Ex → Rho → M Val := fun x ρ cs => if x.cls = c then mh x ρ cs else .bad
theorem ret_xc {X : Cx} {i : Nat} {e : Expr} {pos : Pos} {c : Str} {mh : Ex → Rho → M Val} (h : ∀ (a : Addr) (oe : Obj) (cls : Value) (d : Option Addr) (pn : List (Addr × Obj)), Zc cls d oe → (∃ vs, oe.data = .fields vs) → ∀ x : Ex, X.mg c = some cls →
    EMP (X.suite a ((a, oe) :: pn)) (fun σ A H => σ[i]? = some (some (.ref a)) ∧ PD X.K X.mg d x A H) e (mh x)) : RetX X i [.Return (some e) pos] (mOnly c mh) := by
  refine ret_x fun a oe cls d pn z1 z2 x hx => ?_
  by_cases q : x.cls = c
  · obtain ⟨t, p, k⟩ := h a oe cls d pn z1 z2 x (q ▸ hx)
    exact ⟨t, p, fun A ρ cs σ H ok rk hp Q z => k A ρ cs σ H ok rk hp Q (by unfold mOnly at z; rwa [if_pos q] at z)⟩
  · exact ⟨fun _ _ _ => False, ⟨fun _ _ _ _ _ _ h => h.elim⟩, fun A ρ cs σ H ok rk hp Q z => by
      unfold mOnly at z
      rw [if_neg q] at z
      exact z⟩
theorem ep_xfI {X : Cx} {a : Addr} {oe : Obj} {cls : Value} {d : Option Addr} {pn : List (Addr × Obj)} {i : Nat} {n c f g : Str} {st : Stmt} {bmB : List Value} {newId qn : String} {x : Ex} {p1 pos : Pos} (I : XcI X.K X.mg c f g qn st bmB newId) (hc : X.mg c = some cls) (hz : Zc cls d oe) (hf : ∃ vs, oe.data = .fields vs)
    (hN : X.N[i]? = some n) (hv : Vis X.env.scope n) (hd : (n == ("__debug__" : Str)) = false) (hcd : (n == ("__classdict__" : Str)) = false) (hb : attributeBase (.Name n p1) f X.env (eval (.Name n p1) X.env) = eval (.Name n p1) X.env := by rfl) :
    EMP (X.suite a ((a, oe) :: pn)) (fun σ A H => σ[i]? = some (some (.ref a)) ∧ PD X.K X.mg d x A H) (.Attribute (.Name n p1) f pos) (mXf f x) := by
  obtain ⟨C, fI, fd, _, _, _, hm, xf, no⟩ := I
  exact ep_xf xf no (Option.some.inj (hc.symm.trans hm)) hz hf hN hv hd hcd hb
theorem em_lamD {X : Cx} {E : XK} {Ts : List Str} {mh : M Val → M Val} {mb : Rho → M Val} {x a : Str} {c : Addr} {j : Nat} {st : Stmt} {Ng : List Str} {params : Arguments} {body : Expr} {scope : Scope} {p lpos pos : Pos} (at' : At X.K X.mg x st [a]) (hg : Gl X x) (Sg : FnScope Ng [a] (defScope st)) (hNg : Ng[0]? = some a) (hva : Vis (defScope st) a)
    (hG : ∀ (g : Addr) (cdg : Value), GivesTo X Ng x (defScope st) g cdg (defBody st) a (X.env.qual ++ "<lambda>") (TTm X.K X.mg mh)) (hq : X.env.qual ++ "<lambda>" ∈ Ts) (hinj : ∀ q1 ∈ Ts, ∀ q2 ∈ Ts, Tb.ad q1 = Tb.ad q2 → q1 = q2)
    (TB : TabB X.base X.mg c (Tb.ad (X.env.qual ++ "<lambda>"))) (hcode : X.env.code = .ref c) (hr : Room (j + 2) X.A) (L : LamS X.env.scope scope)
    (hbody : ∀ (A : Around) (outer : List Env) (s : Shared) (H : Hp) (E : XK) (f c' : Addr), Room j (A.deeper (lamEnv X scope s.heap.objs.size f c')) → EM (lamCx X A outer s H E scope f c') E body mb) (hdef : defaultsOf params X.env = ([], []) := by rfl)
    (hbind : ∀ (q : Str) (cl : List (Str × Addr)) (pm cv ctv : Value), bindArgs (PySem.W.kla_fn "<lambda>" q params body scope cl pm cv ctv) ⟨[], []⟩ = pure [] := by intro _ _ _ _ _; rfl)
    (hdb : (x == ("__debug__" : Str)) = false := by decide) (hd : (a == ("__debug__" : Str)) = false := by decide) (hcd : (a == ("__classdict__" : Str)) = false := by decide) :
    EM X E (.Call (.Name x p) [.Lambda params body scope lpos] [] pos) (mLam Ts mh mb) := by
  obtain ⟨g, fd, F, hm, hB⟩ := at'
  obtain ⟨⟨oc, od, kV, doc, pm, an, cdv, ct, osl, rfl, lk, hcd'⟩, kp⟩ := F
  exact em_lam hg hm kp lk hcd' hB Sg hNg hva (hG g cdv) hq hinj TB hcode hr L hdef hbind hbody hdb hd hcd
end Py
set_option maxHeartbeats 2000000
/-! a block's end: what it made and its dead names are given up; readings step by step -/
namespace Py
open PySem PySem.Spec PyProof.Rows L2
open Mir (SL SL_eq)
variable [Tb]
def ltR (n : Nat) : Rho → Bool
  | [] => true
  | none :: r => ltR n r
  | some d :: r => ltV n d && ltR n r
theorem ltR_get {n : Nat} : ∀ {ρ : Rho} {i : Nat} {d : Val}, ltR n ρ = true → ρ[i]? = some (some d) → ltV n d = true
  | [], _, _, _, e => by simp at e
  | none :: r, 0, _, _, e => by simp at e
  | none :: r, i + 1, d, h, e => ltR_get (ρ := r) (i := i) (by simpa [ltR] using h) (by simpa using e)
  | some v :: r, 0, d, h, e => by
    simp at e
    subst e
    exact (Bool.and_eq_true _ _ ▸ (show (ltV n v && ltR n r) = true by simpa [ltR] using h)).1
  | some v :: r, i + 1, d, h, e => ltR_get (ρ := r) (i := i) ((Bool.and_eq_true _ _ ▸ (show (ltV n v && ltR n r) = true by simpa [ltR] using h)).2) (by simpa using e)
/-- behind a block: the names vs are forgotten, what was made in it is given up -/
def bGc (vs : List Nat) (m : Rho → M Fl) : Rho → M Fl := fun ρ cs => match m ρ cs with
  | .ok (.nx ρ1) cs1 => if ltR cs.length (wipeR ρ1 vs) = true ∧ gcOk cs.length cs1 = true then .ok (.nx (wipeR ρ1 vs)) (cs1.take cs.length) else .ok (.nx ρ1) cs1
  | r => r
theorem bm_gc (vs : List Nat) {X : Cx} {E : XK} {st : List Stmt} {m : Rho → M Fl} (h : BM X E st m) : BM X E st (bGc vs m) := by
  obtain ⟨t, p, k⟩ := h
  refine ⟨t, p, fun A ρ cs σ H ok rk De q => k A ρ cs σ H ok rk De ?_⟩
  unfold bGc at q
  cases e : m ρ cs with
  | bad => rw [e] at q; exact q
  | exc x c => rw [e] at q; exact q
  | ok f cs1 =>
    rw [e] at q
    cases f with
    | rt d => exact q
    | bk ρ1 => exact q
    | ct ρ1 => exact q
    | nx ρ1 =>
      replace q : PostS X.K X.mg A H De E (if ltR cs.length (wipeR ρ1 vs) = true ∧ gcOk cs.length cs1 = true then .ok (.nx (wipeR ρ1 vs)) (cs1.take cs.length) else .ok (.nx ρ1) cs1) := q
      split at q
      · rename_i hg
        intro σ' A' H' s ok' rk'
        obtain ⟨s2, ok2, pp, sm⟩ := gc_at ok.len s ok' hg.2
        refine q σ' A H' s2 ok2 ⟨by rw [wipeR_len]; exact rk'.1, fun i d ei => ?_⟩
        obtain ⟨v, h1, h2⟩ := rk'.2 i d (wipeR_some ei).1
        exact ⟨v, h1, h2.less cs.length pp sm (ltR_get hg.1 ei)⟩
      · exact q
/-! steps -/
section
variable {α β : Type} {cs cs' : Mem}
theorem bind_ok {a : α} {f : α → M β} : (Res.ok a cs).bind f = f a cs := rfl
theorem seq_nx {f g : Rho → M Fl} {ρ ρ' : Rho} (h : f ρ cs = .ok (.nx ρ') cs') : sSeq f g ρ cs = g ρ' cs' := by
  unfold sSeq
  rw [h]
  rfl
theorem seq_rt {f g : Rho → M Fl} {ρ : Rho} {d : Val} (h : f ρ cs = .ok (.rt d) cs') : sSeq f g ρ cs = .ok (.rt d) cs' := by
  unfold sSeq
  rw [h]
  rfl
theorem set_ok {i : Nat} {m : Rho → M Val} {ρ : Rho} {d : Val} (h : m ρ cs = .ok d cs') : sSet i m ρ cs = .ok (.nx (ρ.set i (some d))) cs' := by
  unfold sSet
  rw [h]
  rfl
theorem ret_ok {m : Rho → M Val} {ρ : Rho} {d : Val} (h : m ρ cs = .ok d cs') : sRet m ρ cs = .ok (.rt d) cs' := by
  unfold sRet
  rw [h]
  rfl
theorem if_t {mt : Rho → M Bool} {f g : Rho → M α} {ρ : Rho} (h : mt ρ cs = .ok true cs') : mIf mt f g ρ cs = f ρ cs' := by
  unfold mIf
  rw [h]
  rfl
theorem if_f {mt : Rho → M Bool} {f g : Rho → M α} {ρ : Rho} (h : mt ρ cs = .ok false cs') : mIf mt f g ρ cs = g ρ cs' := by
  unfold mIf
  rw [h]
  rfl
theorem bin_ok {o : Val → Val → M Val} {ma mb : Rho → M Val} {ρ : Rho} {a b : Val} {c1 c2 : Mem} {r : Res Val} (h1 : ma ρ cs = .ok a c1) (h2 : mb ρ c1 = .ok b c2) (h3 : o a b c2 = r) : mBin o ma mb ρ cs = r := by
  unfold mBin
  rw [h1, bind_ok, h2, bind_ok, h3]
theorem call1_ok {o : List Val → M Val} {ma : Rho → M Val} {ρ : Rho} {a : Val} {c1 : Mem} {r : Res Val} (h1 : ma ρ cs = .ok a c1) (h2 : o [a] c1 = r) : mCall o (mCons ma mNil) ρ cs = r := by
  unfold mCall mCons
  rw [h1]
  exact h2
theorem own2_ok {m : List Val → M Val} {ma mb : Rho → M Val} {ρ : Rho} {a b : Val} {c1 c2 : Mem} {r : Res Val} (h1 : ma ρ cs = .ok a c1) (h2 : mb ρ c1 = .ok b c2) (h3 : m [a, b] c2 = r) : mOwn 2 m (mCons ma (mCons mb mNil)) ρ cs = r := by
  show ((((ma ρ cs).bind fun x c => ((mb ρ c).bind fun y c => (.ok [y] c)).bind fun ys c => .ok (x :: ys) c)).bind fun xs c => if xs.length = 2 then m xs c else .bad) = r
  rw [h1, bind_ok, h2]
  exact h3
theorem own1_ok {m : List Val → M Val} {ma : Rho → M Val} {ρ : Rho} {a : Val} {c1 : Mem} {r : Res Val} (h1 : ma ρ cs = .ok a c1) (h3 : m [a] c1 = r) : mOwn 1 m (mCons ma mNil) ρ cs = r := by
  unfold mOwn mCons
  rw [h1, bind_ok]
  exact h3
theorem own3_ok {m : List Val → M Val} {ma mb mc : Rho → M Val} {ρ : Rho} {a b c : Val} {c1 c2 c3 : Mem} {r : Res Val} (h1 : ma ρ cs = .ok a c1) (h2 : mb ρ c1 = .ok b c2) (h3 : mc ρ c2 = .ok c c3) (h4 : m [a, b, c] c3 = r) : mOwn 3 m (mCons ma (mCons mb (mCons mc mNil))) ρ cs = r := by
  show ((((ma ρ cs).bind fun x c => ((mb ρ c).bind fun y c => ((mc ρ c).bind fun w c => (.ok [w] c)).bind fun ys c => .ok (y :: ys) c).bind fun ys c => .ok (x :: ys) c)).bind fun xs c => if xs.length = 3 then m xs c else .bad) = r
  rw [h1, bind_ok, h2, bind_ok, h3]
  exact h4
theorem bLen_h {j : Nat} {l : List Val} (h : cs[j]? = some (.lst l)) (hz : l.length < 1000) : bLen [.h j] cs = .ok (.int l.length) cs := by
  have e : seqV (.h j) cs = some l := by
    unfold seqV lstR
    simp only [h]
  show (match seqV (.h j) cs with
    | some ds => (.ok (.int ds.length) cs : Res Val)
    | none => _) = _
  rw [e]
theorem oIdx_h {j n : Nat} {l : List Val} {v : Val} (h : cs[j]? = some (.lst l)) (hv : l[n]? = some v) : oIdx (.h j) (.int n) cs = .ok v cs := by
  unfold oIdx lstR
  simp only [h]
  rw [L2.atI_nat hv]
theorem meth1_ok {T : String} {o : Val → List Val → M Val} {mo ma : Rho → M Val} {ρ : Rho} {x a d : Val} {c1 c2 c3 : Mem} (h1 : mo ρ cs = .ok x c1) (h2 : tyM T x c1 = true) (h3 : ma ρ c1 = .ok a c2) (h4 : o x [a] c2 = .ok d c3) : sDrop (mMeth T o mo (mCons ma mNil)) ρ cs = .ok (.nx ρ) c3 := by
  show (((mo ρ cs).bind fun x c => if tyM T x c = true then (((ma ρ c).bind fun y c => (.ok [y] c)).bind fun xs c => o x xs c) else .bad).bind fun _ c => (.ok (.nx ρ) c : Res Fl)) = _
  rw [h1, bind_ok, if_pos h2, h3]
  show ((o x [a] c2).bind fun _ c => (.ok (.nx ρ) c : Res Fl)) = _
  rw [h4]
  rfl
theorem lst1_ok {ma : Rho → M Val} {ρ : Rho} {a : Val} {c1 : Mem} (h : ma ρ cs = .ok a c1) : mLst (mCons ma mNil) ρ cs = .ok (.h c1.length) (c1 ++ [.lst [a]]) := by
  show ((((ma ρ cs).bind fun y c => (.ok [y] c)).bind fun xs c => if xs.length ≤ SL then (.ok (.h c.length) (c ++ [.lst xs]) : Res Val) else .bad)) = _
  rw [h]
  show (if [a].length ≤ SL then (Res.ok (.h c1.length) (c1 ++ [.lst [a]]) : Res Val) else .bad) = _
  rw [if_pos (show [a].length ≤ SL from (by decide : 1 ≤ SL))]
theorem fa_nil {p : Val → Prop} : ∀ v ∈ ([] : List Val), p v := fun _ h => absurd h List.not_mem_nil
theorem fa_cons {p : Val → Prop} {a : Val} {l : List Val} (h : p a) (t : ∀ v ∈ l, p v) : ∀ v ∈ a :: l, p v := fun v hv => (List.mem_cons.mp hv).elim (fun e => e ▸ h) (t v)
theorem each {f g : Val → α} {l : List Val} (h : l.map f = l.map g) : ∀ v ∈ l, f v = g v := List.map_inj_left.mp h
theorem each2 {f g : Val → Val → α} {l r : List Val} (h : (l.map fun v => r.map fun w => f v w) = l.map fun v => r.map fun w => g v w) : ∀ v ∈ l, ∀ w ∈ r, f v w = g v w := fun v hv => each (List.map_inj_left.mp h v hv)
/-- a value's text -/
def rp (v : Val) : Str := match snap DEP [] v with
  | some d => d.shown
  | none => ""
theorem put_ok {mo mi mv : Rho → M Val} {ρ : Rho} {x y z : Val} {c1 c2 c3 c4 : Mem} (h1 : mv ρ cs = .ok z c1) (h2 : mo ρ c1 = .ok x c2) (h3 : mi ρ c2 = .ok y c3) (h4 : putAt x y z c3 = some c4) : sPut mo mi mv ρ cs = .ok (.nx ρ) c4 := by
  unfold sPut
  rw [h1, bind_ok, h2, bind_ok, h3, bind_ok, h4]
theorem oMod_i {a b : Int} (h : 0 < b) : oMod (.int a) (.int b) cs = .ok (.int (a % b)) cs := if_pos h
theorem oFdiv_i {a b : Int} (h : 0 < b) (h2 : b.natAbs.log2 < 9000) : oFdiv (.int a) (.int b) cs = .ok (.int (a / b)) cs := if_pos ⟨h, h2⟩
theorem oMul_i {a b : Int} (h : a.natAbs.log2 + b.natAbs.log2 < 1000000) : oMul (.int a) (.int b) cs = .ok (.int (a * b)) cs := if_pos h
theorem oAdd_i {a b : Int} : oAdd (.int a) (.int b) cs = .ok (.int (a + b)) cs := rfl
theorem oSub_i {a b : Int} : oSub (.int a) (.int b) cs = .ok (.int (a - b)) cs := rfl
theorem oGt_i {a b : Int} : oGt (.int a) (.int b) cs = .ok (.bl (decide (b < a))) cs := rfl
theorem oLt_i {a b : Int} : oLt (.int a) (.int b) cs = .ok (.bl (decide (a < b))) cs := rfl
theorem bInt_i {a : Int} : bInt [.int a] cs = .ok (.int a) cs := rfl
theorem bInt_b {a : Bool} : bInt [.bl a] cs = .ok (.int (if a then 1 else 0)) cs := by cases a <;> rfl
theorem bAbs_i {a : Int} : bAbs [.int a] cs = .ok (.int (if a < 0 then -a else a)) cs := rfl
theorem bMax_i {a b : Int} : bMax [.int a, .int b] cs = .ok (.int (if b > a then b else a)) cs := rfl
theorem bMin_i {a b : Int} : bMin [.int a, .int b] cs = .ok (.int (if b < a then b else a)) cs := rfl
theorem gc_same {d : Val} {n : Nat} (h : cs.length = n) : gc n (.ok d cs) = .ok d cs := by
  subst h
  show (if ltV cs.length d = true ∧ gcOk cs.length cs = true then Res.ok d (cs.take cs.length) else .ok d cs) = _
  rw [List.take_length, ite_self]
theorem log2_small {a : Int} (h0 : 0 ≤ a) (h : a < 2 ^ 400) : a.natAbs.log2 < 400 := by
  by_cases z : a.natAbs = 0
  · rw [z]
    decide
  · refine (Nat.log2_lt z).mpr ?_
    omega
end
end Py
set_option maxHeartbeats 2000000
/-! more steps -/
namespace Py
open PySem PySem.Spec PyProof.Rows L2
open Mir (SL SL_eq)
theorem tabIn_of {K : PySem.W.Frag} {x : Str} {f c P : Addr} {oc e : Value} {od d : Option Addr} {osl sl : Array (Option Value)} {fd : FuncData} {vs : Array Value} (a : PySem.W.nsIn K mainGlobals x = some (some (.ref f))) (l : K.lookup f = some ⟨oc, od, .func fd, osl⟩) (hc : fd.code = .ref c)
    (lc : K.lookup c = some ⟨e, d, .fields vs, sl⟩) (v : vs[11]? = some (.ref P)) : PySem.W.tabIn K x = some (c, P) := by
  unfold PySem.W.tabIn
  simp only [a, l, hc, lc, v]
abbrev tbOf (Ts : List Str) (Ps : List Addr) : Tb := ⟨fun q => ((Ts.zip Ps).lookup q).getD 0⟩
theorem inj_of {f : Str → Addr} : ∀ {l : List Str}, (l.map f).Nodup → ∀ a ∈ l, ∀ b ∈ l, f a = f b → a = b
  | [], _, _, h, _, _, _ => absurd h List.not_mem_nil
  | c :: r, hn, a, ha, b, hb, e => by
    obtain ⟨h1, h2⟩ := List.nodup_cons.mp (show (f c :: r.map f).Nodup from hn)
    rcases List.mem_cons.mp ha with ea | ha <;> rcases List.mem_cons.mp hb with eb | hb
    · rw [ea, eb]
    · exact absurd (List.mem_map.mpr ⟨b, hb, by rw [← e, ea]⟩) h1
    · exact absurd (List.mem_map.mpr ⟨a, ha, by rw [e, eb]⟩) h1
    · exact inj_of h2 a ha b hb e
variable [Tb] {cs : Mem}
theorem bLen_scr {ns : List Int} : bLen [.scr ns] cs = .ok (.int ns.length) cs := by
  show (Res.ok (.int (ns.map Val.int).length) cs : Res Val) = _
  rw [List.length_map]
theorem oIdx_scr {ns : List Int} {n : Nat} {v : Int} (hv : ns[n]? = some v) : oIdx (.scr ns) (.int n) cs = .ok (.int v) cs := by
  unfold oIdx lstR
  have : (ns.map Val.int)[n]? = some (.int v) := by rw [List.getElem?_map, hv]; rfl
  simp only []
  rw [L2.atI_nat this]
theorem call2_ok {o : List Val → M Val} {ma mb : Rho → M Val} {ρ : Rho} {a b : Val} {c1 c2 : Mem} {r : Res Val} (h1 : ma ρ cs = .ok a c1) (h2 : mb ρ c1 = .ok b c2) (h3 : o [a, b] c2 = r) : mCall o (mCons ma (mCons mb mNil)) ρ cs = r := by
  show ((((ma ρ cs).bind fun x c => ((mb ρ c).bind fun y c => (.ok [y] c)).bind fun ys c => .ok (x :: ys) c)).bind o) = r
  rw [h1, bind_ok, h2]
  exact h3
theorem lst3_ok {ma mb mc : Rho → M Val} {ρ : Rho} {a b c : Val} {c1 c2 c3 : Mem} (h1 : ma ρ cs = .ok a c1) (h2 : mb ρ c1 = .ok b c2) (h3 : mc ρ c2 = .ok c c3) : mLst (mCons ma (mCons mb (mCons mc mNil))) ρ cs = .ok (.h c3.length) (c3 ++ [.lst [a, b, c]]) := by
  show (((ma ρ cs).bind fun x c => ((mb ρ c).bind fun y c => ((mc ρ c).bind fun w c => (.ok [w] c)).bind fun ys c => .ok (y :: ys) c).bind fun ys c => .ok (x :: ys) c).bind fun xs c => if xs.length ≤ SL then (.ok (.h c.length) (c ++ [.lst xs]) : Res Val) else .bad) = _
  rw [h1, bind_ok, h2, bind_ok, h3]
  show (if [a, b, c].length ≤ SL then (Res.ok (.h c3.length) (c3 ++ [.lst [a, b, c]]) : Res Val) else .bad) = _
  rw [if_pos (show [a, b, c].length ≤ SL from (by decide : 3 ≤ SL))]
theorem gc_made {n k : Nat} (h : n ≤ k) : gc n (.ok (.h k) cs) = .ok (.h k) cs := if_neg (by
  rintro ⟨h2, _⟩
  simp [ltV] at h2
  omega)
theorem testb_ok {ma : Rho → M Val} {ρ : Rho} {b : Bool} {c1 : Mem} (h : ma ρ cs = .ok (.bl b) c1) : mTest ma ρ cs = .ok b c1 := by
  unfold mTest
  rw [h]
  rfl
theorem notT_ok {mt : Rho → M Bool} {ρ : Rho} {b : Bool} {c1 : Mem} (h : mt ρ cs = .ok b c1) : mNotT mt ρ cs = .ok (!b) c1 := by
  unfold mNotT
  rw [h]
  rfl
theorem orT_f {mt mu : Rho → M Bool} {ρ : Rho} {c1 : Mem} {r : Res Bool} (h : mt ρ cs = .ok false c1) (h2 : mu ρ c1 = r) : mOrT mt mu ρ cs = r := by
  unfold mOrT
  rw [h]
  exact h2
end Py
set_option maxHeartbeats 2000000
/-! exceptions as values: made, asked by isinstance, their attribute read -/
namespace Py
open PySem PySem.Spec PySem.Calls PyProof.Rows L2
open Mir (SL SL_eq)

theorem noT_ext {φ : Heap → Prop} : NoT (.ext φ) := fun ps z => by cases z
theorem find_class {K : PySem.W.Frag} {D : Addr} {od : Option Obj} (T : ExcC K D) : PySem.W.findObj K D od "__class__" = some (.bind (.builtin "getset_descriptor.__get__") (.builtin "object.__class__")) := by
  obtain ⟨cd, hc, _⟩ := PySem.W.any_some T.hd
  show (PySem.W.clsIn K D).bind _ = _
  rw [hc, Option.bind_some, T.ha, Option.bind_some]
  simp [T.hn, T.ht]
section
variable {prog : Program} {w : World} {A : Around} {E : Value → Shared → Prop} {s : Shared} {K : PySem.W.Frag} {x D : Addr} {ox : Obj} {od : Option Obj}
/-- an exception's __class__, whether it bears a dict or not -/
theorem class_of_exc {Q : Option Value → Shared → Prop} (T : ExcC K D) (X : K.In s.heap) (I : PySem.W.InstAt s.heap x ox D od) (h : Q (some (.ref D)) { s with toks := s.toks + 1 }) : wpAny (model prog w) A (getAttr? (.ref x) "__class__") Q E s := by
  obtain ⟨hp, g, d, t, os⟩ := s
  have ty := I.type (M := model prog w)
  have l1 := PySem.W.looks_findIn (M := model prog w) X T.hg
  have l2 := PySem.W.looks_findIn (M := model prog w) X T.hk
  have l3 := PySem.W.looks_find (M := model prog w) X I (find_class T)
  have ex : PySem.W.Looks (model prog w) hp (isInstance (.ref x) (.type "BaseException")) true := ty.andThen (PySem.W.looks_subIn X T.hs)
  have n2 : (Value.builtin "BaseException.__getattribute__" == Value.builtin "object.__getattribute__") = false := by decide +kernel
  have n1 : (onTheHeap (Value.ref D) && Value.builtin "BaseException.__getattribute__" == Value.builtin "object.__getattribute__") = false := by
    rw [n2]
    rfl
  have n0 : (false && onTheHeap (Value.builtin "BaseException.__getattribute__")) = false := rfl
  unfold getAttr? getAttrBy? getAttrBy
  refine wpAny_bind (wpAny_mkText (wpAny_bind (wpAny_attempt (wpAny_holding (wpAny_bind (ty.at (wpAny_bind (l1.at ?goal))))))))
  show wpAny _ _ (if (onTheHeap (Value.ref D) && Value.builtin "BaseException.__getattribute__" == Value.builtin "object.__getattribute__") = true then _ else _) _ _ _
  rw [n1, if_neg Bool.false_ne_true]
  unfold getAttrByItsOwn hookBefore
  refine wpAny_bind ?step
  rw [if_pos (show onTheHeap (Value.ref D) = true from rfl)]
  refine l2.at (wpAny_bind (wpAny_attempt (wpAny_holding ?inner)))
  unfold callGetattribute
  rw [n0, if_neg Bool.false_ne_true]
  unfold boundAndCalled
  rw [PySem.F.excAttr_ValueError.ga.bind (.ref x)]
  refine wpAny_bind (wpAny_pure ?called)
  show wpAny _ _ (call (.builtin "BaseException.__getattribute__") [.ref x, .str "__class__" t]) _ _ _
  refine wpAny_call (codeAny_call_builtin PySem.F.excAttr_ValueError.ga.plain PySem.F.entry_bexc_ga ?slot)
  refine @PySem.W.check_slot (model prog w) _ _ ⟨hp, g, d, t + 1, os⟩ "BaseException.__getattribute__" "BaseException" "__getattribute__" (.ref x) [.str "__class__" t] [] _ (by decide +kernel) (by decide +kernel) ex (PySem.F.args_bexc_ga (.ref x) (.str "__class__" t)) ?own
  unfold Builtin.«object.__getattribute__»
  refine wpAny_bind (wpAny_of_eq (a := ((Value.ref x : Value), [Value.str "__class__" t])) (by first | rfl | (simp only [Builtin.slotArgs]; rfl)) ?rest)
  refine wpAny_bind (wpAny_pure (wpAny_bind (ty.at (wpAny_bind (l3.at ?desc)))))
  show wpAny _ _ (holding [Value.builtin "object.__class__"] (call (.builtin "getset_descriptor.__get__") [.builtin "object.__class__", .ref x, .ref D]) >>= ret) _ _ _
  refine wpAny_bind (wpAny_holding (wpAny_call (PySem.W.class_get (s := ⟨hp, g, d, t + 1, os⟩) (ox := ox) (od := od) X I T.hm ?last)))
  refine wpAny_pure ?out
  show wpAny _ _ (handedOut (.ref D)) _ _ _
  rw [PySem.W.handedOut_of (v := .ref D) rfl]
  first
    | exact wpAny_pure h
    | exact wpAny_pure (wpAny_pure h)
    | exact wpAny_pure (wpAny_bind (wpAny_pure (wpAny_pure h)))
theorem class_there (T : ExcC K D) : ∃ o, K.lookup D = some o ∧ ∃ cd, o.data = .cls cd := by
  obtain ⟨cd, hc, _⟩ := PySem.W.any_some T.hd
  unfold PySem.W.clsIn at hc
  split at hc
  · rename_i ho
    exact ⟨_, ho, _, rfl⟩
  · cases hc
theorem kitx_excV (T : ExcC K D) : PySem.W.KitX K (.ref x) (.ref D) (fun h => PySem.W.InstAt h x ox D od) where
  ty := fun _ _ _ I => I.type
  it := fun M h X _ => by
    obtain ⟨o, lk, hd⟩ := class_there T
    intro A2 Q2 E2 s2 k q
    exact wpAny_bind (wpAny_loadPart (k _ _ (X _ _ lk)) (wpAny_pure (by obtain ⟨cd, hd⟩ := hd; rw [hd]; exact q)))
  ne := fun h tp dd its n sl X htp => by
    obtain ⟨o, lk, cd, hd⟩ := class_there T
    refine Bool.eq_false_iff.mpr fun q => ?_
    obtain rfl : D = tp := Value.ref.inj (beq_iff_eq.mp q)
    have z := (X _ _ lk).symm.trans htp
    rw [Option.some.inj z] at hd
    cases hd
  ca := fun X I k => class_of_exc T X I k
end
/-! ### where an exception stands -/
def XvAt (H : Hp) (a D : Addr) (fs : List (Str × V)) : Prop := (fs = [] ∧ H a = some (ExO (.ref D) a)) ∨ ∃ dx, H a = some (exo a D (some dx)) ∧ H dx = some (exd dx fs)
section
variable {X : Cx} {pins : List (Addr × Obj)} {σ : L2.St} {H : Hp} {s : Shared} {a D : Addr} {fs : List (Str × V)}
theorem XvAt.inst (I : Inv X pins σ H s) (h : XvAt H a D fs) : ∃ ox od, PySem.W.InstAt s.heap a ox D od := by
  rcases h with ⟨_, h⟩ | ⟨dx, h1, h2⟩
  · obtain ⟨⟨oe, vs, ho, hz, hd, _⟩, _, _⟩ := I.hok a _ h
    exact ⟨oe, none, ho, hz.1, by unfold PySem.W.notCls; rw [hd] <;> rfl, by rw [hz.2]; trivial⟩
  · obtain ⟨t1, ho⟩ := exo_at I.hok h1
    obtain ⟨mA, hns, hr⟩ := exd_at I.hok h2
    obtain ⟨od, hod, hl⟩ := lookIn_ns hns
    exact ⟨_, some od, ho, rfl, rfl, hod⟩
end
/-- isinstance(x, c), x an exception -/
def rIsV (K : PySem.W.Frag) : List V → Hp → VK → Prop := fun xs H Q => ∃ (a D : Addr) (fs : List (Str × V)) (c : V) (u : Value) (b : Bool), xs = [.ref a, c] ∧ XvAt H a D fs ∧ ExcC K D ∧ ClsV c u ∧ PySem.W.kitOne K (.ref D) u = some b ∧ Q (.bl b) H
section
variable {X : Cx}
theorem call_isV : CallR X (.builtin "isinstance") (rIsV X.K) := by
  intro pins s σ H xs us Q I r h
  obtain ⟨a, D, fs, c, u, b, rfl, hx, T, k, e, q⟩ := h
  obtain ⟨u1, u2, rfl, r1, r2⟩ := vals2 r
  obtain rfl := k.eq r2
  cases (show u1 = Value.ref a from r1)
  obtain ⟨ox, od, J⟩ := hx.inst I
  exact PySem.W.kia_one (kitx_excV T) I.kIn J e (fun z => nomatch z) fun tk => ⟨.bl b, H, I.tok tk, rfl, q⟩
/-- e.n, e an exception that keeps things -/
theorem pe_xfv {C : Addr} {e : Expr} {te : TE} {pos : Pos} {n : Str} (T : XfC X.K C) (hno : PySem.W.findIn X.K (.ref C) n = some none) (he : PE X e te) (hb : attributeBase e n X.env (eval e X.env) = eval e X.env := by rfl) :
    PE X (.Attribute e n pos) (fun σ H Q => te σ H fun x H1 => ∃ a dx fs v, x = .ref a ∧ H1 a = some (exo a C (some dx)) ∧ H1 dx = some (exd dx fs) ∧ fs.lookup n = some v ∧ Q v H1) := by
  refine ⟨fun pins s σ H Q I h => attr_of hb (thn (he.run pins s σ H _ I h) fun u s1 hh => ?_)⟩
  obtain ⟨x, H1, I1, rx, a, dx, fs, v, rfl, h1, h2, l, q⟩ := hh
  obtain rfl : u = Value.ref a := rx
  obtain ⟨t1, ho⟩ := exo_at I1.hok h1
  obtain ⟨mA, hns, hr⟩ := exd_at I1.hok h2
  obtain ⟨od, hod, hl⟩ := lookIn_ns hns
  obtain ⟨u, hu, ru⟩ := RelO.some_of (v := v) (o := mA n) (by rw [← l]; exact hr n)
  have J : PySem.W.InstAt s1.heap a { cls := .ref C, dict := some dx, data := .fields #[.ref t1, .none, .none, .none, .bool false, .none] } C (some od) := ⟨ho, rfl, rfl, hod⟩
  exact HandSPX.exc_get I1.kIn J T.ga T.gg T.exC (PySem.W.findObj_own T.hdC hno rfl (by rw [hl, hu])) (handed_of ru) ⟨v, H1, I1.tok _, ru, q⟩
/-- C(e), C an exception class whose own __init__ keeps one thing, as a value -/
theorem pe_keepV {C fI : Addr} {bmB : List Value} {newId : String} {f x g : Str} {k : Nat} {fd : FuncData} {e : Expr} {te : TE} {p pos : Pos} (FB : MkF bmB newId) (T : OxC X.K C fI bmB newId f)
    (F1 : FnOk X.prog X.w X.K X.mg X.base (L2.CX X.prog X.w) k fI fd ["self", g] (spIni C f)) (hr : Room (k + 1) X.A) (hb : Binds X.K fd ["self", g] []) (hg : Gl X x) (hm : X.mg x = some (.ref C)) (he : PE X e te)
    (hdb : (x == ("__debug__" : Str)) = false := by decide) (hs : starEach [e] X.env = (false, eval e X.env) :: starEach [] X.env := by rfl) (hpl : (backTo pos (starEach [] X.env)).any (·.1) = false := by rfl) :
    PE X (.Call (.Name x p) [e] [] pos) (fun σ H Q => te σ H fun v H1 => ∀ a dx, H1 a = none → H1 dx = none → dx ≠ a → Q (.ref a) (upd (upd H1 dx (exd dx [(f, v)])) a (exo a C (some dx)))) := by
  refine ⟨fun pins s σ H Q I h => wpAny_Call_Name_kw (ld_glob I hg hm ?_ hdb)⟩
  have hpa : PA X [e] (tCons te tNil) := pa_cons he pa_nil hs
  refine PySem.W.callWith_K (h₀ := X.base) I.ok.mod.kin T.kp (thn (hpa.run pos pins s σ H (fun vs H1 => ∃ v, vs = [v] ∧ ∀ a dx, H1 a = none → H1 dx = none → dx ≠ a → Q (.ref a) (upd (upd H1 dx (exd dx [(f, v)])) a (exo a C (some dx)))) I (tCons_one h)) fun us s1 ⟨vs, H1, I1, r1, v, ev, fine⟩ => ⟨I1.kIn, ?_⟩) hs hpl
  subst ev
  obtain ⟨nm, N, qn, bs, bm, hdct, sn, sub, ab, col, dd, k0, k1, k2, k3, k5, hC, hT⟩ := PySem.W.excInit_of I1.kIn T.q1
  obtain ⟨B0, i0, bmF, FF, f1, f2, f3⟩ := FB
  obtain ⟨hp, g0, dr, tk, os⟩ := s1
  have up : hp.objs.size ≤ hp.objs.size + 1 := Nat.le_succ _
  have nw : H1 (hp.objs.size + 1) = none := I1.hok.fresh up
  have kk : ∀ b o, hp.get? b = some o → ((hp.push (PySem.W.kdv_tup us)).push (PySem.HandSPX.excO C hp.objs.size)).get? b = some o := fun b o z => Heap.get?_push_of_some _ (Heap.get?_push_of_some _ z)
  have here : ((hp.push (PySem.W.kdv_tup us)).push (PySem.HandSPX.excO C hp.objs.size)).get? (hp.objs.size + 1) = some (PySem.HandSPX.excO C hp.objs.size) := by heap_get
  have I2 : Inv X pins σ (upd H1 (hp.objs.size + 1) (exo (hp.objs.size + 1) C none)) ⟨(hp.push (PySem.W.kdv_tup us)).push (PySem.HandSPX.excO C hp.objs.size), g0, dr, tk, os⟩ := I1.laid (t' := tk) kk up (exo_ok here)
  have hlen : us.length ≤ sizeLine := by
    rw [← Paired.length r1, sizeLine_eq]
    exact (by decide : 1 ≤ 16777216)
  have r2 : Vals [V.ref (hp.objs.size + 1), v] (Value.ref (hp.objs.size + 1) :: us) := .cons rfl r1
  have hsp : spIni C f [V.ref (hp.objs.size + 1), v] (upd H1 (hp.objs.size + 1) (exo (hp.objs.size + 1) C none)) (fun z H2 => z = .non ∧ Q (.ref (hp.objs.size + 1)) H2) E0 := by
    refine ⟨_, v, rfl, upd_same, fun dx n ne => ⟨rfl, ?_⟩⟩
    have ee : upd (upd (upd H1 (hp.objs.size + 1) (exo (hp.objs.size + 1) C none)) dx (exd dx [(f, v)])) (hp.objs.size + 1) (exo (hp.objs.size + 1) C (some dx)) = upd (upd H1 dx (exd dx [(f, v)])) (hp.objs.size + 1) (exo (hp.objs.size + 1) C (some dx)) := by
      funext b
      by_cases h2 : b = hp.objs.size + 1
      · rw [h2, upd_same, upd_same]
      · rw [upd_ne h2, upd_ne h2]
        by_cases h1 : b = dx
        · rw [h1, upd_same, upd_same]
        · rw [upd_ne h1, upd_ne h2, upd_ne h1]
    rw [ee]
    exact fine _ dx nw ((upd_ne ne).symm.trans n) ne
  have hl : (Value.ref (hp.objs.size + 1) :: us ++ []).length = ([("self" : Str), g] : List Str).length := by
    have z := r2.length
    rw [List.append_nil]
    exact z.symm
  have bt := hb _ (Value.ref (hp.objs.size + 1) :: us) I2.kIn hl
  rw [List.cons_append] at bt
  show wpAny _ _ (call (.ref C) us) _ _ _
  refine wpAny_call (run_class FF ((hT _).trans f1) ((hT _).trans f2) ((hT _).trans f3) hC (PySem.W.looks_findIn I1.kIn T.ic) (fun self => PySem.W.bind_fn I1.kIn self T.ti) hlen
    (codeAny_mono (F1.run _ X.stack _ _ ⟨Value.ref (hp.objs.size + 1) :: us, []⟩ (Value.ref (hp.objs.size + 1) :: (us ++ [])) _ _ E0 (hr.make C us []) (I2.env0.make C us []) bt (by rw [List.append_nil]; exact r2) hsp) fun r s' done => ?_))
  cases r with
  | error er => exact passL pins σ _ _ er s' I2 done
  | ok fl =>
    cases fl with
    | ret u =>
      obtain ⟨z, H2, os2, bare2, un2, hok2, rv, rfl, q⟩ := done
      obtain ⟨h2, g2, d2, t2, os'⟩ := s'
      obtain ⟨v3, H3, I3, r3, ⟨e1, e2⟩, q3⟩ := I2.after (Q := fun v' H' => (v' = .non ∧ H' = H2) ∧ Q (.ref (hp.objs.size + 1)) H') (u := u) (s' := ⟨h2, g2, d2, t2, os'⟩) ⟨.non, H2, os2, bare2, un2, hok2, rv, ⟨rfl, rfl⟩, q⟩
      subst e1
      exact ⟨rv, .ref (hp.objs.size + 1), H3, I3, rfl, q3⟩
    | next => exact False.elim done
    | brk => exact False.elim done
    | cont => exact False.elim done
end
end Py
set_option maxHeartbeats 2000000
/-! exceptions as values over Py; dict displays of constants; repr of small dicts -/
namespace Py
open PySem PySem.Spec PyProof.Rows L2
open Mir (SL SL_eq)
variable [Tb]

/-! ### C(e) -/
def mEx0 (c : Str) (me : Rho → M Val) : Rho → M Val := fun ρ cs => (me ρ cs).bind fun _ cs1 => .ok (.ex0 c) cs1
def mEx1 (c f : Str) (me : Rho → M Val) : Rho → M Val := fun ρ cs => (me ρ cs).bind fun v cs1 => .ok (.ex1 c f v) cs1
section
variable {X : Cx} {E : XK} {e : Expr} {me : Rho → M Val} {pos : Pos}
theorem em_ex0 {c : Str} {p : Pos} (F : XcA X.K X.mg c) (hg : Gl X c) (he : EM X E e me) (hs : starEach [e] X.env = (false, eval e X.env) :: starEach [] X.env := by rfl) (hdb : (c == ("__debug__" : Str)) = false := by decide) :
    EM X E (.Call (.Name c p) [e] [] pos) (mEx0 c me) := by
  obtain ⟨C, bmB, B, newId, initId, FB, q, gC, kC, h1, h2⟩ := F.ex
  obtain ⟨t, pt, kk⟩ := he
  refine em_of (pe_exc1 FB q gC kC hg pt hs hdb) fun A ρ cs σ H ok rk Q h => ?_
  refine kk A ρ cs σ H ok rk _ ((PostX.bind h).step (Stp.rfl' ok) fun sx cs1 q x A1 H1 s1 ok1 r1 a ha => ?_)
  have st := Stp.new' (o := ExO (.ref C) a) ok1 ha
  exact q _ A1 _ (s1.trans st) (ok1.new ha) (.ex0 gC (hid_in (ok1.ne ha) upd_same noT_ext))
theorem em_ex1 {c f : Str} {k : Nat} {p : Pos} (F : XcB X.prog X.w X.K X.mg X.base c f k) (hr : Room (k + 1) X.A) (hg : Gl X c) (he : EM X E e me) (hs : starEach [e] X.env = (false, eval e X.env) :: starEach [] X.env := by rfl)
    (hpl : (backTo pos (starEach [] X.env)).any (·.1) = false := by rfl) (hdb : (c == ("__debug__" : Str)) = false := by decide) : EM X E (.Call (.Name c p) [e] [] pos) (mEx1 c f me) := by
  obtain ⟨C, fI, bmB, newId, g, fd, FB, T, F1, hb, gC⟩ := F.ex
  obtain ⟨t, pt, kk⟩ := he
  refine em_of (pe_keepV FB T F1 hr hb hg gC pt hdb hs hpl) fun A ρ cs σ H ok rk Q h => ?_
  refine kk A ρ cs σ H ok rk _ ((PostX.bind h).step (Stp.rfl' ok) fun dv cs1 q v A1 H1 s1 ok1 r1 a dx ha hd ne => ?_)
  have st1 := Stp.new' (o := exd dx [(f, v)]) ok1 hd
  have ok2 := ok1.new (o := exd dx [(f, v)]) hd
  have ha2 : upd H1 dx (exd dx [(f, v)]) a = none := (upd_ne ne.symm).trans ha
  have st2 := Stp.new' (o := exo a C (some dx)) ok2 ha2
  have st := st1.trans st2
  refine q _ A1 _ (s1.trans st) (ok2.new ha2) (.ex1 gC (hid_in (ok1.ne ha) upd_same noT_ext) (hid_in (ok1.ne hd) ?_ noT_ext) (Rl.step st r1))
  exact (upd_ne ne).trans upd_same
/-! ### e.f -/
def mXfv (c f : Str) (me : Rho → M Val) : Rho → M Val := fun ρ cs => (me ρ cs).bind fun x cs1 => match x with
  | .ex1 c' g v => if c' = c ∧ g = f then .ok v cs1 else .bad
  | _ => .bad
theorem em_xfv {c f g : Str} {q2 : String} {st : Stmt} {bmB : List Value} {newId : String} (I : XcI X.K X.mg c f g q2 st bmB newId) (he : EM X E e me) (hb : attributeBase e f X.env (eval e X.env) = eval e X.env := by rfl) : EM X E (.Attribute e f pos) (mXfv c f me) := by
  obtain ⟨C, fI, fd, _, _, _, hm, xf, no⟩ := I
  obtain ⟨t, pt, kk⟩ := he
  refine em_of (pe_xfv xf no pt hb) fun A ρ cs σ H ok rk Q h => ?_
  refine kk A ρ cs σ H ok rk _ ((PostX.bind h).step (Stp.rfl' ok) fun sx cs1 q x A1 H1 s1 ok1 r1 => ?_)
  split at q
  · rename_i c' g' v
    split at q
    · rename_i hz
      obtain ⟨rfl, rfl⟩ := hz
      cases r1 with
      | ex1 g1 h1 h2 r =>
        cases hm.symm.trans g1
        exact ⟨_, _, _, _, rfl, hid_same _ _ h1, hid_same _ _ h2, by simp [List.lookup], q _ A1 H1 s1 ok1 r⟩
    · exact q.elim
  · exact q.elim
/-! ### isinstance -/
/-- what is told of an exception of the class c, asked for n -/
structure IsV (K : PySem.W.Frag) (mg : Str → Option Value) (c n : Str) (b : Bool) : Prop where
  ex : ∃ D u, mg c = some (.ref D) ∧ ExcC K D ∧ (mg n = some u ∨ (mg n = none ∧ bootBuiltins n = some u)) ∧ PySem.W.kitOne K (.ref D) u = some b
def isvO (l : List (Str × Str × Bool)) (n : Str) : Val → M Val
  | .ex0 c, cs1 => match isAT l c n with
    | some b => .ok (.bl b) cs1
    | none => .bad
  | .ex1 c _ _, cs1 => match isAT l c n with
    | some b => .ok (.bl b) cs1
    | none => .bad
  | _, _ => .bad
def mIsV (l : List (Str × Str × Bool)) (n : Str) (me : Rho → M Val) : Rho → M Val := fun ρ cs => (me ρ cs).bind (isvO l n)
theorem isVT {K : PySem.W.Frag} {mg : Str → Option Value} {l : List (Str × Str × Bool)} (h : ∀ t ∈ l, IsV K mg t.1 t.2.1 t.2.2) : ∀ {c n : Str} {b : Bool}, isAT l c n = some b → IsV K mg c n b := by
  induction l with
  | nil => intro c n b e; cases e
  | cons t r ih =>
    intro c n b e
    obtain ⟨y, x, b'⟩ := t
    unfold isAT at e
    split at e
    · rename_i q
      obtain ⟨rfl, rfl⟩ := q
      cases e
      exact h _ List.mem_cons_self
    · exact ih (fun t ht => h t (List.mem_cons_of_mem _ ht)) e
theorem isV_run {l : List (Str × Str × Bool)} {n : Str} {c : V} {u : Value} {A : List Addr} {H : Hp} {cs : Mem} {x : V} {d : Val} {Q : VK} (hl : ∀ t ∈ l, IsV X.K X.mg t.1 t.2.1 t.2.2) (hc : ClsV c u) (hn : ∀ v, (X.mg n = some v ∨ (X.mg n = none ∧ bootBuiltins n = some v)) → v = u) (ok : Ok X.K X.mg A cs H) (r : RlV X.K X.mg A H x d)
    (h : Post X.K X.mg A H Q E (isvO l n d cs)) : rIsV X.K [x, c] H Q := by
  cases r with
  | @ex0 cn a C g1 h1 =>
    replace h : Post X.K X.mg A H Q E (match isAT l cn n with
      | some b => .ok (.bl b) cs
      | none => .bad) := h
    cases eb : isAT l cn n with
    | none =>
      rw [eb] at h
      exact h.elim
    | some b =>
      rw [eb] at h
      obtain ⟨D, u', g2, T, hu, e⟩ := isVT hl eb
      cases g1.symm.trans g2
      cases hn _ hu
      exact ⟨a, C, [], c, u, b, rfl, .inl ⟨rfl, hid_same _ _ h1⟩, T, hc, e, Post.ret ok h (.bl b)⟩
  | @ex1 cn f a C dx y dv g1 h1 h2 r =>
    replace h : Post X.K X.mg A H Q E (match isAT l cn n with
      | some b => .ok (.bl b) cs
      | none => .bad) := h
    cases eb : isAT l cn n with
    | none =>
      rw [eb] at h
      exact h.elim
    | some b =>
      rw [eb] at h
      obtain ⟨D, u', g2, T, hu, e⟩ := isVT hl eb
      cases g1.symm.trans g2
      cases hn _ hu
      exact ⟨a, C, [(f, y)], c, u, b, rfl, .inr ⟨dx, hid_same _ _ h1, hid_same _ _ h2⟩, T, hc, e, Post.ret ok h (.bl b)⟩
  | _ => exact h.elim
/-- isinstance(e, n), n a built-in class -/
theorem em_isVB {l : List (Str × Str × Bool)} {n : Str} {u : String} {p p2 : Pos} (hl : ∀ t ∈ l, IsV X.K X.mg t.1 t.2.1 t.2.2) (hg : Gl X "isinstance") (hm : X.mg "isinstance" = none) (hg2 : Gl X n) (hm2 : X.mg n = none) (hv2 : bootBuiltins n = some (.type u)) (he : EM X E e me)
    (hn2 : n ≠ "__name__" := by decide) (hd2 : (n == ("__debug__" : Str)) = false := by decide)
    (hst : starEach [e, .Name n p2] X.env = (false, eval e X.env) :: starEach [.Name n p2] X.env := by rfl) (hst2 : starEach [.Name n p2] X.env = (false, eval (.Name n p2) X.env) :: starEach [] X.env := by rfl) (hs : (backTo pos (starEach [.Name n p2] X.env)).any (·.1) = false := by rfl) :
    EM X E (.Call (.Name "isinstance" p) [e, .Name n p2] [] pos) (mIsV l n me) := by
  obtain ⟨t, pt, kk⟩ := he
  refine em_of (pe_callB call_isV hg hm (by decide +kernel) (pa_cons pt (pa_cons (pe_bltn (v := .ty u) hg2 hm2 hv2 rfl hn2 hd2) pa_nil hst2) hst) (by decide) (by decide) hst hs) fun A ρ cs σ H ok rk Q h => ?_
  refine kk A ρ cs σ H ok rk _ ((PostX.bind h).step (Stp.rfl' ok) fun sx cs1 q x A1 H1 s1 ok1 r1 => ?_)
  refine isV_run (l := l) (n := n) (u := .type u) hl (.ty u) (fun v hv => ?_) ok1 r1 (post_step s1 q)
  rcases hv with z | ⟨_, z⟩
  · rw [hm2] at z; cases z
  · exact Option.some.inj (z.symm.trans hv2)
/-- isinstance(e, n), n a class of the text -/
theorem em_isVO {l : List (Str × Str × Bool)} {n : Str} {C : Addr} {p p2 : Pos} (hl : ∀ t ∈ l, IsV X.K X.mg t.1 t.2.1 t.2.2) (hg : Gl X "isinstance") (hm : X.mg "isinstance" = none) (hg2 : Gl X n) (hm2 : X.mg n = some (.ref C)) (he : EM X E e me)
    (hd2 : (n == ("__debug__" : Str)) = false := by decide)
    (hst : starEach [e, .Name n p2] X.env = (false, eval e X.env) :: starEach [.Name n p2] X.env := by rfl) (hst2 : starEach [.Name n p2] X.env = (false, eval (.Name n p2) X.env) :: starEach [] X.env := by rfl) (hs : (backTo pos (starEach [.Name n p2] X.env)).any (·.1) = false := by rfl) :
    EM X E (.Call (.Name "isinstance" p) [e, .Name n p2] [] pos) (mIsV l n me) := by
  obtain ⟨t, pt, kk⟩ := he
  refine em_of (pe_callB call_isV hg hm (by decide +kernel) (pa_cons pt (pa_cons (pe_glob (v := .ref C) hg2 hm2 rfl hd2) pa_nil hst2) hst) (by decide) (by decide) hst hs) fun A ρ cs σ H ok rk Q h => ?_
  refine kk A ρ cs σ H ok rk _ ((PostX.bind h).step (Stp.rfl' ok) fun sx cs1 q x A1 H1 s1 ok1 r1 => ?_)
  refine isV_run (l := l) (n := n) (u := .ref C) hl (.own C) (fun v hv => ?_) ok1 r1 (post_step s1 q)
  rcases hv with z | ⟨z, _⟩
  · exact Option.some.inj (z.symm.trans hm2)
  · rw [hm2] at z; cases z
/-! ### raise C(e) -/
def sRaiseE (c : Str) (me : Rho → M Val) : Rho → M Fl := fun ρ cs => (me ρ cs).bind fun _ cs1 => .exc ⟨c, []⟩ cs1
theorem sm_raiseE {c : Str} {p p3 : Pos} (F : XcA X.K X.mg c) (hg : Gl X c) (hc : X.calm = true) (tk : TakesE X E) (he : EM X E e me) (hdb : (c == ("__debug__" : Str)) = false := by decide) (hs : starEach [e] X.env = (false, eval e X.env) :: starEach [] X.env := by rfl) :
    SM X E (.Raise (some (.Call (.Name c p) [e] [] p3)) none pos) (sRaiseE c me) := by
  obtain ⟨C, bmB, B, newId, initId, FB, q, gC, kC, h1, h2⟩ := F.ex
  obtain ⟨t, pt, kk⟩ := he
  refine ⟨_, ps_raise hc tk (SkE.pmk_own1 FB q gC kC (raises_own h1 h2) hg pt hs hdb), fun A ρ cs σ H ok rk De h => ?_⟩
  exact kk A ρ cs σ H ok rk _ (PostX.step (Stp.rfl' ok) (fun dv cs1 q v A1 H1 s1 ok1 r1 => q A1 H1 (.ref C) none s1 ok1 ⟨gC, .inl ⟨rfl, rfl⟩⟩) (PostX.bind h))
end
/-! ### {k: v, ..} of what never changes -/
/-- a reading that is the same everywhere -/
structure CE (X : Cx) (e : Expr) (v : V) (d : Val) : Prop where
  ex : ∃ t, PE X e t ∧ ∀ σ H Q, Q v H → t σ H Q
  rl : ∀ A H, Rl X.K X.mg A H v d
inductive CPs (X : Cx) : List (Option Expr) → List Expr → List (Key × V) → List (Key × Val) → Prop
  | nil : CPs X [] [] [] []
  | cons {k e : Expr} {y : Key} {v : V} {d dk : Val} {ks : List (Option Expr)} {es : List Expr} {vs : List (Key × V)} {ds : List (Key × Val)} (hk : CE X k (kV y) dk) (he : CE X e v d) (r : CPs X ks es vs ds) : CPs X (some k :: ks) (e :: es) ((y, v) :: vs) ((y, d) :: ds)
section
variable {X : Cx} {E : XK} {pos : Pos}
theorem ce_int {i : Int} {j : Nat} : CE X (.Constant (.int i) j pos) (.int i) (.int i) := ⟨⟨_, pe_int, fun _ _ _ h => h⟩, fun _ _ => .int i⟩
theorem ce_str {x : Str} {j : Nat} : CE X (.Constant (.str x) j pos) (.str x) (.str x) := ⟨⟨_, pe_str, fun _ _ _ h => h⟩, fun _ _ => .str x⟩
theorem ce_bl {b : Bool} {j : Nat} : CE X (.Constant (.bool b) j pos) (.bl b) (.bl b) := ⟨⟨_, pe_bl, fun _ _ _ h => h⟩, fun _ _ => .bl b⟩
theorem ce_globI {x : Str} {i : Int} (hg : Gl X x) (hm : ∃ t, X.mg x = some (.int i t)) (hd : (x == ("__debug__" : Str)) = false := by decide) : CE X (.Name x pos) (.int i) (.int i) := by
  obtain ⟨t, hm⟩ := hm
  exact ⟨⟨_, pe_glob (v := .int i) hg hm ⟨t, rfl⟩ hd, fun _ _ _ h => h⟩, fun _ _ => .int i⟩
theorem CPs.run {ks : List (Option Expr)} {es : List Expr} {vs : List (Key × V)} {ds : List (Key × Val)} (h : CPs X ks es vs ds) : ks.all (·.isSome) = true ∧ ks.length = es.length ∧ ks.length = vs.length ∧
    (∀ A H, RlD X.K X.mg A H vs ds) ∧ ∃ trs, PPs X pos ks es trs ∧ ∀ σ H Q, Q (vs.map fun kv => (kV kv.1, kv.2)) H → tPairs trs σ H Q := by
  induction h with
  | nil => exact ⟨rfl, rfl, rfl, fun _ _ => .nil, [], pps_nil, fun _ _ _ h => h⟩
  | cons hk he r ih =>
    obtain ⟨a1, a2, a3, a4, trs, a5, a6⟩ := ih
    obtain ⟨⟨tk, pk, qk⟩, _⟩ := hk
    obtain ⟨⟨te, pe, qe⟩, re⟩ := he
    refine ⟨by simp only [List.all_cons, Option.isSome_some, Bool.true_and]; exact a1, by rw [List.length_cons, List.length_cons, a2], by rw [List.length_cons, List.length_cons, a3], fun A H => .cons (re A H) (a4 A H), _, pps_cons pk pe a5, fun σ H Q h => ?_⟩
    exact qk _ _ _ (qe _ _ _ (a6 _ _ _ h))
theorem rl_putK {K : PySem.W.Frag} {mg : Str → Option Value} {A : List Addr} {H : Hp} {k : Key} {v : V} {d : Val} (r : Rl K mg A H v d) : ∀ {vs : List (Key × V)} {ds : List (Key × Val)}, RlD K mg A H vs ds → ds.any (fun p => p.1 = k) = false → RlD K mg A H (putK vs k v) (ds ++ [(k, d)]) := by
  intro vs ds h hn
  have e : ∀ {vs : List (Key × V)} {ds : List (Key × Val)}, RlD K mg A H vs ds → vs.any (fun p => p.1 = k) = ds.any (fun p => p.1 = k) := by
    intro vs ds h
    induction h with
    | nil => rfl
    | cons _ _ ih => simp only [List.any_cons, ih]
  unfold putK
  rw [if_neg (by rw [e h, hn]; exact Bool.false_ne_true)]
  clear hn e
  induction h with
  | nil => exact .cons r .nil
  | cons q _ ih => exact .cons q ih
def freshK : List (Key × Val) → List (Key × Val) → Bool
  | _, [] => true
  | acc, p :: r => !acc.any (fun q => q.1 = p.1) && freshK (acc ++ [p]) r
theorem rl_mergeK {K : PySem.W.Frag} {mg : Str → Option Value} {A : List Addr} {H : Hp} {ms : List (Key × V)} {ds : List (Key × Val)} (r : RlD K mg A H ms ds) : ∀ {vs : List (Key × V)} {as : List (Key × Val)}, RlD K mg A H vs as → freshK as ds = true → RlD K mg A H (mergeK vs ms) (as ++ ds) := by
  induction r with
  | nil =>
    intro vs as h _
    rw [List.append_nil]
    exact h
  | @cons k v ms d ds q _ ih =>
    intro vs as h hf
    rw [freshK, Bool.and_eq_true, Bool.not_eq_true'] at hf
    have := ih (rl_putK q h hf.1) hf.2
    rw [List.append_assoc] at this
    exact this
def mDisp (ds : List (Key × Val)) : Rho → M Val := fun _ cs => .ok (.h cs.length) (cs ++ [.dct ds])
theorem em_disp {ks : List (Option Expr)} {es : List Expr} {vs : List (Key × V)} {ds : List (Key × Val)} (h : CPs X ks es vs ds) (h0 : ks ≠ []) (h15 : ks.length ≤ 15) (hf : freshK [] ds = true) : EM X E (.Dict ks es pos) (mDisp ds) := by
  obtain ⟨a1, a2, a3, a4, trs, a5, a6⟩ := h.run (pos := pos)
  refine em_of (pe_disp a5 a1 a2 h0 h15) fun A ρ cs σ H ok rk Q h p hp => a6 _ _ _ ⟨upd_same, vs, rfl, a3 ▸ h15, ?_⟩
  rw [upd_upd]
  exact Post.dct ok h (rl_mergeK (a4 A (hid A H)) .nil hf) hp
end
/-! ### repr, small dicts too -/
def scalD : PyData → Bool
  | .none | .bool _ | .int _ | .str _ => true
  | _ => false
def RepOk2 (d : PyData) : Bool := RepOk d || (match d with
  | .dict kvs => d.showable && kvs.all (fun p => scalD p.1 && scalD p.2) && decide (d.depth ≤ 50) && decide (d.shown.length ≤ SL)
  | _ => false)
theorem reads_scal {h : Heap} : ∀ {d : PyData} {v : V} {u : Value} {K : PySem.W.Frag} {H : Hp}, Mir.Sh K H v d → RelV v u → scalD d = true → Reads h u d []
  | _, _, _, _, _, .non, r, _ => by cases r; exact .none
  | _, _, _, _, _, .bl b, r, _ => by cases r; exact .bool b
  | _, _, _, _, _, .int i, r, _ => by obtain ⟨t, rfl⟩ := r; exact .int i t
  | _, _, _, _, _, .str x, r, _ => by obtain ⟨t, rfl⟩ := r; exact .str x t
  | _, _, _, _, _, .lst _ _, _, e => by cases e
  | _, _, _, _, _, .tup _ _, _, e => by cases e
  | _, _, _, _, _, .dic _ _, _, e => by cases e
theorem reads_kvs {h : Heap} {K : PySem.W.Frag} {H : Hp} {P : Program} {w : World} : ∀ {kvs : List (Key × V)} {ds : List (PyData × PyData)}, Mir.ShD K H kvs ds → ∀ {vs : List (Key × Value)} {es : List DictEntry}, KV kvs vs → Pairs (mixKind P w) es vs → ds.all (fun p => scalD p.1 && scalD p.2) = true →
    ReadsAll h (es.map (·.key)) (ds.map (·.1)) [] ∧ ReadsAll h (es.map (·.val)) (ds.map (·.2)) []
  | _, _, .nil => fun r p _ => by
    cases r
    cases p
    exact ⟨.nil, .nil⟩
  | _, _, .cons (k := k) s t => fun r p c => by
    cases r with
    | cons q r =>
      cases p with
      | cons hk hv p =>
        obtain ⟨q1, q2⟩ := q
        rw [List.all_cons, Bool.and_eq_true, Bool.and_eq_true] at c
        obtain ⟨i1, i2⟩ := reads_kvs t r p c.2
        refine ⟨ReadsAll.cons (as := []) (bs := []) ?_ i1, ReadsAll.cons (as := []) (bs := []) ?_ i2⟩
        · have q1 : k = _ := q1
          subst q1
          rcases keyIs_shape hk with ⟨i, t, e1, e2⟩ | ⟨x, t, e1, e2⟩
          · dsimp only
            rw [e2, e1]
            exact .int i t
          · dsimp only
            rw [e2, e1]
            exact .str x t
        · dsimp only
          rw [hv]
          exact reads_scal s q2 c.1.2
def rRepr2 (K : PySem.W.Frag) : List V → Hp → VK → Prop := fun xs H Q => ∃ v d, xs = [v] ∧ Mir.Sh K H v d ∧ RepOk2 d = true ∧ Q (.str d.shown) H
theorem call_repr2 {X : Cx} (hg : X.A.guards = some []) (hu : X.A.units + 64 < cLine) : CallR X (.builtin "repr") (rRepr2 X.K) := by
  intro pins s σ H xs us Q I r h
  obtain ⟨v, d, rfl, hs, hd, q⟩ := h
  by_cases h1 : RepOk d = true
  · exact call_repr hg hu pins s σ H [v] us Q I r ⟨v, d, rfl, hs, h1, q⟩
  · unfold RepOk2 at hd
    rw [(Bool.not_eq_true _).mp h1, Bool.false_or] at hd
    split at hd
    · rename_i kvs
      simp only [Bool.and_eq_true, decide_eq_true_eq] at hd
      obtain ⟨⟨⟨h1, h2⟩, h3⟩, h4⟩ := hd
      have h5 : (PyData.dict kvs).shown.length ≤ sizeLine := SL_eq ▸ h4
      obtain ⟨u, rfl, rv⟩ := vals1 r
      cases hs with
      | @dic a kvV _ ha hb =>
        cases rv
        obtain ⟨_, hsm, vs, hkv, o, es, ep, e1, e2, e3, _, e4, _⟩ := dk_of I.hok ha
        obtain ⟨r1, r2⟩ := reads_kvs (h := s.heap) hb hkv e4 h2
        have rd : Reads s.heap (.ref a) (.dict kvs) (a :: [] ++ []) := .dict e1 e2.1 e3 r1 r2
        refine repr_of_reads' rd h1 (fun _ z => ?_) hg (by omega) (fun _ _ e => e) (fun h' u tk hk => ⟨.str _, H, I.kept hk, ⟨_, rfl⟩, q⟩) h5
        have za : a = sysModules := (List.mem_singleton.mp (show sysModules ∈ [a] from z)).symm
        rw [za] at hsm
        simp at hsm
    · cases hd
def bRepr2 : List Val → M Val := fun ds cs => match ds with
  | [x] => match snap DEP cs x with
    | some d => if RepOk2 d = true then .ok (.str d.shown) cs else .bad
    | none => .bad
  | _ => .bad
theorem cb_repr2 {X : Cx} {E : XK} [Tb] (hg : X.A.guards = some []) (hu : X.A.units + 64 < cLine) : CbM X E (.builtin "repr") bRepr2 := by
  refine ⟨_, call_repr2 hg hu, fun A cs H vs ds ok rs Q h => ?_⟩
  unfold bRepr2 at h
  split at h
  · obtain ⟨v, rfl, r⟩ := one_of rs
    split at h
    · rename_i d ed
      split at h
      · rename_i hz
        exact ⟨v, d, rfl, snap_sh ok _ _ _ _ r ed, hz, Post.ret ok h (.str _)⟩
      · exact h.elim
    · exact h.elim
  · exact h.elim
end Py
set_option maxHeartbeats 2000000
/-! facts of many classes at once; try in a def -/
namespace Py
open PySem PySem.Spec PyProof.Rows L2

/-! ### facts of many classes at once -/
def isaOne (K : PySem.W.Frag) (t : Str × Str × Bool) : Bool := match PySem.W.nsIn K mainGlobals t.1, PySem.W.nsIn K mainGlobals t.2.1 with
  | some (some v), some (some u) => decide (PySem.W.exmOne K v u = some t.2.2)
  | _, _ => false
def excCB (K : PySem.W.Frag) (D : Addr) : Bool := decide (PySem.W.findIn K (.ref D) "__getattribute__" = some (some (.builtin "BaseException.__getattribute__"))) && decide (PySem.W.findIn K (.ref D) "__getattr__" = some none) && decide (PySem.W.subIn K (.ref D) (.type "BaseException") = some true) &&
  PySem.W.hasDictIn K D && decide (PySem.W.findIn K (.ref D) "__class__" = some (some (.builtin "object.__class__"))) && decide (PySem.W.specialIn K (.builtin "object.__class__") "__get__" = some (some (.builtin "getset_descriptor.__get__"))) && decide (PySem.W.takesIn K (.builtin "object.__class__") = some true) &&
  decide (PySem.W.mroIn K D (.type "object") = some true)
theorem excCB_ok {K : PySem.W.Frag} {D : Addr} (h : excCB K D = true) : ExcC K D := by
  simp only [excCB, Bool.and_eq_true, decide_eq_true_eq] at h
  obtain ⟨⟨⟨⟨⟨⟨⟨h1, h2⟩, h3⟩, h4⟩, h5⟩, h6⟩, h7⟩, h8⟩ := h
  exact ⟨h1, h2, h3, h4, h5, h6, h7, h8⟩
def isvOne (K : PySem.W.Frag) (t : Str × Str × Bool) : Bool := match PySem.W.nsIn K mainGlobals t.1 with
  | some (some (.ref D)) => excCB K D && (match PySem.W.nsIn K mainGlobals t.2.1 with
    | some (some u) => decide (PySem.W.kitOne K (.ref D) u = some t.2.2)
    | some none => match bootBuiltins t.2.1 with
      | some u => decide (PySem.W.kitOne K (.ref D) u = some t.2.2)
      | none => false
    | none => false)
  | _ => false
section
variable {K : PySem.W.Frag} {h : Heap} {mg : Str → Option Value}
theorem IsA.all {l : List (Str × Str × Bool)} (X : K.In h) (G : h.Ns mainGlobals mg) (q : l.all (isaOne K) = true) : ∀ t ∈ l, IsA K mg t.1 t.2.1 t.2.2 := by
  intro t ht
  have q := List.all_eq_true.mp q t ht
  unfold isaOne at q
  split at q
  · rename_i v u e1 e2
    exact .of X G e1 e2 (of_decide_eq_true q)
  · cases q
theorem IsV.all {l : List (Str × Str × Bool)} (X : K.In h) (G : h.Ns mainGlobals mg) (q : l.all (isvOne K) = true) : ∀ t ∈ l, IsV K mg t.1 t.2.1 t.2.2 := by
  intro t ht
  have q := List.all_eq_true.mp q t ht
  unfold isvOne at q
  split at q
  · rename_i D e1
    rw [Bool.and_eq_true] at q
    refine ⟨D, ?_⟩
    have T := excCB_ok q.1
    have q := q.2
    split at q
    · rename_i u e2
      exact ⟨u, PySem.W.mg_of X G e1, T, .inl (PySem.W.mg_of X G e2), of_decide_eq_true q⟩
    · rename_i e2
      split at q
      · rename_i u e3
        exact ⟨u, PySem.W.mg_of X G e1, T, .inr ⟨PySem.W.mg_none_of X G e2, e3⟩, of_decide_eq_true q⟩
      · cases q
    · cases q
  · cases q
end
/-! ### try in a def: behind what was caught nothing is known of the names -/
variable [Tb]
def mTryN (n : Nat) (isA : Str → Str → Option Bool) (m : Rho → M Fl) (hl : List (Str × Option Nat × (Ex → Rho → M Fl))) : Rho → M Fl := fun ρ cs => match m ρ cs with
  | .exc x cs' => pick isA hl x (List.replicate n none) cs'
  | r => r
section
variable {X : Cx} {E : XK} {isA : Str → Str → Option Bool}
theorem ps_len {st : Stmt} {t : TS} (p : PS X st t) : PS X st (fun D σ H => σ.length = X.N.length → t D σ H) := ⟨fun pins s σ H D I h => p.run pins s σ H D I (h I.len)⟩
theorem sm_tryN {body : List Stmt} {h₀ : ExceptHandler} {hds : List ExceptHandler} {m : Rho → M Fl} {hl : List (Str × Option Nat × (Ex → Rho → M Fl))} {pos : Pos} (hs : X.stack = X.env :: X.outer) (hf : X.env.frame = some X.env.locals) (tk : TakesE X E)
    (hb : ∀ (E' : XK) (pn : List (Addr × Obj)) (xe : Value → Shared → Prop), TakesE (X.tr pn xe) E' → PassesOwn (model X.prog X.w) X.A X.env xe → BM (X.tr pn xe) E' body m) (hh : HM X isA (h₀ :: hds) hl) :
    SM X E (.Try body (h₀ :: hds) [] [] pos) (mTryN X.N.length isA m hl) := by
  obtain ⟨l, hl', kl⟩ := hm_ok (E := E) hh
  refine ⟨_, ps_len (ps_mix (tb := fun W D σ H => ∀ pn xe, Takes (X.tr pn xe) W → PassesOwn (model X.prog X.w) X.A X.env xe → ∃ t, PSs (X.tr pn xe) body t ∧ t D σ H) hs hf tk (fun W pn xe tkW po => ⟨fun pins s σ H D I h => ?_⟩) hl'), fun A ρ cs σ H ok rk De h hlen => ?_⟩
  · obtain ⟨t, p, h⟩ := h pn xe tkW po
    exact p.run pins s σ H D I h
  · intro pn xe tkW po
    obtain ⟨t, p, k⟩ := hb (fun c d H' => ∀ σ' : L2.St, σ'.length = X.N.length → wMix X.K (fun c d _ H => E c d H) De l c d σ' H') pn xe (fun u s' z => by
      obtain ⟨a, B, sI, pins, σ2, H2, cls, d, e, I, nb, up, sky, na, os, ag, w⟩ := z
      exact tkW u s' ⟨a, B, sI, pins, σ2, H2, cls, d, e, I, nb, up, sky, na, os, ag, w σ2 I.len⟩) po
    refine ⟨t, p, k A ρ cs σ H ok rk De ?_⟩
    unfold mTryN at h
    cases e : m ρ cs with
    | bad =>
      rw [e] at h
      exact h
    | ok f cs1 =>
      rw [e] at h
      exact h
    | exc x cs1 =>
      rw [e] at h
      exact fun A' H' cls dx s ok' r σ' hσ => kl De A' (List.replicate X.N.length none) cs1 σ' H' x cls dx ok' (rho_none hσ) hσ r (PostS.step (De := De) s h)
end
/-- isinstance(e, n), n a class of the text -/
theorem em_isVO' {X : Cx} {E : XK} {e : Expr} {me : Rho → M Val} {pos : Pos} {l : List (Str × Str × Bool)} {n : Str} {p p2 : Pos} (hl : ∀ t ∈ l, IsV X.K X.mg t.1 t.2.1 t.2.2) (hg : Gl X "isinstance") (hm : X.mg "isinstance" = none) (hg2 : Gl X n) (x : XcA X.K X.mg n) (he : EM X E e me)
    (hd2 : (n == ("__debug__" : Str)) = false := by decide)
    (hst : starEach [e, .Name n p2] X.env = (false, eval e X.env) :: starEach [.Name n p2] X.env := by rfl) (hst2 : starEach [.Name n p2] X.env = (false, eval (.Name n p2) X.env) :: starEach [] X.env := by rfl) (hs : (backTo pos (starEach [.Name n p2] X.env)).any (·.1) = false := by rfl) :
    EM X E (.Call (.Name "isinstance" p) [e, .Name n p2] [] pos) (mIsV l n me) := by
  obtain ⟨C, _, _, _, _, _, _, gC, _⟩ := x.ex
  exact em_isVO hl hg hm hg2 gC he hd2 hst hst2 hs

/-! ### KeyError -/
theorem mk_KeyError : MkF [.type "KeyError", .type "LookupError", .type "Exception", .type "BaseException", .type "object"] "LookupError.__new__" :=
  ⟨"LookupError", "LookupError.__init__", _, PySem.F.excBase_LookupError, by decide +kernel, by decide +kernel, by decide +kernel⟩
theorem store_KeyError : StoreFacts "KeyError" [.type "KeyError", .type "LookupError", .type "Exception", .type "BaseException", .type "object"] "object.__setattr__" "object" := by
  have S := PySem.F.store_LookupError
  refine { mro := ?m, slot := ?s, entry := S.entry, kind := S.kind, split := S.split, hasOwner := by decide +kernel, args := S.args, passes := ?p }
  case m => kernel_rfl
  case s =>
    refine .of (owner := "object") (n := "__setattr__") ?a (by decide +kernel) (by decide +kernel) (by decide +kernel) ?b ?c
    case a =>
      rw [typeLookup_type]
      rw [builtinLookup_eq_fast]
      kernel_rfl
    case b => first | (refine .inl ?_; decide +kernel) | (refine .inr ?_; decide +kernel)
    case c =>
      rw [isSubtype_type]
      kernel_rfl
  case p => exact fun self => by kernel_rfl
end Py
set_option maxHeartbeats 4000000
namespace K00
open PySem PySem.Spec PyProof.Rows L2 LamX Py
variable [Tb]
def topS (i : Nat) : Stmt := PySem.Challenge.pw_fallorflow_k00_whole_classes_of_errors.main.body.getD i (.Pass ⟨0, 0, 0, 0⟩)
def inS (i j : Nat) : Stmt := match topS i with
  | .ClassDef _ _ _ body _ _ _ _ _ _ _ => body.getD j (.Pass ⟨0, 0, 0, 0⟩)
  | s => s
abbrev s__law_spins : Stmt := topS 17
theorem sc__law_spins : FnScope ["script", "spot", "cell", "great"] ["script", "spot"] (defScope s__law_spins) := ⟨rfl, rfl, rfl, by decide +kernel, rfl, by decide +kernel, by decide +kernel⟩
abbrev s__law_spin : Stmt := topS 18
theorem sc__law_spin : FnScope ["spins", "total", "found", "one", "two"] ["spins", "total"] (defScope s__law_spin) := ⟨rfl, rfl, rfl, by decide +kernel, rfl, by decide +kernel, by decide +kernel⟩
abbrev s__law_among : Stmt := topS 19
theorem sc__law_among : FnScope ["spins", "items"] ["spins", "items"] (defScope s__law_among) := ⟨rfl, rfl, rfl, by decide +kernel, rfl, by decide +kernel, by decide +kernel⟩
abbrev s__law_raise : Stmt := topS 20
theorem sc__law_raise : FnScope ["word", "value"] ["word", "value"] (defScope s__law_raise) := ⟨rfl, rfl, rfl, by decide +kernel, rfl, by decide +kernel, by decide +kernel⟩
abbrev s__law_forth : Stmt := topS 21
theorem sc__law_forth : FnScope ["word", "value"] ["word", "value"] (defScope s__law_forth) := ⟨rfl, rfl, rfl, by decide +kernel, rfl, by decide +kernel, by decide +kernel⟩
abbrev s__law_back : Stmt := topS 22
theorem sc__law_back : FnScope ["word", "value"] ["word", "value"] (defScope s__law_back) := ⟨rfl, rfl, rfl, by decide +kernel, rfl, by decide +kernel, by decide +kernel⟩
abbrev s__law_base : Stmt := topS 23
theorem sc__law_base : FnScope ["error", "kinds", "word", "is_one"] ["error"] (defScope s__law_base) := ⟨rfl, rfl, rfl, by decide +kernel, rfl, by decide +kernel, by decide +kernel⟩
abbrev s__law_all_bases : Stmt := topS 24
theorem sc__law_all_bases : FnScope ["value", "found", "word", "error"] ["value"] (defScope s__law_all_bases) := ⟨rfl, rfl, rfl, by decide +kernel, rfl, by decide +kernel, by decide +kernel⟩
abbrev s__law_value : Stmt := topS 25
theorem sc__law_value : FnScope ["spins"] ["spins"] (defScope s__law_value) := ⟨rfl, rfl, rfl, by decide +kernel, rfl, by decide +kernel, by decide +kernel⟩
abbrev s__law_right : Stmt := topS 26
theorem sc__law_right : FnScope ["spins", "value", "words", "further", "word", "due", "told"] ["spins"] (defScope s__law_right) := ⟨rfl, rfl, rfl, by decide +kernel, rfl, by decide +kernel, by decide +kernel⟩
abbrev s_law : Stmt := topS 27
theorem sc_law : FnScope ["script", "spot"] ["script"] (defScope s_law) := ⟨rfl, rfl, rfl, by decide +kernel, rfl, by decide +kernel, by decide +kernel⟩
abbrev i_ParseError : Stmt := inS 10 0
theorem si_ParseError : FnScope ["self", "spot"] ["self", "spot"] (defScope i_ParseError) := ⟨rfl, rfl, rfl, by decide +kernel, rfl, by decide +kernel, by decide +kernel⟩
abbrev i_InvalidNumber : Stmt := inS 11 0
theorem si_InvalidNumber : FnScope ["self", "given"] ["self", "given"] (defScope i_InvalidNumber) := ⟨rfl, rfl, rfl, by decide +kernel, rfl, by decide +kernel, by decide +kernel⟩
abbrev i_UnknownName : Stmt := inS 12 0
theorem si_UnknownName : FnScope ["self", "asked"] ["self", "asked"] (defScope i_UnknownName) := ⟨rfl, rfl, rfl, by decide +kernel, rfl, by decide +kernel, by decide +kernel⟩
abbrev i_NothingToUndo : Stmt := inS 13 0
theorem si_NothingToUndo : FnScope ["self", "wanted"] ["self", "wanted"] (defScope i_NothingToUndo) := ⟨rfl, rfl, rfl, by decide +kernel, rfl, by decide +kernel, by decide +kernel⟩
abbrev i_TooMany : Stmt := inS 14 0
theorem si_TooMany : FnScope ["self", "limit"] ["self", "limit"] (defScope i_TooMany) := ⟨rfl, rfl, rfl, by decide +kernel, rfl, by decide +kernel, by decide +kernel⟩
abbrev i_Refused : Stmt := inS 15 0
theorem si_Refused : FnScope ["self", "reason"] ["self", "reason"] (defScope i_Refused) := ⟨rfl, rfl, rfl, by decide +kernel, rfl, by decide +kernel, by decide +kernel⟩
def isvL : List (Str × Str × Bool) := [(("FlowError" : Str), ("ArithmeticError" : Str), false), (("FlowError" : Str), ("FlowError" : Str), true), (("FlowError" : Str), ("IndexError" : Str), false), (("FlowError" : Str), ("KeyError" : Str), false), (("FlowError" : Str), ("LookupError" : Str), false), (("FlowError" : Str), ("OverflowError" : Str), false), (("FlowError" : Str), ("ValueError" : Str), true), (("InvalidChoice" : Str), ("ArithmeticError" : Str), false), (("InvalidChoice" : Str), ("FlowError" : Str), true), (("InvalidChoice" : Str), ("IndexError" : Str), false), (("InvalidChoice" : Str), ("KeyError" : Str), false), (("InvalidChoice" : Str), ("LookupError" : Str), false), (("InvalidChoice" : Str), ("OverflowError" : Str), false), (("InvalidChoice" : Str), ("ValueError" : Str), true), (("InvalidClaim" : Str), ("ArithmeticError" : Str), false), (("InvalidClaim" : Str), ("FlowError" : Str), true), (("InvalidClaim" : Str), ("IndexError" : Str), false), (("InvalidClaim" : Str), ("KeyError" : Str), false), (("InvalidClaim" : Str), ("LookupError" : Str), false), (("InvalidClaim" : Str), ("OverflowError" : Str), false), (("InvalidClaim" : Str), ("ValueError" : Str), true), (("InvalidForm" : Str), ("ArithmeticError" : Str), false), (("InvalidForm" : Str), ("FlowError" : Str), true), (("InvalidForm" : Str), ("IndexError" : Str), false), (("InvalidForm" : Str), ("KeyError" : Str), false), (("InvalidForm" : Str), ("LookupError" : Str), false), (("InvalidForm" : Str), ("OverflowError" : Str), false), (("InvalidForm" : Str), ("ValueError" : Str), true), (("InvalidKeep" : Str), ("ArithmeticError" : Str), false), (("InvalidKeep" : Str), ("FlowError" : Str), true), (("InvalidKeep" : Str), ("IndexError" : Str), false), (("InvalidKeep" : Str), ("KeyError" : Str), false), (("InvalidKeep" : Str), ("LookupError" : Str), false), (("InvalidKeep" : Str), ("OverflowError" : Str), false), (("InvalidKeep" : Str), ("ValueError" : Str), true), (("InvalidNumber" : Str), ("ArithmeticError" : Str), false), (("InvalidNumber" : Str), ("FlowError" : Str), false), (("InvalidNumber" : Str), ("IndexError" : Str), true), (("InvalidNumber" : Str), ("KeyError" : Str), false), (("InvalidNumber" : Str), ("LookupError" : Str), true), (("InvalidNumber" : Str), ("OverflowError" : Str), false), (("InvalidNumber" : Str), ("ValueError" : Str), false), (("InvalidOperation" : Str), ("ArithmeticError" : Str), false), (("InvalidOperation" : Str), ("FlowError" : Str), true), (("InvalidOperation" : Str), ("IndexError" : Str), false), (("InvalidOperation" : Str), ("KeyError" : Str), false), (("InvalidOperation" : Str), ("LookupError" : Str), false), (("InvalidOperation" : Str), ("OverflowError" : Str), false), (("InvalidOperation" : Str), ("ValueError" : Str), true), (("InvalidRows" : Str), ("ArithmeticError" : Str), false), (("InvalidRows" : Str), ("FlowError" : Str), true), (("InvalidRows" : Str), ("IndexError" : Str), false), (("InvalidRows" : Str), ("KeyError" : Str), false), (("InvalidRows" : Str), ("LookupError" : Str), false), (("InvalidRows" : Str), ("OverflowError" : Str), false), (("InvalidRows" : Str), ("ValueError" : Str), true), (("InvalidSystem" : Str), ("ArithmeticError" : Str), false), (("InvalidSystem" : Str), ("FlowError" : Str), true), (("InvalidSystem" : Str), ("IndexError" : Str), false), (("InvalidSystem" : Str), ("KeyError" : Str), false), (("InvalidSystem" : Str), ("LookupError" : Str), false), (("InvalidSystem" : Str), ("OverflowError" : Str), false), (("InvalidSystem" : Str), ("ValueError" : Str), true), (("InvalidText" : Str), ("ArithmeticError" : Str), false), (("InvalidText" : Str), ("FlowError" : Str), true), (("InvalidText" : Str), ("IndexError" : Str), false), (("InvalidText" : Str), ("KeyError" : Str), false), (("InvalidText" : Str), ("LookupError" : Str), false), (("InvalidText" : Str), ("OverflowError" : Str), false), (("InvalidText" : Str), ("ValueError" : Str), true), (("NothingToUndo" : Str), ("ArithmeticError" : Str), false), (("NothingToUndo" : Str), ("FlowError" : Str), false), (("NothingToUndo" : Str), ("IndexError" : Str), false), (("NothingToUndo" : Str), ("KeyError" : Str), false), (("NothingToUndo" : Str), ("LookupError" : Str), true), (("NothingToUndo" : Str), ("OverflowError" : Str), false), (("NothingToUndo" : Str), ("ValueError" : Str), false), (("ParseError" : Str), ("ArithmeticError" : Str), false), (("ParseError" : Str), ("FlowError" : Str), true), (("ParseError" : Str), ("IndexError" : Str), false), (("ParseError" : Str), ("KeyError" : Str), false), (("ParseError" : Str), ("LookupError" : Str), false), (("ParseError" : Str), ("OverflowError" : Str), false), (("ParseError" : Str), ("ValueError" : Str), true), (("Refused" : Str), ("ArithmeticError" : Str), true), (("Refused" : Str), ("FlowError" : Str), false), (("Refused" : Str), ("IndexError" : Str), false), (("Refused" : Str), ("KeyError" : Str), false), (("Refused" : Str), ("LookupError" : Str), false), (("Refused" : Str), ("OverflowError" : Str), false), (("Refused" : Str), ("ValueError" : Str), false), (("TooMany" : Str), ("ArithmeticError" : Str), true), (("TooMany" : Str), ("FlowError" : Str), false), (("TooMany" : Str), ("IndexError" : Str), false), (("TooMany" : Str), ("KeyError" : Str), false), (("TooMany" : Str), ("LookupError" : Str), false), (("TooMany" : Str), ("OverflowError" : Str), true), (("TooMany" : Str), ("ValueError" : Str), false), (("UnknownName" : Str), ("ArithmeticError" : Str), false), (("UnknownName" : Str), ("FlowError" : Str), false), (("UnknownName" : Str), ("IndexError" : Str), false), (("UnknownName" : Str), ("KeyError" : Str), true), (("UnknownName" : Str), ("LookupError" : Str), true), (("UnknownName" : Str), ("OverflowError" : Str), false), (("UnknownName" : Str), ("ValueError" : Str), false)]
def isaL : List (Str × Str × Bool) := [(("FlowError" : Str), ("FlowError" : Str), true), (("FlowError" : Str), ("InvalidChoice" : Str), false), (("FlowError" : Str), ("InvalidClaim" : Str), false), (("FlowError" : Str), ("InvalidForm" : Str), false), (("FlowError" : Str), ("InvalidKeep" : Str), false), (("FlowError" : Str), ("InvalidNumber" : Str), false), (("FlowError" : Str), ("InvalidOperation" : Str), false), (("FlowError" : Str), ("InvalidRows" : Str), false), (("FlowError" : Str), ("InvalidSystem" : Str), false), (("FlowError" : Str), ("InvalidText" : Str), false), (("FlowError" : Str), ("NothingToUndo" : Str), false), (("FlowError" : Str), ("ParseError" : Str), false), (("FlowError" : Str), ("Refused" : Str), false), (("FlowError" : Str), ("TooMany" : Str), false), (("FlowError" : Str), ("UnknownName" : Str), false), (("InvalidChoice" : Str), ("FlowError" : Str), true), (("InvalidChoice" : Str), ("InvalidChoice" : Str), true), (("InvalidChoice" : Str), ("InvalidClaim" : Str), false), (("InvalidChoice" : Str), ("InvalidForm" : Str), false), (("InvalidChoice" : Str), ("InvalidKeep" : Str), false), (("InvalidChoice" : Str), ("InvalidNumber" : Str), false), (("InvalidChoice" : Str), ("InvalidOperation" : Str), false), (("InvalidChoice" : Str), ("InvalidRows" : Str), false), (("InvalidChoice" : Str), ("InvalidSystem" : Str), false), (("InvalidChoice" : Str), ("InvalidText" : Str), false), (("InvalidChoice" : Str), ("NothingToUndo" : Str), false), (("InvalidChoice" : Str), ("ParseError" : Str), false), (("InvalidChoice" : Str), ("Refused" : Str), false), (("InvalidChoice" : Str), ("TooMany" : Str), false), (("InvalidChoice" : Str), ("UnknownName" : Str), false), (("InvalidClaim" : Str), ("FlowError" : Str), true), (("InvalidClaim" : Str), ("InvalidChoice" : Str), false), (("InvalidClaim" : Str), ("InvalidClaim" : Str), true), (("InvalidClaim" : Str), ("InvalidForm" : Str), false), (("InvalidClaim" : Str), ("InvalidKeep" : Str), false), (("InvalidClaim" : Str), ("InvalidNumber" : Str), false), (("InvalidClaim" : Str), ("InvalidOperation" : Str), false), (("InvalidClaim" : Str), ("InvalidRows" : Str), false), (("InvalidClaim" : Str), ("InvalidSystem" : Str), false), (("InvalidClaim" : Str), ("InvalidText" : Str), false), (("InvalidClaim" : Str), ("NothingToUndo" : Str), false), (("InvalidClaim" : Str), ("ParseError" : Str), false), (("InvalidClaim" : Str), ("Refused" : Str), false), (("InvalidClaim" : Str), ("TooMany" : Str), false), (("InvalidClaim" : Str), ("UnknownName" : Str), false), (("InvalidForm" : Str), ("FlowError" : Str), true), (("InvalidForm" : Str), ("InvalidChoice" : Str), false), (("InvalidForm" : Str), ("InvalidClaim" : Str), false), (("InvalidForm" : Str), ("InvalidForm" : Str), true), (("InvalidForm" : Str), ("InvalidKeep" : Str), false), (("InvalidForm" : Str), ("InvalidNumber" : Str), false), (("InvalidForm" : Str), ("InvalidOperation" : Str), false), (("InvalidForm" : Str), ("InvalidRows" : Str), false), (("InvalidForm" : Str), ("InvalidSystem" : Str), false), (("InvalidForm" : Str), ("InvalidText" : Str), false), (("InvalidForm" : Str), ("NothingToUndo" : Str), false), (("InvalidForm" : Str), ("ParseError" : Str), false), (("InvalidForm" : Str), ("Refused" : Str), false), (("InvalidForm" : Str), ("TooMany" : Str), false), (("InvalidForm" : Str), ("UnknownName" : Str), false), (("InvalidKeep" : Str), ("FlowError" : Str), true), (("InvalidKeep" : Str), ("InvalidChoice" : Str), false), (("InvalidKeep" : Str), ("InvalidClaim" : Str), false), (("InvalidKeep" : Str), ("InvalidForm" : Str), false), (("InvalidKeep" : Str), ("InvalidKeep" : Str), true), (("InvalidKeep" : Str), ("InvalidNumber" : Str), false), (("InvalidKeep" : Str), ("InvalidOperation" : Str), false), (("InvalidKeep" : Str), ("InvalidRows" : Str), false), (("InvalidKeep" : Str), ("InvalidSystem" : Str), false), (("InvalidKeep" : Str), ("InvalidText" : Str), false), (("InvalidKeep" : Str), ("NothingToUndo" : Str), false), (("InvalidKeep" : Str), ("ParseError" : Str), false), (("InvalidKeep" : Str), ("Refused" : Str), false), (("InvalidKeep" : Str), ("TooMany" : Str), false), (("InvalidKeep" : Str), ("UnknownName" : Str), false), (("InvalidNumber" : Str), ("FlowError" : Str), false), (("InvalidNumber" : Str), ("InvalidChoice" : Str), false), (("InvalidNumber" : Str), ("InvalidClaim" : Str), false), (("InvalidNumber" : Str), ("InvalidForm" : Str), false), (("InvalidNumber" : Str), ("InvalidKeep" : Str), false), (("InvalidNumber" : Str), ("InvalidNumber" : Str), true), (("InvalidNumber" : Str), ("InvalidOperation" : Str), false), (("InvalidNumber" : Str), ("InvalidRows" : Str), false), (("InvalidNumber" : Str), ("InvalidSystem" : Str), false), (("InvalidNumber" : Str), ("InvalidText" : Str), false), (("InvalidNumber" : Str), ("NothingToUndo" : Str), false), (("InvalidNumber" : Str), ("ParseError" : Str), false), (("InvalidNumber" : Str), ("Refused" : Str), false), (("InvalidNumber" : Str), ("TooMany" : Str), false), (("InvalidNumber" : Str), ("UnknownName" : Str), false), (("InvalidOperation" : Str), ("FlowError" : Str), true), (("InvalidOperation" : Str), ("InvalidChoice" : Str), false), (("InvalidOperation" : Str), ("InvalidClaim" : Str), false), (("InvalidOperation" : Str), ("InvalidForm" : Str), false), (("InvalidOperation" : Str), ("InvalidKeep" : Str), false), (("InvalidOperation" : Str), ("InvalidNumber" : Str), false), (("InvalidOperation" : Str), ("InvalidOperation" : Str), true), (("InvalidOperation" : Str), ("InvalidRows" : Str), false), (("InvalidOperation" : Str), ("InvalidSystem" : Str), false), (("InvalidOperation" : Str), ("InvalidText" : Str), false), (("InvalidOperation" : Str), ("NothingToUndo" : Str), false), (("InvalidOperation" : Str), ("ParseError" : Str), false), (("InvalidOperation" : Str), ("Refused" : Str), false), (("InvalidOperation" : Str), ("TooMany" : Str), false), (("InvalidOperation" : Str), ("UnknownName" : Str), false), (("InvalidRows" : Str), ("FlowError" : Str), true), (("InvalidRows" : Str), ("InvalidChoice" : Str), false), (("InvalidRows" : Str), ("InvalidClaim" : Str), false), (("InvalidRows" : Str), ("InvalidForm" : Str), false), (("InvalidRows" : Str), ("InvalidKeep" : Str), false), (("InvalidRows" : Str), ("InvalidNumber" : Str), false), (("InvalidRows" : Str), ("InvalidOperation" : Str), false), (("InvalidRows" : Str), ("InvalidRows" : Str), true), (("InvalidRows" : Str), ("InvalidSystem" : Str), false), (("InvalidRows" : Str), ("InvalidText" : Str), false), (("InvalidRows" : Str), ("NothingToUndo" : Str), false), (("InvalidRows" : Str), ("ParseError" : Str), false), (("InvalidRows" : Str), ("Refused" : Str), false), (("InvalidRows" : Str), ("TooMany" : Str), false), (("InvalidRows" : Str), ("UnknownName" : Str), false), (("InvalidSystem" : Str), ("FlowError" : Str), true), (("InvalidSystem" : Str), ("InvalidChoice" : Str), false), (("InvalidSystem" : Str), ("InvalidClaim" : Str), false), (("InvalidSystem" : Str), ("InvalidForm" : Str), false), (("InvalidSystem" : Str), ("InvalidKeep" : Str), false), (("InvalidSystem" : Str), ("InvalidNumber" : Str), false), (("InvalidSystem" : Str), ("InvalidOperation" : Str), false), (("InvalidSystem" : Str), ("InvalidRows" : Str), false), (("InvalidSystem" : Str), ("InvalidSystem" : Str), true), (("InvalidSystem" : Str), ("InvalidText" : Str), false), (("InvalidSystem" : Str), ("NothingToUndo" : Str), false), (("InvalidSystem" : Str), ("ParseError" : Str), false), (("InvalidSystem" : Str), ("Refused" : Str), false), (("InvalidSystem" : Str), ("TooMany" : Str), false), (("InvalidSystem" : Str), ("UnknownName" : Str), false), (("InvalidText" : Str), ("FlowError" : Str), true), (("InvalidText" : Str), ("InvalidChoice" : Str), false), (("InvalidText" : Str), ("InvalidClaim" : Str), false), (("InvalidText" : Str), ("InvalidForm" : Str), false), (("InvalidText" : Str), ("InvalidKeep" : Str), false), (("InvalidText" : Str), ("InvalidNumber" : Str), false), (("InvalidText" : Str), ("InvalidOperation" : Str), false), (("InvalidText" : Str), ("InvalidRows" : Str), false), (("InvalidText" : Str), ("InvalidSystem" : Str), false), (("InvalidText" : Str), ("InvalidText" : Str), true), (("InvalidText" : Str), ("NothingToUndo" : Str), false), (("InvalidText" : Str), ("ParseError" : Str), false), (("InvalidText" : Str), ("Refused" : Str), false), (("InvalidText" : Str), ("TooMany" : Str), false), (("InvalidText" : Str), ("UnknownName" : Str), false), (("NothingToUndo" : Str), ("FlowError" : Str), false), (("NothingToUndo" : Str), ("InvalidChoice" : Str), false), (("NothingToUndo" : Str), ("InvalidClaim" : Str), false), (("NothingToUndo" : Str), ("InvalidForm" : Str), false), (("NothingToUndo" : Str), ("InvalidKeep" : Str), false), (("NothingToUndo" : Str), ("InvalidNumber" : Str), false), (("NothingToUndo" : Str), ("InvalidOperation" : Str), false), (("NothingToUndo" : Str), ("InvalidRows" : Str), false), (("NothingToUndo" : Str), ("InvalidSystem" : Str), false), (("NothingToUndo" : Str), ("InvalidText" : Str), false), (("NothingToUndo" : Str), ("NothingToUndo" : Str), true), (("NothingToUndo" : Str), ("ParseError" : Str), false), (("NothingToUndo" : Str), ("Refused" : Str), false), (("NothingToUndo" : Str), ("TooMany" : Str), false), (("NothingToUndo" : Str), ("UnknownName" : Str), false), (("ParseError" : Str), ("FlowError" : Str), true), (("ParseError" : Str), ("InvalidChoice" : Str), false), (("ParseError" : Str), ("InvalidClaim" : Str), false), (("ParseError" : Str), ("InvalidForm" : Str), false), (("ParseError" : Str), ("InvalidKeep" : Str), false), (("ParseError" : Str), ("InvalidNumber" : Str), false), (("ParseError" : Str), ("InvalidOperation" : Str), false), (("ParseError" : Str), ("InvalidRows" : Str), false), (("ParseError" : Str), ("InvalidSystem" : Str), false), (("ParseError" : Str), ("InvalidText" : Str), false), (("ParseError" : Str), ("NothingToUndo" : Str), false), (("ParseError" : Str), ("ParseError" : Str), true), (("ParseError" : Str), ("Refused" : Str), false), (("ParseError" : Str), ("TooMany" : Str), false), (("ParseError" : Str), ("UnknownName" : Str), false), (("Refused" : Str), ("FlowError" : Str), false), (("Refused" : Str), ("InvalidChoice" : Str), false), (("Refused" : Str), ("InvalidClaim" : Str), false), (("Refused" : Str), ("InvalidForm" : Str), false), (("Refused" : Str), ("InvalidKeep" : Str), false), (("Refused" : Str), ("InvalidNumber" : Str), false), (("Refused" : Str), ("InvalidOperation" : Str), false), (("Refused" : Str), ("InvalidRows" : Str), false), (("Refused" : Str), ("InvalidSystem" : Str), false), (("Refused" : Str), ("InvalidText" : Str), false), (("Refused" : Str), ("NothingToUndo" : Str), false), (("Refused" : Str), ("ParseError" : Str), false), (("Refused" : Str), ("Refused" : Str), true), (("Refused" : Str), ("TooMany" : Str), false), (("Refused" : Str), ("UnknownName" : Str), false), (("TooMany" : Str), ("FlowError" : Str), false), (("TooMany" : Str), ("InvalidChoice" : Str), false), (("TooMany" : Str), ("InvalidClaim" : Str), false), (("TooMany" : Str), ("InvalidForm" : Str), false), (("TooMany" : Str), ("InvalidKeep" : Str), false), (("TooMany" : Str), ("InvalidNumber" : Str), false), (("TooMany" : Str), ("InvalidOperation" : Str), false), (("TooMany" : Str), ("InvalidRows" : Str), false), (("TooMany" : Str), ("InvalidSystem" : Str), false), (("TooMany" : Str), ("InvalidText" : Str), false), (("TooMany" : Str), ("NothingToUndo" : Str), false), (("TooMany" : Str), ("ParseError" : Str), false), (("TooMany" : Str), ("Refused" : Str), false), (("TooMany" : Str), ("TooMany" : Str), true), (("TooMany" : Str), ("UnknownName" : Str), false), (("UnknownName" : Str), ("FlowError" : Str), false), (("UnknownName" : Str), ("InvalidChoice" : Str), false), (("UnknownName" : Str), ("InvalidClaim" : Str), false), (("UnknownName" : Str), ("InvalidForm" : Str), false), (("UnknownName" : Str), ("InvalidKeep" : Str), false), (("UnknownName" : Str), ("InvalidNumber" : Str), false), (("UnknownName" : Str), ("InvalidOperation" : Str), false), (("UnknownName" : Str), ("InvalidRows" : Str), false), (("UnknownName" : Str), ("InvalidSystem" : Str), false), (("UnknownName" : Str), ("InvalidText" : Str), false), (("UnknownName" : Str), ("NothingToUndo" : Str), false), (("UnknownName" : Str), ("ParseError" : Str), false), (("UnknownName" : Str), ("Refused" : Str), false), (("UnknownName" : Str), ("TooMany" : Str), false), (("UnknownName" : Str), ("UnknownName" : Str), true)]
def Ts : List Str := []
def b__law_spins : Rho → M Fl := sSeq (sSet 2 (mIf (mTestB (mBin oLt (mVar 1) (mCall bLen (mCons (mVar 0) (mNil))))) (mCall bInt (mCons (mBin oIdx (mVar 0) (mVar 1)) (mNil))) (mBin oAdd (mBin oMul (mC (.int 223)) (mVar 1)) (mC (.int 71))))) (sSeq (sSet 3 (mBin oMod (mCall bInt (mCons (mCall bAbs (mCons (mVar 2) (mNil))) (mNil))) (mBin oPow (mBin oPow (mC (.int 10)) (mC (.int 51))) (mC (.int 6))))) (sRet (mLst (mCons (mCall bMax (mCons (mC (.int 0)) (mCons (mBin oSub (mVar 3) (mBin oPow (mC (.int 10)) (mC (.int 16)))) (mNil)))) (mCons (mBin oAdd (mBin oAdd (mBin oAdd (mBin oMul (mBin oMod (mCall bInt (mCons (mVar 3) (mNil))) (mC (.int 2305843009213693907))) (mC (.int 67))) (mBin oMul (mC (.int 941)) (mVar 1))) (mBin oMul (mC (.int 43)) (mCall bInt (mCons (mBin oLt (mVar 2) (mC (.int 0))) (mNil))))) (mC (.int 17))) (mCons (mC (.int 0)) (mNil)))))))
def m__law_spins : List Val → M Val := mGc (mDef 4 b__law_spins)
def b__law_spin : Rho → M Fl := sSeq (sIf (mTestB (mBin oGt (mBin oIdx (mVar 0) (mC (.int 0))) (mC (.int 0)))) (sSeq (sSet 2 (mBin oMod (mCall bInt (mCons (mBin oIdx (mVar 0) (mC (.int 0))) (mNil))) (mVar 1))) (sSeq (sPut (mVar 0) (mC (.int 0)) (mBin oFdiv (mBin oIdx (mVar 0) (mC (.int 0))) (mVar 1))) (sRet (mVar 2)))) (sNil)) (sSeq (sPut (mVar 0) (mC (.int 2)) (mBin oAdd (mBin oIdx (mVar 0) (mC (.int 2))) (mC (.int 1)))) (sSeq (sSet 3 (mBin oMod (mCall bInt (mCons (mBin oAdd (mBin oIdx (mVar 0) (mC (.int 1))) (mBin oMul (mC (.int 32452843)) (mBin oIdx (mVar 0) (mC (.int 2))))) (mNil))) (mC (.int 2305843009213693951)))) (sSeq (sSet 4 (mBin oAdd (mBin oMul (mBin oMod (mCall bInt (mCons (mBin oAdd (mBin oMul (mVar 3) (mVar 3)) (mBin oMul (mC (.int 109)) (mBin oIdx (mVar 0) (mC (.int 2))))) (mNil))) (mC (.int 2305843009213693921))) (mC (.int 49979687))) (mVar 3))) (sRet (mBin oMod (mCall bInt (mCons (mBin oFdiv (mVar 4) (mC (.int 65551))) (mNil))) (mVar 1))))))
def m__law_spin : List Val → M Val := mGc (mDef 5 b__law_spin)
def b__law_among : Rho → M Fl := sRet (mBin oIdx (mVar 1) (mOwn 2 m__law_spin (mCons (mVar 0) (mCons (mCall bLen (mCons (mVar 1) (mNil))) (mNil)))))
def m__law_among : List Val → M Val := mGc (mDef 2 b__law_among)
def b__law_raise : Rho → M Fl := sSeq (sIf (mTestB (mBin oEq (mVar 0) (mC (.str "form")))) (sRaiseE "InvalidForm" (mVar 1)) (sNil)) (sSeq (sIf (mTestB (mBin oEq (mVar 0) (mC (.str "rows")))) (sRaiseE "InvalidRows" (mVar 1)) (sNil)) (sSeq (sIf (mTestB (mBin oEq (mVar 0) (mC (.str "system")))) (sRaiseE "InvalidSystem" (mVar 1)) (sNil)) (sSeq (sIf (mTestB (mBin oEq (mVar 0) (mC (.str "keep")))) (sRaiseE "InvalidKeep" (mVar 1)) (sNil)) (sSeq (sIf (mTestB (mBin oEq (mVar 0) (mC (.str "choice")))) (sRaiseE "InvalidChoice" (mVar 1)) (sNil)) (sSeq (sIf (mTestB (mBin oEq (mVar 0) (mC (.str "claim")))) (sRaiseE "InvalidClaim" (mVar 1)) (sNil)) (sSeq (sIf (mTestB (mBin oEq (mVar 0) (mC (.str "text")))) (sRaiseE "InvalidText" (mVar 1)) (sNil)) (sSeq (sIf (mTestB (mBin oEq (mVar 0) (mC (.str "operation")))) (sRaiseE "InvalidOperation" (mVar 1)) (sNil)) (sSeq (sIf (mTestB (mBin oEq (mVar 0) (mC (.str "parse")))) (sRaise1 "ParseError" "spot" (mVar 1)) (sNil)) (sSeq (sIf (mTestB (mBin oEq (mVar 0) (mC (.str "number")))) (sRaise1 "InvalidNumber" "given" (mVar 1)) (sNil)) (sSeq (sIf (mTestB (mBin oEq (mVar 0) (mC (.str "name")))) (sRaise1 "UnknownName" "asked" (mVar 1)) (sNil)) (sSeq (sIf (mTestB (mBin oEq (mVar 0) (mC (.str "undo")))) (sRaise1 "NothingToUndo" "wanted" (mVar 1)) (sNil)) (sSeq (sIf (mTestB (mBin oEq (mVar 0) (mC (.str "many")))) (sRaise1 "TooMany" "limit" (mVar 1)) (sNil)) (sSeq (sIf (mTestB (mBin oEq (mVar 0) (mC (.str "refused")))) (sRaise1 "Refused" "reason" (mVar 1)) (sNil)) (sRaiseE "FlowError" (mVar 1)))))))))))))))
def m__law_raise : List Val → M Val := mGc (mDef 2 b__law_raise)
def b__law_forth : Rho → M Fl := sSeq (mTryN 2 (isAT isaL) (sDrop (mOwn 2 m__law_raise (mCons (mVar 0) (mCons (mVar 1) (mNil))))) [("InvalidForm", none, fun _ => sRet (mC (.str "form"))), ("InvalidRows", none, fun _ => sRet (mC (.str "rows"))), ("InvalidSystem", none, fun _ => sRet (mC (.str "system"))), ("InvalidKeep", none, fun _ => sRet (mC (.str "keep"))), ("InvalidChoice", none, fun _ => sRet (mC (.str "choice"))), ("InvalidClaim", none, fun _ => sRet (mC (.str "claim"))), ("InvalidText", none, fun _ => sRet (mC (.str "text"))), ("InvalidOperation", none, fun _ => sRet (mC (.str "operation"))), ("ParseError", none, fun _ => sRet (mC (.str "parse"))), ("InvalidNumber", none, fun _ => sRet (mC (.str "number"))), ("UnknownName", none, fun _ => sRet (mC (.str "name"))), ("NothingToUndo", none, fun _ => sRet (mC (.str "undo"))), ("TooMany", none, fun _ => sRet (mC (.str "many"))), ("Refused", none, fun _ => sRet (mC (.str "refused"))), ("FlowError", none, fun _ => sRet (mC (.str "flow")))]) (sRet (mC (.str "none")))
def m__law_forth : List Val → M Val := mGc (mDef 2 b__law_forth)
def b__law_back : Rho → M Fl := sSeq (mTryN 2 (isAT isaL) (sDrop (mOwn 2 m__law_raise (mCons (mVar 0) (mCons (mVar 1) (mNil))))) [("Refused", none, fun _ => sRet (mC (.str "refused"))), ("TooMany", none, fun _ => sRet (mC (.str "many"))), ("NothingToUndo", none, fun _ => sRet (mC (.str "undo"))), ("UnknownName", none, fun _ => sRet (mC (.str "name"))), ("InvalidNumber", none, fun _ => sRet (mC (.str "number"))), ("ParseError", none, fun _ => sRet (mC (.str "parse"))), ("InvalidOperation", none, fun _ => sRet (mC (.str "operation"))), ("InvalidText", none, fun _ => sRet (mC (.str "text"))), ("InvalidClaim", none, fun _ => sRet (mC (.str "claim"))), ("InvalidChoice", none, fun _ => sRet (mC (.str "choice"))), ("InvalidKeep", none, fun _ => sRet (mC (.str "keep"))), ("InvalidSystem", none, fun _ => sRet (mC (.str "system"))), ("InvalidRows", none, fun _ => sRet (mC (.str "rows"))), ("InvalidForm", none, fun _ => sRet (mC (.str "form"))), ("FlowError", none, fun _ => sRet (mC (.str "flow")))]) (sRet (mC (.str "none")))
def m__law_back : List Val → M Val := mGc (mDef 2 b__law_back)
def b__law_base : Rho → M Fl := sSeq (sSet 1 (mLst (mCons (mTup (mCons (mC (.str "flow")) (mCons (mIsV isvL "FlowError" (mVar 0)) (mNil)))) (mCons (mTup (mCons (mC (.str "value")) (mCons (mIsV isvL "ValueError" (mVar 0)) (mNil)))) (mNil))))) (sSeq (sSet 1 (mBin oAdd (mVar 1) (mLst (mCons (mTup (mCons (mC (.str "index")) (mCons (mIsV isvL "IndexError" (mVar 0)) (mNil)))) (mCons (mTup (mCons (mC (.str "key")) (mCons (mIsV isvL "KeyError" (mVar 0)) (mNil)))) (mNil)))))) (sSeq (sSet 1 (mBin oAdd (mVar 1) (mLst (mCons (mTup (mCons (mC (.str "lookup")) (mCons (mIsV isvL "LookupError" (mVar 0)) (mNil)))) (mCons (mTup (mCons (mC (.str "overflow")) (mCons (mIsV isvL "OverflowError" (mVar 0)) (mNil)))) (mNil)))))) (sRet (mLc (mSeq (mBin oAdd (mVar 1) (mLst (mCons (mTup (mCons (mC (.str "arithmetic")) (mCons (mIsV isvL "ArithmeticError" (mVar 0)) (mNil)))) (mNil))))) (gTupM 2 (gsCons (gSet 2) (gsCons (gSet 3) (gsNil)))) (mTest (mVar 3)) (mVar 2) [2, 3]))))
def m__law_base : List Val → M Val := mGc (mDef 4 b__law_base)
def b__law_all_bases : Rho → M Fl := sSeq (sSet 1 (mLst (mCons (mTup (mCons (mC (.str "form")) (mCons (mEx0 "InvalidForm" (mVar 0)) (mNil)))) (mCons (mTup (mCons (mC (.str "rows")) (mCons (mEx0 "InvalidRows" (mVar 0)) (mNil)))) (mCons (mTup (mCons (mC (.str "system")) (mCons (mEx0 "InvalidSystem" (mVar 0)) (mNil)))) (mNil)))))) (sSeq (sSet 1 (mBin oAdd (mVar 1) (mLst (mCons (mTup (mCons (mC (.str "keep")) (mCons (mEx0 "InvalidKeep" (mVar 0)) (mNil)))) (mCons (mTup (mCons (mC (.str "choice")) (mCons (mEx0 "InvalidChoice" (mVar 0)) (mNil)))) (mCons (mTup (mCons (mC (.str "claim")) (mCons (mEx0 "InvalidClaim" (mVar 0)) (mNil)))) (mNil))))))) (sSeq (sSet 1 (mBin oAdd (mVar 1) (mLst (mCons (mTup (mCons (mC (.str "text")) (mCons (mEx0 "InvalidText" (mVar 0)) (mNil)))) (mCons (mTup (mCons (mC (.str "operation")) (mCons (mEx0 "InvalidOperation" (mVar 0)) (mNil)))) (mNil)))))) (sSeq (sSet 1 (mBin oAdd (mVar 1) (mLst (mCons (mTup (mCons (mC (.str "parse")) (mCons (mEx1 "ParseError" "spot" (mVar 0)) (mNil)))) (mCons (mTup (mCons (mC (.str "number")) (mCons (mEx1 "InvalidNumber" "given" (mVar 0)) (mNil)))) (mNil)))))) (sSeq (sSet 1 (mBin oAdd (mVar 1) (mLst (mCons (mTup (mCons (mC (.str "name")) (mCons (mEx1 "UnknownName" "asked" (mVar 0)) (mNil)))) (mCons (mTup (mCons (mC (.str "undo")) (mCons (mEx1 "NothingToUndo" "wanted" (mVar 0)) (mNil)))) (mNil)))))) (sSeq (sSet 1 (mBin oAdd (mVar 1) (mLst (mCons (mTup (mCons (mC (.str "many")) (mCons (mEx1 "TooMany" "limit" (mVar 0)) (mNil)))) (mCons (mTup (mCons (mC (.str "refused")) (mCons (mEx1 "Refused" "reason" (mVar 0)) (mNil)))) (mCons (mTup (mCons (mC (.str "flow")) (mCons (mEx0 "FlowError" (mVar 0)) (mNil)))) (mNil))))))) (sRet (mLc (mSeq (mVar 1)) (gTupM 2 (gsCons (gSet 2) (gsCons (gSet 3) (gsNil)))) (mYes) (mTup (mCons (mVar 2) (mCons (mOwn 1 m__law_base (mCons (mVar 3) (mNil))) (mNil)))) [2, 3])))))))
def m__law_all_bases : List Val → M Val := mGc (mDef 4 b__law_all_bases)
def b__law_value : Rho → M Fl := sRet (mOwn 2 m__law_among (mCons (mVar 0) (mCons (mLst (mCons (mC .non) (mCons (mC (.int 0)) (mCons (mBin oPow (mC (.int 10)) (mC (.int 60))) (mCons (mC (.bl true)) (mCons (mC (.str "a b")) (mCons (mTup (mNil)) (mCons (mTup (mCons (mC (.int 1)) (mCons (mC (.str "x")) (mNil)))) (mCons (mLst (mCons (mC (.int 1)) (mNil))) (mCons (mDisp [(Sum.inl 1, .int 2)]) (mCons (mTup (mCons (mC (.str "guard")) (mCons (mC (.int 3)) (mNil)))) (mNil)))))))))))) (mNil))))
def m__law_value : List Val → M Val := mGc (mDef 1 b__law_value)
def b__law_right : Rho → M Fl := sSeq (sSet 1 (mOwn 1 m__law_value (mCons (mVar 0) (mNil)))) (sSeq (sSet 2 (mLst (mCons (mC (.str "form")) (mCons (mC (.str "rows")) (mCons (mC (.str "system")) (mCons (mC (.str "keep")) (mCons (mC (.str "choice")) (mCons (mC (.str "claim")) (mCons (mC (.str "text")) (mCons (mC (.str "operation")) (mCons (mC (.str "parse")) (mNil)))))))))))) (sSeq (sSet 3 (mLst (mCons (mC (.str "number")) (mCons (mC (.str "name")) (mCons (mC (.str "undo")) (mCons (mC (.str "many")) (mCons (mC (.str "refused")) (mNil)))))))) (sSeq (sIf (mTestB (mBin oNe (mLc (mSeq (mBin oAdd (mVar 2) (mVar 3))) (gSet 4) (mTestB (mBin oNe (mTup (mCons (mOwn 2 m__law_forth (mCons (mVar 4) (mCons (mVar 1) (mNil)))) (mCons (mOwn 2 m__law_back (mCons (mVar 4) (mCons (mVar 1) (mNil)))) (mNil)))) (mTup (mCons (mVar 4) (mCons (mVar 4) (mNil)))))) (mVar 4) [4]) (mLst (mNil)))) (sRet (mC (.bl false))) (sNil)) (sSeq (sSet 5 (mLc (mSeq (mVar 2)) (gSet 4) (mYes) (mTup (mCons (mVar 4) (mCons (mLst (mCons (mC (.str "flow")) (mCons (mC (.str "value")) (mNil)))) (mNil)))) [4])) (sSeq (sSet 5 (mBin oAdd (mVar 5) (mLst (mCons (mTup (mCons (mC (.str "number")) (mCons (mLst (mCons (mC (.str "index")) (mCons (mC (.str "lookup")) (mNil)))) (mNil)))) (mCons (mTup (mCons (mC (.str "name")) (mCons (mLst (mCons (mC (.str "key")) (mCons (mC (.str "lookup")) (mNil)))) (mNil)))) (mNil)))))) (sSeq (sSet 5 (mBin oAdd (mVar 5) (mLst (mCons (mTup (mCons (mC (.str "undo")) (mCons (mLst (mCons (mC (.str "lookup")) (mNil))) (mNil)))) (mCons (mTup (mCons (mC (.str "many")) (mCons (mLst (mCons (mC (.str "overflow")) (mCons (mC (.str "arithmetic")) (mNil)))) (mNil)))) (mCons (mTup (mCons (mC (.str "refused")) (mCons (mLst (mCons (mC (.str "arithmetic")) (mNil))) (mNil)))) (mNil))))))) (sSeq (sIf (mTestB (mBin oNe (mOwn 1 m__law_all_bases (mCons (mVar 1) (mNil))) (mBin oAdd (mVar 5) (mLst (mCons (mTup (mCons (mC (.str "flow")) (mCons (mLst (mCons (mC (.str "flow")) (mCons (mC (.str "value")) (mNil)))) (mNil)))) (mNil)))))) (sRet (mC (.bl false))) (sNil)) (sSeq (sSet 6 (mLst (mCons (mCall bRepr2 (mCons (mXfv "ParseError" "spot" (mEx1 "ParseError" "spot" (mVar 1))) (mNil))) (mCons (mCall bRepr2 (mCons (mXfv "InvalidNumber" "given" (mEx1 "InvalidNumber" "given" (mVar 1))) (mNil))) (mCons (mCall bRepr2 (mCons (mXfv "UnknownName" "asked" (mEx1 "UnknownName" "asked" (mVar 1))) (mNil))) (mNil)))))) (sSeq (sSet 6 (mBin oAdd (mVar 6) (mLst (mCons (mCall bRepr2 (mCons (mXfv "NothingToUndo" "wanted" (mEx1 "NothingToUndo" "wanted" (mVar 1))) (mNil))) (mCons (mCall bRepr2 (mCons (mXfv "TooMany" "limit" (mEx1 "TooMany" "limit" (mVar 1))) (mNil))) (mCons (mCall bRepr2 (mCons (mXfv "Refused" "reason" (mEx1 "Refused" "reason" (mVar 1))) (mNil))) (mNil))))))) (sRet (mBin oEq (mVar 6) (mBin oMul (mLst (mCons (mCall bRepr2 (mCons (mVar 1) (mNil))) (mNil))) (mC (.int 6))))))))))))))
def m__law_right : List Val → M Val := mGc (mDef 7 b__law_right)
def b_law : Rho → M Fl := sSeq (sFor (mRng1 (mCall bMax (mCons (mC (.int 1)) (mCons (mCall bMin (mCons (mC (.int 3)) (mCons (mCall bLen (mCons (mVar 0) (mNil))) (mNil)))) (mNil))))) (gSet 1) (bGc [] (sIf (mNotT (mTest (mOwn 1 m__law_right (mCons (mOwn 2 m__law_spins (mCons (mVar 0) (mCons (mVar 1) (mNil)))) (mNil))))) (sRet (mC (.bl false))) (sNil)))) (sRet (mC (.bl true)))
def m_law : List Val → M Val := mGc (mDef 2 b_law)
theorem bb_ArithmeticError : bootBuiltins "ArithmeticError" = some (.type "ArithmeticError") := by decide +kernel
theorem bb_IndexError : bootBuiltins "IndexError" = some (.type "IndexError") := by decide +kernel
theorem bb_KeyError : bootBuiltins "KeyError" = some (.type "KeyError") := by decide +kernel
theorem bb_LookupError : bootBuiltins "LookupError" = some (.type "LookupError") := by decide +kernel
theorem bb_OverflowError : bootBuiltins "OverflowError" = some (.type "OverflowError") := by decide +kernel
theorem bb_ValueError : bootBuiltins "ValueError" = some (.type "ValueError") := by decide +kernel
theorem bb_abs : bootBuiltins "abs" = some (.builtin "abs") := by decide +kernel
theorem bb_int : bootBuiltins "int" = some (.type "int") := by decide +kernel
theorem bb_len : bootBuiltins "len" = some (.builtin "len") := by decide +kernel
theorem bb_max : bootBuiltins "max" = some (.builtin "max") := by decide +kernel
theorem bb_min : bootBuiltins "min" = some (.builtin "min") := by decide +kernel
theorem bb_repr : bootBuiltins "repr" = some (.builtin "repr") := by decide +kernel
structure Tops (K : PySem.W.Frag) (mg : Str → Option Value) (c__law_right c_law : Addr) : Prop where
  f__law_spins : At K mg "_law_spins" s__law_spins ["script", "spot"]
  f__law_spin : At K mg "_law_spin" s__law_spin ["spins", "total"]
  f__law_among : At K mg "_law_among" s__law_among ["spins", "items"]
  f__law_raise : At K mg "_law_raise" s__law_raise ["word", "value"]
  f__law_forth : At K mg "_law_forth" s__law_forth ["word", "value"]
  f__law_back : At K mg "_law_back" s__law_back ["word", "value"]
  f__law_base : At K mg "_law_base" s__law_base ["error"]
  f__law_all_bases : At K mg "_law_all_bases" s__law_all_bases ["value"]
  f__law_value : At K mg "_law_value" s__law_value ["spins"]
  l__law_right : AtL K mg "_law_right" s__law_right ["spins"] c__law_right
  z_ArithmeticError : mg "ArithmeticError" = none
  z_IndexError : mg "IndexError" = none
  z_KeyError : mg "KeyError" = none
  z_LookupError : mg "LookupError" = none
  z_OverflowError : mg "OverflowError" = none
  z_ValueError : mg "ValueError" = none
  z_abs : mg "abs" = none
  z_int : mg "int" = none
  z_isinstance : mg "isinstance" = none
  z_len : mg "len" = none
  z_max : mg "max" = none
  z_min : mg "min" = none
  z_range : mg "range" = none
  z_repr : mg "repr" = none
  x_FlowError : XcA K mg "FlowError"
  x_InvalidForm : XcA K mg "InvalidForm"
  x_InvalidRows : XcA K mg "InvalidRows"
  x_InvalidSystem : XcA K mg "InvalidSystem"
  x_InvalidKeep : XcA K mg "InvalidKeep"
  x_InvalidChoice : XcA K mg "InvalidChoice"
  x_InvalidClaim : XcA K mg "InvalidClaim"
  x_InvalidText : XcA K mg "InvalidText"
  x_InvalidOperation : XcA K mg "InvalidOperation"
  y_ParseError : XcI K mg "ParseError" "spot" "spot" "ParseError.__init__" i_ParseError [.type "ValueError", .type "Exception", .type "BaseException", .type "object"] "ValueError.__new__"
  y_InvalidNumber : XcI K mg "InvalidNumber" "given" "given" "InvalidNumber.__init__" i_InvalidNumber [.type "IndexError", .type "LookupError", .type "Exception", .type "BaseException", .type "object"] "IndexError.__new__"
  y_UnknownName : XcI K mg "UnknownName" "asked" "asked" "UnknownName.__init__" i_UnknownName [.type "KeyError", .type "LookupError", .type "Exception", .type "BaseException", .type "object"] "LookupError.__new__"
  y_NothingToUndo : XcI K mg "NothingToUndo" "wanted" "wanted" "NothingToUndo.__init__" i_NothingToUndo [.type "LookupError", .type "Exception", .type "BaseException", .type "object"] "LookupError.__new__"
  y_TooMany : XcI K mg "TooMany" "limit" "limit" "TooMany.__init__" i_TooMany [.type "OverflowError", .type "ArithmeticError", .type "Exception", .type "BaseException", .type "object"] "OverflowError.__new__"
  y_Refused : XcI K mg "Refused" "reason" "reason" "Refused.__init__" i_Refused [.type "ArithmeticError", .type "Exception", .type "BaseException", .type "object"] "ArithmeticError.__new__"
  v_FlowError : ∃ u, mg "FlowError" = some u
  v_InvalidChoice : ∃ u, mg "InvalidChoice" = some u
  v_InvalidClaim : ∃ u, mg "InvalidClaim" = some u
  v_InvalidForm : ∃ u, mg "InvalidForm" = some u
  v_InvalidKeep : ∃ u, mg "InvalidKeep" = some u
  v_InvalidNumber : ∃ u, mg "InvalidNumber" = some u
  v_InvalidOperation : ∃ u, mg "InvalidOperation" = some u
  v_InvalidRows : ∃ u, mg "InvalidRows" = some u
  v_InvalidSystem : ∃ u, mg "InvalidSystem" = some u
  v_InvalidText : ∃ u, mg "InvalidText" = some u
  v_NothingToUndo : ∃ u, mg "NothingToUndo" = some u
  v_ParseError : ∃ u, mg "ParseError" = some u
  v_Refused : ∃ u, mg "Refused" = some u
  v_TooMany : ∃ u, mg "TooMany" = some u
  v_UnknownName : ∃ u, mg "UnknownName" = some u
  isA : ∀ t ∈ isaL, IsA K mg t.1 t.2.1 t.2.2
  isV : ∀ t ∈ isvL, IsV K mg t.1 t.2.1 t.2.2
structure Bas (mg : Str → Option Value) (base : Heap) (c__law_right c_law : Addr) : Prop where
  inj : ∀ q1 ∈ Ts, ∀ q2 ∈ Ts, Tb.ad q1 = Tb.ad q2 → q1 = q2
section
variable {P : Program} {w : World} {K : PySem.W.Frag} {mg : Str → Option Value} {base : Heap} {c__law_right c_law : Addr} (T : Tops K mg c__law_right c_law)
include T
theorem xb_ParseError : XcB P w K mg base "ParseError" "spot" 1 := T.y_ParseError.xb (.of PySem.F.excBase_ValueError) PySem.F.store_ValueError si_ParseError rfl (by decide) (by decide)
theorem xb_InvalidNumber : XcB P w K mg base "InvalidNumber" "given" 1 := T.y_InvalidNumber.xb (.of PySem.F.excBase_IndexError) PySem.F.store_IndexError si_InvalidNumber rfl (by decide) (by decide)
theorem xb_UnknownName : XcB P w K mg base "UnknownName" "asked" 1 := T.y_UnknownName.xb mk_KeyError Py.store_KeyError si_UnknownName rfl (by decide) (by decide)
theorem xb_NothingToUndo : XcB P w K mg base "NothingToUndo" "wanted" 1 := T.y_NothingToUndo.xb (.of PySem.F.excBase_LookupError) PySem.F.store_LookupError si_NothingToUndo rfl (by decide) (by decide)
theorem xb_TooMany : XcB P w K mg base "TooMany" "limit" 1 := T.y_TooMany.xb (.of PySem.F.excBase_OverflowError) PySem.F.store_OverflowError si_TooMany rfl (by decide) (by decide)
theorem xb_Refused : XcB P w K mg base "Refused" "reason" 1 := T.y_Refused.xb (.of PySem.F.excBase_ArithmeticError) PySem.F.store_ArithmeticError si_Refused rfl (by decide) (by decide)
theorem ok__law_spins : Df P w K mg base "_law_spins" 1 2 m__law_spins := (Df.mk' T.f__law_spins sc__law_spins fun f cdv A outer s H E hr tk =>
  bm_cons (sm_set 2 sc__law_spins.nd (em_if (tm_cmp (om_lt) (em_var 1) (em_callB cb_len (by rfl) T.z_len bb_len (am_cons (em_var 0) (am_nil)))) (em_callTy cb_int (by rfl) T.z_int bb_int (am_cons (em_ix (em_var 0) (em_var 1)) (am_nil))) (em_bin om_add (em_bin om_mul (em_int) (em_var 1)) (em_int)))) (bm_cons (sm_set 3 sc__law_spins.nd (em_bin om_mod (em_callTy cb_int (by rfl) T.z_int bb_int (am_cons (em_callB cb_abs (by rfl) T.z_abs bb_abs (am_cons (em_var 2) (am_nil))) (am_nil))) (em_bin om_pow (em_bin om_pow (em_int) (em_int)) (em_int)))) (bm_one (sm_ret (em_lst (am_cons (em_callB (cb_max rfl) (by rfl) T.z_max bb_max (am_cons (em_int) (am_cons (em_bin om_sub (em_var 3) (em_bin om_pow (em_int) (em_int))) (am_nil)))) (am_cons (em_bin om_add (em_bin om_add (em_bin om_add (em_bin om_mul (em_bin om_mod (em_callTy cb_int (by rfl) T.z_int bb_int (am_cons (em_var 3) (am_nil))) (em_int)) (em_int)) (em_bin om_mul (em_int) (em_var 1))) (em_bin om_mul (em_int) (em_callTy cb_int (by rfl) T.z_int bb_int (am_cons (em_cmp (om_lt) (em_var 2) (em_int)) (am_nil))))) (em_int)) (am_cons (em_int) (am_nil))))))))).gc
theorem ok__law_spin : Df P w K mg base "_law_spin" 1 2 m__law_spin := (Df.mk' T.f__law_spin sc__law_spin fun f cdv A outer s H E hr tk =>
  bm_cons (sm_if (tm_cmp (om_gt) (em_ix (em_var 0) (em_int)) (em_int)) (bm_cons (sm_set 2 sc__law_spin.nd (em_bin om_mod (em_callTy cb_int (by rfl) T.z_int bb_int (am_cons (em_ix (em_var 0) (em_int)) (am_nil))) (em_var 1))) (bm_cons (sm_put (em_bin om_fdiv (em_ix (em_var 0) (em_int)) (em_var 1)) (em_var 0) (em_int)) (bm_one (sm_ret (em_var 2))))) (bm_nil)) (bm_cons (sm_put (em_bin om_add (em_ix (em_var 0) (em_int)) (em_int)) (em_var 0) (em_int)) (bm_cons (sm_set 3 sc__law_spin.nd (em_bin om_mod (em_callTy cb_int (by rfl) T.z_int bb_int (am_cons (em_bin om_add (em_ix (em_var 0) (em_int)) (em_bin om_mul (em_int) (em_ix (em_var 0) (em_int)))) (am_nil))) (em_int))) (bm_cons (sm_set 4 sc__law_spin.nd (em_bin om_add (em_bin om_mul (em_bin om_mod (em_callTy cb_int (by rfl) T.z_int bb_int (am_cons (em_bin om_add (em_bin om_mul (em_var 3) (em_var 3)) (em_bin om_mul (em_int) (em_ix (em_var 0) (em_int)))) (am_nil))) (em_int)) (em_int)) (em_var 3))) (bm_one (sm_ret (em_bin om_mod (em_callTy cb_int (by rfl) T.z_int bb_int (am_cons (em_bin om_fdiv (em_var 4) (em_int)) (am_nil))) (em_var 1)))))))).gc
theorem ok__law_among : Df P w K mg base "_law_among" 2 2 m__law_among := (Df.mk' T.f__law_among sc__law_among fun f cdv A outer s H E hr tk =>
  bm_one (sm_ret (em_ix (em_var 1) (em_callD (ok__law_spin T) hr tk (by rfl) (am_cons (em_var 0) (am_cons (em_callB cb_len (by rfl) T.z_len bb_len (am_cons (em_var 1) (am_nil))) (am_nil))))))).gc
theorem ok__law_raise : Df P w K mg base "_law_raise" 3 2 m__law_raise := (Df.mk' T.f__law_raise sc__law_raise fun f cdv A outer s H E hr tk =>
  bm_cons (sm_if (tm_cmp (om_eq hr.units) (em_var 0) (em_str)) (bm_one (sm_raiseE T.x_InvalidForm (by rfl) rfl tk (em_var 1))) (bm_nil)) (bm_cons (sm_if (tm_cmp (om_eq hr.units) (em_var 0) (em_str)) (bm_one (sm_raiseE T.x_InvalidRows (by rfl) rfl tk (em_var 1))) (bm_nil)) (bm_cons (sm_if (tm_cmp (om_eq hr.units) (em_var 0) (em_str)) (bm_one (sm_raiseE T.x_InvalidSystem (by rfl) rfl tk (em_var 1))) (bm_nil)) (bm_cons (sm_if (tm_cmp (om_eq hr.units) (em_var 0) (em_str)) (bm_one (sm_raiseE T.x_InvalidKeep (by rfl) rfl tk (em_var 1))) (bm_nil)) (bm_cons (sm_if (tm_cmp (om_eq hr.units) (em_var 0) (em_str)) (bm_one (sm_raiseE T.x_InvalidChoice (by rfl) rfl tk (em_var 1))) (bm_nil)) (bm_cons (sm_if (tm_cmp (om_eq hr.units) (em_var 0) (em_str)) (bm_one (sm_raiseE T.x_InvalidClaim (by rfl) rfl tk (em_var 1))) (bm_nil)) (bm_cons (sm_if (tm_cmp (om_eq hr.units) (em_var 0) (em_str)) (bm_one (sm_raiseE T.x_InvalidText (by rfl) rfl tk (em_var 1))) (bm_nil)) (bm_cons (sm_if (tm_cmp (om_eq hr.units) (em_var 0) (em_str)) (bm_one (sm_raiseE T.x_InvalidOperation (by rfl) rfl tk (em_var 1))) (bm_nil)) (bm_cons (sm_if (tm_cmp (om_eq hr.units) (em_var 0) (em_str)) (bm_one (sm_raise1 (xb_ParseError T) hr (by rfl) rfl tk (em_var 1))) (bm_nil)) (bm_cons (sm_if (tm_cmp (om_eq hr.units) (em_var 0) (em_str)) (bm_one (sm_raise1 (xb_InvalidNumber T) hr (by rfl) rfl tk (em_var 1))) (bm_nil)) (bm_cons (sm_if (tm_cmp (om_eq hr.units) (em_var 0) (em_str)) (bm_one (sm_raise1 (xb_UnknownName T) hr (by rfl) rfl tk (em_var 1))) (bm_nil)) (bm_cons (sm_if (tm_cmp (om_eq hr.units) (em_var 0) (em_str)) (bm_one (sm_raise1 (xb_NothingToUndo T) hr (by rfl) rfl tk (em_var 1))) (bm_nil)) (bm_cons (sm_if (tm_cmp (om_eq hr.units) (em_var 0) (em_str)) (bm_one (sm_raise1 (xb_TooMany T) hr (by rfl) rfl tk (em_var 1))) (bm_nil)) (bm_cons (sm_if (tm_cmp (om_eq hr.units) (em_var 0) (em_str)) (bm_one (sm_raise1 (xb_Refused T) hr (by rfl) rfl tk (em_var 1))) (bm_nil)) (bm_one (sm_raiseE T.x_FlowError (by rfl) rfl tk (em_var 1))))))))))))))))).gc
theorem ok__law_forth : Df P w K mg base "_law_forth" 4 2 m__law_forth := (Df.mk' T.f__law_forth sc__law_forth fun f cdv A outer s H E hr tk =>
  bm_cons (sm_tryN rfl rfl tk (fun E2 pn xe tk2 po2 => bm_one (sm_drop (em_callD (ok__law_raise T) hr tk2 (by rfl) (am_cons (em_var 0) (am_cons (em_var 1) (am_nil)))))) (HM.bare ⟨by rfl, by decide, .inl (T.v_InvalidForm).choose_spec⟩ (isAT_ok T.isA (T.v_InvalidForm).choose_spec) (fun a pn => bm_one (sm_ret (em_str))) (HM.bare ⟨by rfl, by decide, .inl (T.v_InvalidRows).choose_spec⟩ (isAT_ok T.isA (T.v_InvalidRows).choose_spec) (fun a pn => bm_one (sm_ret (em_str))) (HM.bare ⟨by rfl, by decide, .inl (T.v_InvalidSystem).choose_spec⟩ (isAT_ok T.isA (T.v_InvalidSystem).choose_spec) (fun a pn => bm_one (sm_ret (em_str))) (HM.bare ⟨by rfl, by decide, .inl (T.v_InvalidKeep).choose_spec⟩ (isAT_ok T.isA (T.v_InvalidKeep).choose_spec) (fun a pn => bm_one (sm_ret (em_str))) (HM.bare ⟨by rfl, by decide, .inl (T.v_InvalidChoice).choose_spec⟩ (isAT_ok T.isA (T.v_InvalidChoice).choose_spec) (fun a pn => bm_one (sm_ret (em_str))) (HM.bare ⟨by rfl, by decide, .inl (T.v_InvalidClaim).choose_spec⟩ (isAT_ok T.isA (T.v_InvalidClaim).choose_spec) (fun a pn => bm_one (sm_ret (em_str))) (HM.bare ⟨by rfl, by decide, .inl (T.v_InvalidText).choose_spec⟩ (isAT_ok T.isA (T.v_InvalidText).choose_spec) (fun a pn => bm_one (sm_ret (em_str))) (HM.bare ⟨by rfl, by decide, .inl (T.v_InvalidOperation).choose_spec⟩ (isAT_ok T.isA (T.v_InvalidOperation).choose_spec) (fun a pn => bm_one (sm_ret (em_str))) (HM.bare ⟨by rfl, by decide, .inl (T.v_ParseError).choose_spec⟩ (isAT_ok T.isA (T.v_ParseError).choose_spec) (fun a pn => bm_one (sm_ret (em_str))) (HM.bare ⟨by rfl, by decide, .inl (T.v_InvalidNumber).choose_spec⟩ (isAT_ok T.isA (T.v_InvalidNumber).choose_spec) (fun a pn => bm_one (sm_ret (em_str))) (HM.bare ⟨by rfl, by decide, .inl (T.v_UnknownName).choose_spec⟩ (isAT_ok T.isA (T.v_UnknownName).choose_spec) (fun a pn => bm_one (sm_ret (em_str))) (HM.bare ⟨by rfl, by decide, .inl (T.v_NothingToUndo).choose_spec⟩ (isAT_ok T.isA (T.v_NothingToUndo).choose_spec) (fun a pn => bm_one (sm_ret (em_str))) (HM.bare ⟨by rfl, by decide, .inl (T.v_TooMany).choose_spec⟩ (isAT_ok T.isA (T.v_TooMany).choose_spec) (fun a pn => bm_one (sm_ret (em_str))) (HM.bare ⟨by rfl, by decide, .inl (T.v_Refused).choose_spec⟩ (isAT_ok T.isA (T.v_Refused).choose_spec) (fun a pn => bm_one (sm_ret (em_str))) (HM.bare ⟨by rfl, by decide, .inl (T.v_FlowError).choose_spec⟩ (isAT_ok T.isA (T.v_FlowError).choose_spec) (fun a pn => bm_one (sm_ret (em_str))) (HM.nil))))))))))))))))) (bm_one (sm_ret (em_str)))).gc
theorem ok__law_back : Df P w K mg base "_law_back" 4 2 m__law_back := (Df.mk' T.f__law_back sc__law_back fun f cdv A outer s H E hr tk =>
  bm_cons (sm_tryN rfl rfl tk (fun E2 pn xe tk2 po2 => bm_one (sm_drop (em_callD (ok__law_raise T) hr tk2 (by rfl) (am_cons (em_var 0) (am_cons (em_var 1) (am_nil)))))) (HM.bare ⟨by rfl, by decide, .inl (T.v_Refused).choose_spec⟩ (isAT_ok T.isA (T.v_Refused).choose_spec) (fun a pn => bm_one (sm_ret (em_str))) (HM.bare ⟨by rfl, by decide, .inl (T.v_TooMany).choose_spec⟩ (isAT_ok T.isA (T.v_TooMany).choose_spec) (fun a pn => bm_one (sm_ret (em_str))) (HM.bare ⟨by rfl, by decide, .inl (T.v_NothingToUndo).choose_spec⟩ (isAT_ok T.isA (T.v_NothingToUndo).choose_spec) (fun a pn => bm_one (sm_ret (em_str))) (HM.bare ⟨by rfl, by decide, .inl (T.v_UnknownName).choose_spec⟩ (isAT_ok T.isA (T.v_UnknownName).choose_spec) (fun a pn => bm_one (sm_ret (em_str))) (HM.bare ⟨by rfl, by decide, .inl (T.v_InvalidNumber).choose_spec⟩ (isAT_ok T.isA (T.v_InvalidNumber).choose_spec) (fun a pn => bm_one (sm_ret (em_str))) (HM.bare ⟨by rfl, by decide, .inl (T.v_ParseError).choose_spec⟩ (isAT_ok T.isA (T.v_ParseError).choose_spec) (fun a pn => bm_one (sm_ret (em_str))) (HM.bare ⟨by rfl, by decide, .inl (T.v_InvalidOperation).choose_spec⟩ (isAT_ok T.isA (T.v_InvalidOperation).choose_spec) (fun a pn => bm_one (sm_ret (em_str))) (HM.bare ⟨by rfl, by decide, .inl (T.v_InvalidText).choose_spec⟩ (isAT_ok T.isA (T.v_InvalidText).choose_spec) (fun a pn => bm_one (sm_ret (em_str))) (HM.bare ⟨by rfl, by decide, .inl (T.v_InvalidClaim).choose_spec⟩ (isAT_ok T.isA (T.v_InvalidClaim).choose_spec) (fun a pn => bm_one (sm_ret (em_str))) (HM.bare ⟨by rfl, by decide, .inl (T.v_InvalidChoice).choose_spec⟩ (isAT_ok T.isA (T.v_InvalidChoice).choose_spec) (fun a pn => bm_one (sm_ret (em_str))) (HM.bare ⟨by rfl, by decide, .inl (T.v_InvalidKeep).choose_spec⟩ (isAT_ok T.isA (T.v_InvalidKeep).choose_spec) (fun a pn => bm_one (sm_ret (em_str))) (HM.bare ⟨by rfl, by decide, .inl (T.v_InvalidSystem).choose_spec⟩ (isAT_ok T.isA (T.v_InvalidSystem).choose_spec) (fun a pn => bm_one (sm_ret (em_str))) (HM.bare ⟨by rfl, by decide, .inl (T.v_InvalidRows).choose_spec⟩ (isAT_ok T.isA (T.v_InvalidRows).choose_spec) (fun a pn => bm_one (sm_ret (em_str))) (HM.bare ⟨by rfl, by decide, .inl (T.v_InvalidForm).choose_spec⟩ (isAT_ok T.isA (T.v_InvalidForm).choose_spec) (fun a pn => bm_one (sm_ret (em_str))) (HM.bare ⟨by rfl, by decide, .inl (T.v_FlowError).choose_spec⟩ (isAT_ok T.isA (T.v_FlowError).choose_spec) (fun a pn => bm_one (sm_ret (em_str))) (HM.nil))))))))))))))))) (bm_one (sm_ret (em_str)))).gc
theorem ok__law_base : Df P w K mg base "_law_base" 1 1 m__law_base := (Df.mk' T.f__law_base sc__law_base fun f cdv A outer s H E hr tk =>
  bm_cons (sm_set 1 sc__law_base.nd (em_lst (am_cons (em_tup (am_cons (em_str) (am_cons (em_isVO' T.isV (by rfl) T.z_isinstance (by rfl) T.x_FlowError (em_var 0)) (am_nil)))) (am_cons (em_tup (am_cons (em_str) (am_cons (em_isVB T.isV (by rfl) T.z_isinstance (by rfl) T.z_ValueError bb_ValueError (em_var 0)) (am_nil)))) (am_nil))))) (bm_cons (sm_set 1 sc__law_base.nd (em_bin om_add (em_var 1) (em_lst (am_cons (em_tup (am_cons (em_str) (am_cons (em_isVB T.isV (by rfl) T.z_isinstance (by rfl) T.z_IndexError bb_IndexError (em_var 0)) (am_nil)))) (am_cons (em_tup (am_cons (em_str) (am_cons (em_isVB T.isV (by rfl) T.z_isinstance (by rfl) T.z_KeyError bb_KeyError (em_var 0)) (am_nil)))) (am_nil)))))) (bm_cons (sm_set 1 sc__law_base.nd (em_bin om_add (em_var 1) (em_lst (am_cons (em_tup (am_cons (em_str) (am_cons (em_isVB T.isV (by rfl) T.z_isinstance (by rfl) T.z_LookupError bb_LookupError (em_var 0)) (am_nil)))) (am_cons (em_tup (am_cons (em_str) (am_cons (em_isVB T.isV (by rfl) T.z_isinstance (by rfl) T.z_OverflowError bb_OverflowError (em_var 0)) (am_nil)))) (am_nil)))))) (bm_one (sm_ret (em_lc (own := [("word", 2), ("is_one", 3)]) rfl sc__law_base.nd (im_seq (em_bin om_add (em_var 1) (em_lst (am_cons (em_tup (am_cons (em_str) (am_cons (em_isVB T.isV (by rfl) T.z_isinstance (by rfl) T.z_ArithmeticError bb_ArithmeticError (em_var 0)) (am_nil)))) (am_nil))))) (blkOk_by (by kernel_rfl)) (by decide) (fun _ _ _ _ _ => gm_tup rfl (gs_cons (gm_name 2 sc__law_base.nd) (gs_cons (gm_name 3 sc__law_base.nd) (gs_nil)))) (fun _ _ _ _ _ => qm_one (tm_val (em_var 3))) (fun _ _ _ _ _ => em_var 2))))))).gc
theorem ok__law_all_bases : Df P w K mg base "_law_all_bases" 3 1 m__law_all_bases := (Df.mk' T.f__law_all_bases sc__law_all_bases fun f cdv A outer s H E hr tk =>
  bm_cons (sm_set 1 sc__law_all_bases.nd (em_lst (am_cons (em_tup (am_cons (em_str) (am_cons (em_ex0 T.x_InvalidForm (by rfl) (em_var 0)) (am_nil)))) (am_cons (em_tup (am_cons (em_str) (am_cons (em_ex0 T.x_InvalidRows (by rfl) (em_var 0)) (am_nil)))) (am_cons (em_tup (am_cons (em_str) (am_cons (em_ex0 T.x_InvalidSystem (by rfl) (em_var 0)) (am_nil)))) (am_nil)))))) (bm_cons (sm_set 1 sc__law_all_bases.nd (em_bin om_add (em_var 1) (em_lst (am_cons (em_tup (am_cons (em_str) (am_cons (em_ex0 T.x_InvalidKeep (by rfl) (em_var 0)) (am_nil)))) (am_cons (em_tup (am_cons (em_str) (am_cons (em_ex0 T.x_InvalidChoice (by rfl) (em_var 0)) (am_nil)))) (am_cons (em_tup (am_cons (em_str) (am_cons (em_ex0 T.x_InvalidClaim (by rfl) (em_var 0)) (am_nil)))) (am_nil))))))) (bm_cons (sm_set 1 sc__law_all_bases.nd (em_bin om_add (em_var 1) (em_lst (am_cons (em_tup (am_cons (em_str) (am_cons (em_ex0 T.x_InvalidText (by rfl) (em_var 0)) (am_nil)))) (am_cons (em_tup (am_cons (em_str) (am_cons (em_ex0 T.x_InvalidOperation (by rfl) (em_var 0)) (am_nil)))) (am_nil)))))) (bm_cons (sm_set 1 sc__law_all_bases.nd (em_bin om_add (em_var 1) (em_lst (am_cons (em_tup (am_cons (em_str) (am_cons (em_ex1 (xb_ParseError T) hr (by rfl) (em_var 0)) (am_nil)))) (am_cons (em_tup (am_cons (em_str) (am_cons (em_ex1 (xb_InvalidNumber T) hr (by rfl) (em_var 0)) (am_nil)))) (am_nil)))))) (bm_cons (sm_set 1 sc__law_all_bases.nd (em_bin om_add (em_var 1) (em_lst (am_cons (em_tup (am_cons (em_str) (am_cons (em_ex1 (xb_UnknownName T) hr (by rfl) (em_var 0)) (am_nil)))) (am_cons (em_tup (am_cons (em_str) (am_cons (em_ex1 (xb_NothingToUndo T) hr (by rfl) (em_var 0)) (am_nil)))) (am_nil)))))) (bm_cons (sm_set 1 sc__law_all_bases.nd (em_bin om_add (em_var 1) (em_lst (am_cons (em_tup (am_cons (em_str) (am_cons (em_ex1 (xb_TooMany T) hr (by rfl) (em_var 0)) (am_nil)))) (am_cons (em_tup (am_cons (em_str) (am_cons (em_ex1 (xb_Refused T) hr (by rfl) (em_var 0)) (am_nil)))) (am_cons (em_tup (am_cons (em_str) (am_cons (em_ex0 T.x_FlowError (by rfl) (em_var 0)) (am_nil)))) (am_nil))))))) (bm_one (sm_ret (em_lc (own := [("word", 2), ("error", 3)]) rfl sc__law_all_bases.nd (im_seq (em_var 1)) (blkOk_by (by kernel_rfl)) (by decide) (fun _ _ _ _ _ => gm_tup rfl (gs_cons (gm_name 2 sc__law_all_bases.nd) (gs_cons (gm_name 3 sc__law_all_bases.nd) (gs_nil)))) (fun _ _ _ _ _ => qm_nil) (fun _ _ _ _ _ => em_tup (am_cons (em_var 2) (am_cons (em_callD (ok__law_base T) (hr.mono (by decide)) tk0 (by rfl) (am_cons (em_var 3) (am_nil))) (am_nil))))))))))))).gc
theorem ok__law_value : Df P w K mg base "_law_value" 3 1 m__law_value := (Df.mk' T.f__law_value sc__law_value fun f cdv A outer s H E hr tk =>
  bm_one (sm_ret (em_callD (ok__law_among T) hr tk (by rfl) (am_cons (em_var 0) (am_cons (em_lst (am_cons (em_non) (am_cons (em_int) (am_cons (em_bin om_pow (em_int) (em_int)) (am_cons (em_bl) (am_cons (em_str) (am_cons (em_tup (am_nil)) (am_cons (em_tup (am_cons (em_int) (am_cons (em_str) (am_nil)))) (am_cons (em_lst (am_cons (em_int) (am_nil))) (am_cons (em_disp (CPs.cons (y := Sum.inl 1) (ce_int) (ce_int) (CPs.nil)) (by simp) (by decide) (by decide)) (am_cons (em_tup (am_cons (em_str) (am_cons (em_int) (am_nil)))) (am_nil)))))))))))) (am_nil)))))).gc
end
section
variable {c__law_right c_law : Addr}
end
end K00
set_option maxHeartbeats 4000000
namespace K00
open PySem PySem.Spec PyProof.Rows L2 LamX Py
variable [Tb]
section
variable {P : Program} {w : World} {K : PySem.W.Frag} {mg : Str → Option Value} {base : Heap} {c__law_right c_law : Addr} (T : Tops K mg c__law_right c_law) (B : Bas mg base c__law_right c_law)
include T B
theorem okG__law_right : DfG P w K mg base "_law_right" 5 1 m__law_right := (DfG.mk' T.l__law_right sc__law_right fun f A outer s H E ga hr tk =>
  bm_cons (sm_set 1 sc__law_right.nd (em_callD (ok__law_value T) (hr.mono (by decide)) tk (by rfl) (am_cons (em_var 0) (am_nil)))) (bm_cons (sm_set 2 sc__law_right.nd (em_lst (am_cons (em_str) (am_cons (em_str) (am_cons (em_str) (am_cons (em_str) (am_cons (em_str) (am_cons (em_str) (am_cons (em_str) (am_cons (em_str) (am_cons (em_str) (am_nil)))))))))))) (bm_cons (sm_set 3 sc__law_right.nd (em_lst (am_cons (em_str) (am_cons (em_str) (am_cons (em_str) (am_cons (em_str) (am_cons (em_str) (am_nil)))))))) (bm_cons (sm_if (tm_cmp (om_ne hr.units) (em_lc (own := [("word", 4)]) rfl sc__law_right.nd (im_seq (em_bin om_add (em_var 2) (em_var 3))) (blkOk_by (by kernel_rfl)) (by decide) (fun _ _ _ _ _ => gm_name 4 sc__law_right.nd) (fun _ _ _ _ _ => qm_one (tm_cmp (om_ne hr.units) (em_tup (am_cons (em_callD (ok__law_forth T) hr tk0 (by rfl) (am_cons (em_var 4) (am_cons (em_var 1) (am_nil)))) (am_cons (em_callD (ok__law_back T) hr tk0 (by rfl) (am_cons (em_var 4) (am_cons (em_var 1) (am_nil)))) (am_nil)))) (em_tup (am_cons (em_var 4) (am_cons (em_var 4) (am_nil)))))) (fun _ _ _ _ _ => em_var 4)) (em_lst (am_nil))) (bm_one (sm_ret (em_bl))) (bm_nil)) (bm_cons (sm_setLc (own := [("word", 4)]) 5 rfl sc__law_right.nd (by rfl) (im_seq (em_var 2)) (blkOk_by (by kernel_rfl)) (by decide) (fun _ _ _ _ _ => gm_name 4 sc__law_right.nd) (fun _ _ _ _ _ => qm_nil) (fun _ _ _ _ _ => em_tup (am_cons (em_var 4) (am_cons (em_lst (am_cons (em_str) (am_cons (em_str) (am_nil)))) (am_nil))))) (bm_cons (sm_set 5 sc__law_right.nd (em_bin om_add (em_var 5) (em_lst (am_cons (em_tup (am_cons (em_str) (am_cons (em_lst (am_cons (em_str) (am_cons (em_str) (am_nil)))) (am_nil)))) (am_cons (em_tup (am_cons (em_str) (am_cons (em_lst (am_cons (em_str) (am_cons (em_str) (am_nil)))) (am_nil)))) (am_nil)))))) (bm_cons (sm_set 5 sc__law_right.nd (em_bin om_add (em_var 5) (em_lst (am_cons (em_tup (am_cons (em_str) (am_cons (em_lst (am_cons (em_str) (am_nil))) (am_nil)))) (am_cons (em_tup (am_cons (em_str) (am_cons (em_lst (am_cons (em_str) (am_cons (em_str) (am_nil)))) (am_nil)))) (am_cons (em_tup (am_cons (em_str) (am_cons (em_lst (am_cons (em_str) (am_nil))) (am_nil)))) (am_nil))))))) (bm_cons (sm_if (tm_cmp (om_ne hr.units) (em_callD (ok__law_all_bases T) (hr.mono (by decide)) tk (by rfl) (am_cons (em_var 1) (am_nil))) (em_bin om_add (em_var 5) (em_lst (am_cons (em_tup (am_cons (em_str) (am_cons (em_lst (am_cons (em_str) (am_cons (em_str) (am_nil)))) (am_nil)))) (am_nil))))) (bm_one (sm_ret (em_bl))) (bm_nil)) (bm_cons (sm_set 6 sc__law_right.nd (em_lst (am_cons (em_callB (cb_repr2 ga hr.units) (by rfl) T.z_repr bb_repr (am_cons (em_xfv T.y_ParseError (em_ex1 (xb_ParseError T) (hr.mono (by decide)) (by rfl) (em_var 1))) (am_nil))) (am_cons (em_callB (cb_repr2 ga hr.units) (by rfl) T.z_repr bb_repr (am_cons (em_xfv T.y_InvalidNumber (em_ex1 (xb_InvalidNumber T) (hr.mono (by decide)) (by rfl) (em_var 1))) (am_nil))) (am_cons (em_callB (cb_repr2 ga hr.units) (by rfl) T.z_repr bb_repr (am_cons (em_xfv T.y_UnknownName (em_ex1 (xb_UnknownName T) (hr.mono (by decide)) (by rfl) (em_var 1))) (am_nil))) (am_nil)))))) (bm_cons (sm_set 6 sc__law_right.nd (em_bin om_add (em_var 6) (em_lst (am_cons (em_callB (cb_repr2 ga hr.units) (by rfl) T.z_repr bb_repr (am_cons (em_xfv T.y_NothingToUndo (em_ex1 (xb_NothingToUndo T) (hr.mono (by decide)) (by rfl) (em_var 1))) (am_nil))) (am_cons (em_callB (cb_repr2 ga hr.units) (by rfl) T.z_repr bb_repr (am_cons (em_xfv T.y_TooMany (em_ex1 (xb_TooMany T) (hr.mono (by decide)) (by rfl) (em_var 1))) (am_nil))) (am_cons (em_callB (cb_repr2 ga hr.units) (by rfl) T.z_repr bb_repr (am_cons (em_xfv T.y_Refused (em_ex1 (xb_Refused T) (hr.mono (by decide)) (by rfl) (em_var 1))) (am_nil))) (am_nil))))))) (bm_one (sm_ret (em_cmp (om_eq hr.units) (em_var 6) (em_bin om_mul (em_lst (am_cons (em_callB (cb_repr2 ga hr.units) (by rfl) T.z_repr bb_repr (am_cons (em_var 1) (am_nil))) (am_nil))) (em_int))))))))))))))).gc
theorem ok_law {f : Addr} {oc kV doc pm ct : Value} {od an : Option Addr} {osl : Array (Option Value)} (lk : K.lookup f = some ⟨oc, od, .func (PySem.W.fnOf "law" "law" (defArgs s_law) (defBody s_law) (defScope s_law) .none kV doc pm an (.ref c_law) ct), osl⟩) (hcd : PySem.W.codeIn K (.ref c_law) "law" = true) :
    FnG P w K mg base CX0 6 f (PySem.W.fnOf "law" "law" (defArgs s_law) (defBody s_law) (defScope s_law) .none kV doc pm an (.ref c_law) ct) ["script"] (fun vs H Q _ => spM K mg 1 (mDef 2 b_law) vs H Q E0') := law_okG lk hcd sc_law fun A outer s H E ga hr =>
  bm_cons (sm_for PassesOwn.never rfl (im_range1 (by rfl) T.z_range (em_callB (cb_max rfl) (by rfl) T.z_max bb_max (am_cons (em_int) (am_cons (em_callB (cb_min rfl) (by rfl) T.z_min bb_min (am_cons (em_int) (am_cons (em_callB cb_len (by rfl) T.z_len bb_len (am_cons (em_var 0) (am_nil))) (am_nil)))) (am_nil))))) (gm_name 1 sc_law.nd) (bm_gc [] (bm_one (sm_if (tm_not (tm_val (em_callG (okG__law_right T B) ga hr tk0 (by rfl) (am_cons (em_callD (ok__law_spins T) (hr.mono (by decide)) tk0 (by rfl) (am_cons (em_var 0) (am_cons (em_var 1) (am_nil)))) (am_nil))))) (bm_one (sm_ret (em_bl))) (bm_nil))))) (bm_one (sm_ret (em_bl)))
end
end K00
set_option maxHeartbeats 4000000
namespace K00
open PySem PySem.Spec PyProof.Rows L2 LamX Py
variable [Tb]
abbrev TC : Mem := Ts.map Cel.tab
/-- the spins' cell behind the tables -/
abbrev SC (x y z : Int) (rest : Mem) : Mem := TC ++ .lst [.int x, .int y, .int z] :: rest
section
variable {x y z t : Int} {rest : Mem}
theorem spin_pos (hx : 0 < x) (ht : 0 < t) (h2 : t < 2 ^ 400) : m__law_spin [.h TC.length, .int t] (SC x y z rest) = .ok (.int (x % t)) (SC (x / t) y z rest) := by
  show gc (SC x y z rest).length (fin (b__law_spin [some (.h TC.length), some (.int t), none, none, none] (SC x y z rest))) = _
  have e : b__law_spin [some (.h TC.length), some (.int t), none, none, none] (SC x y z rest) = .ok (.rt (.int (x % t))) (SC (x / t) y z rest) := by
    unfold b__law_spin
    refine seq_rt ?_
    unfold sIf
    rw [if_t (cs' := SC x y z rest) (by
      show Res.ok (decide (0 < x)) (SC x y z rest) = _
      rw [decide_eq_true hx])]
    rw [seq_nx (set_ok (d := .int (x % t)) (cs' := SC x y z rest) (by
      show oMod (.int x) (.int t) (SC x y z rest) = _
      exact oMod_i ht))]
    rw [seq_nx (put_ok (z := .int (x / t)) (c1 := SC x y z rest) (x := .h TC.length) (y := .int 0) (c2 := SC x y z rest) (c3 := SC x y z rest) (c4 := SC (x / t) y z rest) (by
      show oFdiv (.int x) (.int t) (SC x y z rest) = _
      exact oFdiv_i ht (Nat.lt_trans (log2_small (Int.le_of_lt ht) h2) (by decide))) rfl rfl rfl)]
    rfl
  rw [e]
  exact gc_same (by simp)
theorem spin_neg (hx : ¬ 0 < x) (ht : 0 < t) (y0 : 0 ≤ y) (y1 : y < 2 ^ 200) (z0 : 0 ≤ z) (z1 : z < 2 ^ 100) : ∃ r, m__law_spin [.h TC.length, .int t] (SC x y z rest) = .ok (.int r) (SC x y (z + 1) rest) ∧ 0 ≤ r ∧ r < t := by
  have l1 : (32452843 : Int).natAbs.log2 + (z + 1).natAbs.log2 < 1000000 := by
    have := log2_small (a := z + 1) (by omega) (by omega)
    have : (32452843 : Int).natAbs.log2 < 400 := by decide
    omega
  have l2 : (109 : Int).natAbs.log2 + (z + 1).natAbs.log2 < 1000000 := by
    have := log2_small (a := z + 1) (by omega) (by omega)
    have : (109 : Int).natAbs.log2 < 400 := by decide
    omega
  generalize hone : (y + 32452843 * (z + 1)) % 2305843009213693951 = one
  have o0 : 0 ≤ one := hone ▸ Int.emod_nonneg _ (by decide)
  have o1 : one < 2305843009213693951 := hone ▸ Int.emod_lt_of_pos _ (by decide)
  have l3 : one.natAbs.log2 + one.natAbs.log2 < 1000000 := by
    have := log2_small (a := one) o0 (by omega)
    omega
  generalize htw : (one * one + 109 * (z + 1)) % 2305843009213693921 = two
  have w0 : 0 ≤ two := htw ▸ Int.emod_nonneg _ (by decide)
  have w1 : two < 2305843009213693921 := htw ▸ Int.emod_lt_of_pos _ (by decide)
  have l4 : two.natAbs.log2 + (49979687 : Int).natAbs.log2 < 1000000 := by
    have := log2_small (a := two) w0 (by omega)
    have : (49979687 : Int).natAbs.log2 < 400 := by decide
    omega
  refine ⟨(two * 49979687 + one) / 65551 % t, ?_, Int.emod_nonneg _ (by omega), Int.emod_lt_of_pos _ ht⟩
  show gc (SC x y z rest).length (fin (b__law_spin [some (.h TC.length), some (.int t), none, none, none] (SC x y z rest))) = _
  have e : b__law_spin [some (.h TC.length), some (.int t), none, none, none] (SC x y z rest) = .ok (.rt (.int ((two * 49979687 + one) / 65551 % t))) (SC x y (z + 1) rest) := by
    unfold b__law_spin
    rw [seq_nx (ρ' := [some (.h TC.length), some (.int t), none, none, none]) (cs' := SC x y z rest) (by
      unfold sIf
      rw [if_f (cs' := SC x y z rest) (by
        show Res.ok (decide (0 < x)) (SC x y z rest) = _
        rw [decide_eq_false hx])]
      rfl)]
    rw [seq_nx (put_ok (z := .int (z + 1)) (c1 := SC x y z rest) (x := .h TC.length) (y := .int 2) (c2 := SC x y z rest) (c3 := SC x y z rest) (c4 := SC x y (z + 1) rest) rfl rfl rfl rfl)]
    rw [seq_nx (set_ok (d := .int one) (cs' := SC x y (z + 1) rest) (by
      exact bin_ok (call1_ok (bin_ok rfl (bin_ok rfl rfl (oMul_i l1)) oAdd_i) bInt_i) rfl ((oMod_i (by decide)).trans (by rw [hone]))))]
    rw [seq_nx (set_ok (d := .int (two * 49979687 + one)) (cs' := SC x y (z + 1) rest) (by
      exact bin_ok (bin_ok (bin_ok (call1_ok (bin_ok (bin_ok rfl rfl (oMul_i l3)) (bin_ok rfl rfl (oMul_i l2)) oAdd_i) bInt_i) rfl ((oMod_i (by decide)).trans (by rw [htw]))) rfl (oMul_i l4)) rfl oAdd_i))]
    exact ret_ok (bin_ok (call1_ok (bin_ok rfl rfl (oFdiv_i (by decide) (by decide))) bInt_i) rfl (oMod_i ht))
  rw [e]
  exact gc_same (by simp)
/-- one number drawn -/
theorem spin_any (ht : 0 < t) (h2 : t < 2 ^ 400) (y0 : 0 ≤ y) (y1 : y < 2 ^ 200) (z0 : 0 ≤ z) (z1 : z < 2 ^ 100) : ∃ r x' z', m__law_spin [.h TC.length, .int t] (SC x y z rest) = .ok (.int r) (SC x' y z' rest) ∧ 0 ≤ r ∧ r < t ∧ 0 ≤ z' ∧ z' ≤ z + 1 := by
  by_cases hx : 0 < x
  · exact ⟨_, _, _, spin_pos hx ht h2, Int.emod_nonneg _ (by omega), Int.emod_lt_of_pos _ ht, z0, by omega⟩
  · obtain ⟨r, e, h1, h3⟩ := spin_neg (rest := rest) hx ht y0 y1 z0 z1
    exact ⟨r, x, z + 1, e, h1, h3, by omega, by omega⟩
end
section
variable {x y z : Int} {rest : Mem} {items : List Val} {i : Nat}
theorem sc_at (h : rest[i]? = some (.lst items)) : (SC x y z rest)[TC.length + 1 + i]? = some (.lst items) := by
  show (TC ++ .lst [.int x, .int y, .int z] :: rest)[TC.length + 1 + i]? = _
  rw [List.getElem?_append_right (by omega), show TC.length + 1 + i - TC.length = i + 1 by omega, List.getElem?_cons_succ]
  exact h
/-- one of some items -/
theorem among_any (h : rest[i]? = some (.lst items)) (hn : items ≠ []) (hl : items.length < 1000) (y0 : 0 ≤ y) (y1 : y < 2 ^ 200) (z0 : 0 ≤ z) (z1 : z < 2 ^ 100) :
    ∃ v ∈ items, ∃ x' z', m__law_among [.h TC.length, .h (TC.length + 1 + i)] (SC x y z rest) = .ok v (SC x' y z' rest) ∧ 0 ≤ z' ∧ z' ≤ z + 1 := by
  have hp : 0 < items.length := List.length_pos_iff.mpr hn
  obtain ⟨r, x', z', e, r0, r1, b0, b1⟩ := spin_any (x := x) (y := y) (z := z) (t := items.length) (rest := rest) (by omega) (by omega) y0 y1 z0 z1
  obtain ⟨n, rfl⟩ := Int.eq_ofNat_of_zero_le r0
  have hr : n < items.length := by omega
  refine ⟨items[n], List.getElem_mem hr, x', z', ?_, b0, b1⟩
  show gc (SC x y z rest).length (fin (b__law_among [some (.h TC.length), some (.h (TC.length + 1 + i))] (SC x y z rest))) = _
  have e2 : b__law_among [some (.h TC.length), some (.h (TC.length + 1 + i))] (SC x y z rest) = .ok (.rt items[n]) (SC x' y z' rest) := by
    unfold b__law_among
    refine ret_ok (bin_ok rfl ?_ (oIdx_h (sc_at h) (List.getElem?_eq_getElem hr)))
    exact own2_ok rfl (call1_ok rfl (bLen_h (sc_at h) (by omega))) e
  rw [e2]
  exact gc_same (by simp)
end
/-! the spins of a spot -/
theorem spins_eq {ns : List Int} {i : Int} (i0 : 0 ≤ i) (i1 : i < 1000) (hl : ns.length < 1000) : ∃ x y, m__law_spins [.scr ns, .int i] TC = .ok (.h TC.length) (SC x y 0 []) ∧ 0 ≤ y ∧ y < 2 ^ 200 := by
  have hc : ∃ c : Int, (mIf (mTestB (mBin oLt (mVar 1) (mCall bLen (mCons (mVar 0) mNil)))) (mCall bInt (mCons (mBin oIdx (mVar 0) (mVar 1)) mNil)) (mBin oAdd (mBin oMul (mC (.int 223)) (mVar 1)) (mC (.int 71)))) [some (.scr ns), some (.int i), none, none] TC = .ok (.int c) TC := by
    have lt : (mTestB (mBin oLt (mVar 1) (mCall bLen (mCons (mVar 0) mNil)))) [some (.scr ns), some (.int i), none, none] TC = .ok (decide (i < ns.length)) TC := by
      show (mBin oLt (mVar 1) (mCall bLen (mCons (mVar 0) mNil)) [some (.scr ns), some (.int i), none, none] TC).bind toB = _
      rw [bin_ok (r := .ok (.bl (decide (i < ns.length))) TC) rfl (call1_ok rfl bLen_scr) oLt_i]
      rfl
    by_cases h : i < ns.length
    · obtain ⟨n, rfl⟩ := Int.eq_ofNat_of_zero_le i0
      have hn : n < ns.length := by omega
      refine ⟨ns[n], ?_⟩
      rw [if_t (lt.trans (by rw [decide_eq_true h]))]
      exact call1_ok (bin_ok rfl rfl (oIdx_scr (List.getElem?_eq_getElem hn))) bInt_i
    · refine ⟨223 * i + 71, ?_⟩
      rw [if_f (lt.trans (by rw [decide_eq_false h]))]
      refine bin_ok (bin_ok rfl rfl (oMul_i ?_)) rfl oAdd_i
      have h1 := log2_small i0 (by omega)
      have h2 : (223 : Int).natAbs.log2 < 400 := by decide
      omega
  obtain ⟨c, hc⟩ := hc
  have hp : (mBin oPow (mBin oPow (mC (.int 10)) (mC (.int 51))) (mC (.int 6))) [some (.scr ns), some (.int i), some (.int c), none] TC = .ok (.int ((10 ^ 51) ^ 6)) TC := by kernel_rfl
  generalize hg : (if c < 0 then -c else c) % ((10 ^ 51) ^ 6) = g
  have g0 : 0 ≤ g := hg ▸ Int.emod_nonneg _ (by decide)
  have hgr : (mBin oMod (mCall bInt (mCons (mCall bAbs (mCons (mVar 2) mNil)) mNil)) (mBin oPow (mBin oPow (mC (.int 10)) (mC (.int 51))) (mC (.int 6)))) [some (.scr ns), some (.int i), some (.int c), none] TC = .ok (.int g) TC :=
    bin_ok (call1_ok (call1_ok rfl bAbs_i) bInt_i) hp ((oMod_i (by decide)).trans (by rw [hg]))
  generalize hm : g % 2305843009213693907 = m
  have m0 : 0 ≤ m := hm ▸ Int.emod_nonneg _ (by decide)
  have m1 : m < 2305843009213693907 := hm ▸ Int.emod_lt_of_pos _ (by decide)
  refine ⟨if g - 10 ^ 16 > 0 then g - 10 ^ 16 else 0, m * 67 + 941 * i + 43 * (if decide (c < 0) = true then 1 else 0) + 17, ?_, ?_, ?_⟩
  · show gc TC.length (fin (b__law_spins [some (.scr ns), some (.int i), none, none] TC)) = _
    have e : b__law_spins [some (.scr ns), some (.int i), none, none] TC = .ok (.rt (.h TC.length)) (SC (if g - 10 ^ 16 > 0 then g - 10 ^ 16 else 0) (m * 67 + 941 * i + 43 * (if decide (c < 0) = true then 1 else 0) + 17) 0 []) := by
      unfold b__law_spins
      refine (seq_nx (set_ok hc)).trans ?_
      refine (seq_nx (set_ok hgr)).trans ?_
      have l1 : m.natAbs.log2 + (67 : Int).natAbs.log2 < 1000000 := by
        have h1 := log2_small m0 (by omega)
        have h2 : (67 : Int).natAbs.log2 < 400 := by decide
        omega
      have l2 : (941 : Int).natAbs.log2 + i.natAbs.log2 < 1000000 := by
        have h1 := log2_small i0 (by omega)
        have h2 : (941 : Int).natAbs.log2 < 400 := by decide
        omega
      have l3 : (43 : Int).natAbs.log2 + ((if decide (c < 0) = true then 1 else 0 : Int)).natAbs.log2 < 1000000 := by
        have h2 : (43 : Int).natAbs.log2 < 400 := by decide
        have h3 : ((if decide (c < 0) = true then 1 else 0 : Int)).natAbs.log2 < 400 := by
          split <;> decide
        omega
      have hw : (mBin oPow (mC (.int 10)) (mC (.int 16))) [some (.scr ns), some (.int i), some (.int c), some (.int g)] TC = .ok (.int (10 ^ 16)) TC := by kernel_rfl
      exact ret_ok (lst3_ok (call2_ok rfl (bin_ok rfl hw oSub_i) bMax_i)
        (bin_ok (bin_ok (bin_ok (bin_ok (bin_ok (call1_ok rfl bInt_i) rfl ((oMod_i (by decide)).trans (by rw [hm]))) rfl (oMul_i l1)) (bin_ok rfl rfl (oMul_i l2)) oAdd_i) (bin_ok rfl (call1_ok (bin_ok rfl rfl oLt_i) bInt_b) (oMul_i l3)) oAdd_i) rfl oAdd_i) rfl)
    rw [e]
    exact gc_made (Nat.le_refl _)
  · have : (0 : Int) ≤ if decide (c < 0) = true then 1 else 0 := by split <;> decide
    omega
  · have : (if decide (c < 0) = true then 1 else 0 : Int) ≤ 1 := by split <;> decide
    omega
abbrev va_L : List Val := [.non, .int 0, .int 1000000000000000000000000000000000000000000000000000000000000, .bl true, .str "a b", .tup [], .tup [.int 1, .str "x"], .h 1, .h 2, .tup [.str "guard", .int 3]]
abbrev va_R : Mem := [.lst [.int 1], .dct [(Sum.inl 1, .int 2)], .lst va_L]
def va_G : Val → Mem
  | .h _ => va_R
  | _ => []
section
variable {x y z : Int}
theorem va_gc (x y z : Int) : ∀ v ∈ va_L, gc (SC x y z []).length (fin (.ok (.rt v) (SC x y z va_R))) = .ok v (SC x y z (va_G v)) :=
  fa_cons (by kernel_rfl) (fa_cons (by kernel_rfl) (fa_cons (by kernel_rfl) (fa_cons (by kernel_rfl) (fa_cons (by kernel_rfl) (fa_cons (by kernel_rfl) (fa_cons (by kernel_rfl) (fa_cons (by kernel_rfl) (fa_cons (by kernel_rfl) (fa_cons (by kernel_rfl) fa_nil)))))))))
/-- the value drawn -/
theorem value_any (y0 : 0 ≤ y) (y1 : y < 2 ^ 200) (z0 : 0 ≤ z) (z1 : z < 2 ^ 100) : ∃ v ∈ va_L, ∃ x' z', m__law_value [.h TC.length] (SC x y z []) = .ok v (SC x' y z' (va_G v)) ∧ 0 ≤ z' ∧ z' ≤ z + 1 := by
  obtain ⟨v, hv, x', z', e, p, q⟩ := among_any (x := x) (y := y) (z := z) (rest := va_R) (items := va_L) (i := 2) rfl (by intro h; cases h) (by decide) y0 y1 z0 z1
  refine ⟨v, hv, x', z', ?_, p, q⟩
  have e2 : b__law_value [some (.h TC.length)] (SC x y z []) = .ok (.rt v) (SC x' y z' va_R) := by
    unfold b__law_value
    exact ret_ok (own2_ok rfl (c1 := SC x y z []) (c2 := SC x y z va_R) (by kernel_rfl) e)
  show gc (SC x y z []).length (fin (b__law_value [some (.h TC.length)] (SC x y z []))) = _
  rw [e2]
  exact va_gc x' y z' v hv
def ri_B : Rho → M Fl := sSeq (sSet 2 (mLst (mCons (mC (.str "form")) (mCons (mC (.str "rows")) (mCons (mC (.str "system")) (mCons (mC (.str "keep")) (mCons (mC (.str "choice")) (mCons (mC (.str "claim")) (mCons (mC (.str "text")) (mCons (mC (.str "operation")) (mCons (mC (.str "parse")) (mNil)))))))))))) (sSeq (sSet 3 (mLst (mCons (mC (.str "number")) (mCons (mC (.str "name")) (mCons (mC (.str "undo")) (mCons (mC (.str "many")) (mCons (mC (.str "refused")) (mNil)))))))) (sSeq (sIf (mTestB (mBin oNe (mLc (mSeq (mBin oAdd (mVar 2) (mVar 3))) (gSet 4) (mTestB (mBin oNe (mTup (mCons (mOwn 2 m__law_forth (mCons (mVar 4) (mCons (mVar 1) (mNil)))) (mCons (mOwn 2 m__law_back (mCons (mVar 4) (mCons (mVar 1) (mNil)))) (mNil)))) (mTup (mCons (mVar 4) (mCons (mVar 4) (mNil)))))) (mVar 4) [4]) (mLst (mNil)))) (sRet (mC (.bl false))) (sNil)) (sSeq (sSet 5 (mLc (mSeq (mVar 2)) (gSet 4) (mYes) (mTup (mCons (mVar 4) (mCons (mLst (mCons (mC (.str "flow")) (mCons (mC (.str "value")) (mNil)))) (mNil)))) [4])) (sSeq (sSet 5 (mBin oAdd (mVar 5) (mLst (mCons (mTup (mCons (mC (.str "number")) (mCons (mLst (mCons (mC (.str "index")) (mCons (mC (.str "lookup")) (mNil)))) (mNil)))) (mCons (mTup (mCons (mC (.str "name")) (mCons (mLst (mCons (mC (.str "key")) (mCons (mC (.str "lookup")) (mNil)))) (mNil)))) (mNil)))))) (sSeq (sSet 5 (mBin oAdd (mVar 5) (mLst (mCons (mTup (mCons (mC (.str "undo")) (mCons (mLst (mCons (mC (.str "lookup")) (mNil))) (mNil)))) (mCons (mTup (mCons (mC (.str "many")) (mCons (mLst (mCons (mC (.str "overflow")) (mCons (mC (.str "arithmetic")) (mNil)))) (mNil)))) (mCons (mTup (mCons (mC (.str "refused")) (mCons (mLst (mCons (mC (.str "arithmetic")) (mNil))) (mNil)))) (mNil))))))) (sSeq (sIf (mTestB (mBin oNe (mOwn 1 m__law_all_bases (mCons (mVar 1) (mNil))) (mBin oAdd (mVar 5) (mLst (mCons (mTup (mCons (mC (.str "flow")) (mCons (mLst (mCons (mC (.str "flow")) (mCons (mC (.str "value")) (mNil)))) (mNil)))) (mNil)))))) (sRet (mC (.bl false))) (sNil)) (sSeq (sSet 6 (mLst (mCons (mCall bRepr2 (mCons (mXfv "ParseError" "spot" (mEx1 "ParseError" "spot" (mVar 1))) (mNil))) (mCons (mCall bRepr2 (mCons (mXfv "InvalidNumber" "given" (mEx1 "InvalidNumber" "given" (mVar 1))) (mNil))) (mCons (mCall bRepr2 (mCons (mXfv "UnknownName" "asked" (mEx1 "UnknownName" "asked" (mVar 1))) (mNil))) (mNil)))))) (sSeq (sSet 6 (mBin oAdd (mVar 6) (mLst (mCons (mCall bRepr2 (mCons (mXfv "NothingToUndo" "wanted" (mEx1 "NothingToUndo" "wanted" (mVar 1))) (mNil))) (mCons (mCall bRepr2 (mCons (mXfv "TooMany" "limit" (mEx1 "TooMany" "limit" (mVar 1))) (mNil))) (mCons (mCall bRepr2 (mCons (mXfv "Refused" "reason" (mEx1 "Refused" "reason" (mVar 1))) (mNil))) (mNil))))))) (sRet (mBin oEq (mVar 6) (mBin oMul (mLst (mCons (mCall bRepr2 (mCons (mVar 1) (mNil))) (mNil))) (mC (.int 6)))))))))))))
def ri_F (v : Val) (x y z : Int) : Res Val := gc (SC x y z []).length (fin (ri_B [some (.h TC.length), some v, none, none, none, none, none] (SC x y z (va_G v))))
theorem ri_non (x y z : Int) : ri_F (.non) x y z = .ok (.bl true) (SC x y z []) := by kernel_rfl
theorem ri_i0 (x y z : Int) : ri_F (.int 0) x y z = .ok (.bl true) (SC x y z []) := by kernel_rfl
theorem ri_big (x y z : Int) : ri_F (.int 1000000000000000000000000000000000000000000000000000000000000) x y z = .ok (.bl true) (SC x y z []) := by kernel_rfl
theorem ri_tr (x y z : Int) : ri_F (.bl true) x y z = .ok (.bl true) (SC x y z []) := by kernel_rfl
theorem ri_ab (x y z : Int) : ri_F (.str "a b") x y z = .ok (.bl true) (SC x y z []) := by kernel_rfl
theorem ri_t0 (x y z : Int) : ri_F (.tup []) x y z = .ok (.bl true) (SC x y z []) := by kernel_rfl
theorem ri_t1 (x y z : Int) : ri_F (.tup [.int 1, .str "x"]) x y z = .ok (.bl true) (SC x y z []) := by kernel_rfl
theorem ri_l1 (x y z : Int) : ri_F (.h 1) x y z = .ok (.bl true) (SC x y z []) := by kernel_rfl
theorem ri_d1 (x y z : Int) : ri_F (.h 2) x y z = .ok (.bl true) (SC x y z []) := by kernel_rfl
theorem ri_tg (x y z : Int) : ri_F (.tup [.str "guard", .int 3]) x y z = .ok (.bl true) (SC x y z []) := by kernel_rfl
theorem ri_all (x y z : Int) : ∀ v ∈ va_L, ri_F v x y z = .ok (.bl true) (SC x y z []) :=
  fa_cons (ri_non x y z) ( fa_cons (ri_i0 x y z) ( fa_cons (ri_big x y z) ( fa_cons (ri_tr x y z) ( fa_cons (ri_ab x y z) ( fa_cons (ri_t0 x y z) ( fa_cons (ri_t1 x y z) ( fa_cons (ri_l1 x y z) ( fa_cons (ri_d1 x y z) ( fa_cons (ri_tg x y z) (fa_nil))))))))))
theorem ri_ok (y0 : 0 ≤ y) (y1 : y < 2 ^ 200) (z0 : 0 ≤ z) (z1 : z < 2 ^ 90) : ∃ x2 z2, m__law_right [.h TC.length] (SC x y z []) = .ok (.bl true) (SC x2 y z2 []) := by
  obtain ⟨v, hv, x', z', e, p, q⟩ := value_any (x := x) y0 y1 z0 (by omega)
  refine ⟨x', z', ?_⟩
  have e2 : b__law_right [some (.h TC.length), none, none, none, none, none, none] (SC x y z []) = ri_B [some (.h TC.length), some v, none, none, none, none, none] (SC x' y z' (va_G v)) := by
    unfold b__law_right
    exact (seq_nx (set_ok (own1_ok rfl e))).trans rfl
  show gc (SC x y z []).length (fin (b__law_right [some (.h TC.length), none, none, none, none, none, none] (SC x y z []))) = _
  rw [e2]
  exact ri_all x' y z' v hv
end
end K00
set_option maxHeartbeats 4000000
namespace K00
open PySem PySem.Spec PyProof.Rows L2 LamX Py
variable [Tb]
open Mir (SL SL_eq)
section
variable {ns : List Int}
abbrev rhoL (ns : List Int) (a : Option Val) : Rho := [some (.scr ns), a]
abbrev bodyL : Rho → M Fl := bGc [] (sIf (mNotT (mTest (mOwn 1 m__law_right (mCons (mOwn 2 m__law_spins (mCons (mVar 0) (mCons (mVar 1) (mNil)))) (mNil))))) (sRet (mC (.bl false))) (sNil))
theorem body_ok {i : Int} (i0 : 0 ≤ i) (i1 : i < 1000) (hl : ns.length < 1000) : bodyL (rhoL ns (some (.int i))) TC = .ok (.nx (rhoL ns (some (.int i)))) TC := by
  obtain ⟨x, y, e1, y0, y1⟩ := spins_eq i0 i1 hl
  obtain ⟨x2, z2, e2⟩ := ri_ok (x := x) (z := 0) y0 y1 (by decide) (by decide)
  have e : (sIf (mNotT (mTest (mOwn 1 m__law_right (mCons (mOwn 2 m__law_spins (mCons (mVar 0) (mCons (mVar 1) (mNil)))) (mNil))))) (sRet (mC (.bl false))) (sNil)) (rhoL ns (some (.int i))) TC
      = .ok (.nx (rhoL ns (some (.int i)))) (SC x2 y z2 []) := by
    unfold sIf
    exact (if_f (cs' := SC x2 y z2 []) (notT_ok (testb_ok (own1_ok (own2_ok rfl rfl e1) e2)))).trans rfl
  unfold bodyL bGc
  rw [e]
  kernel_rfl
theorem loop_ok (hl : ns.length < 1000) {n : Nat} (hn : n < 1000) : ∀ (m i fuel : Nat) (a : Option Val), i + m = n → m < fuel → ∃ a', forN (srcR 0 n) (gSet 1) bodyL fuel i (rhoL ns a) TC = .ok (.nx (rhoL ns a')) TC
  | 0, i, fuel + 1, a, h, _ => by
    refine ⟨a, ?_⟩
    unfold forN srcR
    rw [if_neg (by omega)]
  | m + 1, i, fuel + 1, a, h, hf => by
    obtain ⟨a', e⟩ := loop_ok hl hn m (i + 1) fuel (some (.int (0 + i))) (by omega) (by omega)
    refine ⟨a', ?_⟩
    unfold forN srcR
    rw [if_pos (by omega)]
    show (bodyL (rhoL ns (some (.int (0 + i)))) TC).bind (fun x cs1 => match x with
      | .nx ρ2 => forN (srcR 0 n) (gSet 1) bodyL fuel (i + 1) ρ2 cs1
      | .ct ρ2 => forN (srcR 0 n) (gSet 1) bodyL fuel (i + 1) ρ2 cs1
      | .bk ρ2 => .ok (.nx ρ2) cs1
      | .rt d => .ok (.rt d) cs1) = _
    rw [body_ok (by omega) (by omega) hl]
    exact e
theorem law_true (hl : ns.length ≤ 63) : ∃ cs, mDef 2 b_law [.scr ns] TC = .ok (.bl true) cs := by
  have hj : (mRng1 (mCall bMax (mCons (mC (.int 1)) (mCons (mCall bMin (mCons (mC (.int 3)) (mCons (mCall bLen (mCons (mVar 0) (mNil))) (mNil)))) (mNil))))) (rhoL ns none) TC = .ok (srcR 0 (if (if (ns.length : Int) < 3 then (ns.length : Int) else 3) > 1 then (if (ns.length : Int) < 3 then (ns.length : Int) else 3) else 1 : Int).toNat) TC := by
    show ((mCall bMax (mCons (mC (.int 1)) (mCons (mCall bMin (mCons (mC (.int 3)) (mCons (mCall bLen (mCons (mVar 0) (mNil))) (mNil)))) (mNil)))) (rhoL ns none) TC).bind (fun x cs1 => match x with
      | .int j => if -(2 ^ 62) ≤ j ∧ j < 2 ^ 62 then .ok (srcR 0 j.toNat) cs1 else .bad
      | _ => .bad) = _
    rw [call2_ok rfl (call2_ok rfl (call1_ok rfl bLen_scr) bMin_i) bMax_i]
    refine if_pos ?_
    constructor <;> (repeat' split) <;> omega
  generalize hn : (if (if (ns.length : Int) < 3 then (ns.length : Int) else 3) > 1 then (if (ns.length : Int) < 3 then (ns.length : Int) else 3) else 1 : Int).toNat = n at hj
  have n1 : n < 1000 := by
    rw [← hn]
    (repeat' split) <;> omega
  obtain ⟨a, e⟩ := loop_ok (ns := ns) (by omega) n1 n 0 SL none (by omega) (Nat.lt_trans n1 (by decide))
  refine ⟨TC, ?_⟩
  show fin (b_law (rhoL ns none) TC) = _
  have e2 : b_law (rhoL ns none) TC = .ok (.rt (.bl true)) TC := by
    unfold b_law
    refine (seq_nx (ρ' := rhoL ns a) (cs' := TC) ?_).trans rfl
    unfold sFor
    rw [hj, bind_ok]
    exact e
  rw [e2]
  rfl
end
end K00
set_option maxHeartbeats 4000000
namespace K00
open PySem PySem.Spec PyProof.Rows L2 LamX Py
theorem end_ {l : PySem.W.OpenLaw} {w : World} {K : PySem.W.Frag} {h : Heap} {mg : Str → Option Value} {fa f : Addr} {oc kV doc pm ct : Value} {od an : Option Addr} {osl : Array (Option Value)} {c__law_right c_law : Addr} (X : K.In h) (G : h.Ns mainGlobals mg) (hm : mg "law" = some (.ref fa))
    (al : PySem.W.nsIn K mainGlobals "law" = some (some (.ref f))) (ll : K.lookup f = some ⟨oc, od, .func (PySem.W.fnOf "law" "law" (defArgs s_law) (defBody s_law) (defScope s_law) .none kV doc pm an (.ref c_law) ct), osl⟩) (cl : PySem.W.codeIn K (.ref c_law) "law" = true)
     (nd : ([] : List Addr).Nodup) (T : Tops K mg c__law_right c_law) :
    ∃ (ts : List (Addr × Addr)) (fd : FuncData), (∀ p ∈ ts, ∃ y ∈ ([] : List Str), PySem.W.tabIn K y = some p) ∧ LawG l w K 6 63 "script" mg fa ts fd := by
  have e := hm.symm.trans (PySem.W.mg_of X G al)
  cases e
  letI : Tb := tbOf Ts []
  have em : Ts.map Tb.ad = [] := by kernel_rfl
  refine ⟨[], PySem.W.fnOf "law" "law" (defArgs s_law) (defBody s_law) (defScope s_law) .none kV doc pm an (.ref c_law) ct, ?_, fun vs H Q _ => spM K mg 1 (mDef 2 b_law) vs H Q E0', ?_, fun s v => .of_eq rfl, fun H a ns hl _ hT hS => ?_, fun base _ _ hB => ?_⟩
  · exact fun _ h => absurd h List.not_mem_nil
  · exact fun _ h => absurd h List.not_mem_nil
  · exact law_end (Ts := Ts) (ts := []) em.symm (em ▸ nd) hT hS (law_true hl)
  · exact ok_law T ⟨inj_of (em ▸ nd)⟩ ll cl
end K00
open PySem PySem.W PyProof.Rows
set_option maxHeartbeats 0 in
theorem PySem.Challenge.cw_fallorflow_k00_whole_classes_of_errors_holds : PySem.Challenge.rw_fallorflow_k00_whole_classes_of_errors.Holds := by
  w_on; o_law; k_head; (case hw => w_witness2)
  k_fill
  refine Py.walkG (l := PySem.Challenge.rw_fallorflow_k00_whole_classes_of_errors) (n := 63) (k := 6) (x := "script") [] rfl (by decide) rfl ⟨rfl, by decide, by decide⟩ (fun w h Y => PySem.W.kIn_of Y) ?R ?F
  case R => decide +kernel
  case F =>
    intro w mg fa h KX G hmg
    refine' K00.end_ KX G hmg ?al ?ll ?cl  ?nd (K00.Tops.mk
      (Py.At.of KX G ?al__law_spins ?ll__law_spins ?cl__law_spins ?kl__law_spins fun _ _ _ _ _ _ us hl => match us, hl with | [_, _], _ => rfl)
      (Py.At.of KX G ?al__law_spin ?ll__law_spin ?cl__law_spin ?kl__law_spin fun _ _ _ _ _ _ us hl => match us, hl with | [_, _], _ => rfl)
      (Py.At.of KX G ?al__law_among ?ll__law_among ?cl__law_among ?kl__law_among fun _ _ _ _ _ _ us hl => match us, hl with | [_, _], _ => rfl)
      (Py.At.of KX G ?al__law_raise ?ll__law_raise ?cl__law_raise ?kl__law_raise fun _ _ _ _ _ _ us hl => match us, hl with | [_, _], _ => rfl)
      (Py.At.of KX G ?al__law_forth ?ll__law_forth ?cl__law_forth ?kl__law_forth fun _ _ _ _ _ _ us hl => match us, hl with | [_, _], _ => rfl)
      (Py.At.of KX G ?al__law_back ?ll__law_back ?cl__law_back ?kl__law_back fun _ _ _ _ _ _ us hl => match us, hl with | [_, _], _ => rfl)
      (Py.At.of KX G ?al__law_base ?ll__law_base ?cl__law_base ?kl__law_base fun _ _ _ _ _ _ us hl => match us, hl with | [_], _ => rfl)
      (Py.At.of KX G ?al__law_all_bases ?ll__law_all_bases ?cl__law_all_bases ?kl__law_all_bases fun _ _ _ _ _ _ us hl => match us, hl with | [_], _ => rfl)
      (Py.At.of KX G ?al__law_value ?ll__law_value ?cl__law_value ?kl__law_value fun _ _ _ _ _ _ us hl => match us, hl with | [_], _ => rfl)
      (Py.AtL.of KX G ?al__law_right ?ll__law_right ?cl__law_right ?kl__law_right fun _ _ _ _ _ _ us hl => match us, hl with | [_], _ => rfl)
      (PySem.W.mg_none_of KX G ?z_ArithmeticError)
      (PySem.W.mg_none_of KX G ?z_IndexError)
      (PySem.W.mg_none_of KX G ?z_KeyError)
      (PySem.W.mg_none_of KX G ?z_LookupError)
      (PySem.W.mg_none_of KX G ?z_OverflowError)
      (PySem.W.mg_none_of KX G ?z_ValueError)
      (PySem.W.mg_none_of KX G ?z_abs)
      (PySem.W.mg_none_of KX G ?z_int)
      (PySem.W.mg_none_of KX G ?z_isinstance)
      (PySem.W.mg_none_of KX G ?z_len)
      (PySem.W.mg_none_of KX G ?z_max)
      (PySem.W.mg_none_of KX G ?z_min)
      (PySem.W.mg_none_of KX G ?z_range)
      (PySem.W.mg_none_of KX G ?z_repr)
      (Py.XcA.of PySem.F.excBase_ValueError KX G ?xa_FlowError ?xb_FlowError ?xc_FlowError ?xd_FlowError ?xe_FlowError)
      (Py.XcA.of PySem.F.excBase_ValueError KX G ?xa_InvalidForm ?xb_InvalidForm ?xc_InvalidForm ?xd_InvalidForm ?xe_InvalidForm)
      (Py.XcA.of PySem.F.excBase_ValueError KX G ?xa_InvalidRows ?xb_InvalidRows ?xc_InvalidRows ?xd_InvalidRows ?xe_InvalidRows)
      (Py.XcA.of PySem.F.excBase_ValueError KX G ?xa_InvalidSystem ?xb_InvalidSystem ?xc_InvalidSystem ?xd_InvalidSystem ?xe_InvalidSystem)
      (Py.XcA.of PySem.F.excBase_ValueError KX G ?xa_InvalidKeep ?xb_InvalidKeep ?xc_InvalidKeep ?xd_InvalidKeep ?xe_InvalidKeep)
      (Py.XcA.of PySem.F.excBase_ValueError KX G ?xa_InvalidChoice ?xb_InvalidChoice ?xc_InvalidChoice ?xd_InvalidChoice ?xe_InvalidChoice)
      (Py.XcA.of PySem.F.excBase_ValueError KX G ?xa_InvalidClaim ?xb_InvalidClaim ?xc_InvalidClaim ?xd_InvalidClaim ?xe_InvalidClaim)
      (Py.XcA.of PySem.F.excBase_ValueError KX G ?xa_InvalidText ?xb_InvalidText ?xc_InvalidText ?xd_InvalidText ?xe_InvalidText)
      (Py.XcA.of PySem.F.excBase_ValueError KX G ?xa_InvalidOperation ?xb_InvalidOperation ?xc_InvalidOperation ?xd_InvalidOperation ?xe_InvalidOperation)
      (Py.XcI.of KX G ?xa_ParseError ?y1_ParseError ?y2_ParseError ?y3_ParseError ?y4_ParseError ?y5_ParseError ?y6_ParseError ?y7_ParseError ?y8_ParseError ?y9_ParseError ?ya_ParseError ?yb_ParseError ?yc_ParseError ?yd_ParseError (fun _ _ _ _ _ _ us hl => match us, hl with | [_, _], _ => rfl) ?ye_ParseError ?yf_ParseError)
      (Py.XcI.of KX G ?xa_InvalidNumber ?y1_InvalidNumber ?y2_InvalidNumber ?y3_InvalidNumber ?y4_InvalidNumber ?y5_InvalidNumber ?y6_InvalidNumber ?y7_InvalidNumber ?y8_InvalidNumber ?y9_InvalidNumber ?ya_InvalidNumber ?yb_InvalidNumber ?yc_InvalidNumber ?yd_InvalidNumber (fun _ _ _ _ _ _ us hl => match us, hl with | [_, _], _ => rfl) ?ye_InvalidNumber ?yf_InvalidNumber)
      (Py.XcI.of KX G ?xa_UnknownName ?y1_UnknownName ?y2_UnknownName ?y3_UnknownName ?y4_UnknownName ?y5_UnknownName ?y6_UnknownName ?y7_UnknownName ?y8_UnknownName ?y9_UnknownName ?ya_UnknownName ?yb_UnknownName ?yc_UnknownName ?yd_UnknownName (fun _ _ _ _ _ _ us hl => match us, hl with | [_, _], _ => rfl) ?ye_UnknownName ?yf_UnknownName)
      (Py.XcI.of KX G ?xa_NothingToUndo ?y1_NothingToUndo ?y2_NothingToUndo ?y3_NothingToUndo ?y4_NothingToUndo ?y5_NothingToUndo ?y6_NothingToUndo ?y7_NothingToUndo ?y8_NothingToUndo ?y9_NothingToUndo ?ya_NothingToUndo ?yb_NothingToUndo ?yc_NothingToUndo ?yd_NothingToUndo (fun _ _ _ _ _ _ us hl => match us, hl with | [_, _], _ => rfl) ?ye_NothingToUndo ?yf_NothingToUndo)
      (Py.XcI.of KX G ?xa_TooMany ?y1_TooMany ?y2_TooMany ?y3_TooMany ?y4_TooMany ?y5_TooMany ?y6_TooMany ?y7_TooMany ?y8_TooMany ?y9_TooMany ?ya_TooMany ?yb_TooMany ?yc_TooMany ?yd_TooMany (fun _ _ _ _ _ _ us hl => match us, hl with | [_, _], _ => rfl) ?ye_TooMany ?yf_TooMany)
      (Py.XcI.of KX G ?xa_Refused ?y1_Refused ?y2_Refused ?y3_Refused ?y4_Refused ?y5_Refused ?y6_Refused ?y7_Refused ?y8_Refused ?y9_Refused ?ya_Refused ?yb_Refused ?yc_Refused ?yd_Refused (fun _ _ _ _ _ _ us hl => match us, hl with | [_, _], _ => rfl) ?ye_Refused ?yf_Refused)
      ⟨_, PySem.W.mg_of KX G ?v_FlowError⟩
      ⟨_, PySem.W.mg_of KX G ?v_InvalidChoice⟩
      ⟨_, PySem.W.mg_of KX G ?v_InvalidClaim⟩
      ⟨_, PySem.W.mg_of KX G ?v_InvalidForm⟩
      ⟨_, PySem.W.mg_of KX G ?v_InvalidKeep⟩
      ⟨_, PySem.W.mg_of KX G ?v_InvalidNumber⟩
      ⟨_, PySem.W.mg_of KX G ?v_InvalidOperation⟩
      ⟨_, PySem.W.mg_of KX G ?v_InvalidRows⟩
      ⟨_, PySem.W.mg_of KX G ?v_InvalidSystem⟩
      ⟨_, PySem.W.mg_of KX G ?v_InvalidText⟩
      ⟨_, PySem.W.mg_of KX G ?v_NothingToUndo⟩
      ⟨_, PySem.W.mg_of KX G ?v_ParseError⟩
      ⟨_, PySem.W.mg_of KX G ?v_Refused⟩
      ⟨_, PySem.W.mg_of KX G ?v_TooMany⟩
      ⟨_, PySem.W.mg_of KX G ?v_UnknownName⟩
      (Py.IsA.all KX G ?isa)
      (Py.IsV.all KX G ?isv))
    (case al => k_is); (case ll => k_is); (case cl => k_is); (case al__law_spins => k_is); (case ll__law_spins => k_is); (case cl__law_spins => k_is); (case kl__law_spins => k_is); (case al__law_spin => k_is); (case ll__law_spin => k_is); (case cl__law_spin => k_is); (case kl__law_spin => k_is); (case al__law_among => k_is); (case ll__law_among => k_is); (case cl__law_among => k_is); (case kl__law_among => k_is); (case al__law_raise => k_is); (case ll__law_raise => k_is); (case cl__law_raise => k_is); (case kl__law_raise => k_is); (case al__law_forth => k_is); (case ll__law_forth => k_is); (case cl__law_forth => k_is); (case kl__law_forth => k_is); (case al__law_back => k_is); (case ll__law_back => k_is); (case cl__law_back => k_is); (case kl__law_back => k_is); (case al__law_base => k_is); (case ll__law_base => k_is); (case cl__law_base => k_is); (case kl__law_base => k_is); (case al__law_all_bases => k_is); (case ll__law_all_bases => k_is); (case cl__law_all_bases => k_is); (case kl__law_all_bases => k_is); (case al__law_value => k_is); (case ll__law_value => k_is); (case cl__law_value => k_is); (case kl__law_value => k_is); (case al__law_right => k_is); (case ll__law_right => k_is); (case cl__law_right => k_is); (case kl__law_right => k_is); (case z_ArithmeticError => k_is); (case z_IndexError => k_is); (case z_KeyError => k_is); (case z_LookupError => k_is); (case z_OverflowError => k_is); (case z_ValueError => k_is); (case z_abs => k_is); (case z_int => k_is); (case z_isinstance => k_is); (case z_len => k_is); (case z_max => k_is); (case z_min => k_is); (case z_range => k_is); (case z_repr => k_is); (case xa_FlowError => k_is); (case xb_FlowError => kernel_rfl); (case xc_FlowError => k_is); (case xd_FlowError => k_is); (case xe_FlowError => k_is); (case xa_InvalidForm => k_is); (case xb_InvalidForm => kernel_rfl); (case xc_InvalidForm => k_is); (case xd_InvalidForm => k_is); (case xe_InvalidForm => k_is); (case xa_InvalidRows => k_is); (case xb_InvalidRows => kernel_rfl); (case xc_InvalidRows => k_is); (case xd_InvalidRows => k_is); (case xe_InvalidRows => k_is); (case xa_InvalidSystem => k_is); (case xb_InvalidSystem => kernel_rfl); (case xc_InvalidSystem => k_is); (case xd_InvalidSystem => k_is); (case xe_InvalidSystem => k_is); (case xa_InvalidKeep => k_is); (case xb_InvalidKeep => kernel_rfl); (case xc_InvalidKeep => k_is); (case xd_InvalidKeep => k_is); (case xe_InvalidKeep => k_is); (case xa_InvalidChoice => k_is); (case xb_InvalidChoice => kernel_rfl); (case xc_InvalidChoice => k_is); (case xd_InvalidChoice => k_is); (case xe_InvalidChoice => k_is); (case xa_InvalidClaim => k_is); (case xb_InvalidClaim => kernel_rfl); (case xc_InvalidClaim => k_is); (case xd_InvalidClaim => k_is); (case xe_InvalidClaim => k_is); (case xa_InvalidText => k_is); (case xb_InvalidText => kernel_rfl); (case xc_InvalidText => k_is); (case xd_InvalidText => k_is); (case xe_InvalidText => k_is); (case xa_InvalidOperation => k_is); (case xb_InvalidOperation => kernel_rfl); (case xc_InvalidOperation => k_is); (case xd_InvalidOperation => k_is); (case xe_InvalidOperation => k_is); (case xa_ParseError => k_is); (case y1_ParseError => kernel_rfl); (case y2_ParseError => kernel_rfl); (case y3_ParseError => k_is); (case y4_ParseError => kernel_rfl); (case y5_ParseError => k_is); (case y6_ParseError => k_is); (case y7_ParseError => k_is); (case y8_ParseError => k_is); (case y9_ParseError => k_is); (case ya_ParseError => k_is); (case yb_ParseError => k_is); (case yc_ParseError => k_is); (case yd_ParseError => k_is); (case ye_ParseError => kernel_rfl); (case yf_ParseError => k_is); (case xa_InvalidNumber => k_is); (case y1_InvalidNumber => kernel_rfl); (case y2_InvalidNumber => kernel_rfl); (case y3_InvalidNumber => k_is); (case y4_InvalidNumber => kernel_rfl); (case y5_InvalidNumber => k_is); (case y6_InvalidNumber => k_is); (case y7_InvalidNumber => k_is); (case y8_InvalidNumber => k_is); (case y9_InvalidNumber => k_is); (case ya_InvalidNumber => k_is); (case yb_InvalidNumber => k_is); (case yc_InvalidNumber => k_is); (case yd_InvalidNumber => k_is); (case ye_InvalidNumber => kernel_rfl); (case yf_InvalidNumber => k_is); (case xa_UnknownName => k_is); (case y1_UnknownName => kernel_rfl); (case y2_UnknownName => kernel_rfl); (case y3_UnknownName => k_is); (case y4_UnknownName => kernel_rfl); (case y5_UnknownName => k_is); (case y6_UnknownName => k_is); (case y7_UnknownName => k_is); (case y8_UnknownName => k_is); (case y9_UnknownName => k_is); (case ya_UnknownName => k_is); (case yb_UnknownName => k_is); (case yc_UnknownName => k_is); (case yd_UnknownName => k_is); (case ye_UnknownName => kernel_rfl); (case yf_UnknownName => k_is); (case xa_NothingToUndo => k_is); (case y1_NothingToUndo => kernel_rfl); (case y2_NothingToUndo => kernel_rfl); (case y3_NothingToUndo => k_is); (case y4_NothingToUndo => kernel_rfl); (case y5_NothingToUndo => k_is); (case y6_NothingToUndo => k_is); (case y7_NothingToUndo => k_is); (case y8_NothingToUndo => k_is); (case y9_NothingToUndo => k_is); (case ya_NothingToUndo => k_is); (case yb_NothingToUndo => k_is); (case yc_NothingToUndo => k_is); (case yd_NothingToUndo => k_is); (case ye_NothingToUndo => kernel_rfl); (case yf_NothingToUndo => k_is); (case xa_TooMany => k_is); (case y1_TooMany => kernel_rfl); (case y2_TooMany => kernel_rfl); (case y3_TooMany => k_is); (case y4_TooMany => kernel_rfl); (case y5_TooMany => k_is); (case y6_TooMany => k_is); (case y7_TooMany => k_is); (case y8_TooMany => k_is); (case y9_TooMany => k_is); (case ya_TooMany => k_is); (case yb_TooMany => k_is); (case yc_TooMany => k_is); (case yd_TooMany => k_is); (case ye_TooMany => kernel_rfl); (case yf_TooMany => k_is); (case xa_Refused => k_is); (case y1_Refused => kernel_rfl); (case y2_Refused => kernel_rfl); (case y3_Refused => k_is); (case y4_Refused => kernel_rfl); (case y5_Refused => k_is); (case y6_Refused => k_is); (case y7_Refused => k_is); (case y8_Refused => k_is); (case y9_Refused => k_is); (case ya_Refused => k_is); (case yb_Refused => k_is); (case yc_Refused => k_is); (case yd_Refused => k_is); (case ye_Refused => kernel_rfl); (case yf_Refused => k_is); (case v_FlowError => k_is); (case v_InvalidChoice => k_is); (case v_InvalidClaim => k_is); (case v_InvalidForm => k_is); (case v_InvalidKeep => k_is); (case v_InvalidNumber => k_is); (case v_InvalidOperation => k_is); (case v_InvalidRows => k_is); (case v_InvalidSystem => k_is); (case v_InvalidText => k_is); (case v_NothingToUndo => k_is); (case v_ParseError => k_is); (case v_Refused => k_is); (case v_TooMany => k_is); (case v_UnknownName => k_is); (case isa => kernel_rfl); (case isv => kernel_rfl); (case nd => decide)
