import PyProof.Rows.All
import Wide.All
import OpenK.AllK
import Wide.FinOn
import HandS.ForMost
import HandS.IsInst
import HandS.Star
import HandS.TupAny
import HandS.TupMul
import HandS.Zip
import HandS.Wide
import HandS.WideBits
import HandS.Deep
import PyProof.P3In
import HandS.Style
import HandS.Ends
import HandS.Gcd
import HandS.DictComp
import HandS.Conv
import HandS.FStr
import HandS.WordsExc
import HandS.TryMany
import HandS.ExcOwn
import PySem.Challenge.RW_fallorflow_k04_whole_lowest_vectors_and
set_option Elab.async false
set_option linter.all false
set_option maxRecDepth 100000
set_option maxHeartbeats 2000000
/-! data, what shows it, the handles, one step of the heap -/
namespace Mir
open PySem PySem.Spec PyProof.Rows L2

abbrev D := PyData
def kD : Key → D
  | .inl i => .int i
  | .inr x => .str x

mutual
/-- the value v shows the data d in the heap H; what it stands on is never changed -/
inductive Sh (K : PySem.W.Frag) (H : Hp) : V → D → Prop
  | non : Sh K H .non .none
  | bl (b : Bool) : Sh K H (.bl b) (.bool b)
  | int (i : Int) : Sh K H (.int i) (.int i)
  | str (x : Str) : Sh K H (.str x) (.str x)
  | lst {a : Addr} {xs : List V} {ds : List D} : H a = some (.lst xs) → ShA K H xs ds → Sh K H (.ref a) (.list ds)
  | tup {a : Addr} {xs : List V} {ds : List D} : SqT K H a xs → ShA K H xs ds → Sh K H (.ref a) (.tuple ds)
  | dic {a : Addr} {kvs : List (Key × V)} {ds : List (D × D)} : H a = some (.dK kvs) → ShD K H kvs ds → Sh K H (.ref a) (.dict ds)
inductive ShA (K : PySem.W.Frag) (H : Hp) : List V → List D → Prop
  | nil : ShA K H [] []
  | cons {v : V} {vs : List V} {d : D} {ds : List D} : Sh K H v d → ShA K H vs ds → ShA K H (v :: vs) (d :: ds)
inductive ShD (K : PySem.W.Frag) (H : Hp) : List (Key × V) → List (D × D) → Prop
  | nil : ShD K H [] []
  | cons {k : Key} {v : V} {kvs : List (Key × V)} {d : D} {ds : List (D × D)} : Sh K H v d → ShD K H kvs ds → ShD K H ((k, v) :: kvs) ((kD k, d) :: ds)
end

section
variable {K : PySem.W.Frag} {H H' : Hp}
theorem SqT.same {a : Addr} {xs : List V} (e : Same H H') (h : SqT K H a xs) : SqT K H' a xs := by
  rcases h with (h | ⟨o, h⟩) | h
  · exact .inl (.inl (e _ _ h))
  · exact .inl (.inr ⟨o, e _ _ h⟩)
  · exact .inr h
mutual
theorem Sh.mono (e : Same H H') : ∀ {v : V} {d : D}, Sh K H v d → Sh K H' v d
  | _, _, .non => .non
  | _, _, .bl b => .bl b
  | _, _, .int i => .int i
  | _, _, .str x => .str x
  | _, _, .lst h t => .lst (e _ _ h) (ShA.mono e t)
  | _, _, .tup h t => .tup (SqT.same e h) (ShA.mono e t)
  | _, _, .dic h t => .dic (e _ _ h) (ShD.mono e t)
theorem ShA.mono (e : Same H H') : ∀ {vs : List V} {ds : List D}, ShA K H vs ds → ShA K H' vs ds
  | _, _, .nil => .nil
  | _, _, .cons h t => .cons (Sh.mono e h) (ShA.mono e t)
theorem ShD.mono (e : Same H H') : ∀ {vs : List (Key × V)} {ds : List (D × D)}, ShD K H vs ds → ShD K H' vs ds
  | _, _, .nil => .nil
  | _, _, .cons h t => .cons (Sh.mono e h) (ShD.mono e t)
end
theorem ShA.length : ∀ {vs : List V} {ds : List D}, ShA K H vs ds → vs.length = ds.length
  | _, _, .nil => rfl
  | _, _, .cons _ t => congrArg (· + 1) (ShA.length t)
theorem ShA.get : ∀ {vs : List V} {ds : List D} {i : Nat} {d : D}, ShA K H vs ds → ds[i]? = some d → ∃ v, vs[i]? = some v ∧ Sh K H v d
  | _, _, _, _, .nil, e => by simp at e
  | _, _, 0, _, .cons h _, e => by
    simp at e
    subst e
    exact ⟨_, rfl, h⟩
  | _, _, i + 1, d, .cons _ t, e => by
    obtain ⟨v, h1, h2⟩ := ShA.get (i := i) (d := d) t (by simpa using e)
    exact ⟨v, by simpa using h1, h2⟩
theorem ShA.append : ∀ {vs ws : List V} {ds es : List D}, ShA K H vs ds → ShA K H ws es → ShA K H (vs ++ ws) (ds ++ es)
  | _, _, _, _, .nil, s => s
  | _, _, _, _, .cons h t, s => .cons h (ShA.append t s)
theorem ShA.take : ∀ {vs : List V} {ds : List D} (n : Nat), ShA K H vs ds → ShA K H (vs.take n) (ds.take n)
  | _, _, 0, _ => by simpa using ShA.nil
  | _, _, _ + 1, .nil => .nil
  | _, _, n + 1, .cons h t => .cons h (ShA.take n t)
theorem ShA.drop : ∀ {vs : List V} {ds : List D} (n : Nat), ShA K H vs ds → ShA K H (vs.drop n) (ds.drop n)
  | _, _, 0, t => t
  | _, _, _ + 1, .nil => .nil
  | _, _, n + 1, .cons _ t => ShA.drop n t
theorem ShA.set {v : V} {d : D} (h : Sh K H v d) : ∀ {vs : List V} {ds : List D} (i : Nat), ShA K H vs ds → ShA K H (vs.set i v) (ds.set i d)
  | _, _, _, .nil => .nil
  | _, _, 0, .cons _ t => .cons h t
  | _, _, i + 1, .cons q t => .cons q (ShA.set h i t)
theorem ShA.reverse : ∀ {vs : List V} {ds : List D}, ShA K H vs ds → ShA K H vs.reverse ds.reverse
  | _, _, .nil => .nil
  | _, _, .cons h t => by
    rw [List.reverse_cons, List.reverse_cons]
    exact ShA.append (ShA.reverse t) (.cons h .nil)
/-- a list of ints -/
def intsD : List D → Option (List Int)
  | [] => some []
  | .int i :: r => (intsD r).map (i :: ·)
  | _ => none
theorem ShA.ints : ∀ {vs : List V} {ds : List D} {ns : List Int}, ShA K H vs ds → intsD ds = some ns → vs = ns.map V.int
  | _, _, _, .nil, e => by
    cases e
    rfl
  | _, _, ns, .cons h t, e => by
    cases h with
    | int i =>
      unfold intsD at e
      cases q : intsD _ with
      | none =>
        rw [q] at e
        cases e
      | some ms =>
        rw [q] at e
        cases e
        rw [List.map_cons, ← ShA.ints t q]
    | _ => cases e
def boolsD : List D → Option (List Bool)
  | [] => some []
  | .bool i :: r => (boolsD r).map (i :: ·)
  | _ => none
theorem ShA.bools : ∀ {vs : List V} {ds : List D} {ns : List Bool}, ShA K H vs ds → boolsD ds = some ns → vs = ns.map V.bl
  | _, _, _, .nil, e => by
    cases e
    rfl
  | _, _, ns, .cons h t, e => by
    cases h with
    | bl i =>
      unfold boolsD at e
      cases q : boolsD _ with
      | none =>
        rw [q] at e
        cases e
      | some ms =>
        rw [q] at e
        cases e
        rw [List.map_cons, ← ShA.bools t q]
    | _ => cases e
end

/-! ### the handles: lists (and other things) that change -/
/-- what stands in a handle -/
inductive HC where
  | lst (ds : List D)

def hid (O : List Addr) (H : Hp) : Hp := fun b => if b ∈ O then none else H b
theorem hid_some {O : List Addr} {H : Hp} {b : Addr} {o : HO} : hid O H b = some o ↔ b ∉ O ∧ H b = some o := by
  unfold hid
  by_cases h : b ∈ O
  · simp [h]
  · simp [h]
def HcAt (K : PySem.W.Frag) (Hd H : Hp) (a : Addr) : HC → Prop
  | .lst ds => ∃ vs, H a = some (.lst vs) ∧ ShA K Hd vs ds
theorem HcAt.mono {K : PySem.W.Frag} {Hd Hd' H : Hp} {a : Addr} (e : Same Hd Hd') : ∀ {c : HC}, HcAt K Hd H a c → HcAt K Hd' H a c
  | .lst _, ⟨vs, h, t⟩ => ⟨vs, h, t.mono e⟩
theorem HcAt.some {K : PySem.W.Frag} {Hd H : Hp} {a : Addr} : ∀ {c : HC}, HcAt K Hd H a c → H a ≠ none
  | .lst _, ⟨vs, h, t⟩ => by rw [h]; exact fun z => by cases z

/-- the heap holds the handles A with what stands in them; O: what others hold -/
structure Ok (K : PySem.W.Frag) (O A : List Addr) (cs : List HC) (H : Hp) : Prop where
  out : ∀ o ∈ O, H o ≠ none ∧ o ∉ A
  len : A.length = cs.length
  nd : A.Nodup
  «at» : ∀ (k : Nat) (a : Addr) (c : HC), A[k]? = some a → cs[k]? = some c → HcAt K (hid (O ++ A) H) H a c
theorem Ok.tracked {K : PySem.W.Frag} {O A : List Addr} {cs : List HC} {H : Hp} (h : Ok K O A cs H) {a : Addr} (ha : a ∈ A) : H a ≠ none := by
  obtain ⟨k, hk, e⟩ := List.getElem_of_mem ha
  have h1 : A[k]? = some a := by rw [List.getElem?_eq_getElem hk, e]
  have hc : k < cs.length := h.len ▸ hk
  exact (h.at k a _ h1 (List.getElem?_eq_getElem hc)).some

/-- what came between two heaps: new handles behind the old ones; all that is no handle is kept -/
structure Stp (A : List Addr) (H : Hp) (A' : List Addr) (H' : Hp) : Prop where
  ex : ∃ B, A' = A ++ B ∧ ∀ b ∈ B, H b = none
  keep : ∀ b o, b ∉ A → H b = some o → H' b = some o
  live : ∀ a ∈ A, H' a ≠ none
theorem Stp.refl {K : PySem.W.Frag} {O A : List Addr} {cs : List HC} {H : Hp} (h : Ok K O A cs H) : Stp A H A H :=
  ⟨⟨[], by simp, by simp⟩, fun _ _ _ e => e, fun _ ha => h.tracked ha⟩
theorem Stp.fresh {A A' : List Addr} {H H' : Hp} (s : Stp A H A' H') {b : Addr} (h : H' b = none) : H b = none := by
  cases q : H b with
  | none => rfl
  | some o =>
    by_cases hb : b ∈ A
    · exact absurd h (s.live b hb)
    · rw [s.keep b o hb q] at h
      cases h
theorem Stp.trans {A A1 A2 : List Addr} {H H1 H2 : Hp} (a : Stp A H A1 H1) (b : Stp A1 H1 A2 H2) : Stp A H A2 H2 := by
  obtain ⟨⟨B, eB, fB⟩, kA, lA⟩ := id a
  obtain ⟨⟨C, eC, fC⟩, kB, lB⟩ := id b
  refine ⟨⟨B ++ C, by rw [eC, eB, List.append_assoc], fun x hx => ?_⟩, fun x o hx e => ?_, fun x hx => ?_⟩
  · rcases List.mem_append.mp hx with hx | hx
    · exact fB x hx
    · exact a.fresh (fC x hx)
  · refine kB x o (fun z => ?_) (kA x o hx e)
    rw [eB] at z
    rcases List.mem_append.mp z with z | z
    · exact hx z
    · rw [fB x z] at e
      cases e
  · exact lB x (by rw [eB]; exact List.mem_append_left _ hx)
theorem Stp.same {O A A' : List Addr} {H H' : Hp} (s : Stp A H A' H') : Same (hid (O ++ A) H) (hid (O ++ A') H') := by
  obtain ⟨⟨B, eB, fB⟩, kA, lA⟩ := s
  intro b o h
  obtain ⟨hb, e⟩ := hid_some.mp h
  have h1 : b ∉ O := fun z => hb (List.mem_append_left _ z)
  have h2 : b ∉ A := fun z => hb (List.mem_append_right _ z)
  refine hid_some.mpr ⟨fun z => ?_, kA b o h2 e⟩
  rcases List.mem_append.mp z with z | z
  · exact h1 z
  · rw [eB] at z
    rcases List.mem_append.mp z with z | z
    · exact h2 z
    · rw [fB b z] at e
      cases e

/-! ### values and handles -/
/-- what a name, an expression gives: data, or the k-th handle -/
inductive Sl where
  | d (d : D)
  | h (k : Nat)
  /-- a list of ints that is read alone (the script) -/
  | s (ns : List Int)
def ShS (K : PySem.W.Frag) (O A : List Addr) (H : Hp) (v : V) : Sl → Prop
  | .d d => Sh K (hid (O ++ A) H) v d
  | .h k => ∃ a, A[k]? = some a ∧ v = .ref a
  | .s ns => ∃ a, v = .ref a ∧ SqL K (hid (O ++ A) H) a (ns.map V.int)
theorem ShS.step {K : PySem.W.Frag} {O A A' : List Addr} {H H' : Hp} {v : V} (s : Stp A H A' H') : ∀ {sl : Sl}, ShS K O A H v sl → ShS K O A' H' v sl
  | .d _, h => Sh.mono s.same h
  | .s _, ⟨a, e, r⟩ => ⟨a, e, s.same.seq r⟩
  | .h k, ⟨a, e, r⟩ => by
    obtain ⟨⟨B, eB, _⟩, _, _⟩ := s
    refine ⟨a, ?_, r⟩
    obtain ⟨hk, _⟩ := List.getElem?_eq_some_iff.mp e
    rw [eB, List.getElem?_append_left hk]
    exact e
inductive ShSs (K : PySem.W.Frag) (O A : List Addr) (H : Hp) : List V → List Sl → Prop
  | nil : ShSs K O A H [] []
  | cons {v : V} {vs : List V} {d : Sl} {ds : List Sl} : ShS K O A H v d → ShSs K O A H vs ds → ShSs K O A H (v :: vs) (d :: ds)
theorem ShSs.step {K : PySem.W.Frag} {O A A' : List Addr} {H H' : Hp} (s : Stp A H A' H') : ∀ {vs : List V} {sl : List Sl}, ShSs K O A H vs sl → ShSs K O A' H' vs sl
  | _, _, .nil => .nil
  | _, _, .cons h t => .cons (h.step s) (t.step s)
theorem ShSs.length {K : PySem.W.Frag} {O A : List Addr} {H : Hp} : ∀ {vs : List V} {ds : List Sl}, ShSs K O A H vs ds → vs.length = ds.length
  | _, _, .nil => rfl
  | _, _, .cons _ t => congrArg (· + 1) (ShSs.length t)

/-- the names -/
abbrev Rho := List (Option Sl)
def RhoOk (K : PySem.W.Frag) (O A : List Addr) (ρ : Rho) (σ : L2.St) (H : Hp) : Prop :=
  ρ.length = σ.length ∧ ∀ (i : Nat) (sl : Sl), ρ[i]? = some (some sl) → ∃ v, σ[i]? = some (some v) ∧ ShS K O A H v sl
theorem RhoOk.step {K : PySem.W.Frag} {O A A' : List Addr} {ρ : Rho} {σ : L2.St} {H H' : Hp} (r : RhoOk K O A ρ σ H) (s : Stp A H A' H') : RhoOk K O A' ρ σ H' :=
  ⟨r.1, fun i sl e => by
    obtain ⟨v, h1, h2⟩ := r.2 i sl e
    exact ⟨v, h1, h2.step s⟩⟩
theorem RhoOk.set {K : PySem.W.Frag} {O A : List Addr} {ρ : Rho} {σ : L2.St} {H : Hp} (r : RhoOk K O A ρ σ H) {i : Nat} {v : V} {sl : Sl} (h : ShS K O A H v sl) : RhoOk K O A (ρ.set i (some sl)) (σ.set i (some v)) H := by
  refine ⟨by rw [List.length_set, List.length_set]; exact r.1, fun j sl' e => ?_⟩
  by_cases hj : i = j
  · subst hj
    rw [List.getElem?_set] at e
    simp only [if_true] at e
    split at e
    · rename_i hi
      cases e
      refine ⟨v, ?_, h⟩
      rw [List.getElem?_set]
      simp [r.1 ▸ hi]
    · cases e
  · rw [List.getElem?_set_ne hj] at e
    obtain ⟨w, h1, h2⟩ := r.2 j sl' e
    exact ⟨w, by rw [List.getElem?_set_ne hj]; exact h1, h2⟩

/-! ### results -/
/-- an exception: its class's name, what it keeps -/
structure Ex where
  cls : Str
  arg : Option D
inductive Res (α : Type) where
  | ok (a : α) (cs : List HC)
  | exc (x : Ex) (cs : List HC)
  | bad
abbrev M (α : Type) := List HC → Res α
def Res.bind {α β : Type} (r : Res α) (f : α → M β) : Res β := match r with
  | .ok a cs => f a cs
  | .exc x cs => .exc x cs
  | .bad => .bad
/-- what an exception that a def lets out looks like: told by the program -/
abbrev XR := Ex → Value → Option Addr → Hp → Prop
/-- the ways out of a piece of code -/
def PostX (K : PySem.W.Frag) (R : XR) (O A : List Addr) (H : Hp) {α : Type} (E : XK) (S : α → List HC → Prop) : Res α → Prop
  | .ok a cs => S a cs
  | .exc x cs => ∀ A' H' cls dx, Stp A H A' H' → Ok K O A' cs H' → R x cls dx (hid (O ++ A') H') → E cls dx H'
  | .bad => False
def Post (K : PySem.W.Frag) (R : XR) (O A : List Addr) (H : Hp) (Q : VK) (E : XK) : Res Sl → Prop :=
  PostX K R O A H E fun sl cs => ∀ v A' H', Stp A H A' H' → Ok K O A' cs H' → ShS K O A' H' v sl → Q v H'
def PostB (K : PySem.W.Frag) (R : XR) (O A : List Addr) (H : Hp) (Q : Bool → Hp → Prop) (E : XK) : Res Bool → Prop :=
  PostX K R O A H E fun b cs => ∀ A' H', Stp A H A' H' → Ok K O A' cs H' → Q b H'
def PostA (K : PySem.W.Frag) (R : XR) (O A : List Addr) (H : Hp) (Q : List V → Hp → Prop) (E : XK) : Res (List Sl) → Prop :=
  PostX K R O A H E fun sls cs => ∀ vs A' H', Stp A H A' H' → Ok K O A' cs H' → ShSs K O A' H' vs sls → Q vs H'
/-- a new list: a handle behind the others -/
def PostL (K : PySem.W.Frag) (R : XR) (O A : List Addr) (H : Hp) (Q : VK) (E : XK) : Res (List D) → Prop :=
  PostX K R O A H E fun ds cs => ∀ p A' H', Stp A H A' H' → Stp A H (A' ++ [p]) H' → Ok K O (A' ++ [p]) (cs ++ [.lst ds]) H' → Q (.ref p) H'
theorem PostX.step {K : PySem.W.Frag} {R : XR} {O A A1 : List Addr} {H H1 : Hp} {α : Type} {E : XK} {S S1 : α → List HC → Prop} (s : Stp A H A1 H1) (hS : ∀ a cs, S a cs → S1 a cs) : ∀ {r : Res α}, PostX K R O A H E S r → PostX K R O A1 H1 E S1 r
  | .ok a cs, h => hS a cs h
  | .exc x cs, h => fun A' H' cls dx s' ok r => h A' H' cls dx (s.trans s') ok r
  | .bad, h => h
theorem PostX.bind {K : PySem.W.Frag} {R : XR} {O A : List Addr} {H : Hp} {α β : Type} {E : XK} {S : β → List HC → Prop} {f : α → M β} {r : Res α} (h : PostX K R O A H E S (r.bind f)) :
    PostX K R O A H E (fun a cs => PostX K R O A H E S (f a cs)) r := by
  cases r with
  | ok a cs => exact h
  | exc x cs => exact h
  | bad => exact h

/-! ### the judgements -/
structure EM (X : Cx) (R : XR) (E : XK) (e : Expr) (m : Rho → M Sl) : Prop where
  ex : ∃ t, PE X e t ∧ ∀ O A ρ cs σ H, Ok X.K O A cs H → RhoOk X.K O A ρ σ H → ∀ Q, Post X.K R O A H Q E (m ρ cs) → t σ H Q
structure TM (X : Cx) (R : XR) (E : XK) (e : Expr) (m : Rho → M Bool) : Prop where
  ex : ∃ t, PT X e t ∧ ∀ O A ρ cs σ H, Ok X.K O A cs H → RhoOk X.K O A ρ σ H → ∀ Q, PostB X.K R O A H Q E (m ρ cs) → t σ H Q
structure WM (X : Cx) (R : XR) (E : XK) (e : Expr) (m : Rho → M Bool) : Prop where
  ex : ∃ t, PW X e t ∧ ∀ O A ρ cs σ H, Ok X.K O A cs H → RhoOk X.K O A ρ σ H → ∀ Q, PostB X.K R O A H Q E (m ρ cs) → t σ H Q
structure AM (X : Cx) (R : XR) (E : XK) (es : List Expr) (m : Rho → M (List Sl)) : Prop where
  ex : ∃ t, PA X es t ∧ ∀ O A ρ cs σ H, Ok X.K O A cs H → RhoOk X.K O A ρ σ H → ∀ Q, PostA X.K R O A H Q E (m ρ cs) → t σ H Q
structure LM (X : Cx) (R : XR) (E : XK) (e : Expr) (m : Rho → M (List D)) : Prop where
  ex : ∃ t, PE X e t ∧ ∀ O A ρ cs σ H, Ok X.K O A cs H → RhoOk X.K O A ρ σ H → ∀ Q, PostL X.K R O A H Q E (m ρ cs) → t σ H Q
/-- statements -/
inductive Fl where
  | nx (ρ : Rho)
  | rt (sl : Sl)
  | bk (ρ : Rho)
  | ct (ρ : Rho)
def PostS (K : PySem.W.Frag) (R : XR) (O A : List Addr) (H : Hp) (De : Ends) (E : XK) : Res Fl → Prop :=
  PostX K R O A H E fun f cs => match f with
    | .nx ρ => ∀ σ' A' H', Stp A H A' H' → Ok K O A' cs H' → RhoOk K O A' ρ σ' H' → De.nx σ' H'
    | .rt sl => ∀ v A' H', Stp A H A' H' → Ok K O A' cs H' → ShS K O A' H' v sl → De.rt v H'
    | .bk ρ => ∀ σ' A' H', Stp A H A' H' → Ok K O A' cs H' → RhoOk K O A' ρ σ' H' → De.bk σ' H'
    | .ct ρ => ∀ σ' A' H', Stp A H A' H' → Ok K O A' cs H' → RhoOk K O A' ρ σ' H' → De.ct σ' H'
structure SM (X : Cx) (R : XR) (E : XK) (st : Stmt) (m : Rho → M Fl) : Prop where
  ex : ∃ t, PS X st t ∧ ∀ O A ρ cs σ H, Ok X.K O A cs H → RhoOk X.K O A ρ σ H → ∀ De, PostS X.K R O A H De E (m ρ cs) → t De σ H
structure BM (X : Cx) (R : XR) (E : XK) (st : List Stmt) (m : Rho → M Fl) : Prop where
  ex : ∃ t, PSs X st t ∧ ∀ O A ρ cs σ H, Ok X.K O A cs H → RhoOk X.K O A ρ σ H → ∀ De, PostS X.K R O A H De E (m ρ cs) → t De σ H
end Mir
set_option maxHeartbeats 2000000
/-! expressions without calls of the program's own -/
namespace Mir
open PySem PySem.Spec PyProof.Rows L2

def SL : Nat := 16777216
theorem SL_eq : SL = sizeLine := sizeLine_eq.symm

section
variable {K : PySem.W.Frag} {R : XR} {O A : List Addr} {cs : List HC} {H : Hp} {Q : VK} {E : XK}
theorem hid_same : Same (hid O H) H := fun b o h => (hid_some.mp h).2
theorem Post.ret {sl : Sl} {v : V} (ok : Ok K O A cs H) (h : Post K R O A H Q E (.ok sl cs)) (r : ShS K O A H v sl) : Q v H := h v A H (Stp.refl ok) ok r
/-- a new object -/
theorem Ok.ne {p : Addr} (ok : Ok K O A cs H) (hp : H p = none) : p ∉ O ++ A := fun z => by
  rcases List.mem_append.mp z with z | z
  · exact (ok.out p z).1 hp
  · exact ok.tracked z hp
theorem Stp.new {p : Addr} {o : HO} (ok : Ok K O A cs H) (hp : H p = none) : Stp A H A (upd H p o) :=
  ⟨⟨[], by simp, by simp⟩, fun b u _ e => by rw [upd_ne (ne_of_none e hp)]; exact e, fun a ha => by
    have h := ok.tracked ha
    by_cases e : a = p
    · subst e
      exact absurd hp h
    · rw [upd_ne e]
      exact h⟩
theorem HcAt.at {Hd H H' : Hp} {a : Addr} (e : H' a = H a) : ∀ {c : HC}, HcAt K Hd H a c → HcAt K Hd H' a c
  | .lst _, ⟨vs, h, t⟩ => ⟨vs, by rw [e]; exact h, t⟩
theorem Ok.new {p : Addr} {o : HO} (ok : Ok K O A cs H) (hp : H p = none) : Ok K O A cs (upd H p o) := by
  have hs := (Stp.new (o := o) ok hp).same (O := O)
  refine ⟨fun x hx => ⟨?_, (ok.out x hx).2⟩, ok.len, ok.nd, fun k a c e1 e2 => ?_⟩
  · have h := (ok.out x hx).1
    by_cases e : x = p
    · subst e
      exact absurd hp h
    · rw [upd_ne e]
      exact h
  · have h := ok.at k a c e1 e2
    have ha : a ≠ p := fun z => h.some (z ▸ hp)
    exact HcAt.at (upd_ne ha) (h.mono hs)
/-- a new tuple is handed back -/
theorem Post.tup {ds : List D} {vs : List V} {p : Addr} (ok : Ok K O A cs H) (h : Post K R O A H Q E (.ok (.d (.tuple ds)) cs)) (hs : ShA K (hid (O ++ A) H) vs ds) (hp : H p = none) : Q (.ref p) (upd H p (.tup vs)) := by
  have st := Stp.new (o := .tup vs) ok hp
  refine h _ A _ st (ok.new hp) (.tup (.inl (.inl ?_)) (hs.mono st.same))
  exact hid_some.mpr ⟨ok.ne hp, upd_same⟩
theorem Post.lst {ds : List D} {vs : List V} {p : Addr} (ok : Ok K O A cs H) (h : Post K R O A H Q E (.ok (.d (.list ds)) cs)) (hs : ShA K (hid (O ++ A) H) vs ds) (hp : H p = none) : Q (.ref p) (upd H p (.lst vs)) := by
  have st := Stp.new (o := .lst vs) ok hp
  refine h _ A _ st (ok.new hp) (.lst ?_ (hs.mono st.same))
  exact hid_some.mpr ⟨ok.ne hp, upd_same⟩
theorem Stp.push {p : Addr} {o : HO} (ok : Ok K O A cs H) (hp : H p = none) : Stp A H (A ++ [p]) (upd H p o) := by
  have st := Stp.new (o := o) ok hp
  exact ⟨⟨[p], rfl, fun b hb => by
    have e : b = p := by simpa using hb
    rw [e]
    exact hp⟩, st.keep, st.live⟩
theorem Ok.push {p : Addr} {ds : List D} {vs : List V} (ok : Ok K O A cs H) (hs : ShA K (hid (O ++ A) H) vs ds) (hp : H p = none) : Ok K O (A ++ [p]) (cs ++ [.lst ds]) (upd H p (.lst vs)) := by
  have st := Stp.push (o := .lst vs) ok hp
  have hn := ok.ne hp
  have ok' := ok.new (o := .lst vs) hp
  refine ⟨fun x hx => ⟨(ok'.out x hx).1, fun z => ?_⟩, by rw [List.length_append, List.length_append, ok.len]; rfl, ?_, fun k a c e1 e2 => ?_⟩
  · rcases List.mem_append.mp z with z | z
    · exact (ok.out x hx).2 z
    · have e : x = p := by simpa using z
      subst e
      exact hn (List.mem_append_left _ hx)
  · refine List.nodup_append.mpr ⟨ok.nd, by simp, fun x hx y hy => ?_⟩
    have e : y = p := by simpa using hy
    subst e
    rintro rfl
    exact hn (List.mem_append_right _ hx)
  · by_cases hk : k < A.length
    · rw [List.getElem?_append_left hk] at e1
      rw [List.getElem?_append_left (ok.len ▸ hk)] at e2
      have h := ok.at k a c e1 e2
      have ha : a ≠ p := fun z => h.some (z ▸ hp)
      exact HcAt.at (upd_ne ha) (h.mono st.same)
    · rw [List.getElem?_append_right (by omega)] at e1
      rw [List.getElem?_append_right (by rw [← ok.len]; omega)] at e2
      have hk0 : k - A.length = 0 := by
        have := (List.getElem?_eq_some_iff.mp e1).1
        simp at this
        omega
      rw [← ok.len] at e2
      rw [hk0] at e1 e2
      cases e1
      cases e2
      exact ⟨vs, upd_same, hs.mono st.same⟩
theorem PostL.new {ds : List D} {vs : List V} {p : Addr} (ok : Ok K O A cs H) (h : PostL K R O A H Q E (.ok ds cs)) (hs : ShA K (hid (O ++ A) H) vs ds) (hp : H p = none) : Q (.ref p) (upd H p (.lst vs)) :=
  h p A _ (Stp.new ok hp) (Stp.push ok hp) (ok.push hs hp)
theorem postL_step {A1 : List Addr} {H1 : Hp} (s : Stp A H A1 H1) {r : Res (List D)} (h : PostL K R O A H Q E r) : PostL K R O A1 H1 Q E r :=
  PostX.step s (fun ds cs q p A' H' s' s'' => q p A' H' (s.trans s') (s.trans s'')) h
theorem post_step {A1 : List Addr} {H1 : Hp} (s : Stp A H A1 H1) {r : Res Sl} (h : Post K R O A H Q E r) : Post K R O A1 H1 Q E r :=
  PostX.step s (fun ds cs q v A' H' s' => q v A' H' (s.trans s')) h
/-- the last handle given up: its list is data -/
theorem Ok.pop {p : Addr} {ds : List D} (ok : Ok K O (A ++ [p]) (cs ++ [.lst ds]) H) : Ok K O A cs H ∧ Sh K (hid (O ++ A) H) (.ref p) (.list ds) := by
  have less : Same (hid (O ++ (A ++ [p])) H) (hid (O ++ A) H) := by
    intro b o h
    obtain ⟨hb, e⟩ := hid_some.mp h
    refine hid_some.mpr ⟨fun z => hb ?_, e⟩
    rcases List.mem_append.mp z with z | z
    · exact List.mem_append_left _ z
    · exact List.mem_append_right _ (List.mem_append_left _ z)
  have hl : A.length = cs.length := by
    have := ok.len
    simp at this
    exact this
  have nd := List.nodup_append.mp ok.nd
  refine ⟨⟨fun x hx => ⟨(ok.out x hx).1, fun z => (ok.out x hx).2 (List.mem_append_left _ z)⟩, hl, nd.1, fun k a c e1 e2 => ?_⟩, ?_⟩
  · refine (ok.at k a c ?_ ?_).mono less
    · rw [List.getElem?_append_left (List.getElem?_eq_some_iff.mp e1).1]
      exact e1
    · rw [List.getElem?_append_left (List.getElem?_eq_some_iff.mp e2).1]
      exact e2
  · obtain ⟨vs, h, t⟩ := ok.at A.length p (.lst ds) (by simp) (by rw [hl]; simp)
    refine .lst (hid_some.mpr ⟨fun z => ?_, h⟩) (t.mono less)
    rcases List.mem_append.mp z with z | z
    · exact (ok.out p z).2 (by simp)
    · exact nd.2.2 p z p (by simp) rfl
end

/-! ### a list as it stands, data or handle -/
def viewL : Sl → List HC → Option (List D)
  | .d (.list ds), _ => some ds
  | .h k, cs => match cs[k]? with
    | some (.lst ds) => some ds
    | none => none
  | .s ns, _ => some (ns.map PyData.int)
  | _, _ => none
/-- .. a list that is tracked -/
def viewT : Sl → List HC → Option (List D)
  | .d (.list ds), _ => some ds
  | .h k, cs => match cs[k]? with
    | some (.lst ds) => some ds
    | none => none
  | _, _ => none
theorem ShA.ofInts {K : PySem.W.Frag} {H : Hp} : ∀ ns : List Int, ShA K H (ns.map V.int) (ns.map PyData.int)
  | [] => .nil
  | n :: r => .cons (.int n) (ShA.ofInts r)
section
variable {K : PySem.W.Frag} {O A : List Addr} {cs : List HC} {H : Hp} {v : V} {sl : Sl} {ds : List D}
theorem Ok.hc (ok : Ok K O A cs H) {k : Nat} {a : Addr} (e : A[k]? = some a) : ∃ c, cs[k]? = some c ∧ HcAt K (hid (O ++ A) H) H a c := by
  obtain ⟨hk, _⟩ := List.getElem?_eq_some_iff.mp e
  have hc : k < cs.length := ok.len ▸ hk
  exact ⟨_, List.getElem?_eq_getElem hc, ok.at k a _ e (List.getElem?_eq_getElem hc)⟩
theorem view_l (ok : Ok K O A cs H) (s : ShS K O A H v sl) (e : viewL sl cs = some ds) : ∃ a vs, v = .ref a ∧ SqL K H a vs ∧ ShA K (hid (O ++ A) H) vs ds := by
  cases sl with
  | d d =>
    cases d with
    | list xs =>
      cases e
      cases s with
      | lst h t => exact ⟨_, _, rfl, .inl (.inl (hid_same _ _ h)), t⟩
    | _ => cases e
  | h k =>
    obtain ⟨a, ea, rfl⟩ := s
    obtain ⟨c, ec, hc⟩ := ok.hc ea
    simp only [viewL, ec] at e
    cases c with
    | lst xs =>
      cases e
      obtain ⟨vs, h, t⟩ := hc
      exact ⟨a, vs, rfl, .inl (.inl h), t⟩
  | s ns =>
    cases e
    obtain ⟨a, rfl, h⟩ := s
    exact ⟨a, _, rfl, hid_same.seq h, ShA.ofInts ns⟩
theorem view_t (ok : Ok K O A cs H) (s : ShS K O A H v sl) (e : viewT sl cs = some ds) : ∃ a vs, v = .ref a ∧ H a = some (.lst vs) ∧ ShA K (hid (O ++ A) H) vs ds := by
  cases sl with
  | d d =>
    cases d with
    | list xs =>
      cases e
      cases s with
      | lst h t => exact ⟨_, _, rfl, hid_same _ _ h, t⟩
    | _ => cases e
  | h k =>
    obtain ⟨a, ea, rfl⟩ := s
    obtain ⟨c, ec, hc⟩ := ok.hc ea
    simp only [viewT, ec] at e
    cases c with
    | lst xs =>
      cases e
      obtain ⟨vs, h, t⟩ := hc
      exact ⟨a, vs, rfl, h, t⟩
  | s ns => cases e
theorem sh_tup (s : Sh K (hid (O ++ A) H) v (.tuple ds)) : ∃ a vs, v = .ref a ∧ SqT K H a vs ∧ ShA K (hid (O ++ A) H) vs ds := by
  cases s with
  | tup h t => exact ⟨_, _, rfl, SqT.same hid_same h, t⟩
end

/-! ### names, constants -/
def mVar (i : Nat) : Rho → M Sl := fun ρ cs => match ρ[i]? with
  | some (some sl) => .ok sl cs
  | _ => .bad
def mC (d : D) : Rho → M Sl := fun _ cs => .ok (.d d) cs
section
variable {X : Cx} {R : XR} {E : XK} {pos : Pos}
theorem em_of {e : Expr} {m : Rho → M Sl} {t : TE} (h : PE X e t) (k : ∀ O A ρ cs σ H, Ok X.K O A cs H → RhoOk X.K O A ρ σ H → ∀ Q, Post X.K R O A H Q E (m ρ cs) → t σ H Q) : EM X R E e m := ⟨t, h, k⟩
theorem em_var (i : Nat) {x : Str} (hN : X.N[i]? = some x := by rfl) (hv : Vis X.env.scope x := by first | exact Or.inl rfl | exact Or.inr (Or.inl rfl) | exact Or.inr (Or.inr rfl)) (hd : (x == ("__debug__" : Str)) = false := by decide)
    (hcd : (x == ("__classdict__" : Str)) = false := by decide) : EM X R E (.Name x pos) (mVar i) :=
  em_of (pe_var hN hv hd hcd) fun O A ρ cs σ H ok rk Q h => by
    unfold mVar at h
    split at h
    · rename_i sl e
      obtain ⟨v, e1, e2⟩ := rk.2 i sl e
      exact ⟨v, e1, Post.ret ok h e2⟩
    · exact h.elim
theorem em_int {i : Int} {j : Nat} : EM X R E (.Constant (.int i) j pos) (mC (.int i)) := em_of pe_int fun O A ρ cs σ H ok rk Q h => Post.ret ok h (.int i)
theorem em_bl {b : Bool} {j : Nat} : EM X R E (.Constant (.bool b) j pos) (mC (.bool b)) := em_of pe_bl fun O A ρ cs σ H ok rk Q h => Post.ret ok h (.bl b)
theorem em_non {j : Nat} : EM X R E (.Constant .none j pos) (mC .none) := em_of pe_non fun O A ρ cs σ H ok rk Q h => Post.ret ok h .non
theorem em_str {x : Str} {j : Nat} : EM X R E (.Constant (.str x) j pos) (mC (.str x)) := em_of pe_str fun O A ρ cs σ H ok rk Q h => Post.ret ok h (.str x)
/-- a module's int -/
theorem em_globI {x : Str} {i : Int} (hg : Gl X x) (hm : ∃ t, X.mg x = some (.int i t)) (hd : (x == ("__debug__" : Str)) = false := by decide) : EM X R E (.Name x pos) (mC (.int i)) := by
  obtain ⟨t, hm⟩ := hm
  exact em_of (pe_glob (v := .int i) hg hm ⟨t, rfl⟩ hd) fun O A ρ cs σ H ok rk Q h => Post.ret ok h (.int i)
end

/-! ### operators -/
structure OpM (X : Cx) (R : XR) (E : XK) (f : Value → Value → Sem Value) (o : Sl → Sl → M Sl) : Prop where
  ex : ∃ r, OpR X f r ∧ ∀ O A cs H x y sx sy, Ok X.K O A cs H → ShS X.K O A H x sx → ShS X.K O A H y sy → ∀ Q, Post X.K R O A H Q E (o sx sy cs) → r x y H Q
def mBin (o : Sl → Sl → M Sl) (ma mb : Rho → M Sl) : Rho → M Sl := fun ρ cs => (ma ρ cs).bind fun x cs1 => (mb ρ cs1).bind fun y cs2 => o x y cs2
section
variable {X : Cx} {R : XR} {E : XK} {pos : Pos} {a b c : Expr} {ma mb mc : Rho → M Sl} {o o' : Sl → Sl → M Sl}
/-- two readings, one behind the other -/
theorem two {ta tb : TE} {O A : List Addr} {ρ : Rho} {cs : List HC} {σ : L2.St} {H : Hp} (ka : ∀ O A ρ cs σ H, Ok X.K O A cs H → RhoOk X.K O A ρ σ H → ∀ Q, Post X.K R O A H Q E (ma ρ cs) → ta σ H Q)
    (kb : ∀ O A ρ cs σ H, Ok X.K O A cs H → RhoOk X.K O A ρ σ H → ∀ Q, Post X.K R O A H Q E (mb ρ cs) → tb σ H Q) (ok : Ok X.K O A cs H) (rk : RhoOk X.K O A ρ σ H) {S : Sl → Sl → List HC → Prop} {W : V → V → Hp → Prop}
    (h : PostX X.K R O A H E (fun x cs1 => PostX X.K R O A H E (fun y cs2 => S x y cs2) (mb ρ cs1)) (ma ρ cs))
    (hS : ∀ x y sx sy A2 cs2 H2, Stp A H A2 H2 → Ok X.K O A2 cs2 H2 → ShS X.K O A2 H2 x sx → ShS X.K O A2 H2 y sy → S sx sy cs2 → W x y H2) : ta σ H fun x H1 => tb σ H1 fun y H2 => W x y H2 := by
  refine ka O A ρ cs σ H ok rk _ (h.step (Stp.refl ok) fun sx cs1 h1 x A1 H1 s1 ok1 r1 => ?_)
  refine kb O A1 ρ cs1 σ H1 ok1 (rk.step s1) _ (h1.step s1 fun sy cs2 h2 y A2 H2 s2 ok2 r2 => ?_)
  exact hS x y sx sy A2 cs2 H2 (s1.trans s2) ok2 (r1.step s2) r2 h2
theorem em_bin {op : Operator} (ho : OpM X R E (binaryOp op) o) (ha : EM X R E a ma) (hb : EM X R E b mb) : EM X R E (.BinOp a op b pos) (mBin o ma mb) := by
  obtain ⟨r, hr, kr⟩ := ho
  obtain ⟨ta, pa, ka⟩ := ha
  obtain ⟨tb, pb, kb⟩ := hb
  refine em_of (pe_op hr pa pb) fun O A ρ cs σ H ok rk Q h => ?_
  refine two ka kb ok rk (S := fun x y cs2 => Post X.K R O A H Q E (o x y cs2)) ((PostX.bind h).step (Stp.refl ok) fun x cs1 h1 => PostX.bind h1) fun x y sx sy A2 cs2 H2 s ok2 r1 r2 hS => ?_
  exact kr O A2 cs2 H2 x y sx sy ok2 r1 r2 Q (hS.step s fun sl cs3 q v A' H' s' => q v A' H' (s.trans s'))
theorem em_cmp {op : CmpOp} (ho : OpM X R E (compareOp op) o) (ha : EM X R E a ma) (hb : EM X R E b mb) (hm : behindInMarks op b = false := by first | exact nomark _ | with_unfolding_all rfl) : EM X R E (.Compare a [op] [b] pos) (mBin o ma mb) := by
  obtain ⟨r, hr, kr⟩ := ho
  obtain ⟨ta, pa, ka⟩ := ha
  obtain ⟨tb, pb, kb⟩ := hb
  refine em_of (pe_cmpR hr pa pb hm) fun O A ρ cs σ H ok rk Q h => ?_
  refine two ka kb ok rk (S := fun x y cs2 => Post X.K R O A H Q E (o x y cs2)) ((PostX.bind h).step (Stp.refl ok) fun x cs1 h1 => PostX.bind h1) fun x y sx sy A2 cs2 H2 s ok2 r1 r2 hS => ?_
  exact kr O A2 cs2 H2 x y sx sy ok2 r1 r2 Q (hS.step s fun sl cs3 q v A' H' s' => q v A' H' (s.trans s'))
/-- a value that is a bool -/
def toB : Sl → M Bool
  | .d (.bool b), cs => .ok b cs
  | _, _ => .bad
def mTest (m : Rho → M Sl) : Rho → M Bool := fun ρ cs => (m ρ cs).bind toB
theorem toB_ok {K : PySem.W.Frag} {O A : List Addr} {H : Hp} {v : V} {sl : Sl} {cs : List HC} {S : Bool → List HC → Prop} {R : XR} (r : ShS K O A H v sl) {A0 : List Addr} {H0 : Hp} (h : PostX K R O A0 H0 E S (toB sl cs)) : ∃ b, v = .bl b ∧ S b cs := by
  cases sl with
  | d d =>
    cases d with
    | bool b =>
      cases r
      exact ⟨b, rfl, h⟩
    | _ => exact h.elim
  | h k => exact h.elim
  | s ns => exact h.elim
theorem tm_val (h : EM X R E a ma) (he : ∀ whole, isTrue a X.env whole = (do let v ← whole; standAt a.pos; holding [v] (truthy v)) := by intro _; rfl) : TM X R E a (mTest ma) := by
  obtain ⟨ta, pa, ka⟩ := h
  refine ⟨tB ta, pt_val pa he, fun O A ρ cs σ H ok rk Q h => ?_⟩
  refine ka O A ρ cs σ H ok rk _ ((PostX.bind h).step (Stp.refl ok) fun sx cs1 h1 x A1 H1 s1 ok1 r1 => ?_)
  obtain ⟨b, e, q⟩ := toB_ok r1 h1
  exact ⟨b, e, q A1 H1 s1 ok1⟩
theorem tm_cmp {op : CmpOp} (ho : OpM X R E (compareOp op) o) (ha : EM X R E a ma) (hb : EM X R E b mb) (hm : behindInMarks op b = false := by first | exact nomark _ | with_unfolding_all rfl) : TM X R E (.Compare a [op] [b] pos) (mTest (mBin o ma mb)) := by
  obtain ⟨r, hr, kr⟩ := ho
  obtain ⟨ta, pa, ka⟩ := ha
  obtain ⟨tb, pb, kb⟩ := hb
  refine ⟨_, pt_cmpR hr pa pb hm, fun O A ρ cs σ H ok rk Q h => ?_⟩
  have h' := PostX.bind h
  refine two ka kb ok rk (S := fun x y cs2 => PostX X.K R O A H E (fun sl cs3 => PostB X.K R O A H Q E (toB sl cs3)) (o x y cs2)) ((PostX.bind h').step (Stp.refl ok) fun x cs1 h1 => PostX.bind h1) fun x y sx sy A2 cs2 H2 s ok2 r1 r2 hS => ?_
  refine kr O A2 cs2 H2 x y sx sy ok2 r1 r2 _ (hS.step s fun sl cs3 q v A' H' s' ok' r' => ?_)
  obtain ⟨b, e, q'⟩ := toB_ok r' q
  exact ⟨b, e, q' A' H' (s.trans s') ok'⟩
/-- a op b op' c -/
def mChain (o o' : Sl → Sl → M Sl) (ma mb mc : Rho → M Sl) : Rho → M Sl := fun ρ cs => (ma ρ cs).bind fun x cs1 => (mb ρ cs1).bind fun y cs2 => (o x y cs2).bind fun z cs3 => (toB z cs3).bind fun k cs4 =>
  if k = true then (mc ρ cs4).bind fun w cs5 => o' y w cs5 else .ok (.d (.bool false)) cs4
theorem chain_run {op op' : CmpOp} {ta tb tc : TE} {r r' : R2} {O A : List Addr} {ρ : Rho} {cs : List HC} {σ : L2.St} {H : Hp}
    (ka : ∀ O A ρ cs σ H, Ok X.K O A cs H → RhoOk X.K O A ρ σ H → ∀ Q, Post X.K R O A H Q E (ma ρ cs) → ta σ H Q)
    (kb : ∀ O A ρ cs σ H, Ok X.K O A cs H → RhoOk X.K O A ρ σ H → ∀ Q, Post X.K R O A H Q E (mb ρ cs) → tb σ H Q)
    (kc : ∀ O A ρ cs σ H, Ok X.K O A cs H → RhoOk X.K O A ρ σ H → ∀ Q, Post X.K R O A H Q E (mc ρ cs) → tc σ H Q)
    (kr : ∀ O A cs H x y sx sy, Ok X.K O A cs H → ShS X.K O A H x sx → ShS X.K O A H y sy → ∀ Q, Post X.K R O A H Q E (o sx sy cs) → r x y H Q)
    (kr' : ∀ O A cs H x y sx sy, Ok X.K O A cs H → ShS X.K O A H x sx → ShS X.K O A H y sy → ∀ Q, Post X.K R O A H Q E (o' sx sy cs) → r' x y H Q)
    (ok : Ok X.K O A cs H) (rk : RhoOk X.K O A ρ σ H) {Q : VK} (h : Post X.K R O A H Q E (mChain o o' ma mb mc ρ cs)) : tChain r r' ta tb tc σ H Q := by
  refine two ka kb ok rk (S := fun x y cs2 => Post X.K R O A H Q E ((o x y cs2).bind fun z cs3 => (toB z cs3).bind fun k cs4 => if k = true then (mc ρ cs4).bind fun w cs5 => o' y w cs5 else .ok (.d (.bool false)) cs4))
    ((PostX.bind h).step (Stp.refl ok) fun x cs1 h1 => PostX.bind h1) fun x y sx sy A2 cs2 H2 s ok2 r1 r2 hS => ?_
  refine kr O A2 cs2 H2 x y sx sy ok2 r1 r2 _ ((PostX.bind hS).step s fun z cs3 q v A3 H3 s3 ok3 r3 => ?_)
  obtain ⟨k, e, q'⟩ := toB_ok r3 (PostX.bind q)
  refine ⟨k, e, ?_⟩
  cases k with
  | false =>
    rw [if_neg Bool.false_ne_true] at q' ⊢
    exact q' _ A3 H3 (s.trans s3) ok3 (.bl false)
  | true =>
    rw [if_pos rfl] at q' ⊢
    refine kc O A3 ρ cs3 σ H3 ok3 (rk.step (s.trans s3)) _ ((PostX.bind q').step (s.trans s3) fun sw cs5 q5 w A5 H5 s5 ok5 r5 => ?_)
    exact kr' O A5 cs5 H5 y w sy sw ok5 (r2.step (s3.trans s5)) r5 Q (q5.step ((s.trans s3).trans s5) fun sl cs6 q6 v' A' H' s' => q6 v' A' H' (((s.trans s3).trans s5).trans s'))
theorem em_chain {op op' : CmpOp} (ho : OpM X R E (compareOp op) o) (ho' : OpM X R E (compareOp op') o') (ha : EM X R E a ma) (hb : EM X R E b mb) (hc : EM X R E c mc) (hm : lastMarks [op, op'] [b, c] = false := by with_unfolding_all rfl) :
    EM X R E (.Compare a [op, op'] [b, c] pos) (mChain o o' ma mb mc) := by
  obtain ⟨r, hr, kr⟩ := ho
  obtain ⟨r', hr', kr'⟩ := ho'
  obtain ⟨ta, pa, ka⟩ := ha
  obtain ⟨tb, pb, kb⟩ := hb
  obtain ⟨tc, pc, kc⟩ := hc
  exact em_of (pe_chain hr hr' pa pb pc hm) fun O A ρ cs σ H ok rk Q h => chain_run (op := op) (op' := op') ka kb kc kr kr' ok rk h
theorem tm_chain {op op' : CmpOp} (ho : OpM X R E (compareOp op) o) (ho' : OpM X R E (compareOp op') o') (ha : EM X R E a ma) (hb : EM X R E b mb) (hc : EM X R E c mc) (hm : lastMarks [op, op'] [b, c] = false := by with_unfolding_all rfl) :
    TM X R E (.Compare a [op, op'] [b, c] pos) (mTest (mChain o o' ma mb mc)) := by
  obtain ⟨r, hr, kr⟩ := ho
  obtain ⟨r', hr', kr'⟩ := ho'
  obtain ⟨ta, pa, ka⟩ := ha
  obtain ⟨tb, pb, kb⟩ := hb
  obtain ⟨tc, pc, kc⟩ := hc
  refine ⟨_, pt_chain hr hr' pa pb pc hm, fun O A ρ cs σ H ok rk Q h => ?_⟩
  refine chain_run (op := op) (op' := op') ka kb kc kr kr' ok rk ((PostX.bind h).step (Stp.refl ok) fun sl cs3 q v A' H' s' ok' r' => ?_)
  obtain ⟨b', e, q'⟩ := toB_ok r' q
  exact ⟨b', e, q' A' H' s' ok'⟩

/-! ### and, or, not, if -/
variable {e : Expr} {rest : List Expr} {mt mu : Rho → M Bool}
def mAndT (mt mu : Rho → M Bool) : Rho → M Bool := fun ρ cs => (mt ρ cs).bind fun k cs1 => if k = true then mu ρ cs1 else .ok false cs1
def mOrT (mt mu : Rho → M Bool) : Rho → M Bool := fun ρ cs => (mt ρ cs).bind fun k cs1 => if k = true then .ok true cs1 else mu ρ cs1
def mNotT (mt : Rho → M Bool) : Rho → M Bool := fun ρ cs => (mt ρ cs).bind fun k cs1 => .ok (!k) cs1
theorem wm_and1 (h : TM X R E a mt) : WM X R E (.BoolOp .And [a] pos) mt := by
  obtain ⟨t, p, k⟩ := h
  exact ⟨t, pw_and1 p, k⟩
theorem wm_or1 (h : TM X R E a mt) : WM X R E (.BoolOp .Or [a] pos) mt := by
  obtain ⟨t, p, k⟩ := h
  exact ⟨t, pw_or1 p, k⟩
theorem wm_and (h : TM X R E a mt) (h2 : WM X R E (.BoolOp .And (b :: rest) pos) mu) : WM X R E (.BoolOp .And (a :: b :: rest) pos) (mAndT mt mu) := by
  obtain ⟨t, p, k⟩ := h
  obtain ⟨u, p2, k2⟩ := h2
  refine ⟨_, pw_and p p2, fun O A ρ cs σ H ok rk Q h => ?_⟩
  refine k O A ρ cs σ H ok rk _ ((PostX.bind h).step (Stp.refl ok) fun c cs1 q A1 H1 s1 ok1 => ?_)
  cases c with
  | true => exact k2 O A1 ρ cs1 σ H1 ok1 (rk.step s1) Q (PostX.step s1 (fun b cs2 q2 A' H' s' => q2 A' H' (s1.trans s')) q)
  | false => exact q A1 H1 s1 ok1
theorem wm_or (h : TM X R E a mt) (h2 : WM X R E (.BoolOp .Or (b :: rest) pos) mu) : WM X R E (.BoolOp .Or (a :: b :: rest) pos) (mOrT mt mu) := by
  obtain ⟨t, p, k⟩ := h
  obtain ⟨u, p2, k2⟩ := h2
  refine ⟨_, pw_or p p2, fun O A ρ cs σ H ok rk Q h => ?_⟩
  refine k O A ρ cs σ H ok rk _ ((PostX.bind h).step (Stp.refl ok) fun c cs1 q A1 H1 s1 ok1 => ?_)
  cases c with
  | false => exact k2 O A1 ρ cs1 σ H1 ok1 (rk.step s1) Q (PostX.step s1 (fun b cs2 q2 A' H' s' => q2 A' H' (s1.trans s')) q)
  | true => exact q A1 H1 s1 ok1
theorem WM.tm (h : WM X R E e mt) : TM X R E e mt := by
  obtain ⟨t, p, k⟩ := h
  exact ⟨t, p.pt, k⟩
theorem tm_not (h : TM X R E a mt) : TM X R E (.UnaryOp .Not a pos) (mNotT mt) := by
  obtain ⟨t, p, k⟩ := h
  refine ⟨_, pt_not p, fun O A ρ cs σ H ok rk Q h => ?_⟩
  exact k O A ρ cs σ H ok rk _ ((PostX.bind h).step (Stp.refl ok) fun c cs1 q A1 H1 s1 ok1 => q A1 H1 s1 ok1)
def mAnd (ma mb : Rho → M Sl) : Rho → M Sl := fun ρ cs => (ma ρ cs).bind fun x cs1 => (toB x cs1).bind fun k cs2 => if k = true then mb ρ cs2 else .ok (.d (.bool false)) cs2
def mOr (ma mb : Rho → M Sl) : Rho → M Sl := fun ρ cs => (ma ρ cs).bind fun x cs1 => (toB x cs1).bind fun k cs2 => if k = true then .ok (.d (.bool true)) cs2 else mb ρ cs2
def mNot (ma : Rho → M Sl) : Rho → M Sl := fun ρ cs => (ma ρ cs).bind fun x cs1 => (toB x cs1).bind fun k cs2 => .ok (.d (.bool (!k))) cs2
theorem em_one {op : BoolOp} (h : EM X R E a ma) : EM X R E (.BoolOp op [a] pos) ma := by
  obtain ⟨t, p, k⟩ := h
  exact ⟨t, pe_one p, k⟩
theorem em_and (h : EM X R E a ma) (h2 : EM X R E (.BoolOp .And (b :: rest) pos) mb) : EM X R E (.BoolOp .And (a :: b :: rest) pos) (mAnd ma mb) := by
  obtain ⟨t, p, k⟩ := h
  obtain ⟨u, p2, k2⟩ := h2
  refine em_of (pe_and p p2) fun O A ρ cs σ H ok rk Q h => ?_
  refine k O A ρ cs σ H ok rk _ ((PostX.bind h).step (Stp.refl ok) fun sx cs1 q x A1 H1 s1 ok1 r1 => ?_)
  obtain ⟨c, e, q'⟩ := toB_ok r1 (PostX.bind q)
  refine ⟨c, e, ?_⟩
  cases c with
  | true => exact k2 O A1 ρ cs1 σ H1 ok1 (rk.step s1) Q (PostX.step s1 (fun b cs2 q2 v A' H' s' => q2 v A' H' (s1.trans s')) q')
  | false => exact q' _ A1 H1 s1 ok1 (.bl false)
theorem em_or (h : EM X R E a ma) (h2 : EM X R E (.BoolOp .Or (b :: rest) pos) mb) : EM X R E (.BoolOp .Or (a :: b :: rest) pos) (mOr ma mb) := by
  obtain ⟨t, p, k⟩ := h
  obtain ⟨u, p2, k2⟩ := h2
  refine em_of (pe_or p p2) fun O A ρ cs σ H ok rk Q h => ?_
  refine k O A ρ cs σ H ok rk _ ((PostX.bind h).step (Stp.refl ok) fun sx cs1 q x A1 H1 s1 ok1 r1 => ?_)
  obtain ⟨c, e, q'⟩ := toB_ok r1 (PostX.bind q)
  refine ⟨c, e, ?_⟩
  cases c with
  | false => exact k2 O A1 ρ cs1 σ H1 ok1 (rk.step s1) Q (PostX.step s1 (fun b cs2 q2 v A' H' s' => q2 v A' H' (s1.trans s')) q')
  | true => exact q' _ A1 H1 s1 ok1 (.bl true)
theorem em_not (h : EM X R E a ma) : EM X R E (.UnaryOp .Not a pos) (mNot ma) := by
  obtain ⟨t, p, k⟩ := h
  refine em_of (pe_not p) fun O A ρ cs σ H ok rk Q h => ?_
  refine k O A ρ cs σ H ok rk _ ((PostX.bind h).step (Stp.refl ok) fun sx cs1 q x A1 H1 s1 ok1 r1 => ?_)
  obtain ⟨c, e, q'⟩ := toB_ok r1 (PostX.bind q)
  exact ⟨c, e, q' _ A1 H1 s1 ok1 (.bl _)⟩
def mIf {α : Type} (mt : Rho → M Bool) (ma mb : Rho → M α) : Rho → M α := fun ρ cs => (mt ρ cs).bind fun k cs1 => if k = true then ma ρ cs1 else mb ρ cs1
theorem em_if (h : TM X R E c mt) (ha : EM X R E a ma) (hb : EM X R E b mb) : EM X R E (.IfExp c a b pos) (mIf mt ma mb) := by
  obtain ⟨t, p, k⟩ := h
  obtain ⟨ta, pa, ka⟩ := ha
  obtain ⟨tb, pb, kb⟩ := hb
  refine em_of (pe_ifExp p pa pb) fun O A ρ cs σ H ok rk Q h => ?_
  refine k O A ρ cs σ H ok rk _ ((PostX.bind h).step (Stp.refl ok) fun c cs1 q A1 H1 s1 ok1 => ?_)
  cases c with
  | true => exact ka O A1 ρ cs1 σ H1 ok1 (rk.step s1) Q (PostX.step s1 (fun b cs2 q2 v A' H' s' => q2 v A' H' (s1.trans s')) q)
  | false => exact kb O A1 ρ cs1 σ H1 ok1 (rk.step s1) Q (PostX.step s1 (fun b cs2 q2 v A' H' s' => q2 v A' H' (s1.trans s')) q)
end
end Mir
set_option maxHeartbeats 4000000
/-! tuple * int whatever the int -/
namespace Mir
open PySem PySem.Spec PyProof.Rows L2
theorem tuple_mulS (l : Addr) (items : Array Value) (n : Nat) (dd : Option Addr) (sl : Array (Option Value)) (x : Int) (u : Tok) (c0 : (decide (x < -(2 ^ 63)) || decide (x ≥ 2 ^ 63)) = false) (c1 : (items.isEmpty || x == 1) = true) :
    Meets (Builtin.«tuple.__mul__» ⟨[.ref l, .int x u], []⟩) (fun _ R s => s.heap.get? l = some { cls := .type "tuple", dict := dd, data := .seq items n, slots := sl } ∧ R (.ok (.ret (Value.ref l))) s) :=
  .of_wp fun prog w A R s h => by
    obtain ⟨hp, g, d, tk, os⟩ := s
    obtain ⟨hl, h⟩ := h
    have f1 := AutoSeq1.idx_int
    wp_walk using wpAny_loadPart' hl
    repeat (first
      | (refine wpAny_ite_false (decide_eq_false (by rw [c0]; exact Bool.false_ne_true)) ?_; wp_walk using wpAny_loadPart' hl)
      | (refine wpAny_ite_true (decide_eq_true c1) ?_; wp_walk using wpAny_loadPart' hl))
    exact ⟨_, rfl, h⟩
theorem tuple_mul0 (l : Addr) (items : Array Value) (n : Nat) (dd : Option Addr) (sl : Array (Option Value)) (x : Int) (u : Tok) (c0 : (decide (x < -(2 ^ 63)) || decide (x ≥ 2 ^ 63)) = false) (c1 : (items.isEmpty || x == 1) = false) (c2 : (decide (x ≤ 0) || items.isEmpty) = true) :
    Meets (Builtin.«tuple.__mul__» ⟨[.ref l, .int x u], []⟩) (fun _ R s => s.heap.get? l = some { cls := .type "tuple", dict := dd, data := .seq items n, slots := sl } ∧
      R (.ok (.ret (Value.ref s.heap.objs.size))) { s with heap := s.heap.push { cls := Value.type "tuple", data := Data.seq #[] }, toks := s.toks }) :=
  .of_wp fun prog w A R s h => by
    obtain ⟨hp, g, d, tk, os⟩ := s
    obtain ⟨hl, h⟩ := h
    have f1 := AutoSeq1.idx_int
    wp_walk using wpAny_loadPart' hl
    repeat (first
      | (refine wpAny_ite_false (decide_eq_false (by rw [c0]; exact Bool.false_ne_true)) ?_; wp_walk using wpAny_loadPart' hl)
      | (refine wpAny_ite_false (decide_eq_false (by rw [c1]; exact Bool.false_ne_true)) ?_; wp_walk using wpAny_loadPart' hl)
      | (refine wpAny_ite_true (decide_eq_true c2) ?_; wp_walk using wpAny_loadPart' hl))
    exact ⟨_, rfl, h⟩
def rRepA (K : PySem.W.Frag) : R2 := fun x y H Q => ∃ l k xs, x = .ref l ∧ y = .int k ∧ SqT K H l xs ∧ -1000 ≤ k ∧ k ≤ 1000 ∧ xs.length ≤ 1000 ∧
  (xs = [] ∨ k = 1 → Q (.ref l) H) ∧ (xs ≠ [] → k ≠ 1 → ∀ p, H p = none → Q (.ref p) (upd H p (.tup (List.replicate k.toNat xs).flatten)))
section
variable {X : Cx}
theorem op_repA : OpR X (binaryOp .Mult) (rRepA X.K) := by
  intro pins s σ H x y v u Q I rx ry h
  obtain ⟨l, k, xs, rfl, rfl, hT, h0, h1, hz, q1, q2⟩ := h
  by_cases hc : xs ≠ [] ∧ 2 ≤ k
  · exact op_repT pins s σ H _ _ v u Q I rx ry ⟨l, k, xs, rfl, rfl, hT, hc.1, hc.2, h1, hz, q2 hc.1 (by omega)⟩
  cases rx
  obtain ⟨t, rfl⟩ := ry
  obtain ⟨its, r, ⟨⟨cls, dd, data, sl⟩, ho, hcl, n, hd⟩, hs⟩ := I.tuple hT
  simp only at hcl hd
  subst hcl hd
  have hle : its.length = xs.length := r.length.symm
  have c0 : (decide (k < -(2 ^ 63)) || decide (k ≥ 2 ^ 63)) = false := by
    rw [decide_eq_false (by omega), decide_eq_false (by omega)] <;> rfl
  by_cases hs1 : xs = [] ∨ k = 1
  · have c1 : (its.toArray.isEmpty || k == 1) = true := by
      rcases hs1 with e | e
      · rw [e] at hle
        rw [List.eq_nil_of_length_eq_zero hle]
        rfl
      · subst e
        simp
    exact wpAny_binaryOp_repeat_ref (T := "tuple") (U := "int") (by decide) ⟨_, ho, rfl⟩ (fun s' => typeIs_int s' k t) noFill_tuple_mul F.fills_int_mul F.slot_int_rmul repeat_tuple F.slot_int_index.lookup
      (call_meets F.slot_int_rmul (typeIs_int s k t) F.entry_int_rmul (F.args_int_rmul_2 _ _) (int_rmul_tuple k t l its.toArray n dd sl)
        ⟨ho, rfl, ⟨_, ho, rfl⟩, call_meets F.slot_tuple_mul ⟨_, ho, rfl⟩ F.entry_tuple_mul (F.args_tuple_mul_2 _ _) (tuple_mulS l its.toArray n dd sl k t c0 c1) ⟨ho, .ref l, H, I, rfl, q1 hs1⟩⟩)
  · have hne : xs ≠ [] := fun e => hs1 (.inl e)
    have hk1 : k ≠ 1 := fun e => hs1 (.inr e)
    have hk : k ≤ 0 := by
      by_cases z : 2 ≤ k
      · exact absurd ⟨hne, z⟩ hc
      · omega
    have hn : its ≠ [] := fun e => hne (by
      rw [e] at hle
      exact List.eq_nil_of_length_eq_zero hle.symm)
    have hi : its.toArray.isEmpty = false := by
      cases its with
      | nil => exact absurd rfl hn
      | cons a b => rfl
    have c1 : (its.toArray.isEmpty || k == 1) = false := by
      rw [hi, Bool.false_or]
      exact beq_eq_false_iff_ne.mpr hk1
    have c2 : (decide (k ≤ 0) || its.toArray.isEmpty) = true := by
      rw [decide_eq_true hk]
      rfl
    have ek : k.toNat = 0 := by omega
    refine wpAny_binaryOp_repeat_ref (T := "tuple") (U := "int") (by decide) ⟨_, ho, rfl⟩ (fun s' => typeIs_int s' k t) noFill_tuple_mul F.fills_int_mul F.slot_int_rmul repeat_tuple F.slot_int_index.lookup
      (call_meets F.slot_int_rmul (typeIs_int s k t) F.entry_int_rmul (F.args_int_rmul_2 _ _) (int_rmul_tuple k t l its.toArray n dd sl)
        ⟨ho, rfl, ⟨_, ho, rfl⟩, call_meets F.slot_tuple_mul ⟨_, ho, rfl⟩ F.entry_tuple_mul (F.args_tuple_mul_2 _ _) (tuple_mul0 l its.toArray n dd sl k t c0 c1 c2) ⟨ho, ?_⟩⟩)
    refine ⟨.ref s.heap.objs.size, _, I.laid (t' := s.toks) (o := .tup (List.replicate k.toNat xs).flatten) (fun b ob q => Heap.get?_push_of_some _ q) (Nat.le_refl _) ?_, rfl, q2 hne hk1 _ (I.hok.fresh (Nat.le_refl _))⟩
    rw [ek]
    exact ⟨by rw [sizeLine_eq]; simp, _, .nil, IsTup.new _ _⟩
end
end Mir
set_option maxHeartbeats 2000000
/-! operators on data; displays; subscripts; the built-in functions -/
namespace Mir
open PySem PySem.Spec PyProof.Rows L2

/-! ### operators -/
def oAdd : Sl → Sl → M Sl := fun x y cs => match x, y with
  | .d (.int i), .d (.int j) => .ok (.d (.int (i + j))) cs
  | .d (.str a), .d (.str b) => if a.length + b.length ≤ SL then .ok (.d (.str (a ++ b))) cs else .bad
  | .d (.tuple a), .d (.tuple b) => if a.length + b.length ≤ SL then .ok (.d (.tuple (a ++ b))) cs else .bad
  | x, y => match viewT x cs, viewT y cs with
    | some a, some b => if a.length + b.length ≤ SL then .ok (.d (.list (a ++ b))) cs else .bad
    | _, _ => .bad
def oSub : Sl → Sl → M Sl := fun x y cs => match x, y with
  | .d (.int i), .d (.int j) => .ok (.d (.int (i - j))) cs
  | _, _ => .bad
def oMul : Sl → Sl → M Sl := fun x y cs => match x, y with
  | .d (.int i), .d (.int j) => if i.natAbs.log2 + j.natAbs.log2 < 1000000 then .ok (.d (.int (i * j))) cs else .bad
  | .d (.tuple a), .d (.int k) => if -1000 ≤ k ∧ k ≤ 1000 ∧ a.length ≤ 1000 then .ok (.d (.tuple (List.replicate k.toNat a).flatten)) cs else .bad
  | x, .d (.int k) => match viewT x cs with
    | some a => if -(2 ^ 63) ≤ k ∧ k < 2 ^ 63 ∧ a.length * k.toNat ≤ SL then .ok (.d (.list (List.replicate k.toNat a).flatten)) cs else .bad
    | none => .bad
  | _, _ => .bad
def oFdiv : Sl → Sl → M Sl := fun x y cs => match x, y with
  | .d (.int i), .d (.int j) => if 0 < j ∧ j.natAbs.log2 < 9000 then .ok (.d (.int (i / j))) cs else .bad
  | _, _ => .bad
def oMod : Sl → Sl → M Sl := fun x y cs => match x, y with
  | .d (.int i), .d (.int j) => if 0 < j then .ok (.d (.int (i % j))) cs else .bad
  | _, _ => .bad
def oPow : Sl → Sl → M Sl := fun x y cs => match x, y with
  | .d (.int i), .d (.int j) => if 0 ≤ j ∧ (Builtin.Int.intBits i : Int) * j ≤ 2 ^ 27 then .ok (.d (.int (i ^ j.toNat))) cs else .bad
  | _, _ => .bad
def oCmp (p : Int → Int → Bool) (q : Str → Str → Option Bool) : Sl → Sl → M Sl := fun x y cs => match x, y with
  | .d (.int i), .d (.int j) => .ok (.d (.bool (p i j))) cs
  | .d (.str i), .d (.str j) => match q i j with
    | some b => .ok (.d (.bool b)) cs
    | none => .bad
  | _, _ => .bad
def oLt := oCmp (fun i j => decide (i < j)) fun i j => some (decide (i.cps.toList < j.cps.toList))
def oLe := oCmp (fun i j => decide (i ≤ j)) fun i j => some (!decide (j.cps.toList < i.cps.toList))
def oGt := oCmp (fun i j => decide (j < i)) fun _ _ => none
def oGe := oCmp (fun i j => decide (j ≤ i)) fun _ _ => none
/-- what a value or a handle is as data -/
def viewD : Sl → List HC → Option D
  | .d d, _ => some d
  | .h k, cs => (viewL (.h k) cs).map .list
  | .s ns, _ => some (.list (ns.map PyData.int))
def eqD (d e : D) : Option Bool :=
  if SeqAt.shaped d = true ∧ SeqAt.shaped e = true then some (PyData.eqv d e)
  else match d, e with
    | .list a, .list b => if a.length ≠ b.length then some false else none
    | _, _ => none
def oEq : Sl → Sl → M Sl := fun x y cs => match viewD x cs, viewD y cs with
  | some d, some e => match eqD d e with
    | some b => .ok (.d (.bool b)) cs
    | none => .bad
  | _, _ => .bad
def oNe : Sl → Sl → M Sl := fun x y cs => match viewD x cs, viewD y cs with
  | some d, some e => match eqD d e with
    | some b => .ok (.d (.bool (!b))) cs
    | none => .bad
  | _, _ => .bad
def oIsN : Sl → Sl → M Sl := fun x y cs => match x, y with
  | .d d, .d .none => .ok (.d (.bool (match d with | .none => true | _ => false))) cs
  | .h _, .d .none => .ok (.d (.bool false)) cs
  | _, _ => .bad
def oNotN : Sl → Sl → M Sl := fun x y cs => match x, y with
  | .d d, .d .none => .ok (.d (.bool (match d with | .none => false | _ => true))) cs
  | .h _, .d .none => .ok (.d (.bool true)) cs
  | _, _ => .bad
def oIn : Sl → Sl → M Sl := fun x y cs => match viewD x cs, viewD y cs with
  | some d, some (.list ds) => if SeqAt.shaped d = true ∧ SeqAt.shaped (.list ds) = true then .ok (.d (.bool (ds.any fun z => PyData.eqv z d))) cs else .bad
  | some d, some (.tuple ds) => if SeqAt.shaped d = true ∧ SeqAt.shaped (.tuple ds) = true then .ok (.d (.bool (ds.any fun z => PyData.eqv z d))) cs else .bad
  | _, _ => .bad
def oNotIn : Sl → Sl → M Sl := fun x y cs => match viewD x cs, viewD y cs with
  | some d, some (.list ds) => if SeqAt.shaped d = true ∧ SeqAt.shaped (.list ds) = true then .ok (.d (.bool (!ds.any fun z => PyData.eqv z d))) cs else .bad
  | some d, some (.tuple ds) => if SeqAt.shaped d = true ∧ SeqAt.shaped (.tuple ds) = true then .ok (.d (.bool (!ds.any fun z => PyData.eqv z d))) cs else .bad
  | _, _ => .bad

mutual
theorem Sh.dp {K : PySem.W.Frag} {H0 H : Hp} (e : Same H0 H) : ∀ {d : D} {v : V}, Sh K H0 v d → d.canLay0 = true → Dp K H v d
  | _, _, .non, _ => .non
  | _, _, .bl b, _ => .bl b
  | _, _, .int i, _ => .int i
  | _, _, .str x, _ => .str x
  | _, _, .lst h t, c => .lst (.inl (.inl (e _ _ h))) (ShA.dp e t (by simpa [PyData.canLay0] using c))
  | _, _, .tup h t, c => .tup (SqT.same e h) (ShA.dp e t (by simpa [PyData.canLay0] using c))
  | _, _, .dic h t, c => by simp [PyData.canLay0] at c
theorem ShA.dp {K : PySem.W.Frag} {H0 H : Hp} (e : Same H0 H) : ∀ {ds : List D} {vs : List V}, ShA K H0 vs ds → PyData.canLayAll0 ds = true → DpAll K H vs ds
  | _, _, .nil, _ => .nil
  | _, _, .cons h t, c => by
    have c' := (Bool.and_eq_true _ _).mp (by simpa [PyData.canLayAll0] using c)
    exact .cons (Sh.dp e h c'.1) (ShA.dp e t c'.2)
end
theorem shaped_lay {d : D} (h : SeqAt.shaped d = true) : d.canLay0 = true := SeqAt.canLay_of_shaped h
section
variable {K : PySem.W.Frag} {O A : List Addr} {cs : List HC} {H : Hp} {v : V} {sl : Sl} {d : D}
theorem view_d (ok : Ok K O A cs H) (s : ShS K O A H v sl) (e : viewD sl cs = some d) (c : d.canLay0 = true) : Dp K H v d := by
  cases sl with
  | d d' =>
    cases e
    exact Sh.dp hid_same s c
  | h k =>
    replace e : (viewL (.h k) cs).map PyData.list = some d := e
    cases q : viewL (.h k) cs with
    | none =>
      rw [q] at e
      cases e
    | some ds =>
      rw [q] at e
      cases e
      obtain ⟨a, vs, rfl, h1, h2⟩ := view_l ok s q
      exact .lst h1 (ShA.dp hid_same h2 (by simpa [PyData.canLay0] using c))
  | s ns =>
    cases e
    obtain ⟨a, vs, rfl, h1, h2⟩ := view_l ok s (ds := ns.map PyData.int) rfl
    exact .lst h1 (ShA.dp hid_same h2 (by simpa [PyData.canLay0] using c))
theorem view_dl {ds : List D} (ok : Ok K O A cs H) (s : ShS K O A H v sl) (e : viewD sl cs = some (.list ds)) : ∃ a vs, v = .ref a ∧ SqL K H a vs ∧ vs.length = ds.length := by
  cases sl with
  | d d' =>
    cases e
    cases s with
    | lst h t => exact ⟨_, _, rfl, .inl (.inl (hid_same _ _ h)), t.length⟩
  | h k =>
    replace e : (viewL (.h k) cs).map PyData.list = some (.list ds) := e
    cases q : viewL (.h k) cs with
    | none =>
      rw [q] at e
      cases e
    | some ds' =>
      rw [q] at e
      cases e
      obtain ⟨a, vs, rfl, h1, h2⟩ := view_l ok s q
      exact ⟨a, vs, rfl, h1, h2.length⟩
  | s ns =>
    cases e
    obtain ⟨a, vs, rfl, h1, h2⟩ := view_l ok s (ds := ns.map PyData.int) rfl
    exact ⟨a, vs, rfl, h1, h2.length⟩
end

section
variable {X : Cx} {R : XR} {E : XK}
theorem opm_of {f : Value → Value → Sem Value} {o : Sl → Sl → M Sl} {r : R2} (h : OpR X f r)
    (k : ∀ O A cs H x y sx sy, Ok X.K O A cs H → ShS X.K O A H x sx → ShS X.K O A H y sy → ∀ Q, Post X.K R O A H Q E (o sx sy cs) → r x y H Q) : OpM X R E f o := ⟨r, h, k⟩
/-- the way to show a rule: all but the served cases end -/
theorem om_add : OpM X R E (binaryOp .Add) oAdd := by
  refine opm_of (OpR.or op_add (OpR.or op_add_str (OpR.or op_catA op_cat))) fun O A cs H x y sx sy ok rx ry Q h => ?_
  unfold oAdd at h
  split at h
  · cases rx
    cases ry
    exact .inl ⟨_, _, rfl, rfl, Post.ret ok h (.int _)⟩
  · cases rx
    cases ry
    split at h
    · rename_i hz
      exact .inr (.inl ⟨_, _, rfl, rfl, SL_eq ▸ hz, Post.ret ok h (.str _)⟩)
    · exact h.elim
  · split at h
    · rename_i a b hz
      obtain ⟨p, vs, rfl, h1, s1⟩ := sh_tup rx
      obtain ⟨q, ws, rfl, h2, s2⟩ := sh_tup ry
      refine .inr (.inr (.inl ⟨p, q, vs, ws, rfl, rfl, h1, h2, by rw [s1.length, s2.length]; exact SL_eq ▸ hz, fun e => ?_, fun _ e => ?_, fun _ _ p' hp => ?_⟩))
      · subst e
        have ea : a = [] := List.eq_nil_of_length_eq_zero s1.length.symm
        subst ea
        exact Post.ret ok h ry
      · subst e
        have eb : b = [] := List.eq_nil_of_length_eq_zero s2.length.symm
        subst eb
        rw [List.append_nil] at h
        exact Post.ret ok h rx
      · exact Post.tup ok h (s1.append s2) hp
    · exact h.elim
  · split at h
    · rename_i a b ea eb
      split at h
      · rename_i hz
        obtain ⟨p, vs, rfl, h1, s1⟩ := view_t ok rx ea
        obtain ⟨q, ws, rfl, h2, s2⟩ := view_t ok ry eb
        exact .inr (.inr (.inr ⟨p, q, vs, ws, rfl, rfl, h1, h2, by rw [s1.length, s2.length]; exact SL_eq ▸ hz, fun p' hp => Post.lst ok h (s1.append s2) hp⟩))
      · exact h.elim
    · exact h.elim
theorem om_sub : OpM X R E (binaryOp .Sub) oSub := by
  refine opm_of op_sub fun O A cs H x y sx sy ok rx ry Q h => ?_
  unfold oSub at h
  split at h
  · cases rx
    cases ry
    exact ⟨_, _, rfl, rfl, Post.ret ok h (.int _)⟩
  · exact h.elim
theorem flat_rep {K : PySem.W.Frag} {H : Hp} {vs : List V} {ds : List D} (s : ShA K H vs ds) : ∀ n : Nat, ShA K H (List.replicate n vs).flatten (List.replicate n ds).flatten
  | 0 => .nil
  | n + 1 => by
    rw [List.replicate_succ, List.replicate_succ, List.flatten_cons, List.flatten_cons]
    exact s.append (flat_rep s n)
theorem om_mul : OpM X R E (binaryOp .Mult) oMul := by
  refine opm_of (OpR.or op_mulW (OpR.or op_repA op_rep)) fun O A cs H x y sx sy ok rx ry Q h => ?_
  unfold oMul at h
  split at h
  · split at h
    · rename_i hz
      cases rx
      cases ry
      exact .inl ⟨_, _, rfl, rfl, hz, Post.ret ok h (.int _)⟩
    · exact h.elim
  · split at h
    · rename_i a k hz
      obtain ⟨h2, h3, h4⟩ := hz
      obtain ⟨p, vs, rfl, h1, s1⟩ := sh_tup rx
      cases ry
      refine .inr (.inl ⟨p, _, vs, rfl, rfl, h1, h2, h3, by rw [s1.length]; exact h4, fun e => ?_, fun _ _ p' hp => Post.tup ok h (flat_rep s1 _) hp⟩)
      have ea : (List.replicate k.toNat a).flatten = a := by
        rcases e with e | e
        · have ea : a = [] := List.eq_nil_of_length_eq_zero (by rw [← s1.length, e]; rfl)
          subst ea
          simp
        · subst e
          simp
      rw [ea] at h
      exact Post.ret ok h rx
    · exact h.elim
  · split at h
    · rename_i a ea
      split at h
      · rename_i hz
        obtain ⟨p, vs, rfl, h1, s1⟩ := view_t ok rx ea
        cases ry
        exact .inr (.inr ⟨p, _, vs, rfl, rfl, h1, hz.1, hz.2.1, by rw [s1.length]; exact SL_eq ▸ hz.2.2, fun p' hp => Post.lst ok h (flat_rep s1 _) hp⟩)
      · exact h.elim
    · exact h.elim
  · exact h.elim
theorem om_fdiv : OpM X R E (binaryOp .FloorDiv) oFdiv := by
  refine opm_of op_fdivW fun O A cs H x y sx sy ok rx ry Q h => ?_
  unfold oFdiv at h
  split at h
  · split at h
    · rename_i hz
      cases rx
      cases ry
      exact ⟨_, _, rfl, rfl, hz, Post.ret ok h (.int _)⟩
    · exact h.elim
  · exact h.elim
theorem om_mod : OpM X R E (binaryOp .Mod) oMod := by
  refine opm_of op_mod fun O A cs H x y sx sy ok rx ry Q h => ?_
  unfold oMod at h
  split at h
  · split at h
    · rename_i hz
      cases rx
      cases ry
      exact ⟨_, _, rfl, rfl, hz, Post.ret ok h (.int _)⟩
    · exact h.elim
  · exact h.elim
theorem op_powX : OpR X (binaryOp .Pow) (rI (fun i j => 0 ≤ j ∧ (Builtin.Int.intBits i : Int) * j ≤ 2 ^ 27) fun i j => .int (i ^ j.toNat)) := opI fun _ _ _ _ _ _ _ hc q => pow_int hc.1 hc.2 q
theorem om_pow : OpM X R E (binaryOp .Pow) oPow := by
  refine opm_of op_powX fun O A cs H x y sx sy ok rx ry Q h => ?_
  unfold oPow at h
  split at h
  · split at h
    · rename_i hz
      cases rx
      cases ry
      exact ⟨_, _, rfl, rfl, hz, Post.ret ok h (.int _)⟩
    · exact h.elim
  · exact h.elim
theorem om_cmpI {f : Value → Value → Sem Value} {p : Int → Int → Bool} {q : Str → Str → Option Bool} (h1 : OpR X f (rI0 fun i j => .bl (p i j))) (h2 : OpR X f (fun x y H Q => ∃ i j b, x = .str i ∧ y = .str j ∧ q i j = some b ∧ Q (.bl b) H)) : OpM X R E f (oCmp p q) := by
  refine opm_of (OpR.or h1 h2) fun O A cs H x y sx sy ok rx ry Q h => ?_
  unfold oCmp at h
  split at h
  · cases rx
    cases ry
    exact .inl ⟨_, _, rfl, rfl, Post.ret ok h (.bl _)⟩
  · split at h
    · rename_i e
      cases rx
      cases ry
      exact .inr ⟨_, _, _, rfl, rfl, e, Post.ret ok h (.bl _)⟩
    · exact h.elim
  · exact h.elim
theorem opr_none {f : Value → Value → Sem Value} {q : Str → Str → Option Bool} (hq : ∀ i j, q i j = none) : OpR X f (fun x y H Q => ∃ i j b, x = V.str i ∧ y = V.str j ∧ q i j = some b ∧ Q (.bl b) H) := by
  intro pins s σ H x y v u Q I rx ry h
  obtain ⟨i, j, b, _, _, e, _⟩ := h
  rw [hq] at e
  cases e
theorem om_lt : OpM X R E (compareOp .Lt) oLt := om_cmpI op_lt (by
  intro pins s σ H x y v u Q I rx ry h
  obtain ⟨i, j, b, e1, e2, e, q⟩ := h
  cases e
  exact op_lt_str pins s σ H x y v u Q I rx ry ⟨i, j, e1, e2, q⟩)
theorem om_le : OpM X R E (compareOp .LtE) oLe := om_cmpI op_le (by
  intro pins s σ H x y v u Q I rx ry h
  obtain ⟨i, j, b, e1, e2, e, q⟩ := h
  cases e
  exact op_le_str pins s σ H x y v u Q I rx ry ⟨i, j, e1, e2, q⟩)
theorem om_gt : OpM X R E (compareOp .Gt) oGt := om_cmpI op_gt (opr_none fun _ _ => rfl)
theorem om_ge : OpM X R E (compareOp .GtE) oGe := om_cmpI op_ge (opr_none fun _ _ => rfl)

/-- two lists that are not equally long -/
def rLens (K : PySem.W.Frag) (k : Bool) : R2 := fun x y H Q => ∃ a b xs ys, x = .ref a ∧ y = .ref b ∧ SqL K H a xs ∧ SqL K H b ys ∧ xs.length ≠ ys.length ∧ Q (.bl k) H
theorem op_eqLens (hu : X.A.units < cLine) : OpR X (compareOp .Eq) (rLens X.K false) := by
  intro pins s σ H x y v u Q I rx ry h
  obtain ⟨a, b, xs, ys, rfl, rfl, ha, hb, hn, q⟩ := h
  cases rx
  cases ry
  obtain ⟨us, r1, p1, _⟩ := I.list ha
  obtain ⟨ws, r2, p2, _⟩ := I.list hb
  refine SeqAt.eq_list_lengthsAt p1.isList p2.isList ?_ hu ⟨.bl false, H, I, rfl, q⟩
  have e1 := r1.length
  have e2 := r2.length
  simp only [List.size_toArray, bne_iff_ne, ne_eq]
  omega
theorem op_neLens (hu : X.A.units < cLine) : OpR X (compareOp .NotEq) (rLens X.K true) := by
  intro pins s σ H x y v u Q I rx ry h
  obtain ⟨a, b, xs, ys, rfl, rfl, ha, hb, hn, q⟩ := h
  cases rx
  cases ry
  obtain ⟨us, r1, p1, _⟩ := I.list ha
  obtain ⟨ws, r2, p2, _⟩ := I.list hb
  refine SeqAt.RcNeAt.lists_lengths p1.isList p2.isList ?_ hu X.prog X.w _ _ ⟨.bl true, H, I, rfl, q⟩
  have e1 := r1.length
  have e2 := r2.length
  simp only [List.size_toArray, bne_iff_ne, ne_eq]
  omega
theorem eqD_cases {d e : D} {b : Bool} (h : eqD d e = some b) : (SeqAt.shaped d = true ∧ SeqAt.shaped e = true ∧ b = PyData.eqv d e) ∨ ∃ xs ys, d = .list xs ∧ e = .list ys ∧ xs.length ≠ ys.length ∧ b = false := by
  unfold eqD at h
  split at h
  · rename_i hs
    cases h
    exact .inl ⟨hs.1, hs.2, rfl⟩
  · split at h
    · split at h
      · rename_i xs ys _ hn
        cases h
        exact .inr ⟨xs, ys, rfl, rfl, hn, rfl⟩
      · cases h
    · cases h
theorem om_eq (hu : X.A.units + 64 < cLine) : OpM X R E (compareOp .Eq) oEq := by
  refine opm_of (OpR.or (op_eqD hu) (op_eqLens (by omega))) fun O A cs H x y sx sy ok rx ry Q h => ?_
  unfold oEq at h
  split at h
  · rename_i d e ed ee
    split at h
    · rename_i b eb
      rcases eqD_cases eb with ⟨s1, s2, e3⟩ | ⟨xs, ys, e1, e2, hn, e3⟩
      · subst e3
        exact .inl ⟨d, e, view_d ok rx ed (shaped_lay s1), view_d ok ry ee (shaped_lay s2), s1, s2, Post.ret ok h (.bl _)⟩
      · subst e1 e2 e3
        obtain ⟨a, vs, rfl, h1, l1⟩ := view_dl ok rx ed
        obtain ⟨b, ws, rfl, h2, l2⟩ := view_dl ok ry ee
        exact .inr ⟨a, b, vs, ws, rfl, rfl, h1, h2, by rw [l1, l2]; exact hn, Post.ret ok h (.bl _)⟩
    · exact h.elim
  · exact h.elim
theorem om_ne (hu : X.A.units + 64 < cLine) : OpM X R E (compareOp .NotEq) oNe := by
  refine opm_of (OpR.or (op_neD hu) (op_neLens (by omega))) fun O A cs H x y sx sy ok rx ry Q h => ?_
  unfold oNe at h
  split at h
  · rename_i d e ed ee
    split at h
    · rename_i b eb
      rcases eqD_cases eb with ⟨s1, s2, e3⟩ | ⟨xs, ys, e1, e2, hn, e3⟩
      · subst e3
        exact .inl ⟨d, e, view_d ok rx ed (shaped_lay s1), view_d ok ry ee (shaped_lay s2), s1, s2, Post.ret ok h (.bl _)⟩
      · subst e1 e2 e3
        obtain ⟨a, vs, rfl, h1, l1⟩ := view_dl ok rx ed
        obtain ⟨b, ws, rfl, h2, l2⟩ := view_dl ok ry ee
        exact .inr ⟨a, b, vs, ws, rfl, rfl, h1, h2, by rw [l1, l2]; exact hn, Post.ret ok h (.bl _)⟩
    · exact h.elim
  · exact h.elim
theorem om_isN : OpM X R E (compareOp .Is) oIsN := by
  refine opm_of op_isN fun O A cs H x y sx sy ok rx ry Q h => ?_
  unfold oIsN at h
  split at h
  · rename_i d
    cases ry
    refine ⟨rfl, ?_⟩
    cases rx <;> exact Post.ret ok h (.bl _)
  · cases ry
    obtain ⟨a, _, rfl⟩ := rx
    exact ⟨rfl, Post.ret ok h (.bl _)⟩
  · exact h.elim
theorem om_notN : OpM X R E (compareOp .IsNot) oNotN := by
  refine opm_of op_notN fun O A cs H x y sx sy ok rx ry Q h => ?_
  unfold oNotN at h
  split at h
  · rename_i d
    cases ry
    refine ⟨rfl, ?_⟩
    cases rx <;> exact Post.ret ok h (.bl _)
  · cases ry
    obtain ⟨a, _, rfl⟩ := rx
    exact ⟨rfl, Post.ret ok h (.bl _)⟩
  · exact h.elim
end
end Mir
set_option maxHeartbeats 2000000
/-! displays, subscripts, slices, built-in functions, calls -/
namespace Mir
open PySem PySem.Spec PyProof.Rows L2

section
variable {X : Cx} {R : XR} {E : XK} {pos : Pos} {a b c e : Expr} {es : List Expr} {ma mb mc : Rho → M Sl} {ms : Rho → M (List Sl)} {o : Sl → Sl → M Sl}
/-! ### arguments -/
def mNil : Rho → M (List Sl) := fun _ cs => .ok [] cs
def mCons (ma : Rho → M Sl) (ms : Rho → M (List Sl)) : Rho → M (List Sl) := fun ρ cs => (ma ρ cs).bind fun x cs1 => (ms ρ cs1).bind fun xs cs2 => .ok (x :: xs) cs2
theorem am_nil : AM X R E [] mNil := ⟨_, pa_nil, fun O A ρ cs σ H ok rk Q h => h [] A H (Stp.refl ok) ok .nil⟩
theorem am_cons (h : EM X R E e ma) (h2 : AM X R E es ms) (hs : starEach (e :: es) X.env = (false, eval e X.env) :: starEach es X.env := by rfl) : AM X R E (e :: es) (mCons ma ms) := by
  obtain ⟨t, p, k⟩ := h
  obtain ⟨u, p2, k2⟩ := h2
  refine ⟨_, pa_cons p p2 hs, fun O A ρ cs σ H ok rk Q h => ?_⟩
  refine k O A ρ cs σ H ok rk _ ((PostX.bind h).step (Stp.refl ok) fun sx cs1 q x A1 H1 s1 ok1 r1 => ?_)
  refine k2 O A1 ρ cs1 σ H1 ok1 (rk.step s1) _ ((PostX.bind q).step s1 fun sxs cs2 q2 vs A2 H2 s2 ok2 r2 => ?_)
  exact q2 (x :: vs) A2 H2 (s1.trans s2) ok2 (.cons (r1.step s2) r2)
/-- all data -/
def dataAll : List Sl → Option (List D)
  | [] => some []
  | .d d :: r => (dataAll r).map (d :: ·)
  | _ => none
theorem sh_all {K : PySem.W.Frag} {O A : List Addr} {H : Hp} : ∀ {vs : List V} {sls : List Sl} {ds : List D}, ShSs K O A H vs sls → dataAll sls = some ds → ShA K (hid (O ++ A) H) vs ds
  | _, _, _, .nil, e => by
    cases e
    exact .nil
  | _, _, ds, .cons (d := sl) h t, e => by
    cases sl with
    | d d =>
      unfold dataAll at e
      cases q : dataAll _ with
      | none =>
        rw [q] at e
        cases e
      | some r =>
        rw [q] at e
        cases e
        exact .cons h (sh_all t q)
    | h k => cases e
    | s ns => cases e
/-- .. *e -/
def seqD : Sl → List HC → Option (List D)
  | .d (.tuple ds), _ => some ds
  | sl, cs => viewL sl cs
theorem seq_d {K : PySem.W.Frag} {O A : List Addr} {cs : List HC} {H : Hp} {v : V} {sl : Sl} {ds : List D} (ok : Ok K O A cs H) (s : ShS K O A H v sl) (e : seqD sl cs = some ds) :
    ∃ p vs, v = .ref p ∧ (SqT K H p vs ∨ SqL K H p vs) ∧ ShA K (hid (O ++ A) H) vs ds := by
  unfold seqD at e
  split at e
  · cases e
    obtain ⟨p, vs, rfl, h1, h2⟩ := sh_tup s
    exact ⟨p, vs, rfl, .inl h1, h2⟩
  · obtain ⟨p, vs, rfl, h1, h2⟩ := view_l ok s e
    exact ⟨p, vs, rfl, .inr h1, h2⟩
def mStar (ma : Rho → M Sl) (ms : Rho → M (List Sl)) : Rho → M (List Sl) := fun ρ cs => (ma ρ cs).bind fun x cs1 => match seqD x cs1 with
  | some ds => (ms ρ cs1).bind fun xs cs2 => .ok (ds.map Sl.d ++ xs) cs2
  | none => .bad
theorem ShSs.append {K : PySem.W.Frag} {O A : List Addr} {H : Hp} : ∀ {vs ws : List V} {ds es : List Sl}, ShSs K O A H vs ds → ShSs K O A H ws es → ShSs K O A H (vs ++ ws) (ds ++ es)
  | _, _, _, _, .nil, s => s
  | _, _, _, _, .cons h t, s => .cons h (ShSs.append t s)
theorem ShSs.of {K : PySem.W.Frag} {O A : List Addr} {H : Hp} : ∀ {vs : List V} {ds : List D}, ShA K (hid (O ++ A) H) vs ds → ShSs K O A H vs (ds.map Sl.d)
  | _, _, .nil => .nil
  | _, _, .cons h t => .cons h (ShSs.of t)
theorem am_star {p : Pos} (h : EM X R E e ma) (h2 : AM X R E es ms) (hs : starEach (.Starred e p :: es) X.env = (true, eval e X.env) :: starEach es X.env := by rfl) : AM X R E (.Starred e p :: es) (mStar ma ms) := by
  obtain ⟨t, pt, k⟩ := h
  obtain ⟨u, p2, k2⟩ := h2
  refine ⟨_, StX.pa_star pt p2 hs, fun O A ρ cs σ H ok rk Q h => ?_⟩
  refine k O A ρ cs σ H ok rk _ ((PostX.bind h).step (Stp.refl ok) fun sx cs1 q x A1 H1 s1 ok1 r1 => ?_)
  split at q
  · rename_i ds ed
    obtain ⟨p, vs, rfl, h1, sa⟩ := seq_d ok1 r1 ed
    refine ⟨p, vs, rfl, h1, k2 O A1 ρ cs1 σ H1 ok1 (rk.step s1) _ ((PostX.bind q).step s1 fun sxs cs2 q2 ws A2 H2 s2 ok2 r2 => ?_)⟩
    exact q2 (vs ++ ws) A2 H2 (s1.trans s2) ok2 ((ShSs.of (sa.mono s2.same)).append r2)
  · exact q.elim

/-! ### displays -/
def mTup (ms : Rho → M (List Sl)) : Rho → M Sl := fun ρ cs => (ms ρ cs).bind fun xs cs1 => match dataAll xs with
  | some ds => if ds.length ≤ SL then .ok (.d (.tuple ds)) cs1 else .bad
  | none => .bad
def mLst (ms : Rho → M (List Sl)) : Rho → M (List D) := fun ρ cs => (ms ρ cs).bind fun xs cs1 => match dataAll xs with
  | some ds => if ds.length ≤ SL then .ok ds cs1 else .bad
  | none => .bad
theorem em_tup {x1 : Nat} (h : AM X R E es ms) : EM X R E (.Tuple es x1 pos) (mTup ms) := by
  obtain ⟨t, p, k⟩ := h
  refine em_of (pe_tup p) fun O A ρ cs σ H ok rk Q h => ?_
  refine k O A ρ cs σ H ok rk _ ((PostX.bind h).step (Stp.refl ok) fun sxs cs1 q vs A1 H1 s1 ok1 r1 => ?_)
  split at q
  · rename_i ds ed
    have sa := sh_all r1 ed
    split at q
    · rename_i hz
      refine ⟨by rw [sa.length]; exact SL_eq ▸ hz, fun p hp => ?_⟩
      exact Post.tup (R := R) (E := E) ok1 (fun v A' H' s' => q v A' H' (s1.trans s')) sa hp
    · exact q.elim
  · exact q.elim
theorem lm_lst (h : AM X R E es ms) : LM X R E (.List es pos) (mLst ms) := by
  obtain ⟨t, p, k⟩ := h
  refine ⟨_, pe_lst p, fun O A ρ cs σ H ok rk Q h => ?_⟩
  refine k O A ρ cs σ H ok rk _ ((PostX.bind h).step (Stp.refl ok) fun sxs cs1 q vs A1 H1 s1 ok1 r1 => ?_)
  split at q
  · rename_i ds ed
    have sa := sh_all r1 ed
    split at q
    · rename_i hz
      refine ⟨by rw [sa.length]; exact SL_eq ▸ hz, fun p hp => ?_⟩
      exact PostL.new (R := R) (E := E) ok1 (postL_step s1 q) sa hp
    · exact q.elim
  · exact q.elim
/-- a new list, read alone -/
def mL (m : Rho → M (List D)) : Rho → M Sl := fun ρ cs => (m ρ cs).bind fun ds cs1 => .ok (.d (.list ds)) cs1
theorem LM.em {m : Rho → M (List D)} (h : LM X R E e m) : EM X R E e (mL m) := by
  obtain ⟨t, p, k⟩ := h
  refine em_of p fun O A ρ cs σ H ok rk Q h => ?_
  refine k O A ρ cs σ H ok rk _ ((PostX.bind h).step (Stp.refl ok) fun ds cs1 q p A1 H1 s1 _ ok1 => ?_)
  obtain ⟨ok2, sh⟩ := ok1.pop
  exact q _ A1 H1 s1 ok2 sh
theorem EM.to {m m' : Rho → M Sl} (h : EM X R E e m) (q : m = m') : EM X R E e m' := q ▸ h

/-! ### subscripts -/
theorem ShA.atI {K : PySem.W.Frag} {H : Hp} {vs : List V} {ds : List D} {i : Int} {d : D} (s : ShA K H vs ds) (e : L2.atI ds i = some d) : ∃ v, L2.atI vs i = some v ∧ Sh K H v d := by
  unfold L2.atI at e ⊢
  rw [s.length]
  cases q : ixN ds.length i with
  | none =>
    rw [q] at e
    cases e
  | some j =>
    rw [q] at e
    exact s.get (show ds[j]? = some d from e)
def oIdx : Sl → Sl → M Sl := fun x y cs => match x, y with
  | .d (.tuple ds), .d (.int i) => match L2.atI ds i with
    | some d => .ok (.d d) cs
    | none => .bad
  | .d (.str z), .d (.int i) => match L2.atI z.cps.toList i with
    | some c => if z.length ≤ SL then .ok (.d (.str ⟨#[c]⟩)) cs else .bad
    | none => .bad
  | x, .d (.int i) => match viewL x cs with
    | some ds => match L2.atI ds i with
      | some d => .ok (.d d) cs
      | none => .bad
    | none => .bad
  | _, _ => .bad
theorem em_ix (ha : EM X R E a ma) (hb : EM X R E b mb) (hs : PlainIx b := by exact fun _ _ => rfl) : EM X R E (.Subscript a b pos) (mBin oIdx ma mb) := by
  obtain ⟨ta, pa, ka⟩ := ha
  obtain ⟨tb, pb, kb⟩ := hb
  refine em_of (pe_ix (IxR.or ix_tup (IxR.or ix_str ix_list)) pa pb hs) fun O A ρ cs σ H ok rk Q h => ?_
  refine two ka kb ok rk (S := fun x y cs2 => Post X.K R O A H Q E (oIdx x y cs2)) ((PostX.bind h).step (Stp.refl ok) fun x cs1 h1 => PostX.bind h1) fun x y sx sy A2 cs2 H2 s ok2 r1 r2 hS => ?_
  replace hS : Post X.K R O A2 H2 Q E (oIdx sx sy cs2) := hS.step s fun sl cs3 q v A' H' s' => q v A' H' (s.trans s')
  unfold oIdx at hS
  split at hS
  · split at hS
    · rename_i d ed
      obtain ⟨p, vs, rfl, h1, sa⟩ := sh_tup r1
      obtain ⟨v, e1, e2⟩ := sa.atI ed
      cases r2
      exact .inl ⟨p, vs, _, v, rfl, rfl, h1, e1, Post.ret ok2 hS e2⟩
    · exact hS.elim
  · split at hS
    · rename_i c ec
      split at hS
      · rename_i hz
        cases r1
        cases r2
        exact .inr (.inl ⟨_, _, c, rfl, rfl, SL_eq ▸ hz, ec, Post.ret ok2 hS (.str _)⟩)
      · exact hS.elim
    · exact hS.elim
  · split at hS
    · rename_i ds eds
      split at hS
      · rename_i d ed
        obtain ⟨p, vs, rfl, h1, sa⟩ := view_l ok2 r1 eds
        obtain ⟨v, e1, e2⟩ := sa.atI ed
        cases r2
        exact .inr (.inr ⟨p, vs, _, v, rfl, rfl, h1, e1, Post.ret ok2 hS e2⟩)
      · exact hS.elim
    · exact hS.elim
  · exact hS.elim
/-! slices -/
def cutD {α : Type} (xs : List α) (lo hi : Option Int) : List α := (xs.drop (HT.sIx xs.length 0 lo)).take (HT.sIx xs.length xs.length hi - HT.sIx xs.length 0 lo)
theorem ShA.cut {K : PySem.W.Frag} {H : Hp} {vs : List V} {ds : List D} (s : ShA K H vs ds) (lo hi : Option Int) : ShA K H (cutV vs lo hi) (cutD ds lo hi) := by
  unfold cutV cutD
  rw [s.length]
  exact (s.drop _).take _
structure OM (X : Cx) (R : XR) (E : XK) (e : Option Expr) (m : Rho → M (Option Int)) : Prop where
  ex : ∃ t, PO X e t ∧ ∀ O A ρ cs σ H, Ok X.K O A cs H → RhoOk X.K O A ρ σ H → ∀ Q : Option Int → Hp → Prop, PostX X.K R O A H E (fun i cs => ∀ A' H', Stp A H A' H' → Ok X.K O A' cs H' → Q i H') (m ρ cs) → t σ H Q
def mNo : Rho → M (Option Int) := fun _ cs => .ok none cs
def mPart (m : Rho → M Sl) : Rho → M (Option Int) := fun ρ cs => (m ρ cs).bind fun x cs1 => match x with
  | .d (.int i) => .ok (some i) cs1
  | _ => .bad
theorem om_none : OM X R E none mNo := ⟨_, po_none, fun O A ρ cs σ H ok rk Q h => h A H (Stp.refl ok) ok⟩
theorem om_some (h : EM X R E e ma) : OM X R E (some e) (mPart ma) := by
  obtain ⟨t, p, k⟩ := h
  refine ⟨_, po_some p, fun O A ρ cs σ H ok rk Q h => ?_⟩
  refine k O A ρ cs σ H ok rk _ ((PostX.bind h).step (Stp.refl ok) fun sx cs1 q x A1 H1 s1 ok1 r1 => ?_)
  split at q
  · cases r1
    exact ⟨_, rfl, q A1 H1 s1 ok1⟩
  · exact q.elim
def oCut : Sl → Option Int → Option Int → M Sl := fun x lo hi cs => match x with
  | .d (.tuple ds) => .ok (.d (.tuple (cutD ds lo hi))) cs
  | .d (.str z) => if z.length ≤ SL then .ok (.d (.str (cutS z lo hi))) cs else .bad
  | x => match viewL x cs with
    | some ds => .ok (.d (.list (cutD ds lo hi))) cs
    | none => .bad
def mCut (ma : Rho → M Sl) (ml mh : Rho → M (Option Int)) : Rho → M Sl := fun ρ cs => (ma ρ cs).bind fun x cs1 => (ml ρ cs1).bind fun lo cs2 => (mh ρ cs2).bind fun hi cs3 => oCut x lo hi cs3
theorem cut_whole {α : Type} {xs : List α} {lo hi : Option Int} (h : HT.sIx xs.length 0 lo = 0 ∧ HT.sIx xs.length xs.length hi = xs.length) : cutD xs lo hi = xs := by
  unfold cutD
  rw [h.1, h.2, List.drop_zero, Nat.sub_zero, List.take_length]
theorem em_slice {lo hi : Option Expr} {ml mh : Rho → M (Option Int)} {p2 : Pos} (ha : EM X R E a ma) (hl : OM X R E lo ml) (hh : OM X R E hi mh) : EM X R E (.Subscript a (.Slice lo hi none p2) pos) (mCut ma ml mh) := by
  obtain ⟨ta, pa, ka⟩ := ha
  obtain ⟨tl, pl, kl⟩ := hl
  obtain ⟨th, ph, kh⟩ := hh
  refine em_of (pe_slice (SlR.or sl_tupA (SlR.or sl_str sl_list)) pa pl ph) fun O A ρ cs σ H ok rk Q h => ?_
  refine ka O A ρ cs σ H ok rk _ ((PostX.bind h).step (Stp.refl ok) fun sx cs1 q x A1 H1 s1 ok1 r1 => ?_)
  refine kl O A1 ρ cs1 σ H1 ok1 (rk.step s1) _ ((PostX.bind q).step s1 fun l cs2 q2 A2 H2 s2 ok2 => ?_)
  refine kh O A2 ρ cs2 σ H2 ok2 (rk.step (s1.trans s2)) _ ((PostX.bind q2).step (s1.trans s2) fun u cs3 q3 A3 H3 s3 ok3 => ?_)
  have sx3 := r1.step (s2.trans s3)
  have st := (s1.trans s2).trans s3
  replace q3 : Post X.K R O A3 H3 Q E (oCut sx l u cs3) := q3.step st fun sl cs3 q v A' H' s' => q v A' H' (st.trans s')
  unfold oCut at q3
  split at q3
  · obtain ⟨p, vs, rfl, h1, sa⟩ := sh_tup sx3
    refine .inl ⟨p, vs, rfl, h1, fun hw => ?_, fun _ p' hp => Post.tup ok3 q3 (sa.cut l u) hp⟩
    rw [sa.length] at hw
    rw [cut_whole hw] at q3
    exact Post.ret ok3 q3 sx3
  · split at q3
    · rename_i hz
      cases sx3
      exact .inr (.inl ⟨_, rfl, SL_eq ▸ hz, Post.ret ok3 q3 (.str _)⟩)
    · exact q3.elim
  · split at q3
    · rename_i ds eds
      obtain ⟨p, vs, rfl, h1, sa⟩ := view_l ok3 sx3 eds
      exact .inr (.inr ⟨p, vs, rfl, h1, fun p' hp => Post.lst ok3 q3 (sa.cut l u) hp⟩)
    · exact q3.elim
/-! signs -/
def oNeg : Sl → M Sl := fun x cs => match x with
  | .d (.int i) => .ok (.d (.int (-i))) cs
  | _ => .bad
def mUn (o : Sl → M Sl) (ma : Rho → M Sl) : Rho → M Sl := fun ρ cs => (ma ρ cs).bind o
theorem em_neg (ha : EM X R E a ma) : EM X R E (.UnaryOp .USub a pos) (mUn oNeg ma) := by
  obtain ⟨t, p, k⟩ := ha
  refine em_of (pe_un un_neg p) fun O A ρ cs σ H ok rk Q h => ?_
  refine k O A ρ cs σ H ok rk _ ((PostX.bind h).step (Stp.refl ok) fun sx cs1 q x A1 H1 s1 ok1 r1 => ?_)
  unfold oNeg at q
  split at q
  · cases r1
    exact ⟨_, rfl, q _ A1 H1 s1 ok1 (.int _)⟩
  · exact q.elim

/-! ### calls of built-in functions -/
structure CbM (X : Cx) (R : XR) (E : XK) (f : Value) (o : List Sl → M Sl) : Prop where
  ex : ∃ r, CallR X f r ∧ ∀ O A cs H vs sls, Ok X.K O A cs H → ShSs X.K O A H vs sls → ∀ Q, Post X.K R O A H Q E (o sls cs) → r vs H Q
def mCall (o : List Sl → M Sl) (ms : Rho → M (List Sl)) : Rho → M Sl := fun ρ cs => (ms ρ cs).bind o
theorem em_callB {x : Str} {id : String} {ob : List Sl → M Sl} {p : Pos} (hc : CbM X R E (.builtin id) ob) (hg : Gl X x) (hm : X.mg x = none) (hv : bootBuiltins x = some (.builtin id)) (ha : AM X R E (e :: es) ms) (hn : x ≠ "__name__" := by decide)
    (hdb : (x == ("__debug__" : Str)) = false := by decide) (hst : starEach (e :: es) X.env = (false, eval e X.env) :: starEach es X.env := by rfl) (hs : (backTo pos (starEach es X.env)).any (·.1) = false := by rfl) : EM X R E (.Call (.Name x p) (e :: es) [] pos) (mCall ob ms) := by
  obtain ⟨r, hr, kr⟩ := hc
  obtain ⟨t, pt, k⟩ := ha
  refine em_of (pe_callB hr hg hm hv pt hn hdb hst hs) fun O A ρ cs σ H ok rk Q h => ?_
  refine k O A ρ cs σ H ok rk _ ((PostX.bind h).step (Stp.refl ok) fun sxs cs1 q vs A1 H1 s1 ok1 r1 => ?_)
  exact kr O A1 cs1 H1 vs sxs ok1 r1 Q (q.step s1 fun sl cs3 q v A' H' s' => q v A' H' (s1.trans s'))
theorem em_callTy {x : Str} {T : String} {ob : List Sl → M Sl} {p : Pos} (hc : CbM X R E (.type T) ob) (hg : Gl X x) (hm : X.mg x = none) (hv : bootBuiltins x = some (.type T)) (ha : AM X R E (e :: es) ms) (hn : x ≠ "__name__" := by decide)
    (hdb : (x == ("__debug__" : Str)) = false := by decide) (hst : starEach (e :: es) X.env = (false, eval e X.env) :: starEach es X.env := by rfl) (hs : (backTo pos (starEach es X.env)).any (·.1) = false := by rfl) : EM X R E (.Call (.Name x p) (e :: es) [] pos) (mCall ob ms) := by
  obtain ⟨r, hr, kr⟩ := hc
  obtain ⟨t, pt, k⟩ := ha
  refine em_of (pe_callTy hr hg hm hv pt hn hdb hst hs) fun O A ρ cs σ H ok rk Q h => ?_
  refine k O A ρ cs σ H ok rk _ ((PostX.bind h).step (Stp.refl ok) fun sxs cs1 q vs A1 H1 s1 ok1 r1 => ?_)
  exact kr O A1 cs1 H1 vs sxs ok1 r1 Q (q.step s1 fun sl cs3 q v A' H' s' => q v A' H' (s1.trans s'))
end
end Mir
set_option maxHeartbeats 2000000
/-! the built-in functions one by one; the program's own defs -/
namespace Mir
open PySem PySem.Spec PyProof.Rows L2

section
variable {X : Cx} {R : XR} {E : XK}
theorem cb_of {f : Value} {o : List Sl → M Sl} {r : List V → Hp → VK → Prop} (h : CallR X f r)
    (k : ∀ O A cs H vs sls, Ok X.K O A cs H → ShSs X.K O A H vs sls → ∀ Q, Post X.K R O A H Q E (o sls cs) → r vs H Q) : CbM X R E f o := ⟨r, h, k⟩
theorem one_of {K : PySem.W.Frag} {O A : List Addr} {H : Hp} {vs : List V} {sl : Sl} (s : ShSs K O A H vs [sl]) : ∃ v, vs = [v] ∧ ShS K O A H v sl := by
  cases s with
  | cons h t =>
    cases t
    exact ⟨_, rfl, h⟩
theorem two_of {K : PySem.W.Frag} {O A : List Addr} {H : Hp} {vs : List V} {sl sl' : Sl} (s : ShSs K O A H vs [sl, sl']) : ∃ v w, vs = [v, w] ∧ ShS K O A H v sl ∧ ShS K O A H w sl' := by
  cases s with
  | cons h t =>
    obtain ⟨w, rfl, h2⟩ := one_of t
    exact ⟨_, _, rfl, h, h2⟩
/-- len -/
def bLen : List Sl → M Sl := fun xs cs => match xs with
  | [.d (.str z)] => if z.length ≤ SL then .ok (.d (.int z.length)) cs else .bad
  | [x] => match seqD x cs with
    | some ds => .ok (.d (.int ds.length)) cs
    | none => .bad
  | _ => .bad
theorem cb_len : CbM X R E (.builtin "len") bLen := by
  refine cb_of call_len fun O A cs H vs sls ok rs Q h => ?_
  unfold bLen at h
  split at h
  · obtain ⟨v, rfl, r⟩ := one_of rs
    split at h
    · rename_i hz
      cases r
      exact ⟨_, _, rfl, ⟨SL_eq ▸ hz, rfl⟩, Post.ret ok h (.int _)⟩
    · exact h.elim
  · obtain ⟨v, rfl, r⟩ := one_of rs
    split at h
    · rename_i ds ed
      obtain ⟨p, ws, rfl, hq, sa⟩ := seq_d ok r ed
      rw [← sa.length] at h
      refine ⟨_, ws.length, rfl, ?_, Post.ret ok h (.int _)⟩
      rcases hq with hq | hq
      · exact .inr ⟨ws, hq, rfl⟩
      · exact .inl ⟨ws, hq, rfl⟩
    · exact h.elim
  · exact h.elim
/-- abs, int, max, min -/
def bAbs : List Sl → M Sl := fun xs cs => match xs with
  | [.d (.int i)] => .ok (.d (.int (if i < 0 then -i else i))) cs
  | _ => .bad
theorem cb_abs : CbM X R E (.builtin "abs") bAbs := by
  refine cb_of call_abs fun O A cs H vs sls ok rs Q h => ?_
  unfold bAbs at h
  split at h
  · obtain ⟨v, rfl, r⟩ := one_of rs
    cases r
    exact ⟨_, rfl, Post.ret ok h (.int _)⟩
  · exact h.elim
def bInt : List Sl → M Sl := fun xs cs => match xs with
  | [.d (.int i)] => .ok (.d (.int i)) cs
  | [.d (.bool k)] => .ok (.d (.int (if k = true then 1 else 0))) cs
  | _ => .bad
theorem cb_int : CbM X R E (.type "int") bInt := by
  refine cb_of call_int1 fun O A cs H vs sls ok rs Q h => ?_
  unfold bInt at h
  split at h
  · obtain ⟨v, rfl, r⟩ := one_of rs
    cases r
    exact .inl ⟨_, rfl, Post.ret ok h (.int _)⟩
  · obtain ⟨v, rfl, r⟩ := one_of rs
    cases r
    exact .inr ⟨_, rfl, Post.ret ok h (.int _)⟩
  · exact h.elim
def bMax : List Sl → M Sl := fun xs cs => match xs with
  | [.d (.int i), .d (.int j)] => .ok (.d (.int (if j > i then j else i))) cs
  | _ => .bad
theorem cb_max (hc : X.calm = true) : CbM X R E (.builtin "max") bMax := by
  refine cb_of (call_max2 hc) fun O A cs H vs sls ok rs Q h => ?_
  unfold bMax at h
  split at h
  · obtain ⟨v, w, rfl, r1, r2⟩ := two_of rs
    cases r1
    cases r2
    exact ⟨_, _, rfl, Post.ret ok h (.int _)⟩
  · exact h.elim
def bMin : List Sl → M Sl := fun xs cs => match xs with
  | [.d (.int i), .d (.int j)] => .ok (.d (.int (if j < i then j else i))) cs
  | _ => .bad
theorem cb_min (hc : X.calm = true) : CbM X R E (.builtin "min") bMin := by
  refine cb_of (call_min2 hc) fun O A cs H vs sls ok rs Q h => ?_
  unfold bMin at h
  split at h
  · obtain ⟨v, w, rfl, r1, r2⟩ := two_of rs
    cases r1
    cases r2
    exact ⟨_, _, rfl, Post.ret ok h (.int _)⟩
  · exact h.elim
/-- all, any, sum over a list -/
def bAll : List Sl → M Sl := fun xs cs => match xs with
  | [x] => match viewL x cs with
    | some ds => match boolsD ds with
      | some bs => .ok (.d (.bool (bs.all id))) cs
      | none => .bad
    | none => .bad
  | _ => .bad
theorem cb_all (hc : X.calm = true) : CbM X R E (.builtin "all") bAll := by
  refine cb_of (cr_all hc) fun O A cs H vs sls ok rs Q h => ?_
  unfold bAll at h
  split at h
  · obtain ⟨v, rfl, r⟩ := one_of rs
    split at h
    · rename_i ds ed
      split at h
      · rename_i bs eb
        obtain ⟨p, ws, rfl, hq, sa⟩ := view_l ok r ed
        have e := sa.bools eb
        subst e
        exact ⟨p, bs, rfl, hq, Post.ret ok h (.bl _)⟩
      · exact h.elim
    · exact h.elim
  · exact h.elim
def bAny : List Sl → M Sl := fun xs cs => match xs with
  | [x] => match viewL x cs with
    | some ds => match boolsD ds with
      | some bs => .ok (.d (.bool (bs.any id))) cs
      | none => .bad
    | none => .bad
  | _ => .bad
theorem cb_any (hc : X.calm = true) : CbM X R E (.builtin "any") bAny := by
  refine cb_of (cr_any hc) fun O A cs H vs sls ok rs Q h => ?_
  unfold bAny at h
  split at h
  · obtain ⟨v, rfl, r⟩ := one_of rs
    split at h
    · rename_i ds ed
      split at h
      · rename_i bs eb
        obtain ⟨p, ws, rfl, hq, sa⟩ := view_l ok r ed
        have e := sa.bools eb
        subst e
        exact ⟨p, bs, rfl, hq, Post.ret ok h (.bl _)⟩
      · exact h.elim
    · exact h.elim
  · exact h.elim
def bSum : List Sl → M Sl := fun xs cs => match xs with
  | [x] => match viewL x cs with
    | some ds => match intsD ds with
      | some ns => .ok (.d (.int ns.sum)) cs
      | none => .bad
    | none => .bad
  | _ => .bad
theorem cb_sum (hc : X.calm = true) : CbM X R E (.builtin "sum") bSum := by
  refine cb_of (cr_sum hc) fun O A cs H vs sls ok rs Q h => ?_
  unfold bSum at h
  split at h
  · obtain ⟨v, rfl, r⟩ := one_of rs
    split at h
    · rename_i ds ed
      split at h
      · rename_i ns eb
        obtain ⟨p, ws, rfl, hq, sa⟩ := view_l ok r ed
        have e := sa.ints eb
        subst e
        exact ⟨p, ns, rfl, hq, Post.ret ok h (.int _)⟩
      · exact h.elim
    · exact h.elim
  · exact h.elim
/-- tuple(x), list(x) -/
def bTuple : List Sl → M Sl := fun xs cs => match xs with
  | [.d (.tuple ds)] => .ok (.d (.tuple ds)) cs
  | [x] => match viewL x cs with
    | some ds => .ok (.d (.tuple ds)) cs
    | none => .bad
  | _ => .bad
theorem cb_tuple : CbM X R E (.type "tuple") bTuple := by
  refine cb_of call_tuple_of fun O A cs H vs sls ok rs Q h => ?_
  unfold bTuple at h
  split at h
  · obtain ⟨v, rfl, r⟩ := one_of rs
    obtain ⟨p, ws, rfl, h1, sa⟩ := sh_tup r
    exact ⟨p, ws, rfl, .inr ⟨h1, Post.ret ok h r⟩⟩
  · obtain ⟨v, rfl, r⟩ := one_of rs
    split at h
    · rename_i ds ed
      obtain ⟨p, ws, rfl, hq, sa⟩ := view_l ok r ed
      exact ⟨p, ws, rfl, .inl ⟨hq, fun l hl => Post.tup ok h sa hl⟩⟩
    · exact h.elim
  · exact h.elim
def bStr : List Sl → M Sl := fun xs cs => match xs with
  | [.d (.int i)] => if i.natAbs.log2 < 1920 then .ok (.d (.str (toString i))) cs else .bad
  | _ => .bad
theorem cb_str : CbM X R E (.type "str") bStr := by
  refine cb_of call_str_int fun O A cs H vs sls ok rs Q h => ?_
  unfold bStr at h
  split at h
  · obtain ⟨v, rfl, r⟩ := one_of rs
    split at h
    · rename_i hz
      cases r
      exact ⟨_, rfl, hz, Post.ret ok h (.str _)⟩
    · exact h.elim
  · exact h.elim
variable {pos : Pos} {a b e : Expr} {es : List Expr} {ma : Rho → M Sl} {ms : Rho → M (List Sl)}
/-- list(x): a new list -/
def mListOf (ma : Rho → M Sl) : Rho → M (List D) := fun ρ cs => (ma ρ cs).bind fun x cs1 => match seqD x cs1 with
  | some ds => .ok ds cs1
  | none => .bad
theorem lm_list {p : Pos} (hg : Gl X "list") (hm : X.mg "list" = none) (ha : EM X R E e ma) (hst : starEach [e] X.env = (false, eval e X.env) :: starEach [] X.env := by rfl) (hs : (backTo pos (starEach [] X.env)).any (·.1) = false := by rfl) :
    LM X R E (.Call (.Name "list" p) [e] [] pos) (mListOf ma) := by
  obtain ⟨t, pt, k⟩ := ha
  refine ⟨_, pe_callTy call_list_of hg hm (by decide +kernel) (pa_cons pt pa_nil hst) (by decide) (by decide) hst hs, fun O A ρ cs σ H ok rk Q h => ?_⟩
  refine k O A ρ cs σ H ok rk _ ((PostX.bind h).step (Stp.refl ok) fun sx cs1 q x A1 H1 s1 ok1 r1 => ?_)
  split at q
  · rename_i ds ed
    obtain ⟨p, ws, rfl, hq, sa⟩ := seq_d ok1 r1 ed
    refine ⟨p, ws, rfl, ?_, fun l hl => PostL.new (R := R) (E := E) ok1 (postL_step s1 q) sa hl⟩
    rcases hq with hq | hq
    · exact .inr hq
    · exact .inl hq
  · exact q.elim

/-! isinstance -/
def tyD : D → String
  | .none => "NoneType"
  | .bool _ => "bool"
  | .int _ => "int"
  | .str _ => "str"
  | .list _ => "list"
  | .tuple _ => "tuple"
  | .dict _ => "dict"
def tyS (cs : List HC) : Sl → String
  | .d d => tyD d
  | .h _ => "list"
  | .s _ => "list"
def isT (t u : String) : Bool := t == u || (t == "bool" && u == "int")
/-- the six types that are asked for -/
def askedT (u : String) : Bool := u == "int" || u == "bool" || u == "str" || u == "tuple" || u == "list" || u == "dict"
theorem kit_is {K : PySem.W.Frag} {t u : String} (ht : t = "NoneType" ∨ t = "bool" ∨ t = "int" ∨ t = "str" ∨ t = "list" ∨ t = "tuple" ∨ t = "dict") (hu : u = "int" ∨ u = "bool" ∨ u = "str" ∨ u = "tuple" ∨ u = "list" ∨ u = "dict") :
    PySem.W.kitOne K (.type t) (.type u) = some (isT t u) := by
  rcases ht with rfl | rfl | rfl | rfl | rfl | rfl | rfl <;> rcases hu with rfl | rfl | rfl | rfl | rfl | rfl <;> exact kit_ty (by decide +kernel)
def mIsi (u : String) (ma : Rho → M Sl) : Rho → M Sl := fun ρ cs => (ma ρ cs).bind fun x cs1 => .ok (.d (.bool (isT (tyS cs1 x) u))) cs1
theorem em_isi {u : String} {n : Str} {p p2 : Pos} (hu : u = "int" ∨ u = "bool" ∨ u = "str" ∨ u = "tuple" ∨ u = "list" ∨ u = "dict") (hg : Gl X "isinstance") (hm : X.mg "isinstance" = none) (hg2 : Gl X n) (hm2 : X.mg n = none) (hv2 : bootBuiltins n = some (.type u)) (ha : EM X R E e ma)
    (hn2 : n ≠ "__name__" := by decide) (hd2 : (n == ("__debug__" : Str)) = false := by decide)
    (hst : starEach [e, .Name n p2] X.env = (false, eval e X.env) :: starEach [.Name n p2] X.env := by rfl) (hst2 : starEach [.Name n p2] X.env = (false, eval (.Name n p2) X.env) :: starEach [] X.env := by rfl) (hs : (backTo pos (starEach [.Name n p2] X.env)).any (·.1) = false := by rfl) :
    EM X R E (.Call (.Name "isinstance" p) [e, .Name n p2] [] pos) (mIsi u ma) := by
  obtain ⟨t, pt, k⟩ := ha
  refine em_of (pe_callB call_isi hg hm (by decide +kernel) (pa_cons pt (pa_cons (pe_bltn (v := .ty u) hg2 hm2 hv2 rfl hn2 hd2) pa_nil hst2) hst) (by decide) (by decide) hst hs) fun O A ρ cs σ H ok rk Q h => ?_
  refine k O A ρ cs σ H ok rk _ ((PostX.bind h).step (Stp.refl ok) fun sx cs1 q x A1 H1 s1 ok1 r1 => ?_)
  have fin : ∀ t, TyX X.K H1 x (.type t) → tyS cs1 sx = t → (t = "NoneType" ∨ t = "bool" ∨ t = "int" ∨ t = "str" ∨ t = "list" ∨ t = "tuple" ∨ t = "dict") → rIsi X.K [x, V.ty u] H1 Q := fun t ty e ht => by
    refine ⟨x, .ty u, .type t, .type u, isT (tyS cs1 sx) u, rfl, .ty u, ty, ?_, q _ A1 H1 s1 ok1 (.bl _)⟩
    rw [e]
    exact kit_is ht hu
  cases sx with
  | d d =>
    cases r1 with
    | non => exact fin _ (.base .non) rfl (by simp)
    | bl b => exact fin _ (.base (.bl b)) rfl (by simp)
    | int i => exact fin _ (.base (.int i)) rfl (by simp)
    | str z => exact fin _ (.base (.str z)) rfl (by simp)
    | lst h t => exact fin _ (.base (.lst (hid_same _ _ h))) rfl (by simp)
    | tup h t =>
      refine fin "tuple" ?_ rfl (by simp)
      rcases SqT.same hid_same h with (h | ⟨o, h⟩) | ⟨o, its, n, hk, hc, _⟩
      · exact .base (.tup h)
      · exact .fTuple h
      · exact .kTuple hk hc
    | dic h t => exact fin _ (.base (.dK (hid_same _ _ h))) rfl (by simp)
  | h k =>
    obtain ⟨a, ea, rfl⟩ := r1
    obtain ⟨c, ec, hc⟩ := ok1.hc ea
    cases c with
    | lst xs =>
      obtain ⟨vs, h, t⟩ := hc
      exact fin "list" (.base (.lst h)) rfl (by simp)
  | s ns =>
    obtain ⟨a, rfl, h⟩ := r1
    rcases hid_same.seq h with (h | ⟨o, h⟩) | ⟨o, its, n, hk, hc, _⟩
    · exact fin "list" (.base (.lst h)) rfl (by simp)
    · exact fin "list" (.base (.frz h)) rfl (by simp)
    · exact fin "list" (.kList hk hc) rfl (by simp)
end

/-! ### the program's own defs -/
/-- the ways out of a call: the handles are the caller's again -/
def PostR (K : PySem.W.Frag) (R : XR) (O A : List Addr) (H : Hp) (Q : VK) (E : XK) : Res Sl → Prop
  | .ok sl cs => ∀ v H', Stp A H A H' → Ok K O A cs H' → ShS K O A H' v sl → Q v H'
  | .exc x cs => ∀ H' cls dx, Stp A H A H' → Ok K O A cs H' → R x cls dx (hid (O ++ A) H') → E cls dx H'
  | .bad => False
def spM (K : PySem.W.Frag) (R : XR) (n : Nat) (m : List Sl → M Sl) : Sp := fun vs H Q E => ∃ O A cs sls, Ok K O A cs H ∧ ShSs K O A H vs sls ∧ sls.length = n ∧ PostR K R O A H Q E (m sls cs)
theorem PostR.of {K : PySem.W.Frag} {R : XR} {O A : List Addr} {H : Hp} {Q : VK} {E : XK} : ∀ {r : Res Sl}, Post K R O A H Q E r → PostR K R O A H Q E r
  | .ok sl cs, h => fun v H' s ok r => h v A H' s ok r
  | .exc x cs, h => fun H' cls dx s ok r => h A H' cls dx s ok r
  | .bad, h => h
/-- what is behind the body: the handles that it made are given up -/
def fin (n : Nat) : Res Fl → Res Sl
  | .ok (.rt (.d d)) cs => .ok (.d d) (cs.take n)
  | .ok (.rt (.h k)) cs => if k < n then .ok (.h k) (cs.take n) else match cs[k]? with
    | some (.lst ds) => .ok (.d (.list ds)) (cs.take n)
    | none => .bad
  | .ok (.rt (.s _)) _ => .bad
  | .ok (.nx _) cs => .ok (.d .none) (cs.take n)
  | .ok _ _ => .bad
  | .exc x cs => .exc x (cs.take n)
  | .bad => .bad
def mDef (N : Nat) (mb : Rho → M Fl) : List Sl → M Sl := fun sls cs => fin cs.length (mb (sls.map some ++ List.replicate (N - sls.length) none) cs)
def RMono (R : XR) : Prop := ∀ x cls dx Hd Hd', Same Hd Hd' → R x cls dx Hd → R x cls dx Hd'
section
variable {K : PySem.W.Frag} {R : XR} {O A A' : List Addr} {cs cs' : List HC} {H H' : Hp}
theorem Stp.back (s : Stp A H A' H') : Stp A H A H' := ⟨⟨[], by simp, by simp⟩, s.keep, s.live⟩
theorem Stp.less (s : Stp A H A' H') : Same (hid (O ++ A') H') (hid (O ++ A) H') := by
  obtain ⟨⟨B, eB, _⟩, _, _⟩ := s
  intro b o h
  obtain ⟨hb, e⟩ := hid_some.mp h
  refine hid_some.mpr ⟨fun z => hb ?_, e⟩
  rw [eB]
  rcases List.mem_append.mp z with z | z
  · exact List.mem_append_left _ z
  · exact List.mem_append_right _ (List.mem_append_left _ z)
theorem Ok.back (s : Stp A H A' H') (ok : Ok K O A' cs' H') (hn : A.length = cs.length) : Ok K O A (cs'.take cs.length) H' := by
  obtain ⟨⟨B, eB, _⟩, _, _⟩ := id s
  have hl : A.length ≤ A'.length := by rw [eB, List.length_append]; omega
  have nd := ok.nd
  rw [eB] at nd
  refine ⟨fun o ho => ⟨(ok.out o ho).1, fun z => (ok.out o ho).2 (by rw [eB]; exact List.mem_append_left _ z)⟩, ?_, (List.nodup_append.mp nd).1, fun k a c e1 e2 => ?_⟩
  · rw [List.length_take, ← ok.len, hn]
    rw [hn] at hl
    omega
  · obtain ⟨hk, _⟩ := List.getElem?_eq_some_iff.mp e1
    have e1' : A'[k]? = some a := by rw [eB, List.getElem?_append_left hk]; exact e1
    have e2' : cs'[k]? = some c := by
      rw [List.getElem?_take] at e2
      split at e2
      · exact e2
      · cases e2
    exact (ok.at k a c e1' e2').mono s.less
theorem fin_ok {Q : VK} {E : XK} (hR : RMono R) (hn : A.length = cs.length) {r : Res Fl} (h : PostR K R O A H Q E (fin cs.length r)) : PostS K R O A H { nx := fun _ H' => Q .non H', rt := Q } E r := by
  cases r with
  | bad => exact h
  | exc x cs' => exact fun A' H' cls dx s ok r => h H' cls dx s.back (ok.back s hn) (hR _ _ _ _ _ s.less r)
  | ok f cs' =>
    cases f with
    | nx ρ => exact fun σ' A' H' s ok _ => h _ H' s.back (ok.back s hn) .non
    | bk ρ => exact (show False from h).elim
    | ct ρ => exact (show False from h).elim
    | rt sl =>
      cases sl with
      | d d => exact fun v A' H' s ok r => h v H' s.back (ok.back s hn) (Sh.mono s.less r)
      | h k =>
        intro v A' H' s ok r
        simp only [fin] at h
        obtain ⟨a, ea, rfl⟩ := r
        obtain ⟨⟨B, eB, fB⟩, _, _⟩ := id s
        by_cases hk : k < cs.length
        · rw [if_pos hk] at h
          refine h _ H' s.back (ok.back s hn) ⟨a, ?_, rfl⟩
          rw [eB, List.getElem?_append_left (hn ▸ hk)] at ea
          exact ea
        · rw [if_neg hk] at h
          split at h
          · rename_i ds ed
            obtain ⟨vs, hl, hs⟩ := ok.at k a _ ea ed
            refine h _ H' s.back (ok.back s hn) (.lst (hid_some.mpr ⟨fun z => ?_, hl⟩) (hs.mono s.less))
            have ha' : a ∈ A' := List.mem_of_getElem? ea
            rcases List.mem_append.mp z with z | z
            · exact (ok.out a z).2 ha'
            · have nd := ok.nd
              rw [eB] at nd ea
              rw [List.getElem?_append_right (by omega)] at ea
              exact (List.nodup_append.mp nd).2.2 a z a (List.mem_of_getElem? ea) rfl
          · exact h.elim
      | s ns => exact (show False from h).elim
end
section
variable {P : Program} {w : World} {K : PySem.W.Frag} {mg : Str → Option Value} {base : Heap} {R : XR}
theorem rho_start {N ps : List Str} {O A : List Addr} {H : Hp} {vs : List V} {sls : List Sl} (h : ShSs K O A H vs sls) : RhoOk K O A (sls.map some ++ List.replicate (N.length - sls.length) none) (L2.start N vs) H := by
  refine ⟨?_, fun i sl e => ?_⟩
  · unfold L2.start
    simp [h.length]
  · by_cases hi : i < sls.length
    · rw [List.getElem?_append_left (by simpa using hi), List.getElem?_map] at e
      have get : ∀ {vs : List V} {sls : List Sl} (i : Nat), ShSs K O A H vs sls → (sls[i]?).map some = some (some sl) → ∃ v, vs[i]? = some v ∧ ShS K O A H v sl := by
        intro vs sls i hs
        induction hs generalizing i with
        | nil => intro e; simp at e
        | cons h t ih =>
          intro e
          cases i with
          | zero =>
            simp at e
            subst e
            exact ⟨_, rfl, h⟩
          | succ i => exact ih i (by simpa using e)
      obtain ⟨v, e1, e2⟩ := get i h e
      refine ⟨v, ?_, e2⟩
      unfold L2.start
      rw [List.getElem?_append_left (by rw [List.length_map, h.length]; exact hi), List.getElem?_map, e1]
      rfl
    · rw [List.getElem?_append_right (by simpa using hi)] at e
      rw [List.getElem?_replicate] at e
      split at e
      · cases e
      · cases e
/-- a def that no exception leaves -/
theorem def_ok {x qual : Str} {st : Stmt} {f : Addr} {fd : FuncData} {N ps : List Str} {k : Nat} {mb : Rho → M Fl} (hR : RMono R) (F : Fun K x qual st f fd) (S : FnScope N ps (defScope st))
    (hb : ∀ (cdv : Value) (A : Around) (outer : List Env) (s : Shared) (H : Hp) (E : XK), Room k (A.deeper (envOfC qual (defScope st) s.heap.objs.size f cdv)) → BM (cxOf CX0 P w K mg base N qual (defScope st) f cdv A outer s H E).nox R E (defBody st) mb) :
    FnOk P w K mg base CX0 (k + 1) f fd ps (spM K R ps.length (mDef N.length mb)) := by
  refine F.ok S (fun vs H Q E h => ?_) (fun cdv A outer s H vs Q E hr h => ?_)
  · obtain ⟨O, A, cs, sls, _, hs, hn, _⟩ := h
    exact hs.length.trans hn
  · obtain ⟨O, A', cs, sls, ok, hs, hn, h⟩ := h
    obtain ⟨t, p, kk⟩ := hb cdv A outer s H E hr
    exact ⟨t, p, kk O A' _ cs _ H ok (rho_start (ps := ps) hs) _ (fin_ok hR ok.len h)⟩
end
section
variable {X : Cx} {R : XR} {E : XK} {pos : Pos} {e : Expr} {es : List Expr} {ms : Rho → M (List Sl)} {CX : CXT} {k n : Nat} {f : Addr} {fd : FuncData} {ps : List Str} {m : List Sl → M Sl}
def mOwn (n : Nat) (m : List Sl → M Sl) (ms : Rho → M (List Sl)) : Rho → M Sl := fun ρ cs => (ms ρ cs).bind fun xs cs1 => if xs.length = n then m xs cs1 else .bad
theorem post_of {K : PySem.W.Frag} {O A A1 : List Addr} {cs1 : List HC} {H H1 : Hp} {Q : VK} {r : Res Sl} (s : Stp A H A1 H1) (h : Post K R O A H Q E r) : PostR K R O A1 H1 Q E r :=
  PostR.of (h.step s fun sl cs3 q v A' H' s' => q v A' H' (s.trans s'))
theorem em_call {x : Str} {p : Pos} (F : FnOk X.prog X.w X.K X.mg X.base CX k f fd ps (spM X.K R n m)) (hr : Room k X.A) (hg : Gl X x) (hm : X.mg x = some (.ref f)) (hk : PySem.W.keepIn X.K (.ref f) = true) (hb : Binds X.K fd ps []) (hx : Passes CX X E)
    (ha : AM X R E (e :: es) ms) (hd : (x == ("__debug__" : Str)) = false := by decide) (hst : starEach (e :: es) X.env = (false, eval e X.env) :: starEach es X.env := by rfl) (hs : (backTo pos (starEach es X.env)).any (·.1) = false := by rfl) :
    EM X R E (.Call (.Name x p) (e :: es) [] pos) (mOwn n m ms) := by
  obtain ⟨t, pt, kk⟩ := ha
  refine em_of (pe_call F hr hg hm hk hb .nil hx pt hd hst hs) fun O A ρ cs σ H ok rk Q h => ?_
  refine kk O A ρ cs σ H ok rk _ ((PostX.bind h).step (Stp.refl ok) fun sxs cs1 q vs A1 H1 s1 ok1 r1 => ?_)
  split at q
  · rename_i hn
    refine ⟨O, A1, cs1, sxs, ok1, by rw [List.append_nil]; exact r1, hn, post_of (cs1 := cs1) s1 q⟩
  · exact q.elim
end
end Mir
set_option maxHeartbeats 2000000
/-! statements, loops, comprehensions -/
namespace Mir
open PySem PySem.Spec PyProof.Rows L2

section
variable {X : Cx} {R : XR} {E : XK} {pos : Pos} {a b c e tg iter : Expr} {es : List Expr} {st : Stmt} {rest body : List Stmt} {ma mb mc : Rho → M Sl} {ms : Rho → M (List Sl)} {mt : Rho → M Bool} {f g : Rho → M Fl}
theorem sm_of {m : Rho → M Fl} {t : TS} (h : PS X st t) (k : ∀ O A ρ cs σ H, Ok X.K O A cs H → RhoOk X.K O A ρ σ H → ∀ De, PostS X.K R O A H De E (m ρ cs) → t De σ H) : SM X R E st m := ⟨t, h, k⟩
theorem PostS.step {K : PySem.W.Frag} {O A A1 : List Addr} {H H1 : Hp} {De : Ends} (s : Stp A H A1 H1) {r : Res Fl} (h : PostS K R O A H De E r) : PostS K R O A1 H1 De E r :=
  PostX.step s (fun f cs q => by
    cases f with
    | nx ρ => exact fun σ' A' H' s' => q σ' A' H' (s.trans s')
    | rt sl => exact fun v A' H' s' => q v A' H' (s.trans s')
    | bk ρ => exact fun σ' A' H' s' => q σ' A' H' (s.trans s')
    | ct ρ => exact fun σ' A' H' s' => q σ' A' H' (s.trans s')) h
/-! ### blocks -/
def sNil : Rho → M Fl := fun ρ cs => .ok (.nx ρ) cs
def sSeq (f g : Rho → M Fl) : Rho → M Fl := fun ρ cs => (f ρ cs).bind fun x cs1 => match x with
  | .nx ρ1 => g ρ1 cs1
  | x => .ok x cs1
theorem bm_nil : BM X R E [] sNil := ⟨_, pss_nil, fun O A ρ cs σ H ok rk De h => h σ A H (Stp.refl ok) ok rk⟩
theorem bm_one (h : SM X R E st f) : BM X R E [st] f := by
  obtain ⟨t, p, k⟩ := h
  exact ⟨t, pss_one p, k⟩
theorem bm_cons (h : SM X R E st f) (h2 : BM X R E rest g) : BM X R E (st :: rest) (sSeq f g) := by
  obtain ⟨t, p, k⟩ := h
  obtain ⟨u, p2, k2⟩ := h2
  refine ⟨_, pss_cons p p2, fun O A ρ cs σ H ok rk De h => ?_⟩
  refine k O A ρ cs σ H ok rk { De with nx := u De } (PostX.step (Stp.refl ok) (fun x cs1 q => ?_) (PostX.bind h))
  cases x with
  | nx ρ1 => exact fun σ' A' H' s ok' rk' => k2 O A' ρ1 cs1 σ' H' ok' rk' De (PostS.step (De := De) (r := g ρ1 cs1) s q)
  | rt sl => exact q
  | bk ρ1 => exact q
  | ct ρ1 => exact q
theorem sm_pass : SM X R E (.Pass pos) sNil := sm_of ps_pass fun O A ρ cs σ H ok rk De h => h σ A H (Stp.refl ok) ok rk
def sBreak : Rho → M Fl := fun ρ cs => .ok (.bk ρ) cs
def sCont : Rho → M Fl := fun ρ cs => .ok (.ct ρ) cs
theorem sm_break : SM X R E (.Break pos) sBreak := sm_of ps_break fun O A ρ cs σ H ok rk De h => h σ A H (Stp.refl ok) ok rk
theorem sm_cont : SM X R E (.Continue pos) sCont := sm_of ps_continue fun O A ρ cs σ H ok rk De h => h σ A H (Stp.refl ok) ok rk
def sRet (ma : Rho → M Sl) : Rho → M Fl := fun ρ cs => (ma ρ cs).bind fun x cs1 => .ok (.rt x) cs1
theorem sm_ret (h : EM X R E e ma) : SM X R E (.Return (some e) pos) (sRet ma) := by
  obtain ⟨t, p, k⟩ := h
  exact sm_of (ps_ret p) fun O A ρ cs σ H ok rk De h => k O A ρ cs σ H ok rk _ (PostX.step (Stp.refl ok) (fun x cs1 q => q) (PostX.bind h))
theorem sm_retN : SM X R E (.Return none pos) (sRet (mC .none)) := sm_of ps_retN fun O A ρ cs σ H ok rk De h => h .non A H (Stp.refl ok) ok .non
def sIf (mt : Rho → M Bool) (f g : Rho → M Fl) : Rho → M Fl := mIf mt f g
theorem sm_if {bs cs' : List Stmt} (hc : TM X R E c mt) (ha : BM X R E bs f) (hb : BM X R E cs' g) : SM X R E (.If c bs cs' pos) (sIf mt f g) := by
  obtain ⟨t, p, k⟩ := hc
  obtain ⟨ta, pa, ka⟩ := ha
  obtain ⟨tb, pb, kb⟩ := hb
  refine sm_of (ps_if p pa pb) fun O A ρ cs σ H ok rk De h => ?_
  refine k O A ρ cs σ H ok rk _ (PostX.step (Stp.refl ok) (fun c cs1 q A1 H1 s1 ok1 => ?_) (PostX.bind h))
  cases c with
  | true => exact ka O A1 ρ cs1 σ H1 ok1 (rk.step s1) De (PostS.step (De := De) (r := f ρ cs1) s1 q)
  | false => exact kb O A1 ρ cs1 σ H1 ok1 (rk.step s1) De (PostS.step (De := De) (r := g ρ cs1) s1 q)
/-! ### names set -/
def sSet (i : Nat) (ma : Rho → M Sl) : Rho → M Fl := fun ρ cs => (ma ρ cs).bind fun x cs1 => .ok (.nx (ρ.set i (some x))) cs1
theorem set_run {t : TE} {i : Nat} (k : ∀ O A ρ cs σ H, Ok X.K O A cs H → RhoOk X.K O A ρ σ H → ∀ Q, Post X.K R O A H Q E (ma ρ cs) → t σ H Q) {O A : List Addr} {ρ : Rho} {cs : List HC} {σ : L2.St} {H : Hp} (ok : Ok X.K O A cs H) (rk : RhoOk X.K O A ρ σ H) {De : Ends}
    (h : PostS X.K R O A H De E (sSet i ma ρ cs)) : tAsg t (gName i) De σ H := by
  refine k O A ρ cs σ H ok rk _ (PostX.step (Stp.refl ok) (fun sx cs1 q x A1 H1 s1 ok1 r1 => ?_) (PostX.bind h))
  exact q _ A1 H1 s1 ok1 ((rk.step s1).set r1)
theorem sm_set (i : Nat) {x : Str} {pos' : Pos} (hN : X.N.Nodup) (he : EM X R E e ma) (hi : X.N[i]? = some x := by rfl) (hx : Loc X.env.scope x := by first | exact Or.inl rfl | exact Or.inr rfl) (hs : swapsWith e (some (.Name x pos')) pos.line X.env = pure false := by rfl)
    (hf : X.fn x = true ∨ X.env.scope.names.lookup x = some .local := by first | exact .inl rfl | exact .inr rfl | assumption) : SM X R E (.Assign [.Name x pos'] e pos) (sSet i ma) := by
  obtain ⟨t, p, k⟩ := he
  exact sm_of (ps_set hN hi hx p hs hf) fun O A ρ cs σ H ok rk De h => set_run k ok rk h
/-- x = a new list, that x alone holds from then on -/
def sNew (i : Nat) (m : Rho → M (List D)) : Rho → M Fl := fun ρ cs => (m ρ cs).bind fun ds cs1 => .ok (.nx (ρ.set i (some (.h cs1.length)))) (cs1 ++ [.lst ds])
theorem new_run {t : TE} {i : Nat} {m : Rho → M (List D)} (k : ∀ O A ρ cs σ H, Ok X.K O A cs H → RhoOk X.K O A ρ σ H → ∀ Q, PostL X.K R O A H Q E (m ρ cs) → t σ H Q) {O A : List Addr} {ρ : Rho} {cs : List HC} {σ : L2.St} {H : Hp} (ok : Ok X.K O A cs H) (rk : RhoOk X.K O A ρ σ H) {De : Ends}
    (h : PostS X.K R O A H De E (sNew i m ρ cs)) : tAsg t (gName i) De σ H := by
  refine k O A ρ cs σ H ok rk _ (PostX.step (Stp.refl ok) (fun ds cs1 q p A1 H1 s0 s1 ok1 => ?_) (PostX.bind h))
  refine q _ _ H1 s1 ok1 ((rk.step s1).set ⟨p, ?_, rfl⟩)
  have hl : A1.length = cs1.length := by
    have := ok1.len
    simp at this
    exact this
  rw [← hl]
  simp
theorem sm_new (i : Nat) {m : Rho → M (List D)} {x : Str} {pos' : Pos} (hN : X.N.Nodup) (he : LM X R E e m) (hi : X.N[i]? = some x := by rfl) (hx : Loc X.env.scope x := by first | exact Or.inl rfl | exact Or.inr rfl) (hs : swapsWith e (some (.Name x pos')) pos.line X.env = pure false := by rfl)
    (hf : X.fn x = true ∨ X.env.scope.names.lookup x = some .local := by first | exact .inl rfl | exact .inr rfl | assumption) : SM X R E (.Assign [.Name x pos'] e pos) (sNew i m) := by
  obtain ⟨t, p, k⟩ := he
  exact sm_of (ps_set hN hi hx p hs hf) fun O A ρ cs σ H ok rk De h => new_run k ok rk h

/-! ### handles written: x[i] = e; x.append(e) -/
theorem Ok.put {K : PySem.W.Frag} {O A : List Addr} {cs : List HC} {H : Hp} {k : Nat} {a : Addr} {ds : List D} {vs : List V} (ok : Ok K O A cs H) (ha : A[k]? = some a) (hs : ShA K (hid (O ++ A) H) vs ds) :
    Ok K O A (cs.set k (.lst ds)) (upd H a (.lst vs)) ∧ Stp A H A (upd H a (.lst vs)) := by
  have hA : a ∈ A := List.mem_of_getElem? ha
  have hO : a ∉ O := fun z => (ok.out a z).2 hA
  have st : Stp A H A (upd H a (.lst vs)) := ⟨⟨[], by simp, by simp⟩, fun b o hb e => by
    rw [upd_ne (fun (z : b = a) => hb (z ▸ hA))]
    exact e, fun b hb => by
    by_cases e : b = a
    · rw [e, upd_same]
      exact fun z => by cases z
    · rw [upd_ne e]
      exact ok.tracked hb⟩
  refine ⟨⟨fun o ho => ⟨?_, (ok.out o ho).2⟩, by rw [List.length_set]; exact ok.len, ok.nd, fun j b c e1 e2 => ?_⟩, st⟩
  · rw [upd_ne (fun (z : o = a) => hO (z ▸ ho))]
    exact (ok.out o ho).1
  · by_cases hj : k = j
    · subst hj
      rw [ha] at e1
      cases e1
      have hk : k < cs.length := by
        rw [← ok.len]
        exact (List.getElem?_eq_some_iff.mp ha).1
      rw [List.getElem?_set_self hk] at e2
      cases e2
      exact ⟨vs, upd_same, hs.mono st.same⟩
    · rw [List.getElem?_set_ne hj] at e2
      have hab : b ≠ a := fun z => by
        subst z
        have h1 := List.getElem?_eq_some_iff.mp ha
        have h2 := List.getElem?_eq_some_iff.mp e1
        obtain ⟨l1, q1⟩ := h1
        obtain ⟨l2, q2⟩ := h2
        exact hj ((List.getElem_inj ok.nd).mp (q1.trans q2.symm))
      exact HcAt.at (upd_ne hab) ((ok.at j b c e1 e2).mono st.same)
/-- the k-th handle's list, written -/
def putAt (x y z : Sl) (cs : List HC) : Option (List HC) := match x, y, z with
  | .h k, .d (.int i), .d d => match cs[k]? with
    | some (.lst ds) => match ixN ds.length i with
      | some j => some (cs.set k (.lst (ds.set j d)))
      | none => none
    | none => none
  | _, _, _ => none
def sPut (mo mi mv : Rho → M Sl) : Rho → M Fl := fun ρ cs => (mv ρ cs).bind fun z cs1 => (mo ρ cs1).bind fun x cs2 => (mi ρ cs2).bind fun y cs3 => match putAt x y z cs3 with
  | some cs4 => .ok (.nx ρ) cs4
  | none => .bad
theorem sm_put {o i v : Expr} {p : Pos} {mo mi mv : Rho → M Sl} (hv : EM X R E v mv) (ho : EM X R E o mo) (hi : EM X R E i mi) (ha : ∀ v, assign (.Subscript o i p) X.env v = (do
      let ov ← holding [v] (eval o X.env)
      let iv ← holding [v, ov] (eval i X.env)
      standAt p
      holding [v, ov, iv] (setItem ov iv v)
      release [v, ov, iv] []) := by intro _; rfl) (hs : swapsWithSole [.Subscript o i p] v pos.line X.env = pure false := by rfl) (hw : swappedStores [.Subscript o i p] v X.env = pure none := by rfl)
    (h1 : (assignEach [.Subscript o i p] X.env).map (·.2) = [assign (.Subscript o i p) X.env] := by rfl) : SM X R E (.Assign [.Subscript o i p] v pos) (sPut mo mi mv) := by
  obtain ⟨tv, pv', kv⟩ := hv
  obtain ⟨to, po, ko⟩ := ho
  obtain ⟨ti, pi, ki⟩ := hi
  refine sm_of (ps_asg pv' (pg_sub po pi set_list ha) hs hw h1) fun O A ρ cs σ H ok rk De h => ?_
  refine kv O A ρ cs σ H ok rk _ (PostX.step (Stp.refl ok) (fun sz cs1 q1 z A1 H1 s1 ok1 r1 => ?_) (PostX.bind h))
  refine ko O A1 ρ cs1 σ H1 ok1 (rk.step s1) _ (PostX.step s1 (fun sx cs2 q2 x A2 H2 s2 ok2 r2 => ?_) (PostX.bind q1))
  have s12 := s1.trans s2
  refine ki O A2 ρ cs2 σ H2 ok2 (rk.step s12) _ (PostX.step s12 (fun sy cs3 q3 y A3 H3 s3 ok3 r3 => ?_) (PostX.bind q2))
  have st := s12.trans s3
  have rz := r1.step (s2.trans s3)
  have rx := r2.step s3
  cases e : putAt sx sy sz cs3 with
  | none =>
    rw [e] at q3
    exact q3.elim
  | some cs4 =>
    rw [e] at q3
    unfold putAt at e
    split at e
    · rename_i k i d
      split at e
      · rename_i ds ed
        split at e
        · rename_i j ej
          cases e
          obtain ⟨a, ea, rfl⟩ := rx
          obtain ⟨vs, hl, hsh⟩ := ok3.at k a _ ea ed
          cases r3
          obtain ⟨ok4, s4⟩ := ok3.put ea (ShA.set rz j hsh)
          refine ⟨a, vs, i, j, rfl, rfl, hl, by rw [hsh.length]; exact ej, ?_⟩
          exact q3 σ A3 _ (st.trans s4) ok4 ((rk.step st).step s4)
        · cases e
      · cases e
    · cases e
def appAt (x z : Sl) (cs : List HC) : Option (List HC) := match x, z with
  | .h k, .d d => match cs[k]? with
    | some (.lst ds) => if ds.length < SL then some (cs.set k (.lst (ds ++ [d]))) else none
    | none => none
  | _, _ => none
def isLst (x : Sl) (cs : List HC) : Bool := match x with
  | .h k => match cs[k]? with
    | some (.lst _) => true
    | none => false
  | _ => false
def sApp (mo mv : Rho → M Sl) : Rho → M Fl := fun ρ cs => (mo ρ cs).bind fun x cs1 => if isLst x cs1 = true then (mv ρ cs1).bind fun z cs2 => match appAt x z cs2 with
  | some cs4 => .ok (.nx ρ) cs4
  | none => .bad else .bad
theorem sm_app {v : Expr} {p1 p2 pn : Pos} {n : Str} {i : Nat} {mv : Rho → M Sl} (hv : EM X R E v mv) (hN : X.N[i]? = some n := by rfl) (hvis : Vis X.env.scope n := by first | exact Or.inl rfl | exact Or.inr (Or.inl rfl) | exact Or.inr (Or.inr rfl)) (hd : (n == ("__debug__" : Str)) = false := by decide)
    (hcd : (n == ("__classdict__" : Str)) = false := by decide) (hbase : attributeBase (.Name n pn) "append" X.env (eval (.Name n pn) X.env) = eval (.Name n pn) X.env := by rfl)
    (hfew : ((backTo p2 (starEach (v :: []) X.env)).all (fun x => !x.1) && (backToKw p2 (keywordEach [] X.env)).all (fun x => x.1.isSome)
      && decide ((v :: []).length + ([] : List Keyword).length + (if ([] : List Keyword).isEmpty then 0 else 1) < 30)) = true := by rfl)
    (hline : (p1.endLine == p2.line) = true := by rfl) (hst : starEach (v :: []) X.env = (false, eval v X.env) :: starEach [] X.env := by rfl) (hplain : (backTo p2 (starEach [] X.env)).any (·.1) = false := by rfl)
    (hsw : swapsWith (.Call (.Attribute (.Name n pn) "append" p1) [v] [] p2) none pos.line X.env = pure false := by rfl) :
    SM X R E (.Expr (.Call (.Attribute (.Name n pn) "append" p1) [v] [] p2) pos) (sApp (mVar i) mv) := by
  obtain ⟨tv, pv', kv⟩ := hv
  refine sm_of (ps_expr (pe_bm PySem.F.plainAttrs_list PySem.F.slot_list_append PySem.F.type_list_append mt_append (pe_var hN hvis hd hcd) (pa_cons pv' pa_nil hst) hbase hfew hline hst hplain) hsw) fun O A ρ cs σ H ok rk De h => ?_
  have h' := PostX.bind h
  unfold mVar at h'
  split at h'
  · rename_i sx ex
    obtain ⟨x, e1, r1⟩ := rk.2 i sx ex
    replace h' : PostS X.K R O A H De E (if isLst sx cs = true then (mv ρ cs).bind fun z cs2 => match appAt sx z cs2 with
      | some cs4 => .ok (.nx ρ) cs4
      | none => .bad else .bad) := h'
    split at h'
    · rename_i hl
      unfold isLst at hl
      split at hl
      · rename_i k
        split at hl
        · rename_i ds0 ed0
          obtain ⟨a, ea, rfl⟩ := r1
          obtain ⟨vs0, hl0, _⟩ := ok.at k a _ ea ed0
          refine ⟨_, e1, .inl ⟨rfl, vs0, .inl (.inl hl0)⟩, ?_⟩
          refine kv O A ρ cs σ H ok rk _ (PostX.step (Stp.refl ok) (fun sz cs2 q2 z A2 H2 s2 ok2 r2 => ?_) (PostX.bind h'))
          cases e : appAt (.h k) sz cs2 with
          | none =>
            rw [e] at q2
            exact q2.elim
          | some cs4 =>
            rw [e] at q2
            cases sz with
            | h k' => cases e
            | s ns => cases e
            | d d =>
              simp only [appAt] at e
              split at e
              · rename_i ds ed
                split at e
                · rename_i hz
                  cases e
                  obtain ⟨a2, ea2, q⟩ : ShS X.K O A2 H2 (.ref a) (.h k) := ShS.step s2 ⟨a, ea, rfl⟩
                  cases q
                  obtain ⟨vs, hl, hsh⟩ := ok2.at k a _ ea2 ed
                  obtain ⟨ok4, s4⟩ := ok2.put ea2 (hsh.append (.cons r2 .nil))
                  refine ⟨a, vs, z, rfl, rfl, hl, by rw [hsh.length]; exact SL_eq ▸ hz, ?_⟩
                  exact q2 σ A2 _ (s2.trans s4) ok4 ((rk.step s2).step s4)
                · cases e
              · cases e
        · cases hl
      · cases hl
    · exact h'.elim
  · exact h'.elim
end
end Mir
set_option maxHeartbeats 2000000
/-! targets, what is walked, for, comprehensions, while -/
namespace Mir
open PySem PySem.Spec PyProof.Rows L2

/-! ### targets: told a datum, which slots change -/
structure GM (X : Cx) (tg : Expr) (L : List Nat) (f : D → Rho → Option Rho) : Prop where
  ex : ∃ g, PG X tg g ∧ ∀ O A cs ρ σ H x d ρ', Ok X.K O A cs H → RhoOk X.K O A ρ σ H → ShS X.K O A H x (.d d) → f d ρ = some ρ' → ∀ Q : L2.St → Hp → Prop, (∀ σ', RhoOk X.K O A ρ' σ' H → σ'.length = σ.length → (∀ i, i ∉ L → σ'[i]? = σ[i]?) → Q σ' H) → g x σ H Q
/-- .. the members of a tuple -/
structure GsM (X : Cx) (tgs : List Expr) (L : List Nat) (f : List D → Rho → Option Rho) : Prop where
  ex : ∃ g, PGs X tgs g ∧ ∀ O A cs ρ σ H xs ds ρ', Ok X.K O A cs H → RhoOk X.K O A ρ σ H → ShA X.K (hid (O ++ A) H) xs ds → f ds ρ = some ρ' → ∀ Q : L2.St → Hp → Prop, (∀ σ', RhoOk X.K O A ρ' σ' H → σ'.length = σ.length → (∀ i, i ∉ L → σ'[i]? = σ[i]?) → Q σ' H) → g xs σ H Q
section
variable {X : Cx} {pos : Pos} {e : Expr} {es : List Expr} {L L' : List Nat}
def gSet (i : Nat) : D → Rho → Option Rho := fun d ρ => some (ρ.set i (some (.d d)))
theorem gm_name (i : Nat) {x : Str} (hN : X.N.Nodup) (hi : X.N[i]? = some x := by rfl) (hx : Loc X.env.scope x := by first | exact Or.inl rfl | exact Or.inr rfl) (hf : X.fn x = true ∨ X.env.scope.names.lookup x = some .local := by first | exact .inl rfl | exact .inr rfl | assumption) : GM X (.Name x pos) [i] (gSet i) := by
  refine ⟨_, pg_name hN hi hx hf, fun O A cs ρ σ H x d ρ' ok rk rx e Q q => ?_⟩
  cases e
  refine q _ (rk.set rx) (List.length_set) fun j hj => ?_
  rw [List.getElem?_set_ne (fun z => hj (by rw [z]; exact List.mem_singleton_self j))]
def gsNil : List D → Rho → Option Rho := fun ds ρ => match ds with
  | [] => some ρ
  | _ => none
def gsCons (f : D → Rho → Option Rho) (g : List D → Rho → Option Rho) : List D → Rho → Option Rho := fun ds ρ => match ds with
  | d :: r => match f d ρ with
    | some ρ' => g r ρ'
    | none => none
  | [] => none
theorem gs_nil : GsM X [] [] gsNil := by
  refine ⟨_, pgs_nil, fun O A cs ρ σ H xs ds ρ' ok rk rx e Q q => ?_⟩
  cases rx with
  | nil =>
    cases e
    exact ⟨rfl, q σ rk rfl fun _ _ => rfl⟩
  | cons _ _ => cases e
theorem gs_cons {f : D → Rho → Option Rho} {g : List D → Rho → Option Rho} (h : GM X e L f) (h2 : GsM X es L' g) (hs : (assignEach (e :: es) X.env).map (·.2) = assign e X.env :: (assignEach es X.env).map (·.2) := by rfl) : GsM X (e :: es) (L ++ L') (gsCons f g) := by
  obtain ⟨t, p, k⟩ := h
  obtain ⟨u, p2, k2⟩ := h2
  refine ⟨_, pgs_cons p p2 hs, fun O A cs ρ σ H xs ds ρ' ok rk rx e Q q => ?_⟩
  cases rx with
  | nil => cases e
  | cons r rr =>
    rename_i v vs d ds
    simp only [gsCons] at e
    split at e
    · rename_i ρ1 e1
      refine ⟨v, vs, rfl, k O A cs ρ σ H v d ρ1 ok rk r e1 _ fun σ1 rk1 l1 f1 => ?_⟩
      refine k2 O A cs ρ1 σ1 H vs ds ρ' ok rk1 rr e Q fun σ2 rk2 l2 f2 => ?_
      exact q σ2 rk2 (l2.trans l1) fun i hi => (f2 i fun z => hi (List.mem_append_right _ z)).trans (f1 i fun z => hi (List.mem_append_left _ z))
    · cases e
def gTupM (n : Nat) (g : List D → Rho → Option Rho) : D → Rho → Option Rho := fun d ρ => match d with
  | .tuple ds => if ds.length = n then g ds ρ else none
  | _ => none
theorem gm_tup {k n : Nat} {g : List D → Rho → Option Rho} (hc : X.calm = true) (h : GsM X es L g) (hn : (assignEach es X.env).length = n := by rfl) (hst : (assignEach es X.env).findIdx? (·.1) = none := by rfl) : GM X (.Tuple es k pos) L (gTupM n g) := by
  obtain ⟨t, p, kk⟩ := h
  refine ⟨_, pg_tup hc p hn hst, fun O A cs ρ σ H x d ρ' ok rk rx e Q q => ?_⟩
  cases d with
  | tuple ds =>
    simp only [gTupM] at e
    split at e
    · rename_i hl
      obtain ⟨a, vs, rfl, h1, sa⟩ := sh_tup rx
      exact ⟨a, vs, rfl, h1, sa.length.trans hl, kk O A cs ρ σ H vs ds ρ' ok rk sa e Q q⟩
    · cases e
  | _ => cases e
end

/-! ### what is walked -/
/-- the walk yields these data in their sequence, whatever comes between -/
def Feeds (K : PySem.W.Frag) (O A0 : List Addr) (H0 : Hp) (J : It) (items : List D) : Prop := ∀ O' A cs H, (∀ x ∈ O', x ∈ O ∨ H0 x = none) → Stp A0 H0 A H → Ok K O' A cs H → ∀ i : Nat, (items.length ≤ i → J.stop i H) ∧
  ∀ d, items[i]? = some d → J.go i H ∧ ∀ x H', J.yld i H x H' → Stp A H A H' ∧ Ok K O' A cs H' ∧ ShS K O' A H' x (.d d)
structure IM (X : Cx) (R : XR) (E : XK) (tg iter : Expr) (m : Rho → M (List D)) : Prop where
  ex : ∃ wi, PI X tg iter wi ∧ ∀ O A ρ cs σ H, Ok X.K O A cs H → RhoOk X.K O A ρ σ H → ∀ S : It → Hp → Prop, PostX X.K R O A H E (fun items cs1 => ∀ J A' H', Stp A H A' H' → Ok X.K O A' cs1 H' → Feeds X.K O A' H' J items → S J H') (m ρ cs) → wi σ H S
theorem same_ext {O O' A0 A : List Addr} {H0 H : Hp} (hO : ∀ x ∈ O', x ∈ O ∨ H0 x = none) (s : Stp A0 H0 A H) : Same (hid (O ++ A0) H0) (hid (O' ++ A) H) := by
  obtain ⟨⟨B, eB, fB⟩, kA, lA⟩ := s
  intro b o h
  obtain ⟨hb, e⟩ := hid_some.mp h
  have h1 : b ∉ O := fun z => hb (List.mem_append_left _ z)
  have h2 : b ∉ A0 := fun z => hb (List.mem_append_right _ z)
  refine hid_some.mpr ⟨fun z => ?_, kA b o h2 e⟩
  rcases List.mem_append.mp z with z | z
  · rcases hO b z with q | q
    · exact h1 q
    · rw [q] at e
      cases e
  · rw [eB] at z
    rcases List.mem_append.mp z with z | z
    · exact h2 z
    · rw [fB b z] at e
      cases e
theorem tup2 {K : PySem.W.Frag} {O A : List Addr} {cs : List HC} {H : Hp} {T : Addr} {x y : V} {d e : D} (ok : Ok K O A cs H) (nT : H T = none) (h1 : Sh K (hid (O ++ A) H) x d) (h2 : Sh K (hid (O ++ A) H) y e) :
    Stp A H A (upd H T (.tup [x, y])) ∧ Ok K O A cs (upd H T (.tup [x, y])) ∧ ShS K O A (upd H T (.tup [x, y])) (.ref T) (.d (.tuple [d, e])) := by
  have st := Stp.new (o := .tup [x, y]) ok nT
  refine ⟨st, ok.new nT, .tup (.inl (.inl (hid_some.mpr ⟨ok.ne nT, upd_same⟩))) (.cons (h1.mono st.same) (.cons (h2.mono st.same) .nil))⟩
section
variable {X : Cx} {R : XR} {E : XK} {pos tpos : Pos} {tg e e2 iter : Expr} {ma mb : Rho → M Sl} {elts : List Expr} {kk : Nat}
theorem pi_or {wi wi' : TI} (h : PI X tg iter wi) (h' : PI X tg iter wi') : PI X tg iter (fun σ H S => wi σ H S ∨ wi' σ H S) := ⟨fun pins s σ H S I q => q.elim (h.run pins s σ H S I) (h'.run pins s σ H S I)⟩
def strD (z : Str) : List D := z.cps.toList.map fun c => .str ⟨#[c]⟩
def mSeq (ma : Rho → M Sl) : Rho → M (List D) := fun ρ cs => (ma ρ cs).bind fun x cs1 => match x with
  | .d (.list ds) => .ok ds cs1
  | .d (.tuple ds) => .ok ds cs1
  | .d (.str z) => .ok (strD z) cs1
  | .s ns => .ok (ns.map PyData.int) cs1
  | _ => .bad
theorem feeds_list {K : PySem.W.Frag} {O A0 : List Addr} {H0 : Hp} {a : Addr} {vs : List V} {ds : List D} (h : hid (O ++ A0) H0 a = some (.lst vs)) (t : ShA K (hid (O ++ A0) H0) vs ds) : Feeds K O A0 H0 (Itl K a) ds := by
  intro O' A cs H hO s ok i
  have e := same_ext hO s
  have hl : SqL K H a vs := .inl (.inl (hid_same _ _ (e _ _ h)))
  refine ⟨fun hi => ⟨vs, hl, by rw [t.length]; exact hi⟩, fun d hd => ?_⟩
  obtain ⟨v, e1, e2⟩ := t.get hd
  refine ⟨⟨vs, v, hl, e1⟩, fun x H' y => ?_⟩
  obtain ⟨rfl, y⟩ := y
  have ex := y vs hl
  rw [e1] at ex
  cases ex
  exact ⟨Stp.refl ok, ok, e2.mono e⟩
theorem feeds_tup {K : PySem.W.Frag} {O A0 : List Addr} {H0 : Hp} {a : Addr} {vs : List V} {ds : List D} (h : SqT K (hid (O ++ A0) H0) a vs) (t : ShA K (hid (O ++ A0) H0) vs ds) : Feeds K O A0 H0 (Itt K a) ds := by
  intro O' A cs H hO s ok i
  have e := same_ext hO s
  have hl : SqT K H a vs := SqT.same hid_same (SqT.same e h)
  refine ⟨fun hi => ⟨vs, hl, by rw [t.length]; exact hi⟩, fun d hd => ?_⟩
  obtain ⟨v, e1, e2⟩ := t.get hd
  refine ⟨⟨vs, v, hl, e1⟩, fun x H' y => ?_⟩
  obtain ⟨rfl, y⟩ := y
  have ex := y vs hl
  rw [e1] at ex
  cases ex
  exact ⟨Stp.refl ok, ok, e2.mono e⟩
theorem feeds_str {K : PySem.W.Frag} {O A0 : List Addr} {H0 : Hp} {z : Str} : Feeds K O A0 H0 (Its z) (strD z) := by
  intro O' A cs H hO s ok i
  unfold strD
  refine ⟨fun hi => (show z.cps.size ≤ i by simpa using hi), fun d hd => ?_⟩
  rw [List.getElem?_map] at hd
  cases q : z.cps.toList[i]? with
  | none =>
    rw [q] at hd
    cases hd
  | some c =>
    rw [q] at hd
    cases hd
    have hi : i < z.cps.size := by
      have := (List.getElem?_eq_some_iff.mp q).1
      simpa using this
    refine ⟨hi, fun x H' y => ?_⟩
    obtain ⟨rfl, c', e1, rfl⟩ := y
    have e2 : z.cps[i]? = some c := by rw [← q]; simp
    rw [e2] at e1
    cases e1
    exact ⟨Stp.refl ok, ok, .str _⟩
theorem im_seq (h : EM X R E e ma) : IM X R E tg e (mSeq ma) := by
  obtain ⟨t, p, k⟩ := h
  refine ⟨_, pi_or (pi_list p) (pi_or (pi_tup p) (pi_str p)), fun O A ρ cs σ H ok rk S h => ?_⟩
  have h' := PostX.bind h
  cases q : ma ρ cs with
  | bad =>
    rw [q] at h'
    exact h'.elim
  | exc x cs1 =>
    rw [q] at h'
    refine .inl (k O A ρ cs σ H ok rk _ ?_)
    rw [q]
    exact h'
  | ok sx cs1 =>
    rw [q] at h'
    have fin : ∀ (W : VK), (∀ v A' H', Stp A H A' H' → Ok X.K O A' cs1 H' → ShS X.K O A' H' v sx → W v H') → t σ H W := fun W w => k O A ρ cs σ H ok rk W (by rw [q]; exact w)
    cases sx with
    | h j => exact (show False from h').elim
    | s ns =>
      refine .inl (fin _ fun v A' H' s' ok' r => ?_)
      obtain ⟨a, rfl, hl⟩ := r
      refine ⟨a, rfl, ⟨_, hid_same.seq hl⟩, h' _ A' H' s' ok' fun O' A cs H hO s ok i => ?_⟩
      have hl' : SqL X.K H a (ns.map V.int) := hid_same.seq ((same_ext hO s).seq hl)
      have t := ShA.ofInts (K := X.K) (H := hid (O' ++ A) H) ns
      refine ⟨fun hi => ⟨_, hl', by simpa using hi⟩, fun d hd => ?_⟩
      obtain ⟨v, e1, e2⟩ := t.get hd
      refine ⟨⟨_, v, hl', e1⟩, fun x H' y => ?_⟩
      obtain ⟨rfl, y⟩ := y
      have ex := y _ hl'
      rw [e1] at ex
      cases ex
      exact ⟨Stp.refl ok, ok, e2⟩
    | d d =>
      cases d with
      | list ds =>
        refine .inl (fin _ fun v A' H' s' ok' r => ?_)
        cases r with
        | lst hl t => exact ⟨_, rfl, ⟨_, .inl (.inl (hid_same _ _ hl))⟩, h' _ A' H' s' ok' (feeds_list hl t)⟩
      | tuple ds =>
        refine .inr (.inl (fin _ fun v A' H' s' ok' r => ?_))
        cases r with
        | tup hl t => exact ⟨_, rfl, ⟨_, SqT.same hid_same hl⟩, h' _ A' H' s' ok' (feeds_tup hl t)⟩
      | str z =>
        refine .inr (.inr (fin _ fun v A' H' s' ok' r => ?_))
        cases r
        exact ⟨_, rfl, h' _ A' H' s' ok' feeds_str⟩
      | _ => exact (show False from h').elim
/-! range -/
def rngD (lo : Int) (n : Nat) : List D := (List.range n).map fun (i : Nat) => .int (lo + (i : Int))
theorem feeds_rng {K : PySem.W.Frag} {O A0 : List Addr} {H0 : Hp} {lo : Int} {n : Nat} : Feeds K O A0 H0 (Itr lo n) (rngD lo n) := by
  intro O' A cs H hO s ok i
  unfold rngD
  refine ⟨fun hi => (show n ≤ i by simpa using hi), fun d hd => ?_⟩
  rw [List.getElem?_map] at hd
  by_cases hi : i < n
  · rw [List.getElem?_range hi] at hd
    cases hd
    refine ⟨hi, fun x H' y => ?_⟩
    obtain ⟨rfl, rfl⟩ := y
    exact ⟨Stp.refl ok, ok, .int _⟩
  · rw [List.getElem?_eq_none (by simpa using hi)] at hd
    cases hd
def mRng1 (ma : Rho → M Sl) : Rho → M (List D) := fun ρ cs => (ma ρ cs).bind fun x cs1 => match x with
  | .d (.int j) => if -(2 ^ 62) ≤ j ∧ j < 2 ^ 62 then .ok (rngD 0 j.toNat) cs1 else .bad
  | _ => .bad
theorem im_range1 {p : Pos} (hg : Gl X "range") (hm : X.mg "range" = none) (h : EM X R E e ma) (hs : starEach [e] X.env = [(false, eval e X.env)] := by rfl) : IM X R E tg (.Call (.Name "range" p) [e] [] pos) (mRng1 ma) := by
  obtain ⟨t, pt, k⟩ := h
  refine ⟨_, pi_range1 hg hm (pa_cons pt pa_nil (by rw [hs]; rfl)) hs, fun O A ρ cs σ H ok rk S h => ?_⟩
  refine k O A ρ cs σ H ok rk _ (PostX.step (Stp.refl ok) (fun sx cs1 q x A1 H1 s1 ok1 r1 => ?_) (PostX.bind h))
  split at q
  · rename_i j
    split at q
    · rename_i hz
      cases r1
      exact ⟨j, rfl, hz.1, hz.2, q _ A1 H1 s1 ok1 feeds_rng⟩
    · exact q.elim
  · exact q.elim
def mRng2 (ma mb : Rho → M Sl) : Rho → M (List D) := fun ρ cs => (ma ρ cs).bind fun x cs1 => (mb ρ cs1).bind fun y cs2 => match x, y with
  | .d (.int i), .d (.int j) => if -(2 ^ 62) ≤ i ∧ i < 2 ^ 62 ∧ -(2 ^ 62) ≤ j ∧ j < 2 ^ 62 then .ok (rngD i (j - i).toNat) cs2 else .bad
  | _, _ => .bad
theorem im_range2 {p : Pos} (hg : Gl X "range") (hm : X.mg "range" = none) (h : EM X R E e ma) (h2 : EM X R E e2 mb) (hs : starEach [e, e2] X.env = [(false, eval e X.env), (false, eval e2 X.env)] := by rfl) (hs2 : starEach [e2] X.env = [(false, eval e2 X.env)] := by rfl) :
    IM X R E tg (.Call (.Name "range" p) [e, e2] [] pos) (mRng2 ma mb) := by
  obtain ⟨t, pt, k⟩ := h
  obtain ⟨u, pu, k2⟩ := h2
  refine ⟨_, pi_range2 hg hm (pa_cons pt (pa_cons pu pa_nil (by rw [hs2]; rfl)) (by rw [hs, hs2])) hs hs2, fun O A ρ cs σ H ok rk S h => ?_⟩
  refine k O A ρ cs σ H ok rk _ (PostX.step (Stp.refl ok) (fun sx cs1 q x A1 H1 s1 ok1 r1 => ?_) (PostX.bind h))
  refine k2 O A1 ρ cs1 σ H1 ok1 (rk.step s1) _ (PostX.step s1 (fun sy cs2 q2 y A2 H2 s2 ok2 r2 => ?_) (PostX.bind q))
  split at q2
  · rename_i i j
    split at q2
    · rename_i hz
      cases r1
      cases r2
      exact ⟨i, j, rfl, hz, q2 _ A2 H2 (s1.trans s2) ok2 feeds_rng⟩
    · exact q2.elim
  · exact q2.elim
/-! zip of two lists, of two tuples; enumerate of a list -/
def zipD (ds es : List D) : List D := List.zipWith (fun a b => .tuple [a, b]) ds es
def mZip (ma mb : Rho → M Sl) : Rho → M (List D) := fun ρ cs => (ma ρ cs).bind fun x cs1 => (mb ρ cs1).bind fun y cs2 => match x, y with
  | .d (.list a), .d (.list b) => .ok (zipD a b) cs2
  | .d (.tuple a), .d (.tuple b) => .ok (zipD a b) cs2
  | _, _ => .bad
theorem zip_at {ds es : List D} {i : Nat} {d : D} (h : (zipD ds es)[i]? = some d) : ∃ a b, ds[i]? = some a ∧ es[i]? = some b ∧ d = .tuple [a, b] := by
  unfold zipD at h
  rw [List.getElem?_zipWith] at h
  split at h
  · rename_i a b e1 e2
    cases h
    exact ⟨a, b, e1, e2, rfl⟩
  · cases h
theorem im_zip {p : Pos} (hg : Gl X "zip") (hm : X.mg "zip" = none) (h : EM X R E e ma) (h2 : EM X R E e2 mb) (hs : starEach [e, e2] X.env = (false, eval e X.env) :: starEach [e2] X.env := by rfl) (hs2 : starEach [e2] X.env = (false, eval e2 X.env) :: starEach [] X.env := by rfl)
    (hpl : (backTo pos (starEach [e2] X.env)).any (·.1) = false := by rfl) : IM X R E (.Tuple elts kk tpos) (.Call (.Name "zip" p) [e, e2] [] pos) (mZip ma mb) := by
  obtain ⟨t, pt, k⟩ := h
  obtain ⟨u, pu, k2⟩ := h2
  refine ⟨_, RZ.pi_zipA hg hm (pa_cons pt (pa_cons pu pa_nil hs2) hs) hs hpl, fun O A ρ cs σ H ok rk S h => ?_⟩
  refine k O A ρ cs σ H ok rk _ (PostX.step (Stp.refl ok) (fun sx cs1 q x A1 H1 s1 ok1 r1 => ?_) (PostX.bind h))
  refine k2 O A1 ρ cs1 σ H1 ok1 (rk.step s1) _ (PostX.step s1 (fun sy cs2 q2 y A2 H2 s2 ok2 r2 => ?_) (PostX.bind q))
  have r1' := r1.step s2
  split at q2
  · rename_i a b
    cases r1' with
    | lst h1 t1 =>
      cases r2 with
      | lst h2 t2 =>
        refine ⟨_, _, _, _, rfl, .inl ⟨.inl (.inl (hid_same _ _ h1)), .inl (.inl (hid_same _ _ h2)), q2 _ A2 H2 (s1.trans s2) ok2 ?_⟩⟩
        intro O' A cs H hO s ok i
        have ee := same_ext hO s
        have l1 := ee _ _ h1
        have l2 := ee _ _ h2
        refine ⟨fun hi => ⟨_, _, .inl (.inl (hid_same _ _ l1)), .inl (.inl (hid_same _ _ l2)), ?_⟩, fun d hd => ?_⟩
        · rw [t1.length, t2.length]
          unfold zipD at hi
          rw [List.length_zipWith] at hi
          omega
        · obtain ⟨da, db, e1, e2, rfl⟩ := zip_at hd
          obtain ⟨v1, g1, s1⟩ := t1.get e1
          obtain ⟨v2, g2, s2⟩ := t2.get e2
          refine ⟨⟨_, _, v1, v2, .inl (.inl (hid_same _ _ l1)), .inl (.inl (hid_same _ _ l2)), g1, g2⟩, fun x H' y => ?_⟩
          obtain ⟨T, x1, x2, rfl, nT, rfl, f1, f2⟩ := y
          have ex1 := f1 _ (.inl (.inl (hid_same _ _ l1)))
          have ex2 := f2 _ (.inl (.inl (hid_same _ _ l2)))
          rw [g1] at ex1
          rw [g2] at ex2
          cases ex1
          cases ex2
          exact tup2 ok nT (s1.mono ee) (s2.mono ee)
  · rename_i a b
    cases r1' with
    | tup h1 t1 =>
      cases r2 with
      | tup h2 t2 =>
        refine ⟨_, _, _, _, rfl, .inr ⟨SqT.same hid_same h1, SqT.same hid_same h2, q2 _ A2 H2 (s1.trans s2) ok2 ?_⟩⟩
        intro O' A cs H hO s ok i
        have ee := same_ext hO s
        have l1 := SqT.same hid_same (SqT.same ee h1)
        have l2 := SqT.same hid_same (SqT.same ee h2)
        refine ⟨fun hi => ⟨_, _, l1, l2, ?_⟩, fun d hd => ?_⟩
        · rw [t1.length, t2.length]
          unfold zipD at hi
          rw [List.length_zipWith] at hi
          omega
        · obtain ⟨da, db, e1, e2, rfl⟩ := zip_at hd
          obtain ⟨v1, g1, s1⟩ := t1.get e1
          obtain ⟨v2, g2, s2⟩ := t2.get e2
          refine ⟨⟨_, _, v1, v2, l1, l2, g1, g2⟩, fun x H' y => ?_⟩
          obtain ⟨T, x1, x2, rfl, nT, rfl, f1, f2⟩ := y
          have ex1 := f1 _ l1
          have ex2 := f2 _ l2
          rw [g1] at ex1
          rw [g2] at ex2
          cases ex1
          cases ex2
          exact tup2 ok nT (s1.mono ee) (s2.mono ee)
  · exact q2.elim
def enumD (ds : List D) : List D := zipD (rngD 0 ds.length) ds
def mEnum (ma : Rho → M Sl) : Rho → M (List D) := fun ρ cs => (ma ρ cs).bind fun x cs1 => match x with
  | .d (.list a) => .ok (enumD a) cs1
  | _ => .bad
theorem im_enum {p : Pos} (hg : Gl X "enumerate") (hm : X.mg "enumerate" = none) (h : EM X R E e ma) (hs : starEach [e] X.env = [(false, eval e X.env)] := by rfl) : IM X R E (.Tuple elts kk tpos) (.Call (.Name "enumerate" p) [e] [] pos) (mEnum ma) := by
  obtain ⟨t, pt, k⟩ := h
  refine ⟨_, pi_enum hg hm (pa_cons pt pa_nil (by rw [hs]; rfl)) hs, fun O A ρ cs σ H ok rk S h => ?_⟩
  refine k O A ρ cs σ H ok rk _ (PostX.step (Stp.refl ok) (fun sx cs1 q x A1 H1 s1 ok1 r1 => ?_) (PostX.bind h))
  split at q
  · rename_i a
    cases r1 with
    | lst h1 t1 =>
      refine ⟨_, _, rfl, .inl (.inl (hid_same _ _ h1)), q _ A1 H1 s1 ok1 ?_⟩
      intro O' A cs H hO s ok i
      have ee := same_ext hO s
      have l1 := ee _ _ h1
      refine ⟨fun hi => ⟨_, .inl (.inl (hid_same _ _ l1)), ?_⟩, fun d hd => ?_⟩
      · rw [t1.length]
        unfold enumD zipD rngD at hi
        simp at hi
        omega
      · obtain ⟨da, db, e1, e2, rfl⟩ := zip_at hd
        obtain ⟨v2, g2, s2⟩ := t1.get e2
        have ei : da = .int (i : Int) := by
          unfold rngD at e1
          rw [List.getElem?_map] at e1
          have hi := (List.getElem?_eq_some_iff.mp e2).1
          rw [List.getElem?_range hi] at e1
          cases e1
          show PyData.int (0 + (i : Int)) = PyData.int (i : Int)
          rw [Int.zero_add]
        subst ei
        refine ⟨⟨_, v2, .inl (.inl (hid_same _ _ l1)), g2⟩, fun x H' y => ?_⟩
        obtain ⟨T, x2, rfl, nT, rfl, f2⟩ := y
        have ex2 := f2 _ (.inl (.inl (hid_same _ _ l1)))
        rw [g2] at ex2
        cases ex2
        exact tup2 ok nT (.int _) (s2.mono ee)
  · exact q.elim
end
end Mir
set_option maxHeartbeats 2000000
/-! for, while, comprehensions, further statements -/
namespace Mir
open PySem PySem.Spec PyProof.Rows L2

/-! ### for -/
def forL (f : D → Rho → Option Rho) (body : Rho → M Fl) : List D → Rho → M Fl
  | [], ρ, cs => .ok (.nx ρ) cs
  | d :: r, ρ, cs => match f d ρ with
    | some ρ1 => (body ρ1 cs).bind fun x cs1 => match x with
      | .nx ρ2 => forL f body r ρ2 cs1
      | .ct ρ2 => forL f body r ρ2 cs1
      | .bk ρ2 => .ok (.nx ρ2) cs1
      | .rt sl => .ok (.rt sl) cs1
    | none => .bad
def sFor (mi : Rho → M (List D)) (f : D → Rho → Option Rho) (body : Rho → M Fl) : Rho → M Fl := fun ρ cs => (mi ρ cs).bind fun items cs1 => forL f body items ρ cs1
section
variable {X : Cx} {R : XR} {E : XK} {pos : Pos} {a b c e tg iter : Expr} {es : List Expr} {st : Stmt} {rest body : List Stmt} {ma mb mc : Rho → M Sl} {ms : Rho → M (List Sl)} {mt : Rho → M Bool} {mb' : Rho → M Fl} {L : List Nat} {f : D → Rho → Option Rho} {mi : Rho → M (List D)}
theorem drop_get {α : Type} {l r : List α} {i : Nat} {d : α} (h : l.drop i = d :: r) : l[i]? = some d ∧ l.drop (i + 1) = r := by
  have e1 : (l.drop i)[0]? = some d := by rw [h]; rfl
  rw [List.getElem?_drop] at e1
  refine ⟨by simpa using e1, ?_⟩
  rw [← List.drop_drop, h]
  rfl
theorem drop_end {α : Type} {l : List α} {i : Nat} (h : l.drop i = []) : l.length ≤ i := by
  have := congrArg List.length h
  rw [List.length_drop] at this
  simp at this
  omega
theorem sm_for (hp : PassesOwn (model X.prog X.w) X.A X.env X.xe) (hc : X.calm = true) (hi : IM X R E tg iter mi) (hg : GM X tg L f) (hb : BM X R E body mb') (hs : ∀ x, foldedSetIterable iter X.env x = pure x := by intro _; rfl) :
    SM X R E (.For tg iter body [] pos) (sFor mi f mb') := by
  obtain ⟨wi, pi, ki⟩ := hi
  obtain ⟨g, pg, kg⟩ := hg
  obtain ⟨tb, pb, kb⟩ := hb
  refine sm_of (ps_for hp hc pi pg pb hs) fun O A ρ cs σ H ok rk De h => ?_
  refine ki O A ρ cs σ H ok rk _ (PostX.step (Stp.refl ok) (fun items cs1 q J A1 H1 s1 ok1 fd => ?_) (PostX.bind h))
  refine ⟨fun i m σ' H' => ∃ A' cs' ρ', Stp A H A' H' ∧ Stp A1 H1 A' H' ∧ Ok X.K O A' cs' H' ∧ RhoOk X.K O A' ρ' σ' H' ∧ m = items.length - i ∧ i ≤ items.length ∧ PostS X.K R O A H De E (forL f mb' (items.drop i) ρ' cs'),
    ⟨_, A1, cs1, ρ, s1, Stp.refl ok1, ok1, rk.step s1, rfl, Nat.zero_le _, by rw [List.drop_zero]; exact q⟩, ?_⟩
  rintro i m σ' H' ⟨A', cs', ρ', s, s', ok', rk', rfl, hi, hq⟩
  obtain ⟨f1, f2⟩ := fd O A' cs' H' (fun x hx => .inl hx) s' ok' i
  cases ed : items.drop i with
  | nil =>
    rw [ed] at hq
    exact .inl ⟨f1 (drop_end ed), hq σ' A' H' s ok' rk'⟩
  | cons d r =>
    rw [ed] at hq
    obtain ⟨ei, er⟩ := drop_get ed
    obtain ⟨go, yl⟩ := f2 d ei
    have hlt := (List.getElem?_eq_some_iff.mp ei).1
    refine .inr ⟨go, fun σ2 H2 => ∃ A2 cs2 ρ2, Stp A H A2 H2 ∧ Stp A1 H1 A2 H2 ∧ Ok X.K O A2 cs2 H2 ∧ RhoOk X.K O A2 ρ2 σ2 H2 ∧ PostS X.K R O A H De E (forL f mb' r ρ2 cs2), fun σ2 H2 hN => ?_, fun x H2 y => ?_⟩
    · obtain ⟨A2, cs2, ρ2, t1, t2, t3, t4, t5⟩ := hN
      exact ⟨items.length - (i + 1), by omega, A2, cs2, ρ2, t1, t2, t3, t4, rfl, hlt, by rw [er]; exact t5⟩
    · obtain ⟨s2, ok2, r2⟩ := yl x H2 y
      unfold forL at hq
      split at hq
      · rename_i ρ1 e1
        refine kg O A' cs' ρ' σ' H2 x d ρ1 ok2 (rk'.step s2) r2 e1 _ fun σ3 rk3 _ _ => ?_
        have st := s.trans s2
        have st' := s'.trans s2
        refine kb O A' ρ1 cs' σ3 H2 ok2 rk3 _ (PostX.step st (fun fl cs3 q3 => ?_) (PostX.bind hq))
        cases fl with
        | nx ρ2 => exact fun σ4 A4 H4 s4 ok4 rk4 => ⟨A4, cs3, ρ2, st.trans s4, st'.trans s4, ok4, rk4, q3⟩
        | ct ρ2 => exact fun σ4 A4 H4 s4 ok4 rk4 => ⟨A4, cs3, ρ2, st.trans s4, st'.trans s4, ok4, rk4, q3⟩
        | bk ρ2 => exact fun σ4 A4 H4 s4 ok4 rk4 => q3 σ4 A4 H4 (st.trans s4) ok4 rk4
        | rt sl => exact fun v A4 H4 s4 ok4 r4 => q3 v A4 H4 (st.trans s4) ok4 r4
      · exact hq.elim

/-! ### while: as many turns as the number lets -/
def whileN (mt : Rho → M Bool) (body : Rho → M Fl) : Nat → Rho → M Fl
  | 0, _, _ => .bad
  | n + 1, ρ, cs => (mt ρ cs).bind fun k cs1 => if k = true then (body ρ cs1).bind fun x cs2 => match x with
      | .nx ρ2 => whileN mt body n ρ2 cs2
      | .ct ρ2 => whileN mt body n ρ2 cs2
      | .bk ρ2 => .ok (.nx ρ2) cs2
      | .rt sl => .ok (.rt sl) cs2
    else .ok (.nx ρ) cs1
theorem sm_while (n : Nat) (hp : PassesOwn (model X.prog X.w) X.A X.env X.xe) (hc : TM X R E c mt) (hb : BM X R E body mb') : SM X R E (.While c body [] pos) (whileN mt mb' n) := by
  obtain ⟨tc, pc, kc⟩ := hc
  obtain ⟨tb, pb, kb⟩ := hb
  refine sm_of (ps_while hp pc pb) fun O A ρ cs σ H ok rk De h => ?_
  refine ⟨fun m σ' H' => ∃ A' cs' ρ', Stp A H A' H' ∧ Ok X.K O A' cs' H' ∧ RhoOk X.K O A' ρ' σ' H' ∧ PostS X.K R O A H De E (whileN mt mb' m ρ' cs'), ⟨n, A, cs, ρ, Stp.refl ok, ok, rk, h⟩, ?_⟩
  rintro m σ' H' ⟨A', cs', ρ', s, ok', rk', hq⟩
  cases m with
  | zero => exact hq.elim
  | succ m =>
    unfold whileN at hq
    refine kc O A' ρ' cs' σ' H' ok' rk' _ (PostX.step s (fun k cs1 q A1 H1 s1 ok1 => ?_) (PostX.bind hq))
    have st := s.trans s1
    cases k with
    | false => exact q σ' A1 H1 st ok1 (rk'.step s1)
    | true =>
      refine ⟨fun σ2 H2 => ∃ A2 cs2 ρ2, Stp A H A2 H2 ∧ Ok X.K O A2 cs2 H2 ∧ RhoOk X.K O A2 ρ2 σ2 H2 ∧ PostS X.K R O A H De E (whileN mt mb' m ρ2 cs2), fun σ2 H2 hN => ⟨m, Nat.lt_succ_self m, hN⟩, ?_⟩
      refine kb O A1 ρ' cs1 σ' H1 ok1 (rk'.step s1) _ (PostX.step st (fun fl cs3 q3 => ?_) (PostX.bind q))
      cases fl with
      | nx ρ2 => exact fun σ4 A4 H4 s4 ok4 rk4 => ⟨A4, cs3, ρ2, st.trans s4, ok4, rk4, q3⟩
      | ct ρ2 => exact fun σ4 A4 H4 s4 ok4 rk4 => ⟨A4, cs3, ρ2, st.trans s4, ok4, rk4, q3⟩
      | bk ρ2 => exact fun σ4 A4 H4 s4 ok4 rk4 => q3 σ4 A4 H4 (st.trans s4) ok4 rk4
      | rt sl => exact fun v A4 H4 s4 ok4 r4 => q3 v A4 H4 (st.trans s4) ok4 r4

/-! ### comprehensions -/
def wipeR (ρ : Rho) : List Nat → Rho
  | [] => ρ
  | v :: vs => (wipeR ρ vs).set v none
theorem wipeR_len (ρ : Rho) : ∀ vs : List Nat, (wipeR ρ vs).length = ρ.length
  | [] => rfl
  | v :: vs => by
    show ((wipeR ρ vs).set v none).length = ρ.length
    rw [List.length_set]
    exact wipeR_len ρ vs
theorem wipeR_some {ρ : Rho} {i : Nat} {sl : Sl} : ∀ {vs : List Nat}, (wipeR ρ vs)[i]? = some (some sl) → ρ[i]? = some (some sl) ∧ i ∉ vs
  | [], h => ⟨h, by simp⟩
  | v :: vs, h => by
    have h' : ((wipeR ρ vs).set v none)[i]? = some (some sl) := h
    by_cases e : v = i
    · subst e
      rw [List.getElem?_set] at h'
      simp at h'
    · rw [List.getElem?_set_ne e] at h'
      obtain ⟨h1, h2⟩ := wipeR_some h'
      exact ⟨h1, fun z => (List.mem_cons.mp z).elim (fun q => e q.symm) h2⟩
theorem wipe_at {σ : L2.St} {i : Nat} : ∀ {vs : List Nat}, i ∉ vs → (wipe σ vs)[i]? = σ[i]?
  | [], _ => rfl
  | v :: vs, h => by
    show ((wipe σ vs).set v none)[i]? = σ[i]?
    rw [List.getElem?_set_ne (fun z => h (by rw [z]; exact List.mem_cons_self))]
    exact wipe_at fun z => h (List.mem_cons_of_mem _ z)
theorem wipe_none {σ : L2.St} {i : Nat} : ∀ {vs : List Nat}, i ∈ vs → i < σ.length → (wipe σ vs)[i]? = some none
  | [], h, _ => by cases h
  | v :: vs, h, hl => by
    show ((wipe σ vs).set v none)[i]? = some none
    by_cases e : v = i
    · subst e
      rw [List.getElem?_set_self (by rw [wipe_length]; exact hl)]
    · rw [List.getElem?_set_ne e]
      rcases List.mem_cons.mp h with z | z
      · exact absurd z.symm e
      · exact wipe_none z hl
theorem wipe_ext {σ τ : L2.St} {vs : List Nat} (hl : τ.length = (wipe σ vs).length) (h : ∀ i, i ∉ vs → τ[i]? = (wipe σ vs)[i]?) : wipe τ vs = wipe σ vs := by
  apply List.ext_getElem?
  intro i
  by_cases hi : i ∈ vs
  · by_cases hb : i < σ.length
    · rw [wipe_none hi hb, wipe_none hi (by rw [hl, wipe_length]; exact hb)]
    · rw [List.getElem?_eq_none (by rw [wipe_length, hl, wipe_length]; omega), List.getElem?_eq_none (by rw [wipe_length]; omega)]
  · rw [wipe_at hi]
    exact h i hi
theorem RhoOk.wipe {K : PySem.W.Frag} {O A : List Addr} {ρ : Rho} {σ : L2.St} {H : Hp} (r : RhoOk K O A ρ σ H) (vs : List Nat) : RhoOk K O A (wipeR ρ vs) (L2.wipe σ vs) H := by
  refine ⟨by rw [wipeR_len, wipe_length]; exact r.1, fun i sl e => ?_⟩
  obtain ⟨e1, hi⟩ := wipeR_some e
  obtain ⟨v, h1, h2⟩ := r.2 i sl e1
  exact ⟨v, by rw [wipe_at hi]; exact h1, h2⟩
/-- the tests of a clause -/
structure QM (X : Cx) (R : XR) (E : XK) (ifs : List Expr) (m : Rho → M Bool) : Prop where
  ex : ∃ t, PTs X ifs t ∧ ∀ O A ρ cs σ H, Ok X.K O A cs H → RhoOk X.K O A ρ σ H → ∀ Q, PostB X.K R O A H Q E (m ρ cs) → t σ H Q
def mYes : Rho → M Bool := fun _ cs => .ok true cs
theorem qm_nil : QM X R E [] mYes := ⟨_, pts_nil, fun O A ρ cs σ H ok rk Q h => h A H (Stp.refl ok) ok⟩
theorem qm_one (h : TM X R E c mt) : QM X R E [c] mt := by
  obtain ⟨t, p, k⟩ := h
  exact ⟨_, pts_one p, k⟩
/-- no exception leaves a comprehension -/
def quiet {α : Type} : Res α → Res α
  | .ok a cs => .ok a cs
  | _ => .bad
def lcL (f : D → Rho → Option Rho) (mt : Rho → M Bool) (me : Rho → M Sl) (ρ : Rho) : List D → M (List D)
  | [], cs => .ok [] cs
  | d :: r, cs => match f d ρ with
    | some ρ1 => (quiet (mt ρ1 cs)).bind fun k cs1 => if cs1.length = cs.length then
        if k = true then (quiet (me ρ1 cs1)).bind fun x cs2 => if cs2.length = cs.length then match x with
            | .d y => (lcL f mt me ρ r cs2).bind fun ys cs3 => .ok (y :: ys) cs3
            | .h _ => .bad
            | .s _ => .bad else .bad
        else lcL f mt me ρ r cs1 else .bad
    | none => .bad
def mLc (mi : Rho → M (List D)) (f : D → Rho → Option Rho) (mt : Rho → M Bool) (me : Rho → M Sl) (vs : List Nat) : Rho → M (List D) := fun ρ cs => (mi ρ cs).bind fun items cs1 => if items.length ≤ SL then lcL f mt me (wipeR ρ vs) items cs1 else .bad
abbrev E0' : XK := fun _ _ _ => False
theorem quiet_post {K : PySem.W.Frag} {O A : List Addr} {H : Hp} {α : Type} {S : α → List HC → Prop} {r : Res α} {A0 : List Addr} {H0 : Hp} {E1 : XK} {O0 : List Addr} (h : PostX K R O0 A0 H0 E1 S (quiet r)) : PostX K R O A H E S r := by
  cases r with
  | ok a cs => exact h
  | exc x cs => exact h.elim
  | bad => exact h.elim
/-! the readings that are the same whatever the block's context -/
def tEm (K : PySem.W.Frag) (R : XR) (E : XK) (m : Rho → M Sl) : TE := fun σ H Q => ∃ O A ρ cs, Ok K O A cs H ∧ RhoOk K O A ρ σ H ∧ Post K R O A H Q E (m ρ cs)
theorem EM.pe {m : Rho → M Sl} (h : EM X R E e m) : PE X e (tEm X.K R E m) := ⟨fun pins s σ H Q I h' => by
  obtain ⟨O, A, ρ, cs, ok, rk, p⟩ := h'
  obtain ⟨t, pt, k⟩ := h
  exact pt.run pins s σ H Q I (k O A ρ cs σ H ok rk Q p)⟩
def tQm (K : PySem.W.Frag) (R : XR) (E : XK) (m : Rho → M Bool) : TT := fun σ H Q => ∃ O A ρ cs, Ok K O A cs H ∧ RhoOk K O A ρ σ H ∧ PostB K R O A H Q E (m ρ cs)
theorem QM.pe {ifs : List Expr} {m : Rho → M Bool} (h : QM X R E ifs m) : PTs X ifs (tQm X.K R E m) := ⟨fun pins s σ H Q I h' => by
  obtain ⟨O, A, ρ, cs, ok, rk, p⟩ := h'
  obtain ⟨t, pt, k⟩ := h
  exact pt.run pins s σ H Q I (k O A ρ cs σ H ok rk Q p)⟩
def tGm (K : PySem.W.Frag) (L : List Nat) (f : D → Rho → Option Rho) : TG := fun x σ H Q => ∃ O A cs ρ d ρ', Ok K O A cs H ∧ RhoOk K O A ρ σ H ∧ ShS K O A H x (.d d) ∧ f d ρ = some ρ' ∧ ∀ σ', RhoOk K O A ρ' σ' H → σ'.length = σ.length → (∀ i, i ∉ L → σ'[i]? = σ[i]?) → Q σ' H
theorem GM.pg (h : GM X tg L f) : PG X tg (tGm X.K L f) := ⟨fun pins s σ H v u Q I r h' => by
  obtain ⟨O, A, cs, ρ, d, ρ', ok, rk, rx, ef, q⟩ := h'
  obtain ⟨g, pg, k⟩ := h
  exact pg.run pins s σ H v u Q I r (k O A cs ρ σ H v d ρ' ok rk rx ef Q q)⟩
theorem RhoOk.ext {K : PySem.W.Frag} {O O' A A' : List Addr} {ρ : Rho} {σ : L2.St} {H H' : Hp} (r : RhoOk K O A ρ σ H) (hO : ∀ x ∈ O', x ∈ O ∨ H x = none) (s : Stp A H A' H') : RhoOk K O' A' ρ σ H' :=
  ⟨r.1, fun i sl e => by
    obtain ⟨v, h1, h2⟩ := r.2 i sl e
    refine ⟨v, h1, ?_⟩
    cases sl with
    | d d => exact Sh.mono (same_ext hO s) h2
    | h k => exact ShS.step s h2
    | s ns =>
      obtain ⟨a, ea, hl⟩ := h2
      exact ⟨a, ea, (same_ext hO s).seq hl⟩⟩
theorem Stp.eq {A A' : List Addr} {H H' : Hp} (s : Stp A H A' H') (h : A'.length = A.length) : A' = A := by
  obtain ⟨⟨B, eB, _⟩, _, _⟩ := s
  rw [eB, List.length_append] at h
  have hB : B = [] := List.eq_nil_of_length_eq_zero (by omega)
  rw [eB, hB, List.append_nil]
/-- what others hold is written -/
theorem Ok.outer {K : PySem.W.Frag} {O A : List Addr} {cs : List HC} {H : Hp} {p : Addr} {o : HO} (ok : Ok K O A cs H) (hp : p ∈ O) : Ok K O A cs (upd H p o) ∧ Same (hid (O ++ A) H) (hid (O ++ A) (upd H p o)) := by
  have same : Same (hid (O ++ A) H) (hid (O ++ A) (upd H p o)) := fun b u h => by
    obtain ⟨hb, e⟩ := hid_some.mp h
    exact hid_some.mpr ⟨hb, by rw [upd_ne (fun (z : b = p) => hb (List.mem_append_left _ (z ▸ hp)))]; exact e⟩
  refine ⟨⟨fun x hx => ⟨?_, (ok.out x hx).2⟩, ok.len, ok.nd, fun k a c e1 e2 => ?_⟩, same⟩
  · by_cases e : x = p
    · rw [e, upd_same]
      exact fun z => by cases z
    · rw [upd_ne e]
      exact (ok.out x hx).1
  · have ha : a ≠ p := fun z => (ok.out p hp).2 (z ▸ List.mem_of_getElem? e1)
    exact HcAt.at (upd_ne ha) ((ok.at k a c e1 e2).mono same)
theorem Res.bind_ok {α : Type} (r : Res α) : (r.bind fun a cs => .ok a cs) = r := by cases r <;> rfl
theorem Res.bind_bind {α β γ : Type} (r : Res α) (f : α → M β) (g : β → M γ) : (r.bind f).bind g = r.bind fun a cs => (f a cs).bind g := by cases r <;> rfl
/-- what a comprehension's reading asks is there -/
theorem lc_read {wi : TI} {me : Rho → M Sl} {vs0 : List Nat} (ki : ∀ O A ρ cs σ H, Ok X.K O A cs H → RhoOk X.K O A ρ σ H → ∀ S : It → Hp → Prop, PostX X.K R O A H E (fun items cs1 => ∀ J A' H', Stp A H A' H' → Ok X.K O A' cs1 H' → Feeds X.K O A' H' J items → S J H') (mi ρ cs) → wi σ H S)
    (hL : ∀ i ∈ L, i ∈ vs0) {O A : List Addr} {ρ : Rho} {cs : List HC} {σ : L2.St} {H : Hp} (ok : Ok X.K O A cs H) (rk : RhoOk X.K O A ρ σ H) {Q : VK} (h : PostL X.K R O A H Q E (mLc mi f mt me vs0 ρ cs)) :
    tLc wi (tGm X.K L f) (tQm X.K R E0' mt) (tEm X.K R E0' me) vs0 σ H Q := by
  refine ki O A ρ cs σ H ok rk _ (PostX.step (Stp.refl ok) (fun items cs1 q J A1 H1 s1 ok1 fd => ?_) (PostX.bind h))
  split at q
  · rename_i hz
    intro Dl nD
    generalize hvs : vs0 = vs at q hL ⊢
    have hO : ∀ x ∈ Dl :: O, x ∈ O ∨ H1 x = none := fun x hx => (List.mem_cons.mp hx).elim (fun z => .inr (z ▸ nD)) .inl
    have hO0 : ∀ x ∈ Dl :: O, x ∈ O ∨ H x = none := fun x hx => (List.mem_cons.mp hx).elim (fun z => .inr (z ▸ s1.fresh nD)) .inl
    have nA : Dl ∉ A1 := fun z => ok1.ne nD (List.mem_append_right _ z)
    refine ⟨fun i m Hc => ∃ cs' accV accD, Stp A1 H1 A1 Hc ∧ Ok X.K (Dl :: O) A1 cs' Hc ∧ Hc Dl = some (.lst accV) ∧ ShA X.K (hid ((Dl :: O) ++ A1) Hc) accV accD ∧ accD.length ≤ i ∧ m = items.length - i ∧ i ≤ items.length ∧
      PostL X.K R O A H Q E ((lcL f mt me (wipeR ρ vs) (items.drop i) cs').bind fun ys cs3 => .ok (accD ++ ys) cs3), ⟨_, cs1, [], [], Stp.new ok1 nD, ?_, upd_same, .nil, Nat.le_refl _, rfl, Nat.zero_le _, ?_⟩, ?_⟩
    · have okn := ok1.new (o := .lst []) nD
      have same : Same (hid (O ++ A1) (upd H1 Dl (.lst []))) (hid ((Dl :: O) ++ A1) (upd H1 Dl (.lst []))) ∨ True := .inr trivial
      have st := Stp.new (o := .lst []) ok1 nD
      have se := same_ext hO st
      refine ⟨fun x hx => ?_, ok1.len, ok1.nd, fun k a c e1 e2 => ?_⟩
      · rcases List.mem_cons.mp hx with z | z
        · subst z
          exact ⟨by rw [upd_same]; exact fun z => (by cases z), nA⟩
        · exact okn.out x z
      · have ha : a ≠ Dl := fun z => nA (z ▸ List.mem_of_getElem? e1)
        exact HcAt.at (upd_ne ha) ((ok1.at k a c e1 e2).mono se)
    · rw [List.drop_zero]
      simp only [List.nil_append]
      rw [Res.bind_ok]
      exact q
    · rintro i m Hc ⟨cs', accV, accD, sc, okc, hD, hA, hlen, rfl, hi, hq⟩
      obtain ⟨f1, f2⟩ := fd (Dl :: O) A1 cs' Hc hO sc okc i
      cases ed : items.drop i with
      | nil =>
        rw [ed] at hq
        refine .inl ⟨f1 (drop_end ed), ?_⟩
        have hq' : PostL X.K R O A H Q E (.ok (accD ++ []) cs') := hq
        rw [List.append_nil] at hq'
        have st := s1.trans sc
        refine hq' Dl A1 Hc st ?_ ?_
        · obtain ⟨⟨B, eB, fB⟩, k, l⟩ := st
          refine ⟨⟨B ++ [Dl], by rw [eB, List.append_assoc], fun b hb => ?_⟩, k, l⟩
          rcases List.mem_append.mp hb with z | z
          · exact fB b z
          · have e : b = Dl := by simpa using z
            rw [e]
            exact s1.fresh nD
        · have less : Same (hid ((Dl :: O) ++ A1) Hc) (hid (O ++ (A1 ++ [Dl])) Hc) := fun b u e => by
            obtain ⟨hb, e⟩ := hid_some.mp e
            refine hid_some.mpr ⟨fun z => hb ?_, e⟩
            simp only [List.mem_append, List.mem_cons, List.not_mem_nil, or_false] at z ⊢
            rcases z with z | z | z
            · exact .inl (.inr z)
            · exact .inr z
            · exact .inl (.inl z)
          have hnd : (A1 ++ [Dl]).Nodup := List.nodup_append.mpr ⟨okc.nd, by simp, fun x hx y hy => by
            have e : y = Dl := by simpa using hy
            subst e
            rintro rfl
            exact nA hx⟩
          refine ⟨fun x hx => ⟨(okc.out x (List.mem_cons_of_mem _ hx)).1, fun z => ?_⟩, by rw [List.length_append, List.length_append, okc.len]; rfl, hnd, fun k a c e1 e2 => ?_⟩
          · rcases List.mem_append.mp z with z | z
            · exact (okc.out x (List.mem_cons_of_mem _ hx)).2 z
            · have e : x = Dl := by simpa using z
              subst e
              exact ok1.ne nD (List.mem_append_left _ hx)
          · by_cases hk : k < A1.length
            · rw [List.getElem?_append_left hk] at e1
              rw [List.getElem?_append_left (okc.len ▸ hk)] at e2
              exact (okc.at k a c e1 e2).mono less
            · rw [List.getElem?_append_right (by omega)] at e1
              rw [List.getElem?_append_right (by rw [← okc.len]; omega)] at e2
              have hk0 : k - A1.length = 0 := by
                have := (List.getElem?_eq_some_iff.mp e1).1
                simp at this
                omega
              rw [← okc.len] at e2
              rw [hk0] at e1 e2
              cases e1
              cases e2
              exact ⟨accV, hD, hA.mono less⟩
      | cons d r =>
        rw [ed] at hq
        obtain ⟨ei, er⟩ := drop_get ed
        obtain ⟨go, yl⟩ := f2 d ei
        have hlt := (List.getElem?_eq_some_iff.mp ei).1
        refine .inr ⟨go, fun Hn => ∃ cs' accV accD, Stp A1 H1 A1 Hn ∧ Ok X.K (Dl :: O) A1 cs' Hn ∧ Hn Dl = some (.lst accV) ∧ ShA X.K (hid ((Dl :: O) ++ A1) Hn) accV accD ∧ accD.length ≤ i + 1 ∧
          PostL X.K R O A H Q E ((lcL f mt me (wipeR ρ vs) r cs').bind fun ys cs3 => .ok (accD ++ ys) cs3), fun Hn hN => ?_, fun x H2 y => ?_⟩
        · obtain ⟨cs2, aV, aD, t1, t2, t3, t4, t5, t6⟩ := hN
          exact ⟨items.length - (i + 1), by omega, cs2, aV, aD, t1, t2, t3, t4, t5, rfl, hlt, by rw [er]; exact t6⟩
        · obtain ⟨s2, ok2, r2⟩ := yl x H2 y
          simp only [lcL] at hq
          split at hq
          · rename_i ρ1 e1
            have s12 := sc.trans s2
            have rkw : RhoOk X.K (Dl :: O) A1 (wipeR ρ vs) (wipe σ vs) H2 := (rk.ext hO0 (s1.trans s12)).wipe vs
            refine ⟨Dl :: O, A1, cs', wipeR ρ vs, d, ρ1, ok2, rkw, r2, e1, fun σ3 rk3 l3 f3 => ⟨wipe_ext l3 fun i hi => f3 i fun z => hi (hL i z), ?_⟩⟩
            rw [Res.bind_bind] at hq
            refine ⟨Dl :: O, A1, ρ1, cs', ok2, rk3, quiet_post (PostX.step (Stp.refl ok) (fun k cs2 q2 A3 H3 s3 ok3 => ?_) (PostX.bind hq))⟩
            by_cases hl2 : cs2.length = cs'.length
            · rw [if_pos hl2] at q2
              have eA : A3 = A1 := s3.eq (by rw [ok3.len, hl2, okc.len])
              subst eA
              have s123 := s12.trans s3
              have hD3 : H3 Dl = some (.lst accV) := s3.keep Dl _ nA (s2.keep Dl _ nA hD)
              have hA3 := (hA.mono s2.same).mono s3.same
              cases k with
              | false =>
                rw [if_neg Bool.false_ne_true] at q2 ⊢
                exact ⟨cs2, accV, accD, s123, ok3, hD3, hA3, by omega, q2⟩
              | true =>
                rw [if_pos rfl] at q2 ⊢
                rw [Res.bind_bind] at q2
                refine ⟨Dl :: O, A3, ρ1, cs2, ok3, rk3.step s3, quiet_post (PostX.step (Stp.refl ok) (fun sx cs3 q3 v A4 H4 s4 ok4 r4 => ?_) (PostX.bind q2))⟩
                by_cases hl3 : cs3.length = cs'.length
                · rw [if_pos hl3] at q3
                  have eA4 : A4 = A3 := s4.eq (by rw [ok4.len, hl3, okc.len])
                  subst eA4
                  cases sx with
                  | h j => exact q3.elim
                  | s ns => exact q3.elim
                  | d y =>
                    have hD4 : H4 Dl = some (.lst accV) := s4.keep Dl _ nA hD3
                    obtain ⟨ok5, same5⟩ := ok4.outer (p := Dl) (o := .lst (accV ++ [v])) (List.mem_cons_self)
                    have hA4 := hA3.mono s4.same
                    have s1234 := s123.trans s4
                    refine ⟨accV, hD4, ?_, cs3, accV ++ [v], accD ++ [y], ⟨⟨[], by simp, by simp⟩, fun b o hb e => ?_, fun b hb => ?_⟩, ok5, upd_same, (hA4.append (.cons r4 .nil)).mono same5, ?_, ?_⟩
                    · rw [hA.length, ← SL_eq]
                      omega
                    · rw [upd_ne (fun (z : b = Dl) => by
                        rw [z, nD] at e
                        cases e)]
                      exact s1234.keep b o hb e
                    · rw [upd_ne (fun (z : b = Dl) => nA (z ▸ hb))]
                      exact s1234.live b hb
                    · rw [List.length_append]
                      show accD.length + 1 ≤ i + 1
                      omega
                    · have q4 : PostL X.K R O A H Q E (((lcL f mt me (wipeR ρ vs) r cs3).bind fun ys cs => .ok (y :: ys) cs).bind fun ys cs => .ok (accD ++ ys) cs) := q3
                      rw [Res.bind_bind] at q4
                      have e5 : (fun ys (cs : List HC) => Res.ok ((accD ++ [y]) ++ ys) cs) = fun ys (cs : List HC) => (Res.ok (y :: ys) cs).bind fun ys cs => Res.ok (accD ++ ys) cs := by
                        funext ys cs
                        show Res.ok ((accD ++ [y]) ++ ys) cs = Res.ok (accD ++ (y :: ys)) cs
                        rw [List.append_assoc]
                        rfl
                      rw [e5]
                      exact q4
                · rw [if_neg hl3] at q3
                  exact q3.elim
            · rw [if_neg hl2] at q2
              exact q2.elim
          · exact hq.elim
  · exact q.elim
theorem lm_lc {elt : Expr} {ifs : List Expr} {scope : Scope} {own : List (Str × Nat)} {me : Rho → M Sl} (hc : X.calm = true) (hN : X.N.Nodup) (hi : IM X R E tg iter mi) (okb : BlkOk X.N X.env.scope scope own) (hL : ∀ i ∈ L, i ∈ own.map (·.2))
    (hg : ∀ (s : Shared) (H : Hp) (C : Addr) (cl : List (Str × Addr)) (fp : List Addr), GM (X.blk s H scope (compEnvC scope cl C X.env) fp) tg L f)
    (ht : ∀ (s : Shared) (H : Hp) (C : Addr) (cl : List (Str × Addr)) (fp : List Addr), QM (X.blk s H scope (compEnvC scope cl C X.env) fp) R E0' ifs mt)
    (he : ∀ (s : Shared) (H : Hp) (C : Addr) (cl : List (Str × Addr)) (fp : List Addr), EM (X.blk s H scope (compEnvC scope cl C X.env) fp) R E0' elt me) (hs : ∀ x, foldedSetIterable iter X.env x = pure x := by intro _; rfl) :
    LM X R E (.ListComp elt [⟨tg, iter, ifs, 0⟩] scope pos) (mLc mi f mt me (own.map (·.2))) := by
  obtain ⟨wi, pi, ki⟩ := hi
  exact ⟨_, pe_lc (g := tGm X.K L f) (tt := tQm X.K R E0' mt) (te := tEm X.K R E0' me) hc hN pi okb (fun s H C cl fp => (hg s H C cl fp).pg) (fun s H C cl fp => (ht s H C cl fp).pe) (fun s H C cl fp => (he s H C cl fp).pe) hs, fun O A ρ cs σ H ok rk Q h => lc_read ki hL ok rk h⟩
/-! ### a new list as a handle -/
def mNew (m : Rho → M (List D)) : Rho → M Sl := fun ρ cs => (m ρ cs).bind fun ds cs1 => .ok (.h cs1.length) (cs1 ++ [.lst ds])
/-- a reading of a new list serves as data, and as a handle -/
def RdL (X : Cx) (R : XR) (E : XK) (t : TE) (m : Rho → M (List D)) : Prop := ∀ O A ρ cs σ H, Ok X.K O A cs H → RhoOk X.K O A ρ σ H → ∀ Q, PostL X.K R O A H Q E (m ρ cs) → t σ H Q
def RdE (X : Cx) (R : XR) (E : XK) (t : TE) (m : Rho → M Sl) : Prop := ∀ O A ρ cs σ H, Ok X.K O A cs H → RhoOk X.K O A ρ σ H → ∀ Q, Post X.K R O A H Q E (m ρ cs) → t σ H Q
theorem RdL.em {t : TE} {m : Rho → M (List D)} (k : RdL X R E t m) : RdE X R E t (mL m) := fun O A ρ cs σ H ok rk Q h => by
  refine k O A ρ cs σ H ok rk _ (PostX.step (Stp.refl ok) (fun ds cs1 q p A1 H1 s1 _ ok1 => ?_) (PostX.bind h))
  obtain ⟨ok2, sh⟩ := ok1.pop
  exact q _ A1 H1 s1 ok2 sh
theorem RdL.new {t : TE} {m : Rho → M (List D)} (k : RdL X R E t m) : RdE X R E t (mNew m) := fun O A ρ cs σ H ok rk Q h => by
  refine k O A ρ cs σ H ok rk _ (PostX.step (Stp.refl ok) (fun ds cs1 q p A1 H1 s0 s1 ok1 => ?_) (PostX.bind h))
  refine q _ _ H1 s1 ok1 ⟨p, ?_, rfl⟩
  have hl : A1.length = cs1.length := by
    have := ok1.len
    simp at this
    exact this
  rw [← hl]
  simp
theorem LM.new {m : Rho → M (List D)} (h : LM X R E e m) : EM X R E e (mNew m) := by
  obtain ⟨t, p, k⟩ := h
  exact ⟨t, p, RdL.new k⟩
/-- x = [..] on one line -/
theorem sm_setLc (i : Nat) {y : Str} {py spos : Pos} {elt : Expr} {ifs : List Expr} {scope : Scope} {own : List (Str × Nat)} {me m : Rho → M Sl} (hc : X.calm = true) (hN : X.N.Nodup) (hsw : swapsWith (.ListComp elt [⟨tg, iter, ifs, 0⟩] scope pos) (some (.Name y py)) spos.line X.env = pure true)
    (hi : IM X R E tg iter mi) (okb : BlkOk X.N X.env.scope scope own) (hL : ∀ i ∈ L, i ∈ own.map (·.2))
    (hg : ∀ (s : Shared) (H : Hp) (C : Addr) (cl : List (Str × Addr)) (fp : List Addr), GM (X.blk s H scope (compEnvC scope cl C X.env) fp) tg L f)
    (ht : ∀ (s : Shared) (H : Hp) (C : Addr) (cl : List (Str × Addr)) (fp : List Addr), QM (X.blk s H scope (compEnvC scope cl C X.env) fp) R E0' ifs mt)
    (he : ∀ (s : Shared) (H : Hp) (C : Addr) (cl : List (Str × Addr)) (fp : List Addr), EM (X.blk s H scope (compEnvC scope cl C X.env) fp) R E0' elt me)
    (hm : ∀ t, RdL X R E t (mLc mi f mt me (own.map (·.2))) → RdE X R E t m) (hy : X.N[i]? = some y := by rfl) (hyl : X.env.scope.names.lookup y = some .local := by rfl) (hs : ∀ x, foldedSetIterable iter X.env x = pure x := by intro _; rfl) :
    SM X R E (.Assign [.Name y py] (.ListComp elt [⟨tg, iter, ifs, 0⟩] scope pos) spos) (sSet i m) := by
  obtain ⟨wi, pi, ki⟩ := hi
  exact sm_of (ps_setLc (g := tGm X.K L f) (tt := tQm X.K R E0' mt) (te := tEm X.K R E0' me) hc hN hy hyl hsw pi okb (fun s H C cl fp => (hg s H C cl fp).pg) (fun s H C cl fp => (ht s H C cl fp).pe) (fun s H C cl fp => (he s H C cl fp).pe) hs) fun O A ρ cs σ H ok rk De h =>
    set_run (hm _ fun O A ρ cs σ H ok rk Q h => lc_read ki hL ok rk h) ok rk h
/-! ### further assignments -/
def sPar (i j : Nat) (ma mb : Rho → M Sl) : Rho → M Fl := fun ρ cs => (ma ρ cs).bind fun x cs1 => (mb ρ cs1).bind fun y cs2 => .ok (.nx ((ρ.set i (some x)).set j (some y))) cs2
theorem sm_par (i j : Nat) {x y : Str} {px py pt : Pos} {kt k2 : Nat} {pt2 : Pos} (hc : X.calm = true) (hN : X.N.Nodup) (ha : EM X R E a ma) (hb : EM X R E b mb) (hw : swappedStores [.Tuple [.Name x px, .Name y py] kt pt] (.Tuple [a, b] k2 pt2) X.env = pure (some [x, y]))
    (hi : X.N[i]? = some x := by rfl) (hj : X.N[j]? = some y := by rfl) (hij : i ≠ j := by decide) (hx : X.env.scope.names.lookup x = some .local := by rfl) (hy : X.env.scope.names.lookup y = some .local := by rfl)
    (hs1 : starEach [a, b] X.env = (false, eval a X.env) :: starEach [b] X.env := by rfl) (hs2 : starEach [b] X.env = (false, eval b X.env) :: starEach [] X.env := by rfl)
    (hs : swapsWithSole [.Tuple [.Name x px, .Name y py] kt pt] (.Tuple [a, b] k2 pt2) pos.line X.env = pure false := by rfl) :
    SM X R E (.Assign [.Tuple [.Name x px, .Name y py] kt pt] (.Tuple [a, b] k2 pt2) pos) (sPar i j ma mb) := by
  obtain ⟨ta, pa, ka⟩ := ha
  obtain ⟨tb, pb, kb⟩ := hb
  refine sm_of (ps_par hc hN hi hj hij hx hy (pa_cons pa (pa_cons pb pa_nil hs2) hs1) hw hs) fun O A ρ cs σ H ok rk De h => ?_
  refine ka O A ρ cs σ H ok rk _ (PostX.step (Stp.refl ok) (fun sx cs1 q x A1 H1 s1 ok1 r1 => ?_) (PostX.bind h))
  refine kb O A1 ρ cs1 σ H1 ok1 (rk.step s1) _ (PostX.step s1 (fun sy cs2 q2 y A2 H2 s2 ok2 r2 => ?_) (PostX.bind q))
  exact ⟨x, y, rfl, q2 _ A2 H2 (s1.trans s2) ok2 (((rk.step (s1.trans s2)).set (r1.step s2)).set r2)⟩
def sPar3 (i j l : Nat) (ma mb mc : Rho → M Sl) : Rho → M Fl := fun ρ cs => (ma ρ cs).bind fun x cs1 => (mb ρ cs1).bind fun y cs2 => (mc ρ cs2).bind fun z cs3 => .ok (.nx (((ρ.set i (some x)).set j (some y)).set l (some z))) cs3
/-- targets = e -/
def sAsg (ma : Rho → M Sl) (f : D → Rho → Option Rho) : Rho → M Fl := fun ρ cs => (ma ρ cs).bind fun x cs1 => match x with
  | .d d => match f d ρ with
    | some ρ1 => .ok (.nx ρ1) cs1
    | none => .bad
  | _ => .bad
theorem sm_asg (he : EM X R E e ma) (hg : GM X tg L f) (hs : swapsWithSole [tg] e pos.line X.env = pure false := by rfl) (hw : swappedStores [tg] e X.env = pure none := by rfl) (h1 : (assignEach [tg] X.env).map (·.2) = [assign tg X.env] := by rfl) : SM X R E (.Assign [tg] e pos) (sAsg ma f) := by
  obtain ⟨t, p, k⟩ := he
  obtain ⟨g, pg, kg⟩ := hg
  refine sm_of (ps_asg p pg hs hw h1) fun O A ρ cs σ H ok rk De h => ?_
  refine k O A ρ cs σ H ok rk _ (PostX.step (Stp.refl ok) (fun sx cs1 q x A1 H1 s1 ok1 r1 => ?_) (PostX.bind h))
  cases sx with
  | h j => exact (show False from q).elim
  | s ns => exact (show False from q).elim
  | d d =>
    replace q : PostS X.K R O A H De E (match f d ρ with
      | some ρ1 => .ok (.nx ρ1) cs1
      | none => .bad) := q
    split at q
    · rename_i ρ1 e1
      exact kg O A1 cs1 ρ σ H1 x _ ρ1 ok1 (rk.step s1) r1 e1 _ fun σ' rk' _ _ => q σ' A1 H1 s1 ok1 rk'
    · exact q.elim
/-- e; -/
def sDrop (ma : Rho → M Sl) : Rho → M Fl := fun ρ cs => (ma ρ cs).bind fun _ cs1 => .ok (.nx ρ) cs1
theorem sm_drop (he : EM X R E e ma) (hs : swapsWith e none pos.line X.env = pure false := by rfl) : SM X R E (.Expr e pos) (sDrop ma) := by
  obtain ⟨t, p, k⟩ := he
  refine sm_of (ps_expr p hs) fun O A ρ cs σ H ok rk De h => ?_
  refine k O A ρ cs σ H ok rk _ (PostX.step (Stp.refl ok) (fun sx cs1 q x A1 H1 s1 ok1 r1 => ?_) (PostX.bind h))
  exact q σ A1 H1 s1 ok1 (rk.step s1)
end
end Mir
set_option maxHeartbeats 2000000
/-! what is never reached; defs that return a new list; defs by their names -/
namespace Mir
open PySem PySem.Spec PyProof.Rows L2

def mDead {α : Type} : Rho → M α := fun _ _ => .bad
section
variable {X : Cx} {R : XR} {E : XK}
theorem em_dead {e : Expr} : EM X R E e mDead := ⟨fun _ _ _ => False, ⟨fun _ _ _ _ _ _ h => h.elim⟩, fun _ _ _ _ _ _ _ _ _ h => h⟩
theorem sm_dead {st : Stmt} : SM X R E st mDead := ⟨fun _ _ _ => False, ⟨fun _ _ _ _ _ _ h => h.elim⟩, fun _ _ _ _ _ _ _ _ _ h => h⟩
theorem bm_dead {st : List Stmt} : BM X R E st mDead := ⟨fun _ _ _ => False, ⟨fun _ _ _ _ _ _ h => h.elim⟩, fun _ _ _ _ _ _ _ _ _ h => h⟩
theorem em_dict0 {pos : Pos} : EM X R E (.Dict [] [] pos) (mC (.dict [])) := em_of pe_dnewK fun O A ρ cs σ H ok rk Q h p hp => by
  have st := Stp.new (o := .dK []) ok hp
  exact h _ A _ st (ok.new hp) (.dic (hid_some.mpr ⟨ok.ne hp, upd_same⟩) .nil)
end

/-! ### defs that return a new list -/
def PostRL (K : PySem.W.Frag) (R : XR) (O A : List Addr) (H : Hp) (Q : VK) (E : XK) : Res (List D) → Prop
  | .ok ds cs => ∀ p H', Stp A H A H' → Stp A H (A ++ [p]) H' → Ok K O (A ++ [p]) (cs ++ [.lst ds]) H' → Q (.ref p) H'
  | .exc x cs => ∀ H' cls dx, Stp A H A H' → Ok K O A cs H' → R x cls dx (hid (O ++ A) H') → E cls dx H'
  | .bad => False
def spL (K : PySem.W.Frag) (R : XR) (n : Nat) (m : List Sl → M (List D)) : Sp := fun vs H Q E => ∃ O A cs sls, Ok K O A cs H ∧ ShSs K O A H vs sls ∧ sls.length = n ∧ PostRL K R O A H Q E (m sls cs)
theorem PostRL.of {K : PySem.W.Frag} {R : XR} {O A A1 : List Addr} {H H1 : Hp} {Q : VK} {E : XK} (s : Stp A H A1 H1) : ∀ {r : Res (List D)}, PostL K R O A H Q E r → PostRL K R O A1 H1 Q E r
  | .ok ds cs, h => fun p H' s1 s2 ok => h p A1 H' (s.trans s1) (s.trans s2) ok
  | .exc x cs, h => fun H' cls dx s1 ok r => h A1 H' cls dx (s.trans s1) ok r
  | .bad, h => h
def finL (n : Nat) : Res Fl → Res (List D)
  | .ok (.rt (.h k)) cs => if k < n then .bad else match cs[k]? with
    | some (.lst ds) => .ok ds (cs.take n)
    | none => .bad
  | .ok _ _ => .bad
  | .exc x cs => .exc x (cs.take n)
  | .bad => .bad
def mDefL (N : Nat) (mb : Rho → M Fl) : List Sl → M (List D) := fun sls cs => finL cs.length (mb (sls.map some ++ List.replicate (N - sls.length) none) cs)
section
variable {K : PySem.W.Frag} {R : XR} {O A A' : List Addr} {cs cs' : List HC} {H H' : Hp}
theorem Stp.back1 (s : Stp A H A' H') {B : List Addr} (eB : A' = A ++ B) {a : Addr} (ha : a ∈ B) : Stp A H (A ++ [a]) H' := by
  obtain ⟨⟨C, eC, fC⟩, k, l⟩ := s
  have e : C = B := List.append_cancel_left (eC.symm.trans eB)
  subst e
  exact ⟨⟨[a], rfl, fun b hb => by
    have e : b = a := by simpa using hb
    rw [e]
    exact fC a ha⟩, k, l⟩
theorem Ok.back1 {B : List Addr} (ok : Ok K O A' cs' H') (eB : A' = A ++ B) (hn : A.length = cs.length) {k : Nat} {a : Addr} {ds : List D} (hk : ¬ k < cs.length) (ea : A'[k]? = some a) (ed : cs'[k]? = some (.lst ds)) : a ∈ B ∧ Ok K O (A ++ [a]) (cs'.take cs.length ++ [.lst ds]) H' := by
  have haB : a ∈ B := by
    rw [eB, List.getElem?_append_right (by omega)] at ea
    exact List.mem_of_getElem? ea
  have nd := ok.nd
  rw [eB] at nd
  have nd' := List.nodup_append.mp nd
  have sub : ∀ x, x ∈ A ++ [a] → x ∈ A' := fun x hx => by
    rw [eB]
    rcases List.mem_append.mp hx with z | z
    · exact List.mem_append_left _ z
    · have e : x = a := by simpa using z
      rw [e]
      exact List.mem_append_right _ haB
  have less : Same (hid (O ++ A') H') (hid (O ++ (A ++ [a])) H') := fun b o h => by
    obtain ⟨hb, e⟩ := hid_some.mp h
    refine hid_some.mpr ⟨fun z => hb ?_, e⟩
    rcases List.mem_append.mp z with z | z
    · exact List.mem_append_left _ z
    · exact List.mem_append_right _ (sub _ z)
  have hl : cs.length ≤ cs'.length := by
    rw [← ok.len, eB, List.length_append]
    omega
  have ht : (cs'.take cs.length).length = A.length := by
    rw [List.length_take]
    omega
  refine ⟨haB, fun o ho => ⟨(ok.out o ho).1, fun z => (ok.out o ho).2 (sub _ z)⟩, by rw [List.length_append, List.length_append, ht]; rfl, ?_, fun j b c e1 e2 => ?_⟩
  · refine List.nodup_append.mpr ⟨nd'.1, by simp, fun x hx y hy => ?_⟩
    have e : y = a := by simpa using hy
    subst e
    exact nd'.2.2 x hx y haB
  · by_cases hj : j < A.length
    · rw [List.getElem?_append_left hj] at e1
      rw [List.getElem?_append_left (by omega), List.getElem?_take, if_pos (by omega)] at e2
      exact (ok.at j b c (by rw [eB, List.getElem?_append_left hj]; exact e1) e2).mono less
    · rw [List.getElem?_append_right (by omega)] at e1
      rw [List.getElem?_append_right (by omega), ht] at e2
      have hk0 : j - A.length = 0 := by
        have := (List.getElem?_eq_some_iff.mp e1).1
        simp at this
        omega
      rw [hk0] at e1 e2
      cases e1
      cases e2
      exact (ok.at k a _ ea ed).mono less
theorem finL_ok {Q : VK} {E : XK} (hR : RMono R) (hn : A.length = cs.length) {r : Res Fl} (h : PostRL K R O A H Q E (finL cs.length r)) : PostS K R O A H { nx := fun _ H' => Q .non H', rt := Q } E r := by
  cases r with
  | bad => exact h
  | exc x cs' => exact fun A' H' cls dx s ok r => h H' cls dx s.back (ok.back s hn) (hR _ _ _ _ _ s.less r)
  | ok f cs' =>
    cases f with
    | nx ρ => exact (show False from h).elim
    | bk ρ => exact (show False from h).elim
    | ct ρ => exact (show False from h).elim
    | rt sl =>
      cases sl with
      | d d => exact (show False from h).elim
      | s ns => exact (show False from h).elim
      | h k =>
        intro v A' H' s ok r
        simp only [finL] at h
        obtain ⟨a, ea, rfl⟩ := r
        obtain ⟨⟨B, eB, fB⟩, _, _⟩ := id s
        split at h
        · exact h.elim
        · rename_i hk
          split at h
          · rename_i ds ed
            obtain ⟨haB, ok1⟩ := ok.back1 eB hn hk ea ed
            exact h a H' s.back (s.back1 eB haB) ok1
          · exact h.elim
end
section
variable {P : Program} {w : World} {K : PySem.W.Frag} {mg : Str → Option Value} {base : Heap} {R : XR}
theorem def_okL {x qual : Str} {st : Stmt} {f : Addr} {fd : FuncData} {N ps : List Str} {k : Nat} {mb : Rho → M Fl} (hR : RMono R) (F : Fun K x qual st f fd) (S : FnScope N ps (defScope st))
    (hb : ∀ (cdv : Value) (A : Around) (outer : List Env) (s : Shared) (H : Hp) (E : XK), Room k (A.deeper (envOfC qual (defScope st) s.heap.objs.size f cdv)) → BM (cxOf CX0 P w K mg base N qual (defScope st) f cdv A outer s H E).nox R E (defBody st) mb) :
    FnOk P w K mg base CX0 (k + 1) f fd ps (spL K R ps.length (mDefL N.length mb)) := by
  refine F.ok S (fun vs H Q E h => ?_) (fun cdv A outer s H vs Q E hr h => ?_)
  · obtain ⟨O, A, cs, sls, _, hs, hn, _⟩ := h
    exact hs.length.trans hn
  · obtain ⟨O, A', cs, sls, ok, hs, hn, h⟩ := h
    obtain ⟨t, p, kk⟩ := hb cdv A outer s H E hr
    exact ⟨t, p, kk O A' _ cs _ H ok (rho_start (ps := ps) hs) _ (finL_ok hR ok.len h)⟩

/-! ### defs by their names -/
structure At (K : PySem.W.Frag) (mg : Str → Option Value) (x : Str) (st : Stmt) (ps : List Str) : Prop where
  ex : ∃ f fd, Fun K x x st f fd ∧ mg x = some (.ref f) ∧ Binds K fd ps []
structure Df (P : Program) (w : World) (K : PySem.W.Frag) (mg : Str → Option Value) (base : Heap) (R : XR) (x : Str) (k n : Nat) (m : List Sl → M Sl) : Prop where
  ex : ∃ f fd ps, FnOk P w K mg base CX0 k f fd ps (spM K R n m) ∧ mg x = some (.ref f) ∧ PySem.W.keepIn K (.ref f) = true ∧ Binds K fd ps []
structure DfL (P : Program) (w : World) (K : PySem.W.Frag) (mg : Str → Option Value) (base : Heap) (R : XR) (x : Str) (k n : Nat) (m : List Sl → M (List D)) : Prop where
  ex : ∃ f fd ps, FnOk P w K mg base CX0 k f fd ps (spL K R n m) ∧ mg x = some (.ref f) ∧ PySem.W.keepIn K (.ref f) = true ∧ Binds K fd ps []
theorem Df.mk' {x : Str} {st : Stmt} {N ps : List Str} {k : Nat} {mb : Rho → M Fl} (hR : RMono R) (a : At K mg x st ps) (S : FnScope N ps (defScope st))
    (hb : ∀ (f : Addr) (cdv : Value) (A : Around) (outer : List Env) (s : Shared) (H : Hp) (E : XK), Room k (A.deeper (envOfC x (defScope st) s.heap.objs.size f cdv)) → BM (cxOf CX0 P w K mg base N x (defScope st) f cdv A outer s H E).nox R E (defBody st) mb) :
    Df P w K mg base R x (k + 1) ps.length (mDef N.length mb) := by
  obtain ⟨f, fd, F, hm, hB⟩ := a
  exact ⟨f, fd, ps, def_ok hR F S (hb f), hm, F.kp, hB⟩
theorem DfL.mk' {x : Str} {st : Stmt} {N ps : List Str} {k : Nat} {mb : Rho → M Fl} (hR : RMono R) (a : At K mg x st ps) (S : FnScope N ps (defScope st))
    (hb : ∀ (f : Addr) (cdv : Value) (A : Around) (outer : List Env) (s : Shared) (H : Hp) (E : XK), Room k (A.deeper (envOfC x (defScope st) s.heap.objs.size f cdv)) → BM (cxOf CX0 P w K mg base N x (defScope st) f cdv A outer s H E).nox R E (defBody st) mb) :
    DfL P w K mg base R x (k + 1) ps.length (mDefL N.length mb) := by
  obtain ⟨f, fd, F, hm, hB⟩ := a
  exact ⟨f, fd, ps, def_okL hR F S (hb f), hm, F.kp, hB⟩
end
section
variable {X : Cx} {R : XR} {E : XK} {pos : Pos} {e : Expr} {es : List Expr} {ms : Rho → M (List Sl)} {k n : Nat} {m : List Sl → M Sl} {ml : List Sl → M (List D)}
theorem never {X : Cx} {E : XK} : Passes CX0 X E := fun _ _ _ _ _ _ _ h => h.elim
theorem em_callD {x : Str} {p : Pos} (F : Df X.prog X.w X.K X.mg X.base R x k n m) (hr : Room k X.A) (hg : Gl X x) (ha : AM X R E (e :: es) ms)
    (hd : (x == ("__debug__" : Str)) = false := by decide) (hst : starEach (e :: es) X.env = (false, eval e X.env) :: starEach es X.env := by rfl) (hs : (backTo pos (starEach es X.env)).any (·.1) = false := by rfl) :
    EM X R E (.Call (.Name x p) (e :: es) [] pos) (mOwn n m ms) := by
  obtain ⟨f, fd, ps, F, hm, hk, hb⟩ := F
  exact em_call F hr hg hm hk hb never ha hd hst hs
def mOwnL (n : Nat) (m : List Sl → M (List D)) (ms : Rho → M (List Sl)) : Rho → M (List D) := fun ρ cs => (ms ρ cs).bind fun xs cs1 => if xs.length = n then m xs cs1 else .bad
theorem lm_callD {x : Str} {p : Pos} (F : DfL X.prog X.w X.K X.mg X.base R x k n ml) (hr : Room k X.A) (hg : Gl X x) (ha : AM X R E (e :: es) ms)
    (hd : (x == ("__debug__" : Str)) = false := by decide) (hst : starEach (e :: es) X.env = (false, eval e X.env) :: starEach es X.env := by rfl) (hs : (backTo pos (starEach es X.env)).any (·.1) = false := by rfl) :
    LM X R E (.Call (.Name x p) (e :: es) [] pos) (mOwnL n ml ms) := by
  obtain ⟨f, fd, ps, F, hm, hk, hb⟩ := F
  obtain ⟨t, pt, kk⟩ := ha
  refine ⟨_, pe_call (E := E) F hr hg hm hk hb .nil never pt hd hst hs, fun O A ρ cs σ H ok rk Q h => ?_⟩
  refine kk O A ρ cs σ H ok rk _ (PostX.step (Stp.refl ok) (fun sxs cs1 q vs A1 H1 s1 ok1 r1 => ?_) (PostX.bind h))
  split at q
  · rename_i hn
    exact ⟨O, A1, cs1, sxs, ok1, by rw [List.append_nil]; exact r1, hn, PostRL.of s1 q⟩
  · exact q.elim
end
/-! ### a, b = x, y through a tuple (one of the names is a cell) -/
section
variable {X : Cx} {R : XR} {E : XK} {pos : Pos} {a b : Expr} {ma mb : Rho → M Sl}
theorem sm_parC (i j : Nat) {x y : Str} {px py pt : Pos} {kt k2 : Nat} {pt2 : Pos} (hc : X.calm = true) (hN : X.N.Nodup) (ha : EM X R E a ma) (hb : EM X R E b mb)
    (hi : X.N[i]? = some x := by rfl) (hj : X.N[j]? = some y := by rfl) (hx : Loc X.env.scope x := by first | exact Or.inl rfl | exact Or.inr rfl) (hy : Loc X.env.scope y := by first | exact Or.inl rfl | exact Or.inr rfl)
    (fx : X.fn x = true ∨ X.env.scope.names.lookup x = some .local := by first | exact .inl rfl | exact .inr rfl | assumption) (fy : X.fn y = true ∨ X.env.scope.names.lookup y = some .local := by first | exact .inl rfl | exact .inr rfl | assumption)
    (hs1 : starEach [a, b] X.env = (false, eval a X.env) :: starEach [b] X.env := by rfl) (hs2 : starEach [b] X.env = (false, eval b X.env) :: starEach [] X.env := by rfl)
    (hs : swapsWithSole [.Tuple [.Name x px, .Name y py] kt pt] (.Tuple [a, b] k2 pt2) pos.line X.env = pure false := by rfl) (hw : swappedStores [.Tuple [.Name x px, .Name y py] kt pt] (.Tuple [a, b] k2 pt2) X.env = pure none := by rfl)
    (h1 : (assignEach [.Tuple [.Name x px, .Name y py] kt pt] X.env).map (·.2) = [assign (.Tuple [.Name x px, .Name y py] kt pt) X.env] := by rfl)
    (hn : (assignEach [.Name x px, .Name y py] X.env).length = 2 := by rfl) (hst : (assignEach [.Name x px, .Name y py] X.env).findIdx? (·.1) = none := by rfl)
    (ht1 : (assignEach [.Name x px, .Name y py] X.env).map (·.2) = assign (.Name x px) X.env :: (assignEach [.Name y py] X.env).map (·.2) := by rfl) (ht2 : (assignEach [.Name y py] X.env).map (·.2) = assign (.Name y py) X.env :: (assignEach [] X.env).map (·.2) := by rfl) :
    SM X R E (.Assign [.Tuple [.Name x px, .Name y py] kt pt] (.Tuple [a, b] k2 pt2) pos) (sPar i j ma mb) := by
  obtain ⟨ta, pa, ka⟩ := ha
  obtain ⟨tb, pb, kb⟩ := hb
  refine sm_of (ps_asg (pe_tup (pa_cons pa (pa_cons pb pa_nil hs2) hs1)) (pg_tup hc (pgs_cons (pg_name hN hi hx fx) (pgs_cons (pg_name hN hj hy fy) pgs_nil ht2) ht1) hn hst) hs hw h1) fun O A ρ cs σ H ok rk De h => ?_
  refine ka O A ρ cs σ H ok rk _ (PostX.step (Stp.refl ok) (fun sx cs1 q x A1 H1 s1 ok1 r1 => ?_) (PostX.bind h))
  refine kb O A1 ρ cs1 σ H1 ok1 (rk.step s1) _ (PostX.step s1 (fun sy cs2 q2 y A2 H2 s2 ok2 r2 => ?_) (PostX.bind q))
  refine ⟨by rw [sizeLine_eq]; simp, fun p hp => ?_⟩
  have s3 := Stp.new (o := .tup [x, y]) ok2 hp
  have s12 := s1.trans s2
  refine ⟨p, [x, y], rfl, .inl (.inl upd_same), rfl, x, [y], rfl, y, [], rfl, rfl, ?_⟩
  exact q2 _ A2 _ (s12.trans s3) (ok2.new hp) (((rk.step (s12.trans s3)).set ((r1.step s2).step s3)).set (r2.step s3))
end
end Mir
set_option maxHeartbeats 2000000
/-! the law's own end -/
namespace Mir
open PySem PySem.Spec PyProof.Rows L2
/-- nothing is let out -/
def R0 : XR := fun _ _ _ _ => False
theorem r0 : RMono R0 := fun _ _ _ _ _ _ h => h
def spLaw (K : PySem.W.Frag) : Sp := fun vs H Q _ => ∃ (a : Addr) (ns : List Int), vs = [.ref a] ∧ SqL K H a (ns.map V.int) ∧ ns.length ≤ 63 ∧ ∀ H', Q (.bl true) H'
theorem hid_nil (H : Hp) : hid [] H = H := by
  funext b
  simp [hid]
theorem law_end {P : Program} {w : World} {K : PySem.W.Frag} {mg : Str → Option Value} {base : Heap} {k : Nat} {f : Addr} {fd : FuncData} {ps : List Str} {m : List Sl → M Sl} (F : FnOk P w K mg base CX0 k f fd ps (spM K R0 1 m))
    (hm : ∀ ns : List Int, ns.length ≤ 63 → ∃ cs, m [.s ns] [] = .ok (.d (.bool true)) cs) : FnOk P w K mg base CX0 k f fd ps (spLaw K) := by
  refine F.imp fun vs H Q E h => ?_
  obtain ⟨a, ns, rfl, hS, hl, q⟩ := h
  obtain ⟨cs, e⟩ := hm ns hl
  refine ⟨[], [], [], [.s ns], ⟨fun o ho => absurd ho (List.not_mem_nil), rfl, List.nodup_nil, fun k a c e1 _ => by simp at e1⟩, .cons ⟨a, rfl, ?_⟩ .nil, rfl, ?_⟩
  · rw [List.nil_append, hid_nil]
    exact hS
  · rw [e]
    intro v H' _ _ r
    cases r
    exact q H'
theorem At.of {K : PySem.W.Frag} {h : Heap} {mg : Str → Option Value} {x : Str} {st : Stmt} {f : Addr} {oc : Value} {od an : Option Addr} {osl : Array (Option Value)} {kV doc pm cdv ct : Value} {ps : List Str} (X : K.In h) (G : h.Ns mainGlobals mg)
    (a : PySem.W.nsIn K mainGlobals x = some (some (.ref f))) (l : K.lookup f = some ⟨oc, od, .func (PySem.W.fnOf x x (defArgs st) (defBody st) (defScope st) .none kV doc pm an cdv ct), osl⟩) (c : PySem.W.codeIn K cdv x = true) (k : PySem.W.keepIn K (.ref f) = true)
    (b : ∀ (kV doc pm : Value) (an : Option Addr) (cdv ct : Value) (us : List Value), us.length = ps.length → bindArgs (PySem.W.fnOf x x (defArgs st) (defBody st) (defScope st) .none kV doc pm an cdv ct) ⟨us, []⟩ = pure (ps.zip us)) : At K mg x st ps :=
  ⟨f, _, fun_mk l c k, PySem.W.mg_of X G a, (fun_mk l c k).binds b⟩
theorem Int.of {K : PySem.W.Frag} {h : Heap} {mg : Str → Option Value} {x : Str} {i : Int} {t : Tok} (X : K.In h) (G : h.Ns mainGlobals mg) (a : PySem.W.nsIn K mainGlobals x = some (some (.int i t))) : ∃ t, mg x = some (.int i t) := ⟨t, PySem.W.mg_of X G a⟩
end Mir
set_option maxHeartbeats 2000000
/-! a handle lent to a def that reads it alone -/
namespace Mir
open PySem PySem.Spec PyProof.Rows L2
mutual
/-- no list, no dict anywhere in it -/
def noL : D → Bool
  | .list _ => false
  | .dict _ => false
  | .tuple ds => noLA ds
  | _ => true
def noLA : List D → Bool
  | [] => true
  | d :: r => noL d && noLA r
end
def noC : HC → Bool
  | .lst ds => noLA ds
def low (k : Nat) (ds : List D) : Sl → Sl
  | .h j => if j = k then .d (.list ds) else if j < k then .h j else .h (j - 1)
  | x => x
def lendM (p : Nat) (m : List Sl → M Sl) : List Sl → M Sl := fun sls cs => match sls[p]? with
  | some (.h k) => match cs[k]? with
    | some (.lst ds) => match m (sls.map (low k ds)) (cs.eraseIdx k) with
      | .ok (.d d) cs' => if noL d = true ∧ cs'.all noC = true then .ok (.d d) (cs'.insertIdx k (.lst ds)) else .bad
      | _ => .bad
    | none => .bad
  | _ => m sls cs
section
variable {K : PySem.W.Frag} {O A A1 : List Addr} {H : Hp} {a : Addr} {vs0 : List V}
theorem hid_tight {b : Addr} {o : HO} (hA : ∀ b ∈ A, b = a ∨ b ∈ A1) (ha : H a = some (.lst vs0)) (ho : ∀ xs, o ≠ .lst xs) (h : hid (O ++ A1) H b = some o) : hid (O ++ A) H b = some o := by
  obtain ⟨hb, e⟩ := hid_some.mp h
  refine hid_some.mpr ⟨fun z => hb ?_, e⟩
  rcases List.mem_append.mp z with z | z
  · exact List.mem_append_left _ z
  · rcases hA b z with z | z
    · subst z
      rw [ha] at e
      cases e
      exact absurd rfl (ho _)
    · exact List.mem_append_right _ z
mutual
theorem Sh.tight (hA : ∀ b ∈ A, b = a ∨ b ∈ A1) (ha : H a = some (.lst vs0)) : ∀ {d : D} {v : V}, noL d = true → Sh K (hid (O ++ A1) H) v d → Sh K (hid (O ++ A) H) v d
  | _, _, _, .non => .non
  | _, _, _, .bl b => .bl b
  | _, _, _, .int i => .int i
  | _, _, _, .str x => .str x
  | _, _, c, .lst h t => by simp [noL] at c
  | _, _, c, .tup h t => .tup (by
      rcases h with (h | ⟨o, h⟩) | h
      · exact .inl (.inl (hid_tight hA ha (fun xs z => by cases z) h))
      · exact .inl (.inr ⟨o, hid_tight hA ha (fun xs z => by cases z) h⟩)
      · exact .inr h) (ShA.tight hA ha (by simpa [noL] using c) t)
  | _, _, c, .dic h t => by simp [noL] at c
theorem ShA.tight (hA : ∀ b ∈ A, b = a ∨ b ∈ A1) (ha : H a = some (.lst vs0)) : ∀ {ds : List D} {vs : List V}, noLA ds = true → ShA K (hid (O ++ A1) H) vs ds → ShA K (hid (O ++ A) H) vs ds
  | _, _, _, .nil => .nil
  | _, _, c, .cons h t => by
    have c' := (Bool.and_eq_true _ _).mp (by simpa [noLA] using c)
    exact .cons (Sh.tight hA ha c'.1 h) (ShA.tight hA ha c'.2 t)
end
theorem ShSs.at {vs : List V} {sls : List Sl} (h : ShSs K O A H vs sls) : ∀ {p : Nat} {sl : Sl}, sls[p]? = some sl → ∃ v, ShS K O A H v sl := by
  induction h with
  | nil => intro p sl e; simp at e
  | cons h t ih =>
    intro p sl e
    cases p with
    | zero =>
      simp at e
      subst e
      exact ⟨_, h⟩
    | succ p => exact ih (by simpa using e)
end
theorem spM.lend {K : PySem.W.Frag} {R : XR} {n p : Nat} {m : List Sl → M Sl} {vs : List V} {H : Hp} {Q : VK} {E : XK} (h : spM K R n (lendM p m) vs H Q E) : spM K R n m vs H Q E := by
  obtain ⟨O, A, cs, sls, ok, hs, hn, h⟩ := h
  unfold lendM at h
  split at h
  · rename_i k ek
    split at h
    · rename_i ds ed
      obtain ⟨v0, a, ea, rfl⟩ := hs.at ek
      have hkA : k < A.length := (List.getElem?_eq_some_iff.mp ea).1
      have hkC : k < cs.length := ok.len ▸ hkA
      obtain ⟨vs0, hl, hsh⟩ := ok.at k a _ ea ed
      have haA : a ∈ A := List.mem_of_getElem? ea
      have hA : ∀ b ∈ A, b = a ∨ b ∈ A.eraseIdx k := fun b hb => by
        obtain ⟨j, hj, e⟩ := List.getElem_of_mem hb
        by_cases hjk : j = k
        · subst hjk
          exact .inl (by
            rw [List.getElem?_eq_getElem hkA] at ea
            exact e.symm.trans (Option.some.inj ea))
        · refine .inr ?_
          by_cases hlt : j < k
          · have : (A.eraseIdx k)[j]? = some b := by rw [List.getElem?_eraseIdx, if_pos hlt, List.getElem?_eq_getElem hj, e]
            exact List.mem_of_getElem? this
          · have : (A.eraseIdx k)[j - 1]? = some b := by
              rw [List.getElem?_eraseIdx, if_neg (by omega), show j - 1 + 1 = j by omega, List.getElem?_eq_getElem hj, e]
            exact List.mem_of_getElem? this
      have sub : ∀ b ∈ A.eraseIdx k, b ∈ A := fun b hb => List.mem_of_mem_eraseIdx hb
      have hna : a ∉ A.eraseIdx k := fun z => by
        obtain ⟨j, hj, e⟩ := List.getElem_of_mem z
        have e1 : (A.eraseIdx k)[j]? = some a := by rw [List.getElem?_eq_getElem hj, e]
        have inj : ∀ i, A[i]? = some a → i = k := fun i ei => by
          obtain ⟨l1, q1⟩ := List.getElem?_eq_some_iff.mp ei
          obtain ⟨l2, q2⟩ := List.getElem?_eq_some_iff.mp ea
          exact (List.getElem_inj ok.nd).mp (q1.trans q2.symm)
        rw [List.getElem?_eraseIdx] at e1
        split at e1
        · have := inj _ e1
          omega
        · have := inj _ e1
          omega
      have less : Same (hid (O ++ A) H) (hid (O ++ A.eraseIdx k) H) := fun b o q => by
        obtain ⟨hb, e⟩ := hid_some.mp q
        refine hid_some.mpr ⟨fun z => hb ?_, e⟩
        rcases List.mem_append.mp z with z | z
        · exact List.mem_append_left _ z
        · exact List.mem_append_right _ (sub b z)
      have ok1 : Ok K O (A.eraseIdx k) (cs.eraseIdx k) H := by
        refine ⟨fun o ho => ⟨(ok.out o ho).1, fun z => (ok.out o ho).2 (sub o z)⟩, ?_, ok.nd.sublist (List.eraseIdx_sublist A k), fun j b c e1 e2 => ?_⟩
        · rw [List.length_eraseIdx, List.length_eraseIdx, ok.len]
        · rw [List.getElem?_eraseIdx] at e1 e2
          split at e1
          · rename_i hj
            rw [if_pos hj] at e2
            exact (ok.at j b c e1 e2).mono less
          · rename_i hj
            rw [if_neg hj] at e2
            exact (ok.at (j + 1) b c e1 e2).mono less
      have lowS : ∀ v sl, ShS K O A H v sl → ShS K O (A.eraseIdx k) H v (low k ds sl) := fun v sl r => by
        cases sl with
        | d d => exact Sh.mono less r
        | s ns =>
          obtain ⟨b, e, r⟩ := r
          exact ⟨b, e, less.seq r⟩
        | h j =>
          obtain ⟨b, eb, rfl⟩ := r
          show ShS K O (A.eraseIdx k) H (.ref b) (if j = k then .d (.list ds) else if j < k then .h j else .h (j - 1))
          by_cases hj : j = k
          · subst hj
            rw [if_pos rfl]
            rw [ea] at eb
            cases eb
            refine Sh.lst (hid_some.mpr ⟨fun z => ?_, hl⟩) (hsh.mono less)
            rcases List.mem_append.mp z with z | z
            · exact (ok.out _ z).2 haA
            · exact hna z
          · rw [if_neg hj]
            by_cases hlt : j < k
            · rw [if_pos hlt]
              exact ⟨b, by rw [List.getElem?_eraseIdx, if_pos hlt]; exact eb, rfl⟩
            · rw [if_neg hlt]
              exact ⟨b, by rw [List.getElem?_eraseIdx, if_neg (by omega), show j - 1 + 1 = j by omega]; exact eb, rfl⟩
      have lowSs : ∀ {vs : List V} {sls : List Sl}, ShSs K O A H vs sls → ShSs K O (A.eraseIdx k) H vs (sls.map (low k ds)) := by
        intro vs sls hs
        induction hs with
        | nil => exact .nil
        | cons h t ih => exact .cons (lowS _ _ h) ih
      refine ⟨O, A.eraseIdx k, cs.eraseIdx k, sls.map (low k ds), ok1, lowSs hs, by rw [List.length_map]; exact hn, ?_⟩
      split at h
      · rename_i d cs' em
        rw [em]
        split at h
        · rename_i hc
          intro v H' s' ok' r'
          have keepa : H' a = some (.lst vs0) := s'.keep a _ hna hl
          have st : Stp A H A H' := ⟨⟨[], by simp, by simp⟩, fun b o hb e => s'.keep b o (fun z => hb (sub b z)) e, fun b hb => by
            rcases hA b hb with z | z
            · rw [z, keepa]
              exact fun z => by cases z
            · exact s'.live b z⟩
          have lenC : cs'.length + 1 = A.length := by
            rw [← ok'.len, List.length_eraseIdx, if_pos hkA]
            omega
          refine h v H' st ⟨fun o ho => ⟨(ok'.out o ho).1, (ok.out o ho).2⟩, ?_, ok.nd, fun j b c e1 e2 => ?_⟩ (Sh.tight hA keepa hc.1 r')
          · rw [List.length_insertIdx, if_pos (by omega)]
            omega
          · have tight : ∀ i, (A.eraseIdx k)[i]? = some b → cs'[i]? = some c → HcAt K (hid (O ++ A) H') H' b c := fun i q1 q2 => by
              have := ok'.at i b c q1 q2
              have hcc : noC c = true := List.all_eq_true.mp hc.2 c (List.mem_of_getElem? q2)
              cases c with
              | lst es =>
                obtain ⟨ws, w1, w2⟩ := this
                exact ⟨ws, w1, ShA.tight hA keepa hcc w2⟩
            rw [List.getElem?_insertIdx] at e2
            by_cases h1 : j < k
            · rw [if_pos h1] at e2
              exact tight j (by rw [List.getElem?_eraseIdx, if_pos h1]; exact e1) e2
            · rw [if_neg h1] at e2
              by_cases h2 : j = k
              · rw [if_pos h2, if_pos (by omega)] at e2
                cases e2
                subst h2
                rw [ea] at e1
                cases e1
                exact ⟨vs0, keepa, hsh.mono st.same⟩
              · rw [if_neg h2] at e2
                exact tight (j - 1) (by rw [List.getElem?_eraseIdx, if_neg (by omega), show j - 1 + 1 = j by omega]; exact e1) e2
        · exact h.elim
      · exact h.elim
    · exact h.elim
  · exact ⟨O, A, cs, sls, ok, hs, hn, h⟩
theorem Df.lend {P : Program} {w : World} {K : PySem.W.Frag} {mg : Str → Option Value} {base : Heap} {R : XR} {x : Str} {k n : Nat} {m : List Sl → M Sl} (p : Nat) (h : Df P w K mg base R x k n m) : Df P w K mg base R x k n (lendM p m) := by
  obtain ⟨f, fd, ps, F, r⟩ := h
  exact ⟨f, fd, ps, F.imp fun vs H Q E h => spM.lend h, r⟩
end Mir
set_option maxHeartbeats 2000000
/-! what a mirror gives, told from behind -/
namespace Mir
open PySem PySem.Spec PyProof.Rows L2
def Wp {α : Type} (r : Res α) (P : α → List HC → Prop) : Prop := match r with
  | .ok a cs => P a cs
  | _ => False
section
variable {α β : Type} {P Q : α → List HC → Prop} {cs : List HC} {ρ : Rho}
theorem wp_ok {a : α} (h : P a cs) : Wp (.ok a cs) P := h
theorem wp_is {r : Res α} {a : α} (e : r = .ok a cs) (h : P a cs) : Wp r P := e ▸ h
theorem wp_bind {r : Res α} {f : α → M β} {P : β → List HC → Prop} (h : Wp r fun a cs => Wp (f a cs) P) : Wp (r.bind f) P := by
  cases r with
  | ok a cs => exact h
  | exc x cs => exact h
  | bad => exact h
theorem Wp.mono {r : Res α} (h : Wp r P) (k : ∀ a cs, P a cs → Q a cs) : Wp r Q := by
  cases r with
  | ok a cs => exact k _ _ h
  | exc x cs => exact h
  | bad => exact h
theorem Wp.get {r : Res α} (h : Wp r P) : ∃ a cs, r = .ok a cs ∧ P a cs := by
  cases r with
  | ok a cs => exact ⟨a, cs, rfl, h⟩
  | exc x cs => exact h.elim
  | bad => exact h.elim
theorem Wp.eq {r : Res α} {a : α} {cs' : List HC} (h : Wp r fun b cs => b = a ∧ cs = cs') : r = .ok a cs' := by
  obtain ⟨b, cs, e, rfl, rfl⟩ := h.get
  exact e
end
section
variable {P : Sl → List HC → Prop} {PB : Bool → List HC → Prop} {PL : List D → List HC → Prop} {PA : List Sl → List HC → Prop} {PF : Fl → List HC → Prop} {PO : Option Int → List HC → Prop} {cs : List HC} {ρ : Rho}
  {ma mb mc : Rho → M Sl} {mt mu : Rho → M Bool} {ms : Rho → M (List Sl)} {ml : Rho → M (List D)} {f g : Rho → M Fl} {o o' : Sl → Sl → M Sl} {i j : Int}
/-! names, constants -/
theorem wp_var {i : Nat} {sl : Sl} (e : ρ[i]? = some (some sl)) (h : P sl cs) : Wp (mVar i ρ cs) P := by
  unfold mVar
  rw [e]
  exact h
theorem wp_c {d : D} (h : P (.d d) cs) : Wp (mC d ρ cs) P := h
/-! operators -/
theorem wp_bin (h : Wp (ma ρ cs) fun x cs1 => Wp (mb ρ cs1) fun y cs2 => Wp (o x y cs2) P) : Wp (mBin o ma mb ρ cs) P := wp_bind (h.mono fun _ _ q => wp_bind q)
theorem wp_add (h : P (.d (.int (i + j))) cs) : Wp (oAdd (.d (.int i)) (.d (.int j)) cs) P := h
theorem wp_sub (h : P (.d (.int (i - j))) cs) : Wp (oSub (.d (.int i)) (.d (.int j)) cs) P := h
theorem wp_mul (c : i.natAbs.log2 + j.natAbs.log2 < 1000000) (h : P (.d (.int (i * j))) cs) : Wp (oMul (.d (.int i)) (.d (.int j)) cs) P := by
  unfold oMul
  simp only
  rw [if_pos c]
  exact h
theorem wp_fdiv (c : 0 < j) (c2 : j.natAbs.log2 < 9000) (h : P (.d (.int (i / j))) cs) : Wp (oFdiv (.d (.int i)) (.d (.int j)) cs) P := by
  unfold oFdiv
  simp only
  rw [if_pos ⟨c, c2⟩]
  exact h
theorem wp_mod (c : 0 < j) (h : P (.d (.int (i % j))) cs) : Wp (oMod (.d (.int i)) (.d (.int j)) cs) P := by
  unfold oMod
  simp only
  rw [if_pos c]
  exact h
theorem wp_pow (c : 0 ≤ j ∧ (Builtin.Int.intBits i : Int) * j ≤ 2 ^ 27) (h : P (.d (.int (i ^ j.toNat))) cs) : Wp (oPow (.d (.int i)) (.d (.int j)) cs) P := by
  unfold oPow
  simp only
  rw [if_pos c]
  exact h
theorem wp_lt (h : P (.d (.bool (decide (i < j)))) cs) : Wp (oLt (.d (.int i)) (.d (.int j)) cs) P := h
theorem wp_le (h : P (.d (.bool (decide (i ≤ j)))) cs) : Wp (oLe (.d (.int i)) (.d (.int j)) cs) P := h
theorem wp_gt (h : P (.d (.bool (decide (j < i)))) cs) : Wp (oGt (.d (.int i)) (.d (.int j)) cs) P := h
theorem wp_ge (h : P (.d (.bool (decide (j ≤ i)))) cs) : Wp (oGe (.d (.int i)) (.d (.int j)) cs) P := h
theorem wp_eqI (h : P (.d (.bool (i == j))) cs) : Wp (oEq (.d (.int i)) (.d (.int j)) cs) P := h
theorem wp_neI (h : P (.d (.bool (!(i == j)))) cs) : Wp (oNe (.d (.int i)) (.d (.int j)) cs) P := h
theorem wp_eqB {b c : Bool} (h : P (.d (.bool (b == c))) cs) : Wp (oEq (.d (.bool b)) (.d (.bool c)) cs) P := h
theorem wp_neB {b c : Bool} (h : P (.d (.bool (!(b == c)))) cs) : Wp (oNe (.d (.bool b)) (.d (.bool c)) cs) P := h
theorem wp_addT {a b : List D} (c : a.length + b.length ≤ SL) (h : P (.d (.tuple (a ++ b))) cs) : Wp (oAdd (.d (.tuple a)) (.d (.tuple b)) cs) P := by
  unfold oAdd
  simp only
  rw [if_pos c]
  exact h
theorem wp_addL {x y : Sl} {a b : List D} (ea : viewT x cs = some a) (eb : viewT y cs = some b) (c : a.length + b.length ≤ SL) (h : P (.d (.list (a ++ b))) cs) : Wp (oAdd x y cs) P := by
  unfold oAdd
  split
  · cases ea
  · cases ea
  · cases ea
  · rw [ea, eb]
    simp only
    rw [if_pos c]
    exact h
theorem wp_repT {a : List D} {k : Int} (c : -1000 ≤ k ∧ k ≤ 1000 ∧ a.length ≤ 1000) (h : P (.d (.tuple (List.replicate k.toNat a).flatten)) cs) : Wp (oMul (.d (.tuple a)) (.d (.int k)) cs) P := by
  unfold oMul
  simp only
  rw [if_pos c]
  exact h
theorem wp_repL {a : List D} {k : Int} (c : -(2 ^ 63) ≤ k ∧ k < 2 ^ 63 ∧ a.length * k.toNat ≤ SL) (h : P (.d (.list (List.replicate k.toNat a).flatten)) cs) : Wp (oMul (.d (.list a)) (.d (.int k)) cs) P := by
  unfold oMul
  simp only [viewT]
  rw [if_pos c]
  exact h
theorem wp_neg (h : P (.d (.int (-i))) cs) : Wp (oNeg (.d (.int i)) cs) P := h
theorem wp_un {o : Sl → M Sl} (h : Wp (ma ρ cs) fun x cs1 => Wp (o x cs1) P) : Wp (mUn o ma ρ cs) P := wp_bind h
theorem wp_idxT {ds : List D} {d : D} (e : L2.atI ds i = some d) (h : P (.d d) cs) : Wp (oIdx (.d (.tuple ds)) (.d (.int i)) cs) P := by
  unfold oIdx
  simp only [e]
  exact h
theorem wp_idx {x : Sl} {ds : List D} {d : D} (ev : viewL x cs = some ds) (e : L2.atI ds i = some d) (h : P (.d d) cs) : Wp (oIdx x (.d (.int i)) cs) P := by
  cases x with
  | d d' =>
    cases d' with
    | list es =>
      cases ev
      simp only [oIdx, viewL, e]
      exact h
    | _ => cases ev
  | h k =>
    simp only [oIdx, ev, e]
    exact h
  | s ns =>
    simp only [oIdx, ev, e]
    exact h
theorem wp_cutT {ds : List D} {lo hi : Option Int} (h : P (.d (.tuple (cutD ds lo hi))) cs) : Wp (oCut (.d (.tuple ds)) lo hi cs) P := h
theorem wp_cut {mlo mhi : Rho → M (Option Int)} (h : Wp (ma ρ cs) fun x cs1 => Wp (mlo ρ cs1) fun lo cs2 => Wp (mhi ρ cs2) fun hi cs3 => Wp (oCut x lo hi cs3) P) : Wp (mCut ma mlo mhi ρ cs) P := wp_bind (h.mono fun _ _ q => wp_bind (q.mono fun _ _ q => wp_bind q))
theorem wp_no (h : PO none cs) : Wp (mNo ρ cs) PO := h
theorem wp_part (h : Wp (ma ρ cs) fun x cs1 => ∃ i, x = .d (.int i) ∧ PO (some i) cs1) : Wp (mPart ma ρ cs) PO := wp_bind (h.mono fun _ _ ⟨i, e, q⟩ => by
  subst e
  exact q)
/-! tests -/
theorem wp_toB {b : Bool} (h : PB b cs) : Wp (toB (.d (.bool b)) cs) PB := h
theorem wp_test (h : Wp (ma ρ cs) fun x cs1 => Wp (toB x cs1) PB) : Wp (mTest ma ρ cs) PB := wp_bind h
def ifK (A B : List HC → Prop) : Bool → List HC → Prop
  | true, cs => A cs
  | false, cs => B cs
theorem ifK_b {A B : List HC → Prop} {k : Bool} (h1 : k = true → A cs) (h2 : k = false → B cs) : ifK A B k cs := by
  cases k with
  | true => exact h1 rfl
  | false => exact h2 rfl
theorem ifK_t {A B : List HC → Prop} {k : Bool} (e : k = true) (h : A cs) : ifK A B k cs := e ▸ h
theorem ifK_f {A B : List HC → Prop} {k : Bool} (e : k = false) (h : B cs) : ifK A B k cs := e ▸ h
theorem wp_ite {k : Bool} {α : Type} {a b : Res α} {P : α → List HC → Prop} (h : ifK (fun _ => Wp a P) (fun _ => Wp b P) k cs) : Wp (if k = true then a else b) P := by
  cases k with
  | true => exact h
  | false => exact h
theorem wp_chain (h : Wp (ma ρ cs) fun x cs1 => Wp (mb ρ cs1) fun y cs2 => Wp (o x y cs2) fun z cs3 => Wp (toB z cs3) (ifK (fun cs4 => Wp (mc ρ cs4) fun w cs5 => Wp (o' y w cs5) P) fun cs4 => P (.d (.bool false)) cs4)) :
    Wp (mChain o o' ma mb mc ρ cs) P :=
  wp_bind (h.mono fun _ _ q => wp_bind (q.mono fun _ _ q => wp_bind (q.mono fun _ _ q => wp_bind (q.mono fun k cs4 q => wp_ite (cs := cs4) (by
    cases k with
    | true => exact wp_bind q
    | false => exact q)))))
theorem wp_andT (h : Wp (mt ρ cs) (ifK (fun cs1 => Wp (mu ρ cs1) PB) fun cs1 => PB false cs1)) : Wp (mAndT mt mu ρ cs) PB := wp_bind (h.mono fun k cs4 q => wp_ite (cs := cs4) (by cases k <;> exact q))
theorem wp_orT (h : Wp (mt ρ cs) (ifK (fun cs1 => PB true cs1) fun cs1 => Wp (mu ρ cs1) PB)) : Wp (mOrT mt mu ρ cs) PB := wp_bind (h.mono fun k cs4 q => wp_ite (cs := cs4) (by cases k <;> exact q))
theorem wp_notT (h : Wp (mt ρ cs) fun k cs1 => PB (!k) cs1) : Wp (mNotT mt ρ cs) PB := wp_bind h
theorem wp_and (h : Wp (ma ρ cs) fun x cs1 => Wp (toB x cs1) (ifK (fun cs2 => Wp (mb ρ cs2) P) fun cs2 => P (.d (.bool false)) cs2)) : Wp (mAnd ma mb ρ cs) P := wp_bind (h.mono fun _ _ q => wp_bind (q.mono fun k cs4 q => wp_ite (cs := cs4) (by cases k <;> exact q)))
theorem wp_or (h : Wp (ma ρ cs) fun x cs1 => Wp (toB x cs1) (ifK (fun cs2 => P (.d (.bool true)) cs2) fun cs2 => Wp (mb ρ cs2) P)) : Wp (mOr ma mb ρ cs) P := wp_bind (h.mono fun _ _ q => wp_bind (q.mono fun k cs4 q => wp_ite (cs := cs4) (by cases k <;> exact q)))
theorem wp_not (h : Wp (ma ρ cs) fun x cs1 => Wp (toB x cs1) fun k cs2 => P (.d (.bool (!k))) cs2) : Wp (mNot ma ρ cs) P := wp_bind (h.mono fun _ _ q => wp_bind q)
theorem wp_if {α : Type} {a b : Rho → M α} {P : α → List HC → Prop} (h : Wp (mt ρ cs) (ifK (fun cs1 => Wp (a ρ cs1) P) fun cs1 => Wp (b ρ cs1) P)) : Wp (mIf mt a b ρ cs) P := wp_bind (h.mono fun k cs4 q => wp_ite (cs := cs4) (by cases k <;> exact q))
theorem wp_sif (h : Wp (mt ρ cs) (ifK (fun cs1 => Wp (f ρ cs1) PF) fun cs1 => Wp (g ρ cs1) PF)) : Wp (sIf mt f g ρ cs) PF := wp_if h
theorem wp_isi {u : String} (h : Wp (ma ρ cs) fun x cs1 => P (.d (.bool (isT (tyS cs1 x) u))) cs1) : Wp (mIsi u ma ρ cs) P := wp_bind h
/-! arguments, displays, calls -/
theorem wp_nil (h : PA [] cs) : Wp (mNil ρ cs) PA := h
theorem wp_cons (h : Wp (ma ρ cs) fun x cs1 => Wp (ms ρ cs1) fun xs cs2 => PA (x :: xs) cs2) : Wp (mCons ma ms ρ cs) PA := wp_bind (h.mono fun _ _ q => wp_bind q)
theorem wp_tup (h : Wp (ms ρ cs) fun xs cs1 => ∃ ds, dataAll xs = some ds ∧ ds.length ≤ SL ∧ P (.d (.tuple ds)) cs1) : Wp (mTup ms ρ cs) P := wp_bind (h.mono fun _ _ ⟨ds, e, z, q⟩ => by
  simp only [e, if_pos z]
  exact q)
theorem wp_lst (h : Wp (ms ρ cs) fun xs cs1 => ∃ ds, dataAll xs = some ds ∧ ds.length ≤ SL ∧ PL ds cs1) : Wp (mLst ms ρ cs) PL := wp_bind (h.mono fun _ _ ⟨ds, e, z, q⟩ => by
  simp only [e, if_pos z]
  exact q)
theorem wp_L (h : Wp (ml ρ cs) fun ds cs1 => P (.d (.list ds)) cs1) : Wp (mL ml ρ cs) P := wp_bind h
theorem wp_New (h : Wp (ml ρ cs) fun ds cs1 => P (.h cs1.length) (cs1 ++ [.lst ds])) : Wp (mNew ml ρ cs) P := wp_bind h
theorem wp_listOf (h : Wp (ma ρ cs) fun x cs1 => ∃ ds, seqD x cs1 = some ds ∧ PL ds cs1) : Wp (mListOf ma ρ cs) PL := wp_bind (h.mono fun _ _ ⟨ds, e, q⟩ => by
  simp only [e]
  exact q)
theorem wp_call {b : List Sl → M Sl} (h : Wp (ms ρ cs) fun xs cs1 => Wp (b xs cs1) P) : Wp (mCall b ms ρ cs) P := wp_bind h
theorem wp_own {n : Nat} {m : List Sl → M Sl} (h : Wp (ms ρ cs) fun xs cs1 => xs.length = n ∧ Wp (m xs cs1) P) : Wp (mOwn n m ms ρ cs) P := wp_bind (h.mono fun _ _ ⟨e, q⟩ => by
  rw [if_pos e]
  exact q)
theorem wp_ownL {n : Nat} {m : List Sl → M (List D)} (h : Wp (ms ρ cs) fun xs cs1 => xs.length = n ∧ Wp (m xs cs1) PL) : Wp (mOwnL n m ms ρ cs) PL := wp_bind (h.mono fun _ _ ⟨e, q⟩ => by
  rw [if_pos e]
  exact q)
theorem wp_abs (h : P (.d (.int (if i < 0 then -i else i))) cs) : Wp (bAbs [.d (.int i)] cs) P := h
theorem wp_int (h : P (.d (.int i)) cs) : Wp (bInt [.d (.int i)] cs) P := h
theorem wp_intB {b : Bool} (h : P (.d (.int (if b = true then 1 else 0))) cs) : Wp (bInt [.d (.bool b)] cs) P := h
theorem wp_max (h : P (.d (.int (if j > i then j else i))) cs) : Wp (bMax [.d (.int i), .d (.int j)] cs) P := h
theorem wp_min (h : P (.d (.int (if j < i then j else i))) cs) : Wp (bMin [.d (.int i), .d (.int j)] cs) P := h
theorem wp_len {x : Sl} {ds : List D} (e : seqD x cs = some ds) (h : P (.d (.int ds.length)) cs) : Wp (bLen [x] cs) P := by
  cases x with
  | d d' =>
    cases d' with
    | str z => cases e
    | _ =>
      simp only [bLen, e]
      exact h
  | h k =>
    simp only [bLen, e]
    exact h
  | s ns =>
    simp only [bLen, e]
    exact h
theorem wp_tupleT {ds : List D} (h : P (.d (.tuple ds)) cs) : Wp (bTuple [.d (.tuple ds)] cs) P := h
theorem wp_tuple {x : Sl} {ds : List D} (e : viewL x cs = some ds) (h : P (.d (.tuple ds)) cs) : Wp (bTuple [x] cs) P := by
  cases x with
  | d d' =>
    cases d' with
    | tuple z => cases e
    | _ =>
      simp only [bTuple, e]
      exact h
  | h k =>
    simp only [bTuple, e]
    exact h
  | s ns =>
    simp only [bTuple, e]
    exact h
theorem wp_all {x : Sl} {ds : List D} {bs : List Bool} (e : viewL x cs = some ds) (e2 : boolsD ds = some bs) (h : P (.d (.bool (bs.all id))) cs) : Wp (bAll [x] cs) P := by
  unfold bAll
  simp only [e, e2]
  exact h
theorem wp_any {x : Sl} {ds : List D} {bs : List Bool} (e : viewL x cs = some ds) (e2 : boolsD ds = some bs) (h : P (.d (.bool (bs.any id))) cs) : Wp (bAny [x] cs) P := by
  unfold bAny
  simp only [e, e2]
  exact h
theorem wp_sum {x : Sl} {ds : List D} {ns : List Int} (e : viewL x cs = some ds) (e2 : intsD ds = some ns) (h : P (.d (.int ns.sum)) cs) : Wp (bSum [x] cs) P := by
  unfold bSum
  simp only [e, e2]
  exact h
/-! statements -/
def seqK (g : Rho → M Fl) (PF : Fl → List HC → Prop) : Fl → List HC → Prop
  | .nx ρ1, cs1 => Wp (g ρ1 cs1) PF
  | x, cs1 => PF x cs1
theorem wp_seq (h : Wp (f ρ cs) (seqK g PF)) : Wp (sSeq f g ρ cs) PF := wp_bind (h.mono fun x cs1 q => by
  cases x with
  | nx ρ1 => exact q
  | rt sl => exact q
  | bk ρ1 => exact q
  | ct ρ1 => exact q)
theorem wp_snil (h : PF (.nx ρ) cs) : Wp (sNil ρ cs) PF := h
theorem wp_break (h : PF (.bk ρ) cs) : Wp (sBreak ρ cs) PF := h
theorem wp_cont (h : PF (.ct ρ) cs) : Wp (sCont ρ cs) PF := h
theorem wp_ret (h : Wp (ma ρ cs) fun x cs1 => PF (.rt x) cs1) : Wp (sRet ma ρ cs) PF := wp_bind h
theorem wp_set {n : Nat} (h : Wp (ma ρ cs) fun x cs1 => PF (.nx (ρ.set n (some x))) cs1) : Wp (sSet n ma ρ cs) PF := wp_bind h
theorem wp_new {n : Nat} (h : Wp (ml ρ cs) fun ds cs1 => PF (.nx (ρ.set n (some (.h cs1.length)))) (cs1 ++ [.lst ds])) : Wp (sNew n ml ρ cs) PF := wp_bind h
theorem wp_put (h : Wp (mc ρ cs) fun z cs1 => Wp (ma ρ cs1) fun x cs2 => Wp (mb ρ cs2) fun y cs3 => ∃ cs4, putAt x y z cs3 = some cs4 ∧ PF (.nx ρ) cs4) : Wp (sPut ma mb mc ρ cs) PF := wp_bind (h.mono fun _ _ q => wp_bind (q.mono fun _ _ q => wp_bind (q.mono fun _ _ ⟨cs4, e, q⟩ => by
  simp only [e]
  exact q)))
theorem wp_app (h : Wp (ma ρ cs) fun x cs1 => isLst x cs1 = true ∧ Wp (mb ρ cs1) fun z cs2 => ∃ cs4, appAt x z cs2 = some cs4 ∧ PF (.nx ρ) cs4) : Wp (sApp ma mb ρ cs) PF := wp_bind (h.mono fun _ _ ⟨e, q⟩ => by
  rw [if_pos e]
  exact wp_bind (q.mono fun _ _ ⟨cs4, e, q⟩ => by
    simp only [e]
    exact q))
theorem wp_par {m n : Nat} (h : Wp (ma ρ cs) fun x cs1 => Wp (mb ρ cs1) fun y cs2 => PF (.nx ((ρ.set m (some x)).set n (some y))) cs2) : Wp (sPar m n ma mb ρ cs) PF := wp_bind (h.mono fun _ _ q => wp_bind q)
theorem wp_drop (h : Wp (ma ρ cs) fun _ cs1 => PF (.nx ρ) cs1) : Wp (sDrop ma ρ cs) PF := wp_bind h
/-! walks -/
theorem wp_seqT {ds : List D} (h : Wp (ma ρ cs) fun x cs1 => ∃ ds, (x = .d (.list ds) ∨ x = .d (.tuple ds)) ∧ PL ds cs1) : Wp (mSeq ma ρ cs) PL := wp_bind (h.mono fun _ _ ⟨ds, e, q⟩ => by
  rcases e with e | e <;> (subst e; exact q))
theorem wp_seqI {sl : Sl} {ds : List D} (e : sl = .d (.list ds) ∨ sl = .d (.tuple ds)) {i : Nat} (ei : ρ[i]? = some (some sl)) (h : PL ds cs) : Wp (mSeq (mVar i) ρ cs) PL := wp_bind (wp_var ei (by
  rcases e with e | e <;> (subst e; exact h)))
theorem wp_rng1 (h : Wp (ma ρ cs) fun x cs1 => ∃ j, x = .d (.int j) ∧ -(2 ^ 62) ≤ j ∧ j < 2 ^ 62 ∧ PL (rngD 0 j.toNat) cs1) : Wp (mRng1 ma ρ cs) PL := wp_bind (h.mono fun _ _ ⟨j, e, z1, z2, q⟩ => by
  subst e
  simp only
  rw [if_pos ⟨z1, z2⟩]
  exact q)
theorem wp_zip (h : Wp (ma ρ cs) fun x cs1 => Wp (mb ρ cs1) fun y cs2 => ∃ a b, ((x = .d (.list a) ∧ y = .d (.list b)) ∨ (x = .d (.tuple a) ∧ y = .d (.tuple b))) ∧ PL (zipD a b) cs2) : Wp (mZip ma mb ρ cs) PL := by
  refine wp_bind (h.mono fun x cs1 q1 => wp_bind (q1.mono fun y cs2 q2 => ?_))
  obtain ⟨a, b, e, q3⟩ := q2
  rcases e with ⟨e1, e2⟩ | ⟨e1, e2⟩
  · rw [e1, e2]
    exact q3
  · rw [e1, e2]
    exact q3
theorem wp_enum (h : Wp (ma ρ cs) fun x cs1 => ∃ a, x = .d (.list a) ∧ PL (enumD a) cs1) : Wp (mEnum ma ρ cs) PL := wp_bind (h.mono fun _ _ ⟨a, e, q⟩ => by
  subst e
  exact q)
theorem wp_lc {mi : Rho → M (List D)} {gf : D → Rho → Option Rho} {vs : List Nat} (h : Wp (mi ρ cs) fun items cs1 => items.length ≤ SL ∧ Wp (lcL gf mt ma (wipeR ρ vs) items cs1) PL) : Wp (mLc mi gf mt ma vs ρ cs) PL := wp_bind (h.mono fun _ _ ⟨e, q⟩ => by
  rw [if_pos e]
  exact q)
theorem wp_for {mi : Rho → M (List D)} {gf : D → Rho → Option Rho} (h : Wp (mi ρ cs) fun items cs1 => Wp (forL gf f items ρ cs1) PF) : Wp (sFor mi gf f ρ cs) PF := wp_bind h
theorem wp_quiet {α : Type} {r : Res α} {P : α → List HC → Prop} (h : Wp r P) : Wp (quiet r) P := by
  cases r with
  | ok a cs => exact h
  | exc x cs => exact h.elim
  | bad => exact h.elim
end
section
variable {ρ : Rho} {ma : Rho → M Sl} {mt : Rho → M Bool} {f : Rho → M Fl} {gf : D → Rho → Option Rho}
/-- each item gives a member that is so, whatever came ahead; the handles keep to C -/
theorem wp_lcAll {G : D → Prop} {C : Nat → List HC → Prop} (N : Nat) : ∀ {items : List D} {n : Nat} {cs : List HC} {PL : List D → List HC → Prop}, n + items.length ≤ N → C n cs → (∀ d ∈ items, ∀ n cs, n < N → C n cs → ∃ ρ1, gf d ρ = some ρ1 ∧ Wp (ma ρ1 cs) fun sl cs2 => cs2.length = cs.length ∧ ∃ y, sl = .d y ∧ G y ∧ C (n + 1) cs2) →
    (∀ ds cs', ds.length = items.length → (∀ y ∈ ds, G y) → C (n + items.length) cs' → PL ds cs') → Wp (lcL gf mYes ma ρ items cs) PL
  | [], n, cs, PL, hN, h, k, q => q [] cs rfl (by simp) h
  | d :: r, n, cs, PL, hN, h, k, q => by
    rw [List.length_cons] at hN
    obtain ⟨ρ1, e, w⟩ := k d (List.mem_cons_self) n cs (by omega) h
    obtain ⟨sl, cs2, e2, l2, y, e3, gy, c2⟩ := w.get
    subst e3
    have ih : ∀ {PL : List D → List HC → Prop}, (∀ ds cs', ds.length = r.length → (∀ y ∈ ds, G y) → C (n + 1 + r.length) cs' → PL ds cs') → Wp (lcL gf mYes ma ρ r cs2) PL := fun q => wp_lcAll N (by omega) c2 (fun d' hd n cs c => k d' (List.mem_cons_of_mem _ hd) n cs c) q
    simp only [lcL, e, mYes, quiet, Res.bind, if_true, e2, l2]
    refine wp_bind (ih fun ds cs' hl hg c' => ?_)
    refine q (y :: ds) cs' (by simp [hl]) (fun z hz => ?_) ?_
    · rcases List.mem_cons.mp hz with z1 | z1
      · rw [z1]
        exact gy
      · exact hg z z1
    · rw [List.length_cons, show n + (r.length + 1) = n + 1 + r.length by omega]
      exact c'
/-- each item gives what F says of it; nothing changes -/
theorem wp_lcMap (F : D → D) : ∀ {items : List D} {cs : List HC} {PL : List D → List HC → Prop}, (∀ d ∈ items, ∃ ρ1, gf d ρ = some ρ1 ∧ Wp (ma ρ1 cs) fun sl cs2 => cs2 = cs ∧ sl = .d (F d)) → PL (items.map F) cs → Wp (lcL gf mYes ma ρ items cs) PL
  | [], cs, PL, k, q => q
  | d :: r, cs, PL, k, q => by
    obtain ⟨ρ1, e, w⟩ := k d (List.mem_cons_self)
    obtain ⟨sl, cs2, e2, e3, e4⟩ := w.get
    subst e3 e4
    have ih : ∀ {PL : List D → List HC → Prop}, PL (r.map F) cs2 → Wp (lcL gf mYes ma ρ r cs2) PL := fun q => wp_lcMap F (fun d' hd => k d' (List.mem_cons_of_mem _ hd)) q
    simp only [lcL, e, mYes, quiet, Res.bind, if_true, e2]
    exact wp_bind (ih q)
/-- .. with a test -/
theorem wp_lcFilter (T : D → Bool) (F : D → D) : ∀ {items : List D} {cs : List HC} {PL : List D → List HC → Prop}, (∀ d ∈ items, ∃ ρ1, gf d ρ = some ρ1 ∧ (Wp (mt ρ1 cs) fun k cs2 => cs2 = cs ∧ k = T d) ∧ (T d = true → Wp (ma ρ1 cs) fun sl cs2 => cs2 = cs ∧ sl = .d (F d))) → PL ((items.filter T).map F) cs → Wp (lcL gf mt ma ρ items cs) PL
  | [], cs, PL, k, q => q
  | d :: r, cs, PL, k, q => by
    obtain ⟨ρ1, e, wt, w⟩ := k d (List.mem_cons_self)
    obtain ⟨b, cs1, e1, e3, e4⟩ := wt.get
    subst e3 e4
    have ih : ∀ {PL : List D → List HC → Prop}, PL ((r.filter T).map F) cs1 → Wp (lcL gf mt ma ρ r cs1) PL := fun q => wp_lcFilter T F (fun d' hd => k d' (List.mem_cons_of_mem _ hd)) q
    cases ht : T d with
    | true =>
      obtain ⟨sl, cs2, e2, e5, e6⟩ := (w ht).get
      subst e5 e6
      rw [List.filter_cons_of_pos ht, List.map_cons] at q
      simp only [lcL, e, quiet, Res.bind, e1, ht, if_true, e2]
      exact wp_bind (ih q)
    | false =>
      rw [List.filter_cons_of_neg (by simp [ht])] at q
      simp only [lcL, e, quiet, Res.bind, e1, ht, if_true, Bool.false_eq_true, if_false]
      exact ih q
def forK (J : Rho → List HC → Prop) (PF : Fl → List HC → Prop) : Fl → List HC → Prop
  | .nx ρ2, cs => J ρ2 cs
  | .ct ρ2, cs => J ρ2 cs
  | .rt sl, cs => PF (.rt sl) cs
  | .bk ρ2, cs => PF (.nx ρ2) cs
theorem fk_nx {J : Rho → List HC → Prop} {PF : Fl → List HC → Prop} {ρ : Rho} {cs : List HC} (h : J ρ cs) : forK J PF (.nx ρ) cs := h
theorem fk_ct {J : Rho → List HC → Prop} {PF : Fl → List HC → Prop} {ρ : Rho} {cs : List HC} (h : J ρ cs) : forK J PF (.ct ρ) cs := h
theorem fk_rt {J : Rho → List HC → Prop} {PF : Fl → List HC → Prop} {sl : Sl} {cs : List HC} (h : PF (.rt sl) cs) : forK J PF (.rt sl) cs := h
theorem fk_bk {J : Rho → List HC → Prop} {PF : Fl → List HC → Prop} {ρ : Rho} {cs : List HC} (h : PF (.nx ρ) cs) : forK J PF (.bk ρ) cs := h
/-- a loop by what holds ahead of each turn -/
theorem wp_forAll {I : Nat → Rho → List HC → Prop} : ∀ {items : List D} {n : Nat} {ρ : Rho} {cs : List HC} {PF : Fl → List HC → Prop}, I n ρ cs → (∀ (k : Nat) (d : D), items[k]? = some d → ∀ ρ cs, I (n + k) ρ cs → ∃ ρ1, gf d ρ = some ρ1 ∧ Wp (f ρ1 cs) (forK (I (n + k + 1)) PF)) → (∀ ρ' cs', I (n + items.length) ρ' cs' → PF (.nx ρ') cs') → Wp (forL gf f items ρ cs) PF
  | [], n, ρ, cs, PF, h, k, q => q ρ cs h
  | d :: r, n, ρ, cs, PF, h, k, q => by
    obtain ⟨ρ1, e, w⟩ := k 0 d rfl ρ cs h
    have go : ∀ ρ2 cs2, I (n + 1) ρ2 cs2 → Wp (forL gf f r ρ2 cs2) PF := fun ρ2 cs2 i2 => by
      refine wp_forAll (I := I) (n := n + 1) i2 (fun k' d' e' ρ cs i => ?_) fun ρ' cs' i => q ρ' cs' (by
        rw [List.length_cons, show n + (r.length + 1) = n + 1 + r.length by omega]
        exact i)
      have := k (k' + 1) d' (by simpa using e') ρ cs (by rw [show n + (k' + 1) = n + 1 + k' by omega]; exact i)
      rw [show n + 1 + k' + 1 = n + (k' + 1) + 1 by omega]
      exact this
    simp only [forL, e]
    refine wp_bind (w.mono fun x cs2 h2 => ?_)
    cases x with
    | nx ρ2 => exact go ρ2 cs2 h2
    | ct ρ2 => exact go ρ2 cs2 h2
    | rt sl => exact h2
    | bk ρ2 => exact h2
end
section
variable {P : Sl → List HC → Prop} {PL : List D → List HC → Prop} {cs : List HC} {ρ : Rho}
/-! defs -/
def defK (n : Nat) (P : Sl → List HC → Prop) : Fl → List HC → Prop
  | .rt (.d d), cs => P (.d d) (cs.take n)
  | .rt (.h k), cs => (k < n → P (.h k) (cs.take n)) ∧ (¬ k < n → ∃ ds, cs[k]? = some (.lst ds) ∧ P (.d (.list ds)) (cs.take n))
  | .nx _, cs => P (.d .none) (cs.take n)
  | _, _ => False
theorem wp_def {N : Nat} {mb : Rho → M Fl} {sls : List Sl} (h : Wp (mb (sls.map some ++ List.replicate (N - sls.length) none) cs) (defK cs.length P)) : Wp (mDef N mb sls cs) P := by
  unfold mDef
  obtain ⟨x, cs', e, q⟩ := h.get
  rw [e]
  cases x with
  | nx ρ1 => exact q
  | bk ρ1 => exact q.elim
  | ct ρ1 => exact q.elim
  | rt sl =>
    cases sl with
    | d d => exact q
    | s ns => exact q.elim
    | h k =>
      simp only [fin]
      by_cases hk : k < cs.length
      · rw [if_pos hk]
        exact q.1 hk
      · rw [if_neg hk]
        obtain ⟨ds, e1, e2⟩ := q.2 hk
        rw [e1]
        exact e2
def defLK (n : Nat) (PL : List D → List HC → Prop) : Fl → List HC → Prop
  | .rt (.h k), cs => ¬ k < n ∧ ∃ ds, cs[k]? = some (.lst ds) ∧ PL ds (cs.take n)
  | _, _ => False
theorem wp_defL {N : Nat} {mb : Rho → M Fl} {sls : List Sl} (h : Wp (mb (sls.map some ++ List.replicate (N - sls.length) none) cs) (defLK cs.length PL)) : Wp (mDefL N mb sls cs) PL := by
  unfold mDefL
  obtain ⟨x, cs', e, q⟩ := h.get
  rw [e]
  cases x with
  | rt sl =>
    cases sl with
    | h k =>
      obtain ⟨hk, ds, e1, e2⟩ := q
      simp only [finL]
      rw [if_neg hk, e1]
      exact e2
    | _ => exact q.elim
  | _ => exact q.elim
end
end Mir
set_option maxHeartbeats 2000000
/-! the steps, one after another; the law's own spins -/
namespace Mir
open PySem PySem.Spec PyProof.Rows L2
section
variable {P : Sl → List HC → Prop} {PL : List D → List HC → Prop} {PF : Fl → List HC → Prop} {cs : List HC} {ρ ρ1 : Rho} {g : Rho → M Fl} {n k : Nat} {d : D} {sl : Sl}
theorem wp_nx (h : Wp (g ρ1 cs) PF) : seqK g PF (.nx ρ1) cs := h
theorem wp_rt (h : PF (.rt sl) cs) : seqK g PF (.rt sl) cs := h
theorem wp_bk (h : PF (.bk ρ) cs) : seqK g PF (.bk ρ) cs := h
theorem wp_ct (h : PF (.ct ρ) cs) : seqK g PF (.ct ρ) cs := h
theorem wp_dd (h : P (.d d) (cs.take n)) : defK n P (.rt (.d d)) cs := h
theorem wp_dn (h : P (.d .none) (cs.take n)) : defK n P (.nx ρ) cs := h
end
theorem lg {i : Int} {n : Nat} (h : i.natAbs < 2 ^ n) (hn : 0 < n) : i.natAbs.log2 < n := by
  by_cases z : i.natAbs = 0
  · rw [z]
    exact hn
  · exact (Nat.log2_lt z).mpr h
theorem def_pure {N : Nat} {mb : Rho → M Fl} {sls : List Sl} {cs : List HC} {y : D} (h : mb (sls.map some ++ List.replicate (N - sls.length) none) cs = .ok (.rt (.d y)) cs) : mDef N mb sls cs = .ok (.d y) cs := by
  unfold mDef
  rw [h]
  simp only [fin, List.take_length]
/-! ### spins -/
def Spin (n : Nat) (k : Nat) (cs : List HC) : Prop := ∃ a b c : Int, cs[k]? = some (.lst [.int a, .int b, .int c]) ∧ 0 ≤ c ∧ c ≤ n
/-- all handles but the k-th are as they were -/
def Frm (k : Nat) (cs cs' : List HC) : Prop := cs'.length = cs.length ∧ ∀ j, j ≠ k → cs'[j]? = cs[j]?
theorem Frm.refl (k : Nat) (cs : List HC) : Frm k cs cs := ⟨rfl, fun _ _ => rfl⟩
theorem Frm.trans {k : Nat} {a b c : List HC} (h : Frm k a b) (h2 : Frm k b c) : Frm k a c := ⟨h2.1.trans h.1, fun j hj => (h2.2 j hj).trans (h.2 j hj)⟩
theorem Frm.set {k : Nat} {cs : List HC} (x : HC) : Frm k cs (cs.set k x) := ⟨List.length_set, fun j hj => List.getElem?_set_ne (fun e => hj e.symm)⟩
theorem Frm.take {k : Nat} {cs cs' : List HC} (h : Frm k cs cs') : cs'.take cs.length = cs' := by rw [← h.1]; exact List.take_length
theorem Spin.mono {m n k : Nat} {cs : List HC} (h : Spin m k cs) (e : m ≤ n) : Spin n k cs := by
  obtain ⟨a, b, c, h1, h6, h7⟩ := h
  exact ⟨a, b, c, h1, h6, by omega⟩
theorem mulc {i j : Int} (hi : i.natAbs < 2 ^ 200) (hj : j.natAbs < 2 ^ 200) : i.natAbs.log2 + j.natAbs.log2 < 1000000 := by
  have h1 := lg hi (by decide)
  have h2 := lg hj (by decide)
  omega
theorem getset {cs : List HC} {k : Nat} {x y : HC} (h : cs[k]? = some x) : (cs.set k y)[k]? = some y := List.getElem?_set_self (List.getElem?_eq_some_iff.mp h).1
theorem viewH {cs : List HC} {k : Nat} {ds : List D} (h : cs[k]? = some (.lst ds)) : viewL (.h k) cs = some ds := by simp only [viewL, h]
theorem putH {cs : List HC} {k : Nat} {ds : List D} {i : Int} {j : Nat} {d : D} (h : cs[k]? = some (.lst ds)) (e : ixN ds.length i = some j) : putAt (.h k) (.d (.int i)) (.d d) cs = some (cs.set k (.lst (ds.set j d))) := by simp only [putAt, h, e]
end Mir
set_option maxHeartbeats 2000000
/-! a module's name for a built-in function: math.gcd -/
namespace Mir
open PySem PySem.Spec PyProof.Rows L2
section
variable {X : Cx} {R : XR} {E : XK} {pos : Pos} {e : Expr} {es : List Expr} {ms : Rho → M (List Sl)}
def bGcd : List Sl → M Sl := fun xs cs => match xs with
  | [.d (.int i), .d (.int j)] => .ok (.d (.int ((Nat.gcd i.natAbs j.natAbs : Nat) : Int))) cs
  | _ => .bad
theorem cb_gcd : CbM X R E (.builtin "math.gcd") bGcd := by
  refine cb_of cr_gcd fun O A cs H vs sls ok rs Q h => ?_
  unfold bGcd at h
  split at h
  · obtain ⟨v, w, rfl, r1, r2⟩ := two_of rs
    cases r1
    cases r2
    exact ⟨_, _, rfl, Post.ret ok h (.int _)⟩
  · exact h.elim
theorem em_callBf {x : Str} {id : String} {ob : List Sl → M Sl} {p : Pos} (hc : CbM X R E (.builtin id) ob) (hg : Gl X x) (hm : X.mg x = some (.builtin id)) (ha : AM X R E (e :: es) ms)
    (hd : (x == ("__debug__" : Str)) = false := by decide) (hst : starEach (e :: es) X.env = (false, eval e X.env) :: starEach es X.env := by rfl) (hs : (backTo pos (starEach es X.env)).any (·.1) = false := by rfl) :
    EM X R E (.Call (.Name x p) (e :: es) [] pos) (mCall ob ms) := by
  obtain ⟨r, hr, kr⟩ := hc
  obtain ⟨t, pt, k⟩ := ha
  refine em_of (pe_callBfun hr hg hm pt hd hst hs) fun O A ρ cs σ H ok rk Q h => ?_
  refine k O A ρ cs σ H ok rk _ (PostX.step (Stp.refl ok) (fun sxs cs1 q vs A1 H1 s1 ok1 r1 => ?_) (PostX.bind h))
  exact kr O A1 cs1 H1 vs sxs ok1 r1 Q (post_step s1 q)
theorem wp_star {ma : Rho → M Sl} {ρ : Rho} {ds : List D} {PA : List Sl → List HC → Prop} {cs : List HC} (h : Wp (ma ρ cs) fun x cs1 => seqD x cs1 = some ds ∧ Wp (ms ρ cs1) fun xs cs2 => PA (ds.map Sl.d ++ xs) cs2) : Wp (mStar ma ms ρ cs) PA := wp_bind (h.mono fun _ _ ⟨e, q⟩ => by
  simp only [e]
  exact wp_bind q)
theorem wp_gcd {P : Sl → List HC → Prop} {cs : List HC} {i j : Int} (h : P (.d (.int ((Nat.gcd i.natAbs j.natAbs : Nat) : Int))) cs) : Wp (bGcd [.d (.int i), .d (.int j)] cs) P := h
end
end Mir
set_option maxHeartbeats 2000000
/-! max, min of two ints, of a list or a tuple of ints -/
namespace Mir
open PySem PySem.Spec PyProof.Rows L2

section
variable {prog : Program} {w : World} {A : Around} {E : Value → Shared → Prop} {s : Shared} {l : Addr} {its : List Value} {ns : List Int} {Q : Value → Shared → Prop}
theorem iter_intTuple {xs : Array (Int × Tok)} (hl : s.heap.IsTuple l (intItems xs))
    (h : ∀ s₂ : Shared, s₂ = { s with heap := s.heap.push { cls := .type "tuple_iterator", data := .fields #[.ref l, .int 0 0] } } →
      (s₂.heap.IsTupleIter s.heap.objs.size l 0 ∧ s₂.heap.IsTuple l (intItems xs)) → (∀ b ∈ [s.heap.objs.size, l], b < s₂.heap.objs.size) → l ≠ s.heap.objs.size → Q (.ref s.heap.objs.size) s₂) :
    wpAny (model prog w) A (pyIter (.ref l)) Q E s := by
  have hlt : l < s.heap.objs.size := by obtain ⟨_, e, _⟩ := hl; exact Heap.lt_size e
  refine wpAny_pyIter_tuple hl (h _ rfl ⟨⟨_, Heap.get?_push_size _ rfl, rfl, rfl⟩, hl.push _⟩ (fun b hb => ?_) (Nat.ne_of_lt hlt))
  show b < (s.heap.push _).objs.size
  rw [Heap.size_push]
  rcases List.mem_cons.mp hb with rfl | hb
  · exact Nat.lt_succ_self _
  · rcases List.mem_cons.mp hb with rfl | hb
    · exact Nat.lt_succ_of_lt hlt
    · cases hb
theorem old_keptT {h' : Heap} (hk : ∀ b o, b ∉ [s.heap.objs.size] → (s.heap.push { cls := .type "tuple_iterator", data := .fields #[.ref l, .int 0 0] }).get? b = some o → h'.get? b = some o) :
    ∀ b o, s.heap.get? b = some o → h'.get? b = some o := fun b o e => by
  refine hk b o (fun hm => ?_) (Heap.get?_push_of_some _ e)
  rcases List.mem_cons.mp hm with e1 | hm
  · exact absurd (e1 ▸ Heap.lt_size e) (Nat.lt_irrefl _)
  · cases hm
theorem max_tupRaw (hh : A.handled = none) (hl : s.heap.IsTuple l its.toArray) (hi : IntsAre its ns) (hne : 0 < ns.length)
    (h : ∀ h' tk M t', (∀ b o, s.heap.get? b = some o → h'.get? b = some o) → M ∈ ns → (∀ a, a ∈ ns → a ≤ M) → Q (.int M t') { s with heap := h', toks := tk }) : wpAny (model prog w) A (call (.builtin "max") [.ref l]) Q E s := by
  obtain ⟨xs, e⟩ := hi.allInts.items
  have hn : numsOf (intItems xs).toList = ns := by rw [← e]; exact hi.numsOf
  rw [nums_intItems] at hn
  subst hn
  rw [e] at hl
  have hsz : 0 < xs.size := by simpa using hne
  refine call_max_walk (iter_intTuple hl fun s₂ e st hfp hlI => ?_)
  subst e
  refine ⟨_, _, _, _, _, _, _, rfl, Walks.tuple (A := A.in1) hh _ l hlI (intItems xs), st, hfp, by simpa [intItems] using hsz, CmpOf.ints_gt (numAt xs) (fun _ _ => intItems_at), fun v h' tk hP hk => ?_⟩
  have hv : (intItems xs)[argBest (fun i j => decide (numAt xs i > numAt xs j)) (xs.size - 1)]? = some v := by simpa [intItems] using hP
  obtain ⟨t, rfl⟩ := intItems_at hv
  obtain ⟨h1, h2⟩ := argBest_gt (numAt xs) (xs.size - 1)
  refine h h' tk _ t (old_keptT hk) ?_ fun a ha => ?_
  · rw [numAt_eq]; exact PySem.getD_mem (by rw [List.length_map, Array.length_toList]; omega)
  · obtain ⟨j, hj, rfl⟩ := mem_getD ha
    rw [List.length_map, Array.length_toList] at hj
    rw [← numAt_eq]; exact h2 j (by omega)
theorem min_tupRaw (hh : A.handled = none) (hl : s.heap.IsTuple l its.toArray) (hi : IntsAre its ns) (hne : 0 < ns.length)
    (h : ∀ h' tk M t', (∀ b o, s.heap.get? b = some o → h'.get? b = some o) → M ∈ ns → (∀ a, a ∈ ns → M ≤ a) → Q (.int M t') { s with heap := h', toks := tk }) : wpAny (model prog w) A (call (.builtin "min") [.ref l]) Q E s := by
  obtain ⟨xs, e⟩ := hi.allInts.items
  have hn : numsOf (intItems xs).toList = ns := by rw [← e]; exact hi.numsOf
  rw [nums_intItems] at hn
  subst hn
  rw [e] at hl
  have hsz : 0 < xs.size := by simpa using hne
  refine call_min_walk (iter_intTuple hl fun s₂ e st hfp hlI => ?_)
  subst e
  refine ⟨_, _, _, _, _, _, _, rfl, Walks.tuple (A := A.in1) hh _ l hlI (intItems xs), st, hfp, by simpa [intItems] using hsz, CmpOf.ints_lt (numAt xs) (fun _ _ => intItems_at), fun v h' tk hP hk => ?_⟩
  have hv : (intItems xs)[argBest (fun i j => decide (numAt xs i < numAt xs j)) (xs.size - 1)]? = some v := by simpa [intItems] using hP
  obtain ⟨t, rfl⟩ := intItems_at hv
  obtain ⟨h1, h2⟩ := argBest_lt (numAt xs) (xs.size - 1)
  refine h h' tk _ t (old_keptT hk) ?_ fun a ha => ?_
  · rw [numAt_eq]; exact PySem.getD_mem (by rw [List.length_map, Array.length_toList]; omega)
  · obtain ⟨j, hj, rfl⟩ := mem_getD ha
    rw [List.length_map, Array.length_toList] at hj
    rw [← numAt_eq]; exact h2 j (by omega)
end
section
variable {X : Cx}
def rMaxT (K : PySem.W.Frag) : List V → Hp → VK → Prop := fun vs H Q => ∃ (a : Addr) (ns : List Int), vs = [V.ref a] ∧ SqT K H a (ns.map V.int) ∧ 0 < ns.length ∧ ∀ m, m ∈ ns → (∀ y, y ∈ ns → y ≤ m) → Q (.int m) H
def rMinT (K : PySem.W.Frag) : List V → Hp → VK → Prop := fun vs H Q => ∃ (a : Addr) (ns : List Int), vs = [V.ref a] ∧ SqT K H a (ns.map V.int) ∧ 0 < ns.length ∧ ∀ m, m ∈ ns → (∀ y, y ∈ ns → m ≤ y) → Q (.int m) H
theorem cr_maxT (hc : X.calm = true) : CallR X (.builtin "max") (rMaxT X.K) := by
  intro pins s σ H vs us Q I r h
  obtain ⟨a, ns, rfl, hs, hn, q⟩ := h
  obtain ⟨its, rv, hl, _⟩ := I.tuple hs
  rw [Vals.ref1 r]
  exact max_tupRaw (I.ok.hd hc) hl rv.ints hn fun h' tk M t' hk h1 h2 => ⟨.int _, H, I.kept hk, ⟨_, rfl⟩, q M h1 h2⟩
theorem cr_minT (hc : X.calm = true) : CallR X (.builtin "min") (rMinT X.K) := by
  intro pins s σ H vs us Q I r h
  obtain ⟨a, ns, rfl, hs, hn, q⟩ := h
  obtain ⟨its, rv, hl, _⟩ := I.tuple hs
  rw [Vals.ref1 r]
  exact min_tupRaw (I.ok.hd hc) hl rv.ints hn fun h' tk M t' hk h1 h2 => ⟨.int _, H, I.kept hk, ⟨_, rfl⟩, q M h1 h2⟩
end
/-- the greatest, the least of a list -/
def maxI : List Int → Int
  | [] => 0
  | x :: r => r.foldl max x
def minI : List Int → Int
  | [] => 0
  | x :: r => r.foldl min x
theorem foldl_max_ge : ∀ (r : List Int) (x : Int), x ≤ r.foldl max x ∧ ∀ y ∈ r, y ≤ r.foldl max x
  | [], x => ⟨Int.le_refl x, fun y hy => by cases hy⟩
  | z :: r, x => by
    obtain ⟨h1, h2⟩ := foldl_max_ge r (max x z)
    have e : (z :: r).foldl max x = r.foldl max (max x z) := rfl
    rw [e]
    refine ⟨by omega, fun y hy => ?_⟩
    rcases List.mem_cons.mp hy with rfl | hy
    · omega
    · exact h2 y hy
theorem foldl_max_mem : ∀ (r : List Int) (x : Int), r.foldl max x = x ∨ r.foldl max x ∈ r
  | [], x => .inl rfl
  | z :: r, x => by
    have e : (z :: r).foldl max x = r.foldl max (max x z) := rfl
    rw [e]
    rcases foldl_max_mem r (max x z) with h | h
    · by_cases hz : z ≤ x
      · left; rw [h]; omega
      · right; rw [h]; have : max x z = z := by omega
        rw [this]; exact List.mem_cons_self
    · right; exact List.mem_cons_of_mem _ h
theorem foldl_min_le : ∀ (r : List Int) (x : Int), r.foldl min x ≤ x ∧ ∀ y ∈ r, r.foldl min x ≤ y
  | [], x => ⟨Int.le_refl x, fun y hy => by cases hy⟩
  | z :: r, x => by
    obtain ⟨h1, h2⟩ := foldl_min_le r (min x z)
    have e : (z :: r).foldl min x = r.foldl min (min x z) := rfl
    rw [e]
    refine ⟨by omega, fun y hy => ?_⟩
    rcases List.mem_cons.mp hy with rfl | hy
    · omega
    · exact h2 y hy
theorem foldl_min_mem : ∀ (r : List Int) (x : Int), r.foldl min x = x ∨ r.foldl min x ∈ r
  | [], x => .inl rfl
  | z :: r, x => by
    have e : (z :: r).foldl min x = r.foldl min (min x z) := rfl
    rw [e]
    rcases foldl_min_mem r (min x z) with h | h
    · by_cases hz : x ≤ z
      · left; rw [h]; omega
      · right; rw [h]; have : min x z = z := by omega
        rw [this]; exact List.mem_cons_self
    · right; exact List.mem_cons_of_mem _ h
theorem maxI_ge {ns : List Int} {y : Int} (h : y ∈ ns) : y ≤ maxI ns := by
  cases ns with
  | nil => cases h
  | cons x r =>
    rcases List.mem_cons.mp h with rfl | h
    · exact (foldl_max_ge r _).1
    · exact (foldl_max_ge r x).2 y h
theorem maxI_mem {ns : List Int} (h : 0 < ns.length) : maxI ns ∈ ns := by
  cases ns with
  | nil => cases h
  | cons x r =>
    rcases foldl_max_mem r x with e | e
    · show r.foldl max x ∈ x :: r
      rw [e]
      exact List.mem_cons_self
    · exact List.mem_cons_of_mem _ e
theorem minI_le {ns : List Int} {y : Int} (h : y ∈ ns) : minI ns ≤ y := by
  cases ns with
  | nil => cases h
  | cons x r =>
    rcases List.mem_cons.mp h with rfl | h
    · exact (foldl_min_le r _).1
    · exact (foldl_min_le r x).2 y h
theorem minI_mem {ns : List Int} (h : 0 < ns.length) : minI ns ∈ ns := by
  cases ns with
  | nil => cases h
  | cons x r =>
    rcases foldl_min_mem r x with e | e
    · show r.foldl min x ∈ x :: r
      rw [e]
      exact List.mem_cons_self
    · exact List.mem_cons_of_mem _ e
section
variable {X : Cx} {R : XR} {E : XK}
def bMaxX : List Sl → M Sl := fun xs cs => match xs with
  | [.d (.int i), .d (.int j)] => .ok (.d (.int (if j > i then j else i))) cs
  | [x] => match seqD x cs with
    | some ds => match intsD ds with
      | some ns => if 0 < ns.length then .ok (.d (.int (maxI ns))) cs else .bad
      | none => .bad
    | none => .bad
  | _ => .bad
theorem cb_maxX (hc : X.calm = true) : CbM X R E (.builtin "max") bMaxX := by
  refine cb_of (CallR.or (call_max2 hc) (CallR.or (cr_max hc) (cr_maxT hc))) fun O A cs H vs sls ok rs Q h => ?_
  unfold bMaxX at h
  split at h
  · obtain ⟨v, w, rfl, r1, r2⟩ := two_of rs
    cases r1
    cases r2
    exact .inl ⟨_, _, rfl, Post.ret ok h (.int _)⟩
  · obtain ⟨v, rfl, r⟩ := one_of rs
    split at h
    · rename_i ds ed
      split at h
      · rename_i ns eb
        split at h
        · rename_i hn
          obtain ⟨p, ws, rfl, hq, sa⟩ := seq_d ok r ed
          have e := sa.ints eb
          subst e
          have un : ∀ m, m ∈ ns → (∀ y, y ∈ ns → y ≤ m) → Q (.int m) H := fun m h1 h2 => by
            have e : maxI ns = m := Int.le_antisymm (h2 _ (maxI_mem hn)) (maxI_ge h1)
            rw [← e]
            exact Post.ret ok h (.int _)
          rcases hq with hq | hq
          · exact .inr (.inr ⟨p, ns, rfl, hq, hn, un⟩)
          · exact .inr (.inl ⟨p, ns, rfl, hq, hn, un⟩)
        · exact h.elim
      · exact h.elim
    · exact h.elim
  · exact h.elim
def bMinX : List Sl → M Sl := fun xs cs => match xs with
  | [.d (.int i), .d (.int j)] => .ok (.d (.int (if j < i then j else i))) cs
  | [x] => match seqD x cs with
    | some ds => match intsD ds with
      | some ns => if 0 < ns.length then .ok (.d (.int (minI ns))) cs else .bad
      | none => .bad
    | none => .bad
  | _ => .bad
theorem cb_minX (hc : X.calm = true) : CbM X R E (.builtin "min") bMinX := by
  refine cb_of (CallR.or (call_min2 hc) (CallR.or (cr_min hc) (cr_minT hc))) fun O A cs H vs sls ok rs Q h => ?_
  unfold bMinX at h
  split at h
  · obtain ⟨v, w, rfl, r1, r2⟩ := two_of rs
    cases r1
    cases r2
    exact .inl ⟨_, _, rfl, Post.ret ok h (.int _)⟩
  · obtain ⟨v, rfl, r⟩ := one_of rs
    split at h
    · rename_i ds ed
      split at h
      · rename_i ns eb
        split at h
        · rename_i hn
          obtain ⟨p, ws, rfl, hq, sa⟩ := seq_d ok r ed
          have e := sa.ints eb
          subst e
          have un : ∀ m, m ∈ ns → (∀ y, y ∈ ns → m ≤ y) → Q (.int m) H := fun m h1 h2 => by
            have e : minI ns = m := Int.le_antisymm (minI_le h1) (h2 _ (minI_mem hn))
            rw [← e]
            exact Post.ret ok h (.int _)
          rcases hq with hq | hq
          · exact .inr (.inr ⟨p, ns, rfl, hq, hn, un⟩)
          · exact .inr (.inl ⟨p, ns, rfl, hq, hn, un⟩)
        · exact h.elim
      · exact h.elim
    · exact h.elim
  · exact h.elim
end
end Mir
set_option maxHeartbeats 2000000
/-! is of bools; names set at once through a tuple; dict comprehensions read alone; list(range(..)); f-strings -/
namespace Mir
open PySem PySem.Spec PyProof.Rows L2

/-! ### is True, is False, is None -/
section
variable {X : Cx} {R : XR} {E : XK}
def isB (d : D) (b : Bool) : Bool := match d with
  | .bool c => c == b
  | _ => false
def isNo (d : D) : Bool := match d with
  | .none => true
  | _ => false
def oIsX : Sl → Sl → M Sl := fun x y cs => match x, y with
  | .d d, .d .none => .ok (.d (.bool (isNo d))) cs
  | .h _, .d .none => .ok (.d (.bool false)) cs
  | .d d, .d (.bool b) => .ok (.d (.bool (isB d b))) cs
  | .h _, .d (.bool _) => .ok (.d (.bool false)) cs
  | _, _ => .bad
def oNotX : Sl → Sl → M Sl := fun x y cs => match x, y with
  | .d d, .d .none => .ok (.d (.bool (!isNo d))) cs
  | .h _, .d .none => .ok (.d (.bool true)) cs
  | .d d, .d (.bool b) => .ok (.d (.bool (!isB d b))) cs
  | .h _, .d (.bool _) => .ok (.d (.bool true)) cs
  | _, _ => .bad
def rIsBX : R2 := fun x y H Q => ∃ b : Bool, y = .bl b ∧ Q (.bl (decide (x = .bl b))) H
def rNotBX : R2 := fun x y H Q => ∃ b : Bool, y = .bl b ∧ Q (.bl (!decide (x = .bl b))) H
theorem plain_bl {x : V} {v : Value} {b : Bool} (r : RelV x v) : plainIs v (Value.bool b) = true ∧ (v == Value.bool b) = decide (x = .bl b) := by
  cases x with
  | bl c =>
    cases (show v = Value.bool c from r)
    refine ⟨rfl, ?_⟩
    by_cases e : c = b
    · subst e
      simp
    · rw [beq_eq_false_iff_ne.mpr (fun z => e (Value.bool.inj z))]
      exact (decide_eq_false (fun z => e (V.bl.inj z))).symm
  | non =>
    cases (show v = Value.none from r)
    exact ⟨rfl, by rw [beq_eq_false_iff_ne.mpr (fun z => by cases z)]; exact (decide_eq_false (fun z => by cases z)).symm⟩
  | int i =>
    obtain ⟨t, rfl⟩ := r
    exact ⟨rfl, by rw [beq_eq_false_iff_ne.mpr (fun z => by cases z)]; exact (decide_eq_false (fun z => by cases z)).symm⟩
  | str i =>
    obtain ⟨t, rfl⟩ := r
    exact ⟨rfl, by rw [beq_eq_false_iff_ne.mpr (fun z => by cases z)]; exact (decide_eq_false (fun z => by cases z)).symm⟩
  | byt i =>
    obtain ⟨t, rfl⟩ := r
    exact ⟨rfl, by rw [beq_eq_false_iff_ne.mpr (fun z => by cases z)]; exact (decide_eq_false (fun z => by cases z)).symm⟩
  | flt i =>
    obtain ⟨t, rfl⟩ := r
    exact ⟨rfl, by rw [beq_eq_false_iff_ne.mpr (fun z => by cases z)]; exact (decide_eq_false (fun z => by cases z)).symm⟩
  | ref a =>
    cases (show v = Value.ref a from r)
    exact ⟨rfl, by rw [beq_eq_false_iff_ne.mpr (fun z => by cases z)]; exact (decide_eq_false (fun z => by cases z)).symm⟩
  | ty n =>
    cases (show v = Value.type n from r)
    exact ⟨rfl, by rw [beq_eq_false_iff_ne.mpr (fun z => by cases z)]; exact (decide_eq_false (fun z => by cases z)).symm⟩
theorem op_isBX : OpR X (compareOp .Is) rIsBX := by
  intro pins s σ H x y v u Q I rx ry h
  obtain ⟨b, rfl, q⟩ := h
  cases (show u = Value.bool b from ry)
  obtain ⟨h1, h2⟩ := plain_bl (b := b) rx
  exact wpAny_is_plain h1 (by rw [h2]; exact ⟨.bl _, H, I, rfl, q⟩)
theorem op_notBX : OpR X (compareOp .IsNot) rNotBX := by
  intro pins s σ H x y v u Q I rx ry h
  obtain ⟨b, rfl, q⟩ := h
  cases (show u = Value.bool b from ry)
  obtain ⟨h1, h2⟩ := plain_bl (b := b) rx
  exact wpAny_isNot_plain h1 (by rw [h2]; exact ⟨.bl _, H, I, rfl, q⟩)
theorem sh_isB {K : PySem.W.Frag} {H : Hp} {v : V} {d : D} (r : Sh K H v d) (b : Bool) : decide (v = .bl b) = isB d b := by
  cases r with
  | bl c =>
    show decide (V.bl c = V.bl b) = (c == b)
    by_cases e : c = b
    · subst e
      simp
    · rw [beq_eq_false_iff_ne.mpr e]
      exact decide_eq_false (fun z => e (V.bl.inj z))
  | _ => exact decide_eq_false (fun z => by cases z)
theorem sh_isNo {K : PySem.W.Frag} {H : Hp} {v : V} {d : D} (r : Sh K H v d) : decide (v = .non) = isNo d := by
  cases r with
  | non => exact decide_eq_true rfl
  | _ => exact decide_eq_false (fun z => by cases z)
theorem om_isX : OpM X R E (compareOp .Is) oIsX := by
  refine opm_of (OpR.or op_isN op_isBX) fun O A cs H x y sx sy ok rx ry Q h => ?_
  unfold oIsX at h
  split at h
  · cases ry
    refine .inl ⟨rfl, ?_⟩
    rw [sh_isNo rx]
    exact Post.ret ok h (.bl _)
  · cases ry
    obtain ⟨a, _, rfl⟩ := rx
    exact .inl ⟨rfl, Post.ret ok h (.bl _)⟩
  · cases ry
    refine .inr ⟨_, rfl, ?_⟩
    rw [sh_isB rx]
    exact Post.ret ok h (.bl _)
  · cases ry
    obtain ⟨a, _, rfl⟩ := rx
    exact .inr ⟨_, rfl, Post.ret ok h (.bl _)⟩
  · exact h.elim
theorem om_notX : OpM X R E (compareOp .IsNot) oNotX := by
  refine opm_of (OpR.or op_notN op_notBX) fun O A cs H x y sx sy ok rx ry Q h => ?_
  unfold oNotX at h
  split at h
  · cases ry
    refine .inl ⟨rfl, ?_⟩
    rw [sh_isNo rx]
    exact Post.ret ok h (.bl _)
  · cases ry
    obtain ⟨a, _, rfl⟩ := rx
    exact .inl ⟨rfl, Post.ret ok h (.bl _)⟩
  · cases ry
    refine .inr ⟨_, rfl, ?_⟩
    rw [sh_isB rx]
    exact Post.ret ok h (.bl _)
  · cases ry
    obtain ⟨a, _, rfl⟩ := rx
    exact .inr ⟨_, rfl, Post.ret ok h (.bl _)⟩
  · exact h.elim
end

/-! ### a, b, .. = x, y, ..: names, values of any kind -/
def setAllR : List Nat → List Sl → Rho → Option Rho
  | [], [], ρ => some ρ
  | i :: is, s :: ss, ρ => setAllR is ss (ρ.set i (some s))
  | _, _, _ => none
def sParN (is : List Nat) (ms : Rho → M (List Sl)) : Rho → M Fl := fun ρ cs => (ms ρ cs).bind fun xs cs1 => match setAllR is xs ρ with
  | some ρ1 => .ok (.nx ρ1) cs1
  | none => .bad
structure NsM (X : Cx) (tgs : List Expr) (is : List Nat) : Prop where
  ex : ∃ g, PGs X tgs g ∧ ∀ (K : PySem.W.Frag) (O A : List Addr) (ρ ρ' : Rho) (σ : L2.St) (H : Hp) (vs : List V) (sls : List Sl), RhoOk K O A ρ σ H → ShSs K O A H vs sls → setAllR is sls ρ = some ρ' → ∀ Q, (∀ σ', RhoOk K O A ρ' σ' H → Q σ' H) → g vs σ H Q
section
variable {X : Cx} {R : XR} {E : XK} {pos : Pos} {es tgs : List Expr} {e : Expr} {is : List Nat} {ms : Rho → M (List Sl)}
theorem ns_nil : NsM X [] [] := ⟨_, pgs_nil, fun K O A ρ ρ' σ H vs sls rk rs e Q q => by
  cases rs with
  | nil =>
    cases e
    exact ⟨rfl, q σ rk⟩
  | cons _ _ => cases e⟩
theorem ns_cons (i : Nat) {x : Str} (hN : X.N.Nodup) (h2 : NsM X es is) (hi : X.N[i]? = some x := by rfl) (hx : Loc X.env.scope x := by first | exact Or.inl rfl | exact Or.inr rfl) (hf : X.fn x = true ∨ X.env.scope.names.lookup x = some .local := by first | exact .inl rfl | exact .inr rfl | assumption)
    (hs : (assignEach (.Name x pos :: es) X.env).map (·.2) = assign (.Name x pos) X.env :: (assignEach es X.env).map (·.2) := by rfl) : NsM X (.Name x pos :: es) (i :: is) := by
  obtain ⟨u, p2, k2⟩ := h2
  refine ⟨_, pgs_cons (pg_name hN hi hx hf) p2 hs, fun K O A ρ ρ' σ H vs sls rk rs e Q q => ?_⟩
  cases rs with
  | nil => cases e
  | cons r rr => exact ⟨_, _, rfl, k2 K O A _ ρ' _ H _ _ (rk.set r) rr e Q q⟩
theorem sm_parN {kt k2 n : Nat} {pt pt2 : Pos} (hc : X.calm = true) (ha : AM X R E es ms) (hg : NsM X tgs is)
    (hn : (assignEach tgs X.env).length = n := by rfl) (hst : (assignEach tgs X.env).findIdx? (·.1) = none := by rfl) (hl : is.length = n := by rfl) (hsm : is.length ≤ 100 := by exact Nat.le_of_ble_eq_true rfl)
    (hs : swapsWithSole [.Tuple tgs kt pt] (.Tuple es k2 pt2) pos.line X.env = pure false := by rfl) (hw : swappedStores [.Tuple tgs kt pt] (.Tuple es k2 pt2) X.env = pure none := by rfl)
    (h1 : (assignEach [.Tuple tgs kt pt] X.env).map (·.2) = [assign (.Tuple tgs kt pt) X.env] := by rfl) :
    SM X R E (.Assign [.Tuple tgs kt pt] (.Tuple es k2 pt2) pos) (sParN is ms) := by
  obtain ⟨ta, pa, ka⟩ := ha
  obtain ⟨g, pg, kg⟩ := hg
  refine sm_of (ps_asg (pe_tup pa) (pg_tup hc pg hn hst) hs hw h1) fun O A ρ cs σ H ok rk De h => ?_
  refine ka O A ρ cs σ H ok rk _ (PostX.step (Stp.refl ok) (fun sxs cs1 q vs A1 H1 s1 ok1 r1 => ?_) (PostX.bind h))
  have hlen : sxs.length = is.length ∨ setAllR is sxs ρ = none := by
    clear q r1 ok1 s1
    have go : ∀ (is : List Nat) (sxs : List Sl) (ρ : Rho), sxs.length = is.length ∨ setAllR is sxs ρ = none := by
      intro is
      induction is with
      | nil => intro sxs ρ; cases sxs with
        | nil => exact .inl rfl
        | cons _ _ => exact .inr rfl
      | cons i is ih => intro sxs ρ; cases sxs with
        | nil => exact .inr rfl
        | cons s ss =>
          rcases ih ss (ρ.set i (some s)) with h | h
          · exact .inl (by simp [h])
          · exact .inr h
    exact go is sxs ρ
  rcases hlen with hlen | hno
  · split at q
    · rename_i ρ1 e1
      have hv : vs.length = n := by rw [r1.length, hlen, hl]
      refine ⟨by rw [sizeLine_eq, hv]; omega, fun p hp => ?_⟩
      have s3 := Stp.new (o := .tup vs) ok1 hp
      refine ⟨p, vs, rfl, .inl (.inl upd_same), hv, ?_⟩
      exact kg X.K O A1 ρ ρ1 σ _ vs sxs (rk.step (s1.trans s3)) (r1.step s3) e1 _ fun σ' rk' => q σ' A1 _ (s1.trans s3) (ok1.new hp) rk'
    · exact (show False from q).elim
  · rw [hno] at q
    exact (show False from q).elim
/-- .. of three plain names: stored without the tuple -/
theorem sm_par3 (i j l : Nat) {a b c : Expr} {x y z : Str} {px py pz pt : Pos} {kt k2 : Nat} {pt2 : Pos} (hc : X.calm = true) (hN : X.N.Nodup) (ha : AM X R E [a, b, c] ms)
    (hw : swappedStores [.Tuple [.Name x px, .Name y py, .Name z pz] kt pt] (.Tuple [a, b, c] k2 pt2) X.env = pure (some [x, y, z]))
    (hi : X.N[i]? = some x := by rfl) (hj : X.N[j]? = some y := by rfl) (hl : X.N[l]? = some z := by rfl) (hij : i ≠ j := by decide) (hil : i ≠ l := by decide) (hjl : j ≠ l := by decide)
    (hx : X.env.scope.names.lookup x = some .local := by rfl) (hy : X.env.scope.names.lookup y = some .local := by rfl) (hz : X.env.scope.names.lookup z = some .local := by rfl)
    (hs : swapsWithSole [.Tuple [.Name x px, .Name y py, .Name z pz] kt pt] (.Tuple [a, b, c] k2 pt2) pos.line X.env = pure false := by rfl) :
    SM X R E (.Assign [.Tuple [.Name x px, .Name y py, .Name z pz] kt pt] (.Tuple [a, b, c] k2 pt2) pos) (sParN [i, j, l] ms) := by
  obtain ⟨ta, pa, ka⟩ := ha
  refine sm_of (ps_par3 hc hN hi hj hl hij hil hjl hx hy hz pa hw hs) fun O A ρ cs σ H ok rk De h => ?_
  refine ka O A ρ cs σ H ok rk _ (PostX.step (Stp.refl ok) (fun sxs cs1 q vs A1 H1 s1 ok1 r1 => ?_) (PostX.bind h))
  have go : ∀ {vs : List V} {sxs : List Sl}, ShSs X.K O A1 H1 vs sxs → ∀ {ρ1 : Rho}, setAllR [i, j, l] sxs ρ = some ρ1 → ∃ u v w, vs = [u, v, w] ∧ RhoOk X.K O A1 ρ1 (((σ.set i (some u)).set j (some v)).set l (some w)) H1 := by
    intro vs sxs r1 ρ1 e1
    cases r1 with
    | nil => cases e1
    | cons ra t1 =>
      cases t1 with
      | nil => cases e1
      | cons rb t2 =>
        cases t2 with
        | nil => cases e1
        | cons rc t3 =>
          cases t3 with
          | nil =>
            cases e1
            exact ⟨_, _, _, rfl, (((rk.step s1).set ra).set rb).set rc⟩
          | cons _ _ => cases e1
  split at q
  · rename_i ρ1 e1
    obtain ⟨u, v, w, rfl, rk1⟩ := go r1 e1
    exact ⟨u, v, w, rfl, q _ A1 H1 s1 ok1 rk1⟩
  · exact (show False from q).elim
end

/-! ### list(range(..)), tuple(range(..)) -/
def mRgs (ma mb : Rho → M Sl) : Rho → M (Int × Int) := fun ρ cs => (ma ρ cs).bind fun x cs1 => (mb ρ cs1).bind fun y cs2 => match x, y with
  | .d (.int i), .d (.int j) => if 0 ≤ i ∧ i ≤ 16777216 ∧ 0 ≤ j ∧ j ≤ 16777216 then .ok (i, j) cs2 else .bad
  | _, _ => .bad
def rgD (a b : Int) : List D := (List.range (b - a).toNat).map fun (i : Nat) => .int (a + (i : Int))
theorem sh_rg {K : PySem.W.Frag} {H : Hp} {a b : Int} : ShA K H (rgV a b) (rgD a b) := by
  unfold rgV rgD
  generalize List.range (b - a).toNat = l
  induction l with
  | nil => exact .nil
  | cons x r ih => exact .cons (.int _) ih
section
variable {X : Cx} {R : XR} {E : XK} {pos p p2 pos2 : Pos} {e e2 : Expr} {ma mb : Rho → M Sl}
structure RgM (X : Cx) (R : XR) (E : XK) (e : Expr) (m : Rho → M (Int × Int)) : Prop where
  ex : ∃ t, PRg X e t ∧ ∀ O A ρ cs σ H, Ok X.K O A cs H → RhoOk X.K O A ρ σ H → ∀ Q : Int → Int → Hp → Prop, PostX X.K R O A H E (fun ij cs1 => ∀ A' H', Stp A H A' H' → Ok X.K O A' cs1 H' → Q ij.1 ij.2 H') (m ρ cs) → t σ H Q
def mC0 : Rho → M Sl := mC (.int 0)
theorem rg_1 (hg : Gl X "range") (hm : X.mg "range" = none) (ha : EM X R E e ma) (na : starEach [e] X.env = (false, eval e X.env) :: starEach [] X.env := by rfl) : RgM X R E (.Call (.Name "range" p) [e] [] pos) (mRgs mC0 ma) := by
  obtain ⟨t, pt, k⟩ := ha
  refine ⟨_, prg_1 hg hm pt na, fun O A ρ cs σ H ok rk Q h => ?_⟩
  refine k O A ρ cs σ H ok rk _ ((PostX.bind (r := ma ρ cs) h).step (Stp.refl ok) fun sx cs1 q x A1 H1 s1 ok1 r1 => ?_)
  split at q
  · rename_i j i e1
    obtain rfl : 0 = j := PyData.int.inj (Sl.d.inj e1)
    split at q
    · cases r1
      exact ⟨_, rfl, q A1 H1 s1 ok1⟩
    · exact (show False from q).elim
  · exact (show False from q).elim
theorem rg_2 (hg : Gl X "range") (hm : X.mg "range" = none) (ha : EM X R E e ma) (hb : EM X R E e2 mb) (na : starEach [e, e2] X.env = (false, eval e X.env) :: starEach [e2] X.env := by rfl)
    (nb : starEach [e2] X.env = (false, eval e2 X.env) :: starEach [] X.env := by rfl) (hp : (backTo pos (starEach [e2] X.env)).any (·.1) = false := by rfl) : RgM X R E (.Call (.Name "range" p) [e, e2] [] pos) (mRgs ma mb) := by
  obtain ⟨t, pt, k⟩ := ha
  obtain ⟨t2, pt2, k2⟩ := hb
  refine ⟨_, prg_2 hg hm pt pt2 na nb hp, fun O A ρ cs σ H ok rk Q h => ?_⟩
  refine k O A ρ cs σ H ok rk _ ((PostX.bind (r := ma ρ cs) h).step (Stp.refl ok) fun sx cs1 q x A1 H1 s1 ok1 r1 => ?_)
  refine k2 O A1 ρ cs1 σ H1 ok1 (rk.step s1) _ ((PostX.bind (r := mb ρ cs1) q).step s1 fun sy cs2 q2 y A2 H2 s2 ok2 r2 => ?_)
  split at q2
  · split at q2
    · cases r1
      cases r2
      exact ⟨_, _, rfl, rfl, q2 A2 H2 (s1.trans s2) ok2⟩
    · exact (show False from q2).elim
  · exact (show False from q2).elim
theorem mRgs_ok {ρ : Rho} {cs : List HC} {K : PySem.W.Frag} {O A : List Addr} {H : Hp} {S : Int × Int → List HC → Prop} (h : PostX K R O A H E S (mRgs ma mb ρ cs)) :
    PostX K R O A H E (fun ij cs1 => (0 ≤ ij.1 ∧ ij.1 ≤ 16777216 ∧ 0 ≤ ij.2 ∧ ij.2 ≤ 16777216) ∧ S ij cs1) (mRgs ma mb ρ cs) := by
  unfold mRgs at h ⊢
  cases h1 : ma ρ cs with
  | bad =>
    rw [h1] at h
    exact h
  | exc x c =>
    rw [h1] at h
    exact h
  | ok x c1 =>
    rw [h1] at h
    simp only [Res.bind] at h ⊢
    cases h2 : mb ρ c1 with
    | bad =>
      rw [h2] at h
      exact h
    | exc x c =>
      rw [h2] at h
      exact h
    | ok y c2 =>
      rw [h2] at h
      simp only [Res.bind] at h ⊢
      split at h
      · split at h
        · rename_i hz
          rw [if_pos hz]
          exact ⟨hz, h⟩
        · exact (show False from h).elim
      · exact (show False from h).elim
def mListRg (m : Rho → M (Int × Int)) : Rho → M (List D) := fun ρ cs => (m ρ cs).bind fun ij cs1 => .ok (rgD ij.1 ij.2) cs1
theorem lm_listRg (hc : X.calm = true) (hg : Gl X "list") (hm : X.mg "list" = none) (he : RgM X R E e (mRgs ma mb)) (na : starEach [e] X.env = (false, eval e X.env) :: starEach [] X.env := by rfl) :
    LM X R E (.Call (.Name "list" p) [e] [] pos) (mListRg (mRgs ma mb)) := by
  obtain ⟨t, pt, k⟩ := he
  refine ⟨_, pe_listRg hc hg hm pt na, fun O A ρ cs σ H ok rk Q h => ?_⟩
  refine k O A ρ cs σ H ok rk _ ((mRgs_ok (PostX.bind h)).step (Stp.refl ok) fun ij cs1 q A1 H1 s1 ok1 => ?_)
  obtain ⟨⟨h1, h2, h3, h4⟩, q⟩ := q
  exact ⟨RgOk.of_le h1 h4 h2 h3, fun p hp => PostL.new (R := R) (E := E) ok1 (postL_step s1 q) sh_rg hp⟩
end
end Mir
set_option maxHeartbeats 2000000
/-! dict comprehensions, read alone -/
namespace Mir
open PySem PySem.Spec PyProof.Rows L2

/-! ### a dict's pairs -/
inductive ShK (K : PySem.W.Frag) (H : Hp) : List (Key × V) → List (Key × D) → Prop
  | nil : ShK K H [] []
  | cons {k : Key} {v : V} {kvs : List (Key × V)} {d : D} {acc : List (Key × D)} : Sh K H v d → ShK K H kvs acc → ShK K H ((k, v) :: kvs) ((k, d) :: acc)
def putD (kvs : List (Key × D)) (k : Key) (v : D) : List (Key × D) :=
  if (kvs.any fun kv => decide (kv.1 = k)) = true then kvs.map (fun kv => if kv.1 = k then (kv.1, v) else kv) else kvs ++ [(k, v)]
def pairsD (acc : List (Key × D)) : List (D × D) := acc.map fun p => (kD p.1, p.2)
section
variable {K : PySem.W.Frag} {H H' : Hp}
theorem ShK.mono (e : Same H H') : ∀ {kvs : List (Key × V)} {acc : List (Key × D)}, ShK K H kvs acc → ShK K H' kvs acc
  | _, _, .nil => .nil
  | _, _, .cons h t => .cons (Sh.mono e h) (ShK.mono e t)
theorem ShK.len : ∀ {kvs : List (Key × V)} {acc : List (Key × D)}, ShK K H kvs acc → kvs.length = acc.length
  | _, _, .nil => rfl
  | _, _, .cons _ t => congrArg (· + 1) (ShK.len t)
theorem ShK.shd : ∀ {kvs : List (Key × V)} {acc : List (Key × D)}, ShK K H kvs acc → ShD K H kvs (pairsD acc)
  | _, _, .nil => .nil
  | _, _, .cons h t => .cons h (ShK.shd t)
theorem ShK.anyK (k : Key) : ∀ {kvs : List (Key × V)} {acc : List (Key × D)}, ShK K H kvs acc → (kvs.any fun kv => decide (kv.1 = k)) = acc.any fun kv => decide (kv.1 = k)
  | _, _, .nil => rfl
  | _, _, .cons _ t => by
    rw [List.any_cons, List.any_cons, ShK.anyK k t]
theorem ShK.mapK (k : Key) {z : V} {d : D} (hz : Sh K H z d) : ∀ {kvs : List (Key × V)} {acc : List (Key × D)}, ShK K H kvs acc → ShK K H (kvs.map (fun kv => if kv.1 = k then (kv.1, z) else kv)) (acc.map (fun kv => if kv.1 = k then (kv.1, d) else kv))
  | _, _, .nil => .nil
  | _, _, .cons (k := k') h t => by
    rw [List.map_cons, List.map_cons]
    by_cases e : k' = k
    · rw [if_pos e, if_pos e]
      exact .cons hz (ShK.mapK k hz t)
    · rw [if_neg e, if_neg e]
      exact .cons h (ShK.mapK k hz t)
theorem ShK.append : ∀ {kvs : List (Key × V)} {acc : List (Key × D)} {k : Key} {z : V} {d : D}, ShK K H kvs acc → Sh K H z d → ShK K H (kvs ++ [(k, z)]) (acc ++ [(k, d)])
  | _, _, _, _, _, .nil, hz => .cons hz .nil
  | _, _, _, _, _, .cons h t, hz => .cons h (ShK.append t hz)
theorem ShK.put {kvs : List (Key × V)} {acc : List (Key × D)} (h : ShK K H kvs acc) {z : V} {d : D} (hz : Sh K H z d) (k : Key) : ShK K H (putK kvs k z) (putD acc k d) := by
  unfold putK putD
  rw [h.anyK k]
  split
  · exact h.mapK k hz
  · exact h.append hz
end
theorem putD_len (acc : List (Key × D)) (k : Key) (d : D) : (putD acc k d).length ≤ acc.length + 1 := by
  unfold putD
  split
  · rw [List.length_map]
    exact Nat.le_succ _
  · rw [List.length_append]
    exact Nat.le_refl _
def keyD : D → Option Key
  | .int i => some (.inl i)
  | .str x => some (.inr x)
  | _ => none
theorem sh_key {K : PySem.W.Frag} {H : Hp} {v : V} {d : D} {k : Key} (r : Sh K H v d) (e : keyD d = some k) : v = kV k := by
  cases r with
  | int i =>
    cases e
    rfl
  | str x =>
    cases e
    rfl
  | _ => cases e

/-! ### the comprehension -/
def dcL (f : D → Rho → Option Rho) (mt : Rho → M Bool) (mk mv : Rho → M Sl) (ρ : Rho) : List D → List (Key × D) → M (List (Key × D))
  | [], acc, cs => .ok acc cs
  | d :: r, acc, cs => match f d ρ with
    | some ρ1 => (quiet (mt ρ1 cs)).bind fun k cs1 => if cs1.length = cs.length then
        if k = true then (quiet (mk ρ1 cs1)).bind fun y cs2 => (quiet (mv ρ1 cs2)).bind fun z cs3 => if cs3.length = cs.length then match y, z with
            | .d yd, .d zd => match keyD yd with
              | some key => dcL f mt mk mv ρ r (putD acc key zd) cs3
              | none => .bad
            | _, _ => .bad else .bad
        else dcL f mt mk mv ρ r acc cs1 else .bad
    | none => .bad
def mDc (mi : Rho → M (List D)) (f : D → Rho → Option Rho) (mt : Rho → M Bool) (mk mv : Rho → M Sl) (vs : List Nat) : Rho → M Sl := fun ρ cs => (mi ρ cs).bind fun items cs1 => if items.length ≤ SL then
    (dcL f mt mk mv (wipeR ρ vs) items [] cs1).bind fun acc cs2 => .ok (.d (.dict (pairsD acc))) cs2 else .bad
section
variable {X : Cx} {R : XR} {E : XK} {pos : Pos} {kx vx tg iter : Expr} {ifs : List Expr} {mt : Rho → M Bool} {mk mv : Rho → M Sl} {L : List Nat} {f : D → Rho → Option Rho} {mi : Rho → M (List D)}
theorem dc_read {wi : TI} {vs0 : List Nat} (ki : ∀ O A ρ cs σ H, Ok X.K O A cs H → RhoOk X.K O A ρ σ H → ∀ S : It → Hp → Prop, PostX X.K R O A H E (fun items cs1 => ∀ J A' H', Stp A H A' H' → Ok X.K O A' cs1 H' → Feeds X.K O A' H' J items → S J H') (mi ρ cs) → wi σ H S)
    (hL : ∀ i ∈ L, i ∈ vs0) {O A : List Addr} {ρ : Rho} {cs : List HC} {σ : L2.St} {H : Hp} (ok : Ok X.K O A cs H) (rk : RhoOk X.K O A ρ σ H) {Q : VK} (h : Post X.K R O A H Q E (mDc mi f mt mk mv vs0 ρ cs)) :
    tDc wi (tGm X.K L f) (tQm X.K R E0' mt) (tEm X.K R E0' mk) (tEm X.K R E0' mv) vs0 σ H Q := by
  refine ki O A ρ cs σ H ok rk _ (PostX.step (Stp.refl ok) (fun items cs1 q J A1 H1 s1 ok1 fd => ?_) (PostX.bind h))
  split at q
  · rename_i hz
    intro Dl nD
    generalize hvs : vs0 = vs at q hL ⊢
    have hO : ∀ x ∈ Dl :: O, x ∈ O ∨ H1 x = none := fun x hx => (List.mem_cons.mp hx).elim (fun z => .inr (z ▸ nD)) .inl
    have hO0 : ∀ x ∈ Dl :: O, x ∈ O ∨ H x = none := fun x hx => (List.mem_cons.mp hx).elim (fun z => .inr (z ▸ s1.fresh nD)) .inl
    have nA : Dl ∉ A1 := fun z => ok1.ne nD (List.mem_append_right _ z)
    refine ⟨fun i m Hc => ∃ cs' accV accD, Stp A1 H1 A1 Hc ∧ Ok X.K (Dl :: O) A1 cs' Hc ∧ Hc Dl = some (.dK accV) ∧ ShK X.K (hid ((Dl :: O) ++ A1) Hc) accV accD ∧ accD.length ≤ i ∧ m = items.length - i ∧ i ≤ items.length ∧
      Post X.K R O A H Q E ((dcL f mt mk mv (wipeR ρ vs) (items.drop i) accD cs').bind fun acc cs3 => .ok (.d (.dict (pairsD acc))) cs3), ⟨_, cs1, [], [], Stp.new ok1 nD, ?_, upd_same, .nil, Nat.le_refl _, rfl, Nat.zero_le _, ?_⟩, ?_⟩
    · have okn := ok1.new (o := .dK []) nD
      have st := Stp.new (o := .dK []) ok1 nD
      have se := same_ext hO st
      refine ⟨fun x hx => ?_, ok1.len, ok1.nd, fun k a c e1 e2 => ?_⟩
      · rcases List.mem_cons.mp hx with z | z
        · subst z
          exact ⟨by rw [upd_same]; exact fun z => (by cases z), nA⟩
        · exact okn.out x z
      · have ha : a ≠ Dl := fun z => nA (z ▸ List.mem_of_getElem? e1)
        exact HcAt.at (upd_ne ha) ((ok1.at k a c e1 e2).mono se)
    · rw [List.drop_zero]
      exact q
    · rintro i m Hc ⟨cs', accV, accD, sc, okc, hD, hA, hlen, rfl, hi, hq⟩
      obtain ⟨f1, f2⟩ := fd (Dl :: O) A1 cs' Hc hO sc okc i
      cases ed : items.drop i with
      | nil =>
        rw [ed] at hq
        refine .inl ⟨f1 (drop_end ed), ?_⟩
        have st := s1.trans sc
        have less : Same (hid ((Dl :: O) ++ A1) Hc) (hid (O ++ A1) Hc) := fun b u e => by
          obtain ⟨hb, e⟩ := hid_some.mp e
          refine hid_some.mpr ⟨fun z => hb ?_, e⟩
          rw [List.cons_append]
          exact List.mem_cons_of_mem _ z
        have hq' : Post X.K R O A H Q E (.ok (.d (.dict (pairsD accD))) cs') := hq
        refine hq' (.ref Dl) A1 Hc st ⟨fun x hx => okc.out x (List.mem_cons_of_mem _ hx), okc.len, okc.nd, fun k a c e1 e2 => (okc.at k a c e1 e2).mono less⟩ ?_
        exact .dic (hid_some.mpr ⟨ok1.ne nD, hD⟩) (hA.mono less).shd
      | cons d r =>
        rw [ed] at hq
        obtain ⟨ei, er⟩ := drop_get ed
        obtain ⟨go, yl⟩ := f2 d ei
        have hlt := (List.getElem?_eq_some_iff.mp ei).1
        refine .inr ⟨go, fun Hn => ∃ cs' accV accD, Stp A1 H1 A1 Hn ∧ Ok X.K (Dl :: O) A1 cs' Hn ∧ Hn Dl = some (.dK accV) ∧ ShK X.K (hid ((Dl :: O) ++ A1) Hn) accV accD ∧ accD.length ≤ i + 1 ∧
          Post X.K R O A H Q E ((dcL f mt mk mv (wipeR ρ vs) r accD cs').bind fun acc cs3 => .ok (.d (.dict (pairsD acc))) cs3), fun Hn hN => ?_, fun x H2 y => ?_⟩
        · obtain ⟨cs2, aV, aD, t1, t2, t3, t4, t5, t6⟩ := hN
          exact ⟨items.length - (i + 1), by omega, cs2, aV, aD, t1, t2, t3, t4, t5, rfl, hlt, by rw [er]; exact t6⟩
        · obtain ⟨s2, ok2, r2⟩ := yl x H2 y
          simp only [dcL] at hq
          split at hq
          · rename_i ρ1 e1
            have s12 := sc.trans s2
            have rkw : RhoOk X.K (Dl :: O) A1 (wipeR ρ vs) (wipe σ vs) H2 := (rk.ext hO0 (s1.trans s12)).wipe vs
            refine ⟨Dl :: O, A1, cs', wipeR ρ vs, d, ρ1, ok2, rkw, r2, e1, fun σ3 rk3 l3 f3 => ⟨wipe_ext l3 fun i hi => f3 i fun z => hi (hL i z), ?_⟩⟩
            rw [Res.bind_bind] at hq
            refine ⟨Dl :: O, A1, ρ1, cs', ok2, rk3, quiet_post (PostX.step (Stp.refl ok) (fun k cs2 q2 A3 H3 s3 ok3 => ?_) (PostX.bind hq))⟩
            by_cases hl2 : cs2.length = cs'.length
            · rw [if_pos hl2] at q2
              have eA : A3 = A1 := s3.eq (by rw [ok3.len, hl2, okc.len])
              subst eA
              have s123 := s12.trans s3
              have hD3 : H3 Dl = some (.dK accV) := s3.keep Dl _ nA (s2.keep Dl _ nA hD)
              have hA3 := (hA.mono s2.same).mono s3.same
              cases k with
              | false =>
                rw [if_neg Bool.false_ne_true] at q2 ⊢
                exact ⟨cs2, accV, accD, s123, ok3, hD3, hA3, by omega, q2⟩
              | true =>
                rw [if_pos rfl] at q2 ⊢
                rw [Res.bind_bind] at q2
                refine ⟨Dl :: O, A3, ρ1, cs2, ok3, rk3.step s3, quiet_post (PostX.step (Stp.refl ok) (fun sy cs3 q3 vy A4 H4 s4 ok4 r4 => ?_) (PostX.bind q2))⟩
                rw [Res.bind_bind] at q3
                refine ⟨Dl :: O, A4, ρ1, cs3, ok4, (rk3.step s3).step s4, quiet_post (PostX.step (Stp.refl ok) (fun sz cs4 q4 vz A5 H5 s5 ok5 r5 => ?_) (PostX.bind q3))⟩
                by_cases hl3 : cs4.length = cs'.length
                · rw [if_pos hl3] at q4
                  have s45 := s4.trans s5
                  have eA5 : A5 = A3 := s45.eq (by rw [ok5.len, hl3, okc.len])
                  subst eA5
                  cases sy with
                  | h j => exact (show False from q4).elim
                  | s ns => exact (show False from q4).elim
                  | d yd =>
                    cases sz with
                    | h j => exact (show False from q4).elim
                    | s ns => exact (show False from q4).elim
                    | d zd =>
                      simp only [] at q4
                      split at q4
                      · rename_i key ek
                        have hy : vy = kV key := sh_key r4 ek
                        have hD5 : H5 Dl = some (.dK accV) := s45.keep Dl _ nA hD3
                        obtain ⟨ok6, same6⟩ := ok5.outer (p := Dl) (o := .dK (putK accV key vz)) (List.mem_cons_self)
                        have hA5 := hA3.mono s45.same
                        have s1235 := s123.trans s45
                        refine ⟨accV, key, hy, hD5, ?_, cs4, putK accV key vz, putD accD key zd, ⟨⟨[], by simp, by simp⟩, fun b o hb e => ?_, fun b hb => ?_⟩, ok6, upd_same, (hA5.mono same6).put (Sh.mono same6 r5) key, ?_, ?_⟩
                        · rw [hA.len, ← SL_eq]
                          omega
                        · rw [upd_ne (fun (z : b = Dl) => by
                            rw [z, nD] at e
                            cases e)]
                          exact s1235.keep b o hb e
                        · rw [upd_ne (fun (z : b = Dl) => nA (z ▸ hb))]
                          exact s1235.live b hb
                        · have := putD_len accD key zd
                          omega
                        · exact q4
                      · exact (show False from q4).elim
                · rw [if_neg hl3] at q4
                  exact (show False from q4).elim
            · rw [if_neg hl2] at q2
              exact (show False from q2).elim
          · exact (show False from hq).elim
  · exact (show False from q).elim
theorem em_dc {scope : Scope} {own : List (Str × Nat)} (hc : X.calm = true) (hN : X.N.Nodup) (hi : IM X R E tg iter mi) (okb : BlkOk X.N X.env.scope scope own) (hL : ∀ i ∈ L, i ∈ own.map (·.2))
    (hg : ∀ (s : Shared) (H : Hp) (C : Addr) (cl : List (Str × Addr)) (fp : List Addr), GM (X.blk s H scope (compEnvC scope cl C X.env) fp) tg L f)
    (ht : ∀ (s : Shared) (H : Hp) (C : Addr) (cl : List (Str × Addr)) (fp : List Addr), QM (X.blk s H scope (compEnvC scope cl C X.env) fp) R E0' ifs mt)
    (hk : ∀ (s : Shared) (H : Hp) (C : Addr) (cl : List (Str × Addr)) (fp : List Addr), EM (X.blk s H scope (compEnvC scope cl C X.env) fp) R E0' kx mk)
    (he : ∀ (s : Shared) (H : Hp) (C : Addr) (cl : List (Str × Addr)) (fp : List Addr), EM (X.blk s H scope (compEnvC scope cl C X.env) fp) R E0' vx mv) (hs : ∀ x, foldedSetIterable iter X.env x = pure x := by intro _; rfl) :
    EM X R E (.DictComp kx vx [⟨tg, iter, ifs, 0⟩] scope pos) (mDc mi f mt mk mv (own.map (·.2))) := by
  obtain ⟨wi, pi, ki⟩ := hi
  exact ⟨_, pe_dc (g := tGm X.K L f) (tt := tQm X.K R E0' mt) (tk := tEm X.K R E0' mk) (tv := tEm X.K R E0' mv) hc hN pi okb (fun s H C cl fp => (hg s H C cl fp).pg) (fun s H C cl fp => (ht s H C cl fp).pe) (fun s H C cl fp => (hk s H C cl fp).pe) (fun s H C cl fp => (he s H C cl fp).pe) hs, fun O A ρ cs σ H ok rk Q h => dc_read ki hL ok rk h⟩

/-! ### len of dicts too -/
def bLenX : List Sl → M Sl := fun xs cs => match xs with
  | [.d (.str z)] => if z.length ≤ SL then .ok (.d (.int z.length)) cs else .bad
  | [.d (.dict kvs)] => .ok (.d (.int kvs.length)) cs
  | [x] => match seqD x cs with
    | some ds => .ok (.d (.int ds.length)) cs
    | none => .bad
  | _ => .bad
theorem ShD.len {K : PySem.W.Frag} {H : Hp} : ∀ {kvs : List (Key × V)} {ds : List (D × D)}, ShD K H kvs ds → kvs.length = ds.length
  | _, _, .nil => rfl
  | _, _, .cons _ t => congrArg (· + 1) (ShD.len t)
theorem cb_lenX : CbM X R E (.builtin "len") bLenX := by
  refine cb_of (CallR.or call_len call_lenD) fun O A cs H vs sls ok rs Q h => ?_
  unfold bLenX at h
  split at h
  · obtain ⟨v, rfl, r⟩ := one_of rs
    split at h
    · rename_i hz
      cases r
      exact .inl ⟨_, _, rfl, ⟨SL_eq ▸ hz, rfl⟩, Post.ret ok h (.int _)⟩
    · exact h.elim
  · obtain ⟨v, rfl, r⟩ := one_of rs
    cases r with
    | dic hd t =>
      rw [← t.len] at h
      exact .inr ⟨_, _, rfl, hid_same _ _ hd, Post.ret ok h (.int _)⟩
  · obtain ⟨v, rfl, r⟩ := one_of rs
    split at h
    · rename_i ds ed
      obtain ⟨p, ws, rfl, hq, sa⟩ := seq_d ok r ed
      rw [← sa.length] at h
      refine .inl ⟨_, ws.length, rfl, ?_, Post.ret ok h (.int _)⟩
      rcases hq with hq | hq
      · exact .inr ⟨ws, hq, rfl⟩
      · exact .inl ⟨ws, hq, rfl⟩
    · exact h.elim
  · exact h.elim
end
end Mir
set_option maxHeartbeats 2000000
/-! in, not in -/
namespace Mir
open PySem PySem.Spec PyProof.Rows L2

def flatD : D → Bool
  | .none => true
  | .bool _ => true
  | .int _ => true
  | .str _ => true
  | _ => false
section
variable {K : PySem.W.Frag} {H : Hp}
theorem sh_flat {v : V} {d : D} (r : Sh K H v d) (h : flatD d = true) : flatV v = true := by
  cases r <;> first | rfl | exact (Bool.false_ne_true h).elim
theorem sh_flats : ∀ {vs : List V} {ds : List D}, ShA K H vs ds → ds.all flatD = true → vs.all flatV = true
  | _, _, .nil, _ => rfl
  | _, _, .cons h t, e => by
    rw [List.all_cons, Bool.and_eq_true] at e
    rw [List.all_cons, sh_flat h e.1, sh_flats t e.2]
    rfl
theorem sh_eqV {v w : V} {d e : D} (r : Sh K H v d) (q : Sh K H w e) (hd : flatD d = true) (he : flatD e = true) : eqV v w = PyData.eqv d e := by
  cases r <;> first | exact (Bool.false_ne_true hd).elim | (cases q <;> first | exact (Bool.false_ne_true he).elim | rfl)
theorem sh_inV {w : V} {e : D} (q : Sh K H w e) (he : flatD e = true) : ∀ {vs : List V} {ds : List D}, ShA K H vs ds → ds.all flatD = true → inV w vs = ds.any fun z => PyData.eqv z e
  | _, _, .nil, _ => rfl
  | _, _, .cons h t, hd => by
    rw [List.all_cons, Bool.and_eq_true] at hd
    have ih := sh_inV q he t hd.2
    unfold inV at ih ⊢
    rw [List.any_cons, List.any_cons, sh_eqV h q hd.1 he, ih]
end
def inD (neg : Bool) (d : D) (ds : List D) : Bool := if neg then !(ds.any fun z => PyData.eqv z d) else ds.any fun z => PyData.eqv z d
def oInB (neg : Bool) : Sl → Sl → M Sl := fun x y cs => match x, seqD y cs with
  | .d d, some ds => if flatD d = true ∧ ds.all flatD = true then .ok (.d (.bool (inD neg d ds))) cs else .bad
  | _, _ => .bad
def oIn2 : Sl → Sl → M Sl := oInB false
def oNotIn2 : Sl → Sl → M Sl := oInB true
section
variable {X : Cx} {R : XR} {E : XK}
theorem om_in2 : OpM X R E (compareOp .In) oIn2 := by
  refine opm_of op_in_seq fun O A cs H x y sx sy ok rx ry Q h => ?_
  unfold oIn2 oInB at h
  split at h
  · rename_i d ds ed
    split at h
    · rename_i hz
      obtain ⟨p, vs, rfl, hq, sa⟩ := seq_d ok ry ed
      refine ⟨p, vs, rfl, hq.symm, sh_flat rx hz.1, sh_flats sa hz.2, ?_⟩
      rw [if_neg Bool.false_ne_true, sh_inV rx hz.1 sa hz.2]
      exact Post.ret ok h (.bl _)
    · exact h.elim
  · exact h.elim
theorem om_notIn2 : OpM X R E (compareOp .NotIn) oNotIn2 := by
  refine opm_of op_notIn_seq fun O A cs H x y sx sy ok rx ry Q h => ?_
  unfold oNotIn2 oInB at h
  split at h
  · rename_i d ds ed
    split at h
    · rename_i hz
      obtain ⟨p, vs, rfl, hq, sa⟩ := seq_d ok ry ed
      refine ⟨p, vs, rfl, hq.symm, sh_flat rx hz.1, sh_flats sa hz.2, ?_⟩
      rw [if_pos rfl, sh_inV rx hz.1 sa hz.2]
      exact Post.ret ok h (.bl _)
    · exact h.elim
  · exact h.elim
end

/-! ### a + b, a * k of lists: new lists -/
def oCatL : Sl → Sl → M (List D) := fun x y cs => match viewT x cs, viewT y cs with
  | some a, some b => if a.length + b.length ≤ SL then .ok (a ++ b) cs else .bad
  | _, _ => .bad
def oRepL : Sl → Sl → M (List D) := fun x y cs => match viewT x cs, y with
  | some a, .d (.int k) => if -(2 ^ 63) ≤ k ∧ k < 2 ^ 63 ∧ a.length * k.toNat ≤ SL then .ok (List.replicate k.toNat a).flatten cs else .bad
  | _, _ => .bad
def mBinL (o : Sl → Sl → M (List D)) (ma mb : Rho → M Sl) : Rho → M (List D) := fun ρ cs => (ma ρ cs).bind fun x cs1 => (mb ρ cs1).bind fun y cs2 => o x y cs2
section
variable {X : Cx} {R : XR} {E : XK} {pos : Pos} {a b : Expr} {ma mb : Rho → M Sl}
theorem lm_cat (ha : EM X R E a ma) (hb : EM X R E b mb) : LM X R E (.BinOp a .Add b pos) (mBinL oCatL ma mb) := by
  obtain ⟨ta, pa, ka⟩ := ha
  obtain ⟨tb, pb, kb⟩ := hb
  refine ⟨_, pe_op op_cat pa pb, fun O A ρ cs σ H ok rk Q h => ?_⟩
  refine two ka kb ok rk (S := fun x y cs2 => PostL X.K R O A H Q E (oCatL x y cs2)) ((PostX.bind h).step (Stp.refl ok) fun x cs1 h1 => PostX.bind h1) fun x y sx sy A2 cs2 H2 s ok2 rx ry hS => ?_
  unfold oCatL at hS
  split at hS
  · rename_i u v ea eb
    split at hS
    · rename_i hz
      obtain ⟨p, vs, rfl, h1, s1⟩ := view_t ok2 rx ea
      obtain ⟨q, ws, rfl, h2, s2⟩ := view_t ok2 ry eb
      exact ⟨p, q, vs, ws, rfl, rfl, h1, h2, by rw [s1.length, s2.length]; exact SL_eq ▸ hz, fun p' hp => PostL.new (R := R) (E := E) ok2 (postL_step s hS) (s1.append s2) hp⟩
    · exact (show False from hS).elim
  · exact (show False from hS).elim
theorem lm_rep (ha : EM X R E a ma) (hb : EM X R E b mb) : LM X R E (.BinOp a .Mult b pos) (mBinL oRepL ma mb) := by
  obtain ⟨ta, pa, ka⟩ := ha
  obtain ⟨tb, pb, kb⟩ := hb
  refine ⟨_, pe_op op_rep pa pb, fun O A ρ cs σ H ok rk Q h => ?_⟩
  refine two ka kb ok rk (S := fun x y cs2 => PostL X.K R O A H Q E (oRepL x y cs2)) ((PostX.bind h).step (Stp.refl ok) fun x cs1 h1 => PostX.bind h1) fun x y sx sy A2 cs2 H2 s ok2 rx ry hS => ?_
  unfold oRepL at hS
  split at hS
  · rename_i u k ea
    split at hS
    · rename_i hz
      obtain ⟨p, vs, rfl, h1, s1⟩ := view_t ok2 rx ea
      cases ry
      exact ⟨p, _, vs, rfl, rfl, h1, hz.1, hz.2.1, by rw [s1.length]; exact SL_eq ▸ hz.2.2, fun p' hp => PostL.new (R := R) (E := E) ok2 (postL_step s hS) (flat_rep s1 _) hp⟩
    · exact (show False from hS).elim
  · exact (show False from hS).elim
end
end Mir
set_option maxHeartbeats 2000000
/-! the steps of the later words -/
namespace Mir
open PySem PySem.Spec PyProof.Rows L2
section
variable {P : Sl → List HC → Prop} {PL : List D → List HC → Prop} {PF : Fl → List HC → Prop} {PA : List Sl → List HC → Prop} {cs : List HC} {ρ : Rho} {ma mb mk mv : Rho → M Sl} {mt : Rho → M Bool} {ms : Rho → M (List Sl)} {gf : D → Rho → Option Rho} {i j : Int} {d : D} {b : Bool}
theorem wp_lenX {x : Sl} {ds : List D} (e : seqD x cs = some ds) (h : P (.d (.int ds.length)) cs) : Wp (bLenX [x] cs) P := by
  cases x with
  | d d' =>
    cases d' with
    | str z => cases e
    | dict z => cases e
    | _ =>
      simp only [bLenX, e]
      exact h
  | h k =>
    simp only [bLenX, e]
    exact h
  | s ns =>
    simp only [bLenX, e]
    exact h
theorem wp_lenD {kvs : List (D × D)} (h : P (.d (.int kvs.length)) cs) : Wp (bLenX [.d (.dict kvs)] cs) P := h
theorem wp_lenS {z : Str} (e : z.length ≤ SL) (h : P (.d (.int z.length)) cs) : Wp (bLenX [.d (.str z)] cs) P := by
  simp only [bLenX, if_pos e]
  exact h
theorem wp_isB (h : P (.d (.bool (isB d b))) cs) : Wp (oIsX (.d d) (.d (.bool b)) cs) P := h
theorem wp_isNo (h : P (.d (.bool (isNo d))) cs) : Wp (oIsX (.d d) (.d .none) cs) P := h
theorem wp_notB (h : P (.d (.bool (!isB d b))) cs) : Wp (oNotX (.d d) (.d (.bool b)) cs) P := h
theorem wp_notNo (h : P (.d (.bool (!isNo d))) cs) : Wp (oNotX (.d d) (.d .none) cs) P := h
theorem wp_maxX (h : P (.d (.int (if j > i then j else i))) cs) : Wp (bMaxX [.d (.int i), .d (.int j)] cs) P := h
theorem wp_minX (h : P (.d (.int (if j < i then j else i))) cs) : Wp (bMinX [.d (.int i), .d (.int j)] cs) P := h
theorem wp_maxS {x : Sl} {ds : List D} {ns : List Int} (e : seqD x cs = some ds) (e2 : intsD ds = some ns) (e3 : 0 < ns.length) (h : P (.d (.int (maxI ns))) cs) : Wp (bMaxX [x] cs) P := by
  cases x with
  | d d' => simp only [bMaxX, e, e2, if_pos e3]; exact h
  | h k => simp only [bMaxX, e, e2, if_pos e3]; exact h
  | s n => simp only [bMaxX, e, e2, if_pos e3]; exact h
theorem wp_minS {x : Sl} {ds : List D} {ns : List Int} (e : seqD x cs = some ds) (e2 : intsD ds = some ns) (e3 : 0 < ns.length) (h : P (.d (.int (minI ns))) cs) : Wp (bMinX [x] cs) P := by
  cases x with
  | d d' => simp only [bMinX, e, e2, if_pos e3]; exact h
  | h k => simp only [bMinX, e, e2, if_pos e3]; exact h
  | s n => simp only [bMinX, e, e2, if_pos e3]; exact h
theorem wp_parN {is : List Nat} (h : Wp (ms ρ cs) fun xs cs1 => ∃ ρ1, setAllR is xs ρ = some ρ1 ∧ PF (.nx ρ1) cs1) : Wp (sParN is ms ρ cs) PF := wp_bind (h.mono fun xs cs1 ⟨ρ1, e, q⟩ => by
  rw [e]
  exact q)
theorem wp_rgs {PR : Int × Int → List HC → Prop} (h : Wp (ma ρ cs) fun x cs1 => Wp (mb ρ cs1) fun y cs2 => ∃ i j, x = .d (.int i) ∧ y = .d (.int j) ∧ (0 ≤ i ∧ i ≤ 16777216 ∧ 0 ≤ j ∧ j ≤ 16777216) ∧ PR (i, j) cs2) : Wp (mRgs ma mb ρ cs) PR :=
  wp_bind (h.mono fun _ _ q1 => wp_bind (q1.mono fun _ _ ⟨i', j', e1, e2, z, q2⟩ => by
    subst e1 e2
    simp only [if_pos z]
    exact q2))
theorem wp_c0 (h : P (.d (.int 0)) cs) : Wp (mC0 ρ cs) P := h
theorem wp_listRg {m : Rho → M (Int × Int)} (h : Wp (m ρ cs) fun ij cs1 => PL (rgD ij.1 ij.2) cs1) : Wp (mListRg m ρ cs) PL := wp_bind h
theorem wp_in2 {x : D} {y : Sl} {ds : List D} (e : seqD y cs = some ds) (c : flatD x = true ∧ ds.all flatD = true) (h : P (.d (.bool (ds.any fun z => PyData.eqv z x))) cs) : Wp (oIn2 (.d x) y cs) P := by
  unfold oIn2 oInB
  simp only [e, if_pos c]
  exact h
theorem wp_notIn2 {x : D} {y : Sl} {ds : List D} (e : seqD y cs = some ds) (c : flatD x = true ∧ ds.all flatD = true) (h : P (.d (.bool (!(ds.any fun z => PyData.eqv z x)))) cs) : Wp (oNotIn2 (.d x) y cs) P := by
  unfold oNotIn2 oInB
  simp only [e, if_pos c]
  exact h
theorem wp_binL {o : Sl → Sl → M (List D)} (h : Wp (ma ρ cs) fun x cs1 => Wp (mb ρ cs1) fun y cs2 => Wp (o x y cs2) PL) : Wp (mBinL o ma mb ρ cs) PL := wp_bind (h.mono fun _ _ q => wp_bind q)
theorem wp_catL {x y : Sl} {a b : List D} (ea : viewT x cs = some a) (eb : viewT y cs = some b) (c : a.length + b.length ≤ SL) (h : PL (a ++ b) cs) : Wp (oCatL x y cs) PL := by
  unfold oCatL
  simp only [ea, eb, if_pos c]
  exact h
theorem wp_repLL {x : Sl} {a : List D} {k : Int} (ea : viewT x cs = some a) (c : -(2 ^ 63) ≤ k ∧ k < 2 ^ 63 ∧ a.length * k.toNat ≤ SL) (h : PL (List.replicate k.toNat a).flatten cs) : Wp (oRepL x (.d (.int k)) cs) PL := by
  unfold oRepL
  simp only [ea, if_pos c]
  exact h
theorem wp_dc {mi : Rho → M (List D)} {vs : List Nat} (h : Wp (mi ρ cs) fun items cs1 => items.length ≤ SL ∧ Wp (dcL gf mt mk mv (wipeR ρ vs) items [] cs1) fun acc cs2 => P (.d (.dict (pairsD acc))) cs2) : Wp (mDc mi gf mt mk mv vs ρ cs) P := wp_bind (h.mono fun _ _ ⟨e, q⟩ => by
  rw [if_pos e]
  exact wp_bind q)
/-- keys and values by plain functions of the items -/
theorem wp_dcMap (Fk : D → Key) (Fv : D → D) : ∀ {items : List D} {cs : List HC} {acc : List (Key × D)} {PK : List (Key × D) → List HC → Prop}, (∀ d ∈ items, ∃ ρ1, gf d ρ = some ρ1 ∧ (Wp (mk ρ1 cs) fun sl cs2 => cs2 = cs ∧ ∃ y, sl = .d y ∧ keyD y = some (Fk d)) ∧ Wp (mv ρ1 cs) fun sl cs2 => cs2 = cs ∧ sl = .d (Fv d)) →
    PK (items.foldl (fun acc d => putD acc (Fk d) (Fv d)) acc) cs → Wp (dcL gf mYes mk mv ρ items acc cs) PK
  | [], cs, acc, PK, k, q => q
  | d :: r, cs, acc, PK, k, q => by
    obtain ⟨ρ1, e, wk, wv⟩ := k d (List.mem_cons_self)
    obtain ⟨sk, cs2, e2, e3, y, e4, e5⟩ := wk.get
    subst e3 e4
    obtain ⟨sv, cs3, f2, f3, f4⟩ := wv.get
    subst f3 f4
    have ih := wp_dcMap (acc := putD acc (Fk d) (Fv d)) (PK := PK) Fk Fv (fun d' hd => k d' (List.mem_cons_of_mem _ hd)) q
    simp only [dcL, e, mYes, quiet, Res.bind, if_true, e2, f2, e5]
    exact ih
end
end Mir
set_option maxHeartbeats 2000000
/-! zip of a list and a tuple, either way round -/
namespace MirZ
open PySem PySem.Spec PyProof.Rows L2
open PySem.Sem (wp)

/-- k items of the list (false), the tuple (true) at l were given out by i -/
def ItAt (b : Bool) (h : Heap) (i l : Addr) (k : Nat) : Prop := match b with
  | true => h.IsTupleIter i l k
  | false => h.IsListIter i l k
def SqAt (b : Bool) (h : Heap) (l : Addr) (xs : Array Value) : Prop := match b with
  | true => h.IsTuple l xs
  | false => h.IsList l xs
section
variable {h h' : Heap} {i l c : Addr} {k : Nat} {xs : Array Value}
theorem ItAt.ext {b : Bool} (x : ItAt b h i l k) (e : Heap.ExtBut c h h') (n : i ≠ c) : ItAt b h' i l k := by
  cases b
  · exact Heap.IsListIter.extBut x e n
  · exact Heap.IsTupleIter.extBut x e n
theorem ItAt.here {b : Bool} (x : ItAt b h i l k) (e : ∀ o, h.get? i = some o → h'.get? i = some o) : ItAt b h' i l k := by
  cases b
  · exact Heap.IsListIter.at x e
  · exact Heap.IsTupleIter.at x e
theorem ItAt.obj {b : Bool} (x : ItAt b h i l k) : ∃ o, h.get? i = some o ∧ ∀ v, o.data ≠ .cell v := by
  cases b
  · obtain ⟨o, e, _, d⟩ := x
    exact ⟨o, e, fun v q => by rw [d] at q; cases q⟩
  · obtain ⟨o, e, _, d⟩ := x
    exact ⟨o, e, fun v q => by rw [d] at q; cases q⟩
theorem ItAt.lt {b : Bool} (x : ItAt b h i l k) : i < h.objs.size := by
  obtain ⟨o, e, _⟩ := x.obj
  exact Heap.lt_size e
theorem SqAt.ext {b : Bool} (x : SqAt b h l xs) (e : Heap.ExtBut c h h') (n : l ≠ c) : SqAt b h' l xs := by
  cases b
  · exact Heap.IsList.extBut x e n
  · exact Heap.IsTuple.extBut x e n
end
section
variable {prog : Program} {w : World} {A : Around} {E : Value → Shared → Prop} {s : Shared} {i l : Addr} {k : Nat} {xs : Array Value} {x : Value}
theorem one_item {b : Bool} {Q : Value → Shared → Prop} (hit : ItAt b s.heap i l k) (hl : SqAt b s.heap l xs) (hx : xs[k]? = some x) (hQ : ∀ h', ItAt b h' i l (k + 1) → Heap.SameBut i s.heap h' → Q x { s with heap := h' }) :
    wpAny (model prog w) A (Builtin.SmallTypes.nextOf (.ref i)) Q E s := by
  cases b
  · exact wpAny_nextOf_list_item hit hl hx hQ
  · exact RZ.nextOf_tuple_item hit hl hx hQ
theorem one_end {b : Bool} {Q : Value → Shared → Prop} (hh : A.handled = none) (hit : ItAt b s.heap i l k) (hl : SqAt b s.heap l xs) (hx : xs[k]? = none)
    (hE : ∀ h' e, Heap.ExtBut i s.heap h' → (∃ o, h'.get? e = some o ∧ o.cls = .type "StopIteration") → E (.ref e) { s with heap := h' }) : wpAny (model prog w) A (Builtin.SmallTypes.nextOf (.ref i)) Q E s := by
  cases b
  · exact wpAny_nextOf_list_end hh hit hl hx hE
  · exact RZ.nextOf_tuple_end hh hit hl hx hE
variable {z TI TO i1 i2 l1 l2 : Addr} {k1 k2 : Nat} {us ys : Array Value} {y p q : Value} {b1 b2 : Bool}
/-- what is kept: all but the zip's own objects -/
def Keeps (z TO i1 i2 : Addr) (h h' : Heap) : Prop := ∀ c o, c ≠ z → c ≠ TO → c ≠ i1 → c ≠ i2 → h.get? c = some o → h'.get? c = some o
theorem pair_item {Q : Value → Shared → Prop} (D : ZipApart z TI TO i1 i2 l1 l2) (hz : IsZip s.heap z TI TO .none) (hTI : IsPair s.heap TI (.ref i1) (.ref i2)) (hTO : IsPair s.heap TO p q)
    (h1 : ItAt b1 s.heap i1 l1 k1) (h2 : ItAt b2 s.heap i2 l2 k2) (g1 : SqAt b1 s.heap l1 us) (g2 : SqAt b2 s.heap l2 ys) (hx : us[k1]? = some x) (hy : ys[k2]? = some y)
    (hQ : ∀ h', IsZip h' z TI TO (rawInt s.heap.objs.size) → IsPair h' TO x y → ItAt b1 h' i1 l1 (k1 + 1) → ItAt b2 h' i2 l2 (k2 + 1) → IsPair h' s.heap.objs.size x y → h'.objs.size = s.heap.objs.size + 1 → Keeps z TO i1 i2 s.heap h' → Q (.ref s.heap.objs.size) { s with heap := h' }) :
    wpAny (model prog w) A (Builtin.«zip.__next__» ⟨[.ref z], []⟩) (fun fin s' => ∃ v, fin = .done (.ret v) ∧ Q v s') E s := by
  show wpAny _ _ (field (.ref z) 2 >>= _) _ _ _
  refine wpAny_bind (wpAny_field hz rfl (x := .bool false) rfl (show wpAny _ _ (field (.ref z) 3 >>= _) _ _ _ from wpAny_bind (wpAny_field hz rfl (x := .ref TI) rfl (wpAny_bind (wpAny_seqItems hTI rfl ?_)))))
  show wpAny _ _ (Builtin.SmallTypes.ownedTupleIsFree (.ref z) >>= _) _ _ _
  refine wpAny_bind ?_
  unfold Builtin.SmallTypes.ownedTupleIsFree
  refine wpAny_bind (wpAny_field hz rfl (x := .none) rfl (wpAny_pure ?_))
  simp only [if_true]
  refine wpAny_bind (wpAny_rule (wpAny_bind (wpAny_field hz rfl (x := .ref TO) rfl (wpAny_bind (wpAny_setField_rec hz (by simp) fun ha za ea => ?_)))))
  replace za : IsZip ha z TI TO .ellipsis := za
  refine wpAny_bind ?_
  simp only [List.zipIdx_cons, List.zipIdx_nil, List.forIn_cons, List.forIn_nil]
  -- the first part
  refine wpAny_bind (wpAny_bind (wpAny_onRaise (show wpAny _ _ (Builtin.SmallTypes.nextOf (.ref i1) >>= _) _ _ _ from ?_)))
  refine wpAny_bind (one_item (h1.ext ea.extBut D.i1z) (g1.ext ea.extBut D.l1z) hx fun hb ib eb => wpAny_pure ?_)
  have tb : IsPair hb TO p q := eb.extBut _ _ D.TOi1 (ea.extBut _ _ D.TOz hTO)
  refine wpAny_bind (wpAny_seqItems tb rfl (wpAny_bind (wpAny_updateSeq_pair tb fun hc tc ec => ?_)))
  replace tc : IsPair hc TO x q := tc
  refine wpAny_bind (wpAny_letGo (wpAny_pure ?_))
  -- the second part
  refine wpAny_bind (wpAny_bind (wpAny_onRaise (show wpAny _ _ (Builtin.SmallTypes.nextOf (.ref i2) >>= _) _ _ _ from ?_)))
  refine wpAny_bind (one_item (((h2.ext ea.extBut D.i2z).ext eb.extBut D.i12.symm).ext ec.extBut D.TOi2.symm) (((g2.ext ea.extBut D.l2z).ext eb.extBut D.l2i1).ext ec.extBut D.l2TO) hy fun hd id' ed => wpAny_pure ?_)
  have td : IsPair hd TO x q := ed.extBut _ _ D.TOi2 tc
  refine wpAny_bind (wpAny_seqItems td rfl (wpAny_bind (wpAny_updateSeq_pair td fun he te ee => ?_)))
  replace te : IsPair he TO x y := te
  refine wpAny_bind (wpAny_letGo (wpAny_pure (wpAny_pure (wpAny_bind (wpAny_seqItems te rfl (wpAny_bind (wpAny_newTuple ?_)))))))
  -- the pair is handed out
  have hsz : he.objs.size = s.heap.objs.size := by rw [ee.1, ed.1, ec.1, eb.1, ea.1]
  have ze : IsZip he z TI TO .ellipsis := ee.extBut _ _ D.TOz.symm (ed.extBut _ _ D.i2z.symm (ec.extBut _ _ D.TOz.symm (eb.extBut _ _ D.i1z.symm za)))
  have ke : Keeps z TO i1 i2 s.heap he := fun c o c1 c2 c3 c4 r => ee.extBut _ _ c2 (ed.extBut _ _ c4 (ec.extBut _ _ c2 (eb.extBut _ _ c3 (ea.extBut _ _ c1 r))))
  have ie := ((ib.ext ec.extBut D.TOi1.symm).ext ed.extBut D.i12).ext ee.extBut D.TOi1.symm
  have je := id'.ext ee.extBut D.TOi2.symm
  have zlt : z < he.objs.size := Heap.lt_size ze
  show wpAny _ _ (Builtin.SmallTypes.ownedTupleHandOut (.ref z) (.ref he.objs.size) >>= _) _ _ _
  refine wpAny_bind ?_
  unfold Builtin.SmallTypes.ownedTupleHandOut
  have zf : IsZip (he.push { cls := .type "tuple", data := .seq #[x, y] }) z TI TO .ellipsis := Heap.get?_push_of_some _ ze
  refine wpAny_bind (wpAny_setField_rec zf (by simp) fun hg zg eg => ?_)
  replace zg : IsZip hg z TI TO (rawInt he.objs.size) := zg
  refine wpAny_setField_rec zg (by simp) fun hk zk ek => ?_
  replace zk : IsZip hk z TI TO (rawInt he.objs.size) := zk
  have up : ∀ c o, c ≠ z → he.get? c = some o → hk.get? c = some o := fun c o c1 r => ek.extBut _ _ c1 (eg.extBut _ _ c1 (Heap.get?_push_of_some _ r))
  have pk : IsPair hk he.objs.size x y := ek.extBut _ _ (Nat.ne_of_gt zlt) (eg.extBut _ _ (Nat.ne_of_gt zlt) (Heap.get?_push_size _ rfl))
  have sk : hk.objs.size = he.objs.size + 1 := by rw [ek.1, eg.1, Heap.size_push]
  rw [hsz] at zk pk sk
  refine wpAny_pure ⟨_, rfl, ?_⟩
  show Q (.ref he.objs.size) _
  rw [hsz]
  exact hQ hk zk (up _ _ D.TOz te) (ie.here fun o r => up _ o D.i1z r) (je.here fun o r => up _ o D.i2z r) pk sk fun c o c1 c2 c3 c4 r => up c o c1 (ke c o c1 c2 c3 c4 r)
theorem pair_end {Q : Fin → Shared → Prop} (hh : A.handled = none) (D : ZipApart z TI TO i1 i2 l1 l2) (hz : IsZip s.heap z TI TO .none) (hTI : IsPair s.heap TI (.ref i1) (.ref i2)) (hTO : IsPair s.heap TO p q)
    (h1 : ItAt b1 s.heap i1 l1 k1) (h2 : ItAt b2 s.heap i2 l2 k2) (g1 : SqAt b1 s.heap l1 us) (g2 : SqAt b2 s.heap l2 ys) (hend : us[k1]? = none ∨ ys[k2]? = none)
    (hE : ∀ h' e, Keeps z TO i1 i2 s.heap h' → (∃ o, h'.get? e = some o ∧ o.cls = .type "StopIteration") → E (.ref e) { s with heap := h' }) : wpAny (model prog w) A (Builtin.«zip.__next__» ⟨[.ref z], []⟩) Q E s := by
  show wpAny _ _ (field (.ref z) 2 >>= _) _ _ _
  refine wpAny_bind (wpAny_field hz rfl (x := .bool false) rfl (show wpAny _ _ (field (.ref z) 3 >>= _) _ _ _ from wpAny_bind (wpAny_field hz rfl (x := .ref TI) rfl (wpAny_bind (wpAny_seqItems hTI rfl ?_)))))
  show wpAny _ _ (Builtin.SmallTypes.ownedTupleIsFree (.ref z) >>= _) _ _ _
  refine wpAny_bind ?_
  unfold Builtin.SmallTypes.ownedTupleIsFree
  refine wpAny_bind (wpAny_field hz rfl (x := .none) rfl (wpAny_pure ?_))
  simp only [if_true]
  refine wpAny_bind (wpAny_rule (wpAny_bind (wpAny_field hz rfl (x := .ref TO) rfl (wpAny_bind (wpAny_setField_rec hz (by simp) fun ha za ea => ?_)))))
  replace za : IsZip ha z TI TO .ellipsis := za
  refine wpAny_bind ?_
  simp only [List.zipIdx_cons, List.zipIdx_nil, List.forIn_cons, List.forIn_nil]
  refine wpAny_bind (wpAny_bind (wpAny_onRaise (show wpAny _ _ (Builtin.SmallTypes.nextOf (.ref i1) >>= _) _ _ _ from ?_)))
  have off : ∀ {h : Heap} {e : Addr}, IsZip h z TI TO .ellipsis → (∃ o, h.get? e = some o ∧ o.cls = .type "StopIteration") → e ≠ z := fun {h e} zz he w => by
    obtain ⟨o, ho, hc⟩ := he
    rw [w, zz] at ho
    cases ho
    simp at hc
  cases hx : us[k1]? with
  | none =>
    refine wpAny_bind (one_end hh (h1.ext ea.extBut D.i1z) (g1.ext ea.extBut D.l1z) hx fun hb e eb ee => ?_)
    have zb : IsZip hb z TI TO .ellipsis := eb _ _ D.i1z.symm za
    have ne := off zb ee
    obtain ⟨oe, hoe, hce⟩ := ee
    exact wpAny_setField_rec zb (by simp) fun hc _ ec => hE hc e (fun c o c1 _ c3 _ r => ec.extBut _ _ c1 (eb _ _ c3 (ea.extBut _ _ c1 r))) ⟨oe, ec.extBut _ _ ne hoe, hce⟩
  | some x =>
    have hy : ys[k2]? = none := hend.resolve_left fun n => by rw [hx] at n; cases n
    refine wpAny_bind (one_item (h1.ext ea.extBut D.i1z) (g1.ext ea.extBut D.l1z) hx fun hb ib eb => wpAny_pure ?_)
    have tb : IsPair hb TO p q := eb.extBut _ _ D.TOi1 (ea.extBut _ _ D.TOz hTO)
    refine wpAny_bind (wpAny_seqItems tb rfl (wpAny_bind (wpAny_updateSeq_pair tb fun hc tc ec => wpAny_bind (wpAny_letGo (wpAny_pure ?_)))))
    refine wpAny_bind (wpAny_bind (wpAny_onRaise (show wpAny _ _ (Builtin.SmallTypes.nextOf (.ref i2) >>= _) _ _ _ from ?_)))
    refine wpAny_bind (one_end hh (((h2.ext ea.extBut D.i2z).ext eb.extBut D.i12.symm).ext ec.extBut D.TOi2.symm) (((g2.ext ea.extBut D.l2z).ext eb.extBut D.l2i1).ext ec.extBut D.l2TO) hy fun hd e ed ee => ?_)
    have zd : IsZip hd z TI TO .ellipsis := ed _ _ D.i2z.symm (ec.extBut _ _ D.TOz.symm (eb.extBut _ _ D.i1z.symm za))
    have ne := off zd ee
    obtain ⟨oe, hoe, hce⟩ := ee
    exact wpAny_setField_rec zd (by simp) fun hf _ ef => hE hf e (fun c o c1 c2 c3 c4 r => ef.extBut _ _ c1 (ed _ _ c4 (ec.extBut _ _ c2 (eb.extBut _ _ c3 (ea.extBut _ _ c1 r))))) ⟨oe, ef.extBut _ _ ne hoe, hce⟩
theorem next_item {Q : Option Value → Shared → Prop} (D : ZipApart z TI TO i1 i2 l1 l2) (hz : IsZip s.heap z TI TO .none) (hTI : IsPair s.heap TI (.ref i1) (.ref i2)) (hTO : IsPair s.heap TO p q)
    (h1 : ItAt b1 s.heap i1 l1 k1) (h2 : ItAt b2 s.heap i2 l2 k2) (g1 : SqAt b1 s.heap l1 us) (g2 : SqAt b2 s.heap l2 ys) (hx : us[k1]? = some x) (hy : ys[k2]? = some y)
    (hQ : ∀ h', IsZip h' z TI TO (rawInt s.heap.objs.size) → IsPair h' TO x y → ItAt b1 h' i1 l1 (k1 + 1) → ItAt b2 h' i2 l2 (k2 + 1) → IsPair h' s.heap.objs.size x y → h'.objs.size = s.heap.objs.size + 1 → Keeps z TO i1 i2 s.heap h' → Q (some (.ref s.heap.objs.size)) { s with heap := h' }) :
    wpAny (model prog w) A (pyNext (.ref z)) Q E s := by
  have hT : s.TypeIs (.ref z) "zip" := ⟨_, hz, rfl⟩
  unfold pyNext
  exact wpAny_bind (wpAny_attempt (wpAny_callSpecial?_slot (name := Str.ofString "__next__") hT F.slot_zip_next (wpAny_call_entry F.slot_zip_next hT F.entry_zip_next
    (pair_item D hz hTI hTO h1 h2 g1 g2 hx hy fun h' a1 a2 a3 a4 a5 a6 a7 => wpAny_pure (hQ h' a1 a2 a3 a4 a5 a6 a7)) (F.args_zip_next_1 _))))
theorem next_end {Q : Option Value → Shared → Prop} (hh : A.handled = none) (D : ZipApart z TI TO i1 i2 l1 l2) (hz : IsZip s.heap z TI TO .none) (hTI : IsPair s.heap TI (.ref i1) (.ref i2)) (hTO : IsPair s.heap TO p q)
    (h1 : ItAt b1 s.heap i1 l1 k1) (h2 : ItAt b2 s.heap i2 l2 k2) (g1 : SqAt b1 s.heap l1 us) (g2 : SqAt b2 s.heap l2 ys) (hend : us[k1]? = none ∨ ys[k2]? = none)
    (hQ : ∀ h', Keeps z TO i1 i2 s.heap h' → Q none { s with heap := h' }) : wpAny (model prog w) A (pyNext (.ref z)) Q E s := by
  have hT : s.TypeIs (.ref z) "zip" := ⟨_, hz, rfl⟩
  unfold pyNext
  refine wpAny_bind (wpAny_attempt (wpAny_callSpecial?_slot (name := Str.ofString "__next__") hT F.slot_zip_next (wpAny_call_entry F.slot_zip_next hT F.entry_zip_next
    (pair_end hh D hz hTI hTO h1 h2 g1 g2 hend fun h' e hk he => ?_) (F.args_zip_next_1 _))))
  obtain ⟨o, ho, hc⟩ := he
  exact wpAny_bind (wpAny_isInstance (T := "StopIteration") (b := true) ⟨o, ho, hc⟩ isSubtype_stop (wpAny_pure (hQ _ hk)))
end
/-- the iterator that is asked of a list, of a tuple -/
def iterO (b : Bool) (l : Addr) : Obj := match b with
  | true => { cls := .type "tuple_iterator", data := .fields #[.ref l, .int 0 0] }
  | false => { cls := .type "list_iterator", data := .fields #[.ref l, .int 0 0] }
abbrev hA (b1 : Bool) (h : Heap) (l1 : Addr) : Heap := h.push (iterO b1 l1)
abbrev hB (b1 b2 : Bool) (h : Heap) (l1 l2 : Addr) : Heap := (hA b1 h l1).push (iterO b2 l2)
abbrev hC (b1 b2 : Bool) (h : Heap) (l1 l2 : Addr) : Heap := (hB b1 b2 h l1 l2).push { cls := .type "tuple", data := .seq #[.ref h.objs.size, .ref (hA b1 h l1).objs.size] }
abbrev hD (b1 b2 : Bool) (h : Heap) (l1 l2 : Addr) : Heap := (hC b1 b2 h l1 l2).push { cls := .type "tuple", data := .seq #[.none, .none] }
abbrev hE (b1 b2 : Bool) (h : Heap) (l1 l2 : Addr) : Heap := (hD b1 b2 h l1 l2).push { cls := .type "zip", data := .fields #[.none, .bool false, .bool false, .ref (hB b1 b2 h l1 l2).objs.size, .ref (hC b1 b2 h l1 l2).objs.size] }
theorem meets_LT (l1 l2 : Addr) (xs ys : Array Value) : Meets (Builtin.«zip.__new__» ⟨[.type "zip", .ref l1, .ref l2], []⟩) (fun _ R s => s.heap.IsList l1 xs ∧ s.heap.IsTuple l2 ys ∧ R (.ok (.ret (.ref (hD false true s.heap l1 l2).objs.size))) { s with heap := hE false true s.heap l1 l2 }) :=
  .of_wp fun prog w A R s h => by
    obtain ⟨hp, g, d, tk, os⟩ := s
    obtain ⟨hl1, hl2, h⟩ := h
    have hsub := sub_zip
    have a1 : Heap.IsList (Shared.heap ⟨hp, g, d, tk, os⟩) l1 xs := hl1
    have a2 : Heap.IsTuple (Shared.heap ⟨hp.push { cls := .type "list_iterator", data := .fields #[.ref l1, .int 0 0] }, g, d, tk, os⟩) l2 ys := Heap.IsTuple.push hl2 _
    wp_walk using wpAny_pyIter_list a1, wpAny_pyIter_tuple a2
    exact ⟨_, rfl, h⟩
theorem meets_TL (l1 l2 : Addr) (xs ys : Array Value) : Meets (Builtin.«zip.__new__» ⟨[.type "zip", .ref l1, .ref l2], []⟩) (fun _ R s => s.heap.IsTuple l1 xs ∧ s.heap.IsList l2 ys ∧ R (.ok (.ret (.ref (hD true false s.heap l1 l2).objs.size))) { s with heap := hE true false s.heap l1 l2 }) :=
  .of_wp fun prog w A R s h => by
    obtain ⟨hp, g, d, tk, os⟩ := s
    obtain ⟨hl1, hl2, h⟩ := h
    have hsub := sub_zip
    have a1 : Heap.IsTuple (Shared.heap ⟨hp, g, d, tk, os⟩) l1 xs := hl1
    have a2 : Heap.IsList (Shared.heap ⟨hp.push { cls := .type "tuple_iterator", data := .fields #[.ref l1, .int 0 0] }, g, d, tk, os⟩) l2 ys := Heap.IsList.push hl2 _
    wp_walk using wpAny_pyIter_tuple a1, wpAny_pyIter_list a2
    exact ⟨_, rfl, h⟩
section
variable {prog : Program} {w : World} {A : Around} {E : Value → Shared → Prop} {s : Shared}
theorem zip_made {b1 b2 : Bool} {l1 l2 : Addr} {Q : Value → Shared → Prop}
    (h : ∀ h', IsZip h' (s.heap.objs.size + 4) (s.heap.objs.size + 2) (s.heap.objs.size + 3) .none → IsPair h' (s.heap.objs.size + 2) (.ref s.heap.objs.size) (.ref (s.heap.objs.size + 1)) →
      IsPair h' (s.heap.objs.size + 3) .none .none → ItAt b1 h' s.heap.objs.size l1 0 → ItAt b2 h' (s.heap.objs.size + 1) l2 0 → (∀ c o, s.heap.get? c = some o → h'.get? c = some o) → Q (.ref (s.heap.objs.size + 4)) { s with heap := h' }) :
    (({ s with heap := hE b1 b2 s.heap l1 l2 } : Shared).TypeIs (.ref (hD b1 b2 s.heap l1 l2).objs.size) "zip") ∧ Q (.ref (hD b1 b2 s.heap l1 l2).objs.size) { s with heap := hE b1 b2 s.heap l1 l2 } := by
  have z1 : (hA b1 s.heap l1).objs.size = s.heap.objs.size + 1 := Heap.size_push ..
  have z2 : (hB b1 b2 s.heap l1 l2).objs.size = s.heap.objs.size + 2 := by rw [Heap.size_push, z1]
  have z3 : (hC b1 b2 s.heap l1 l2).objs.size = s.heap.objs.size + 3 := by rw [Heap.size_push, z2]
  have z4 : (hD b1 b2 s.heap l1 l2).objs.size = s.heap.objs.size + 4 := by rw [Heap.size_push, z3]
  have n1 : Obj.isFreed (iterO b1 l1) = false := by cases b1 <;> rfl
  have n2 : Obj.isFreed (iterO b2 l2) = false := by cases b2 <;> rfl
  have g5 : (hE b1 b2 s.heap l1 l2).get? (hD b1 b2 s.heap l1 l2).objs.size = some _ := Heap.get?_push_size _ rfl
  have g4 : (hE b1 b2 s.heap l1 l2).get? (hC b1 b2 s.heap l1 l2).objs.size = some _ := Heap.get?_push_of_some _ (Heap.get?_push_size _ rfl)
  have g3 : (hE b1 b2 s.heap l1 l2).get? (hB b1 b2 s.heap l1 l2).objs.size = some _ := Heap.get?_push_of_some _ (Heap.get?_push_of_some _ (Heap.get?_push_size _ rfl))
  have g2 : (hE b1 b2 s.heap l1 l2).get? (hA b1 s.heap l1).objs.size = some (iterO b2 l2) := Heap.get?_push_of_some _ (Heap.get?_push_of_some _ (Heap.get?_push_of_some _ (Heap.get?_push_size _ n2)))
  have g1 : (hE b1 b2 s.heap l1 l2).get? s.heap.objs.size = some (iterO b1 l1) := Heap.get?_push_of_some _ (Heap.get?_push_of_some _ (Heap.get?_push_of_some _ (Heap.get?_push_of_some _ (Heap.get?_push_size _ n1))))
  rw [z2, z3, z4] at g5
  rw [z1, z2] at g3
  rw [z3] at g4
  rw [z1] at g2
  rw [z4]
  have it : ∀ {b : Bool} {h : Heap} {i l : Addr}, h.get? i = some (iterO b l) → ItAt b h i l 0 := fun {b h i l} e => by
    cases b
    · exact ⟨_, e, rfl, rfl⟩
    · exact ⟨_, e, rfl, rfl⟩
  exact ⟨⟨_, g5, rfl⟩, h _ g5 g3 g4 (it g1) (it g2) fun c o x => Heap.get?_push_of_some _ (Heap.get?_push_of_some _ (Heap.get?_push_of_some _ (Heap.get?_push_of_some _ (Heap.get?_push_of_some _ x))))⟩
theorem call_LT {l1 l2 : Addr} {xs ys : Array Value} {Q : Value → Shared → Prop} (hl1 : s.heap.IsList l1 xs) (hl2 : s.heap.IsTuple l2 ys)
    (h : ∀ h', IsZip h' (s.heap.objs.size + 4) (s.heap.objs.size + 2) (s.heap.objs.size + 3) .none → IsPair h' (s.heap.objs.size + 2) (.ref s.heap.objs.size) (.ref (s.heap.objs.size + 1)) →
      IsPair h' (s.heap.objs.size + 3) .none .none → ItAt false h' s.heap.objs.size l1 0 → ItAt true h' (s.heap.objs.size + 1) l2 0 → (∀ c o, s.heap.get? c = some o → h'.get? c = some o) → Q (.ref (s.heap.objs.size + 4)) { s with heap := h' }) :
    wpAny (model prog w) A (call (.type "zip") [.ref l1, .ref l2]) Q E s :=
  callType_new F.called_zip (by decide) (F.typeCall_zip_2 _ _) (F.newCall_zip_2 _ _) (fun obj => F.args_object_init_3 obj _ _) F.entry_zip_new (meets_LT l1 l2 xs ys) ⟨hl1, hl2, zip_made h⟩
theorem call_TL {l1 l2 : Addr} {xs ys : Array Value} {Q : Value → Shared → Prop} (hl1 : s.heap.IsTuple l1 xs) (hl2 : s.heap.IsList l2 ys)
    (h : ∀ h', IsZip h' (s.heap.objs.size + 4) (s.heap.objs.size + 2) (s.heap.objs.size + 3) .none → IsPair h' (s.heap.objs.size + 2) (.ref s.heap.objs.size) (.ref (s.heap.objs.size + 1)) →
      IsPair h' (s.heap.objs.size + 3) .none .none → ItAt true h' s.heap.objs.size l1 0 → ItAt false h' (s.heap.objs.size + 1) l2 0 → (∀ c o, s.heap.get? c = some o → h'.get? c = some o) → Q (.ref (s.heap.objs.size + 4)) { s with heap := h' }) :
    wpAny (model prog w) A (call (.type "zip") [.ref l1, .ref l2]) Q E s :=
  callType_new F.called_zip (by decide) (F.typeCall_zip_2 _ _) (F.newCall_zip_2 _ _) (fun obj => F.args_object_init_3 obj _ _) F.entry_zip_new (meets_TL l1 l2 xs ys) ⟨hl1, hl2, zip_made h⟩
end
/-! ### the walk -/
def SqV (b : Bool) (K : PySem.W.Frag) (H : Hp) (a : Addr) (xs : List V) : Prop := match b with
  | true => SqT K H a xs
  | false => SqL K H a xs
def ItzM (b1 b2 : Bool) (K : PySem.W.Frag) (a b : Addr) : It :=
  ⟨fun i H => ∃ (xs ys : List V) (x y : V), SqV b1 K H a xs ∧ SqV b2 K H b ys ∧ xs[i]? = some x ∧ ys[i]? = some y,
    fun i H v H' => ∃ T x y, v = .ref T ∧ H T = none ∧ H' = upd H T (.tup [x, y]) ∧ (∀ xs, SqV b1 K H a xs → xs[i]? = some x) ∧ ∀ ys, SqV b2 K H b ys → ys[i]? = some y,
    fun i H => ∃ xs ys : List V, SqV b1 K H a xs ∧ SqV b2 K H b ys ∧ (xs.length ≤ i ∨ ys.length ≤ i)⟩
section
variable {X : Cx} {pins : List (Addr × Obj)} {σ : L2.St} {H : Hp} {s : Shared} {a : Addr} {xs ys : List V}
theorem sq_at {b : Bool} (I : Inv X pins σ H s) (h : SqV b X.K H a xs) : ∃ its : List Value, Vals xs its ∧ SqAt b s.heap a its.toArray := by
  cases b
  · obtain ⟨its, rv, pl, _⟩ := I.list h
    exact ⟨its, rv, pl.isList⟩
  · obtain ⟨its, rv, pl, _⟩ := I.tuple h
    exact ⟨its, rv, pl⟩
theorem sq_inj {b : Bool} (I : Inv X pins σ H s) (h : SqV b X.K H a xs) (h' : SqV b X.K H a ys) : xs = ys := by
  cases b
  · exact I.list_inj h h'
  · exact I.tuple_inj h h'
end
end MirZ
set_option maxHeartbeats 2000000
/-! for .. in zip(list, tuple), zip(tuple, list) -/
namespace MirZ
open PySem PySem.Spec PyProof.Rows L2
theorem five {z TI TO i1 i2 c : Addr} (h : c ∈ [z, TI, TO, i1, i2]) : c = z ∨ c = TI ∨ c = TO ∨ c = i1 ∨ c = i2 := by simpa using h
theorem turn_M {b1 b2 : Bool} {P : Program} {w : World} {K : PySem.W.Frag} {elts : List Expr} {kk : Nat} {tpos : Pos} {a b z TI TO i1 i2 : Addr} (D : ZipApart z TI TO i1 i2 a b) :
    Turn P w K (.Tuple elts kk tpos) (ItzM b1 b2 K a b) [z, TI, TO, i1, i2] z (fun i h => IsZip h z TI TO .none ∧ IsPair h TI (.ref i1) (.ref i2) ∧ (∃ x y, IsPair h TO x y) ∧ ItAt b1 h i1 a i ∧ ItAt b2 h i2 b i) where
  mem := by simp
  obj := fun i h ⟨hz, hTI, ⟨x, y, hTO⟩, h1, h2⟩ c hc => by
    rcases five hc with q | q | q | q | q <;> rw [q]
    · exact ⟨_, hz, fun v q => nomatch q⟩
    · exact ⟨_, hTI, fun v q => nomatch q⟩
    · exact ⟨_, hTO, fun v q => nomatch q⟩
    · exact h1.obj
    · exact h2.obj
  keep := fun i h h' ⟨hz, hTI, ⟨x, y, hTO⟩, h1, h2⟩ k => ⟨k z (by simp) _ hz, k TI (by simp) _ hTI, ⟨x, y, k TO (by simp) _ hTO⟩, h1.here fun o q => k i1 (by simp) o q, h2.here fun o q => k i2 (by simp) o q⟩
  item := by
    intro X hP hw hK hc i pins s σ H E I hf st hg
    subst hP hw hK
    obtain ⟨hz, hTI, ⟨x0, y0, hTO⟩, h1, h2⟩ := st
    obtain ⟨xs, ys, x, y, hqx, hqy, hx, hy⟩ := hg
    obtain ⟨its, rv, p⟩ := sq_at I hqx
    obtain ⟨its2, rv2, p2⟩ := sq_at I hqy
    obtain ⟨u, hu, ru⟩ := rv.get hx
    obtain ⟨u2, hu2, ru2⟩ := rv2.get hy
    have hzl : z < s.heap.objs.size := Heap.lt_size hz
    refine next_item D hz hTI hTO h1 h2 p p2 (x := u) (y := u2) (by simpa using hu) (by simpa using hu2) fun h' z' TO' h1' h2' hT hsz hk => ?_
    refine ⟨_, rfl, wpAny_letOwnedTupleGo_zip (s := { s with heap := h' }) z' fun h'' z'' sb => ?_⟩
    have hT2 : h''.get? s.heap.objs.size = some { cls := .type "tuple", data := .seq #[u, u2] } := (sb.2 _ (Nat.ne_of_gt hzl)).trans hT
    have new : ObjOk X.prog X.w (upd H s.heap.objs.size (.tup [x, y])) h'' s.heap.objs.size (.tup [x, y]) := ⟨by show 2 ≤ sizeLine; decide, [u, u2], .cons ru (.cons ru2 .nil), ⟨_, hT2, rfl, _, rfl⟩⟩
    have keep : ∀ c o, c ∉ [z, TI, TO, i1, i2] → s.heap.get? c = some o → h''.get? c = some o := fun c o hb q =>
      (sb.2 c fun e => hb (by simp [e])).trans (hk c o (fun e => hb (by simp [e])) (fun e => hb (by simp [e])) (fun e => hb (by simp [e])) (fun e => hb (by simp [e])) q)
    have I1 : Inv X pins σ (upd H s.heap.objs.size (.tup [x, y])) { s with heap := h'' } := I.turnedNew (t' := s.toks) (ch := [z, TI, TO, i1, i2]) keep hf (Nat.le_refl _) new
    refine ⟨.ref s.heap.objs.size, _, I1, rfl, ⟨_, x, y, rfl, I.hok.fresh (Nat.le_refl _), rfl, fun l hl => by rw [sq_inj I hl hqx]; exact hx, fun l hl => by rw [sq_inj I hl hqy]; exact hy⟩, ⟨z'', ?_, ⟨u, u2, ?_⟩, ?_, ?_⟩, fun c hcm => ?_⟩
    · exact (sb.2 _ D.TIz).trans (hk _ _ D.TIz D.TITO D.TIi1 D.TIi2 hTI)
    · exact (sb.2 _ D.TOz).trans TO'
    · exact h1'.here fun o q => (sb.2 _ D.i1z).trans q
    · exact h2'.here fun o q => (sb.2 _ D.i2z).trans q
    · have hlt : c < s.heap.objs.size := by
        rcases five hcm with q | q | q | q | q <;> rw [q]
        · exact hzl
        · exact Heap.lt_size hTI
        · exact Heap.lt_size hTO
        · exact h1.lt
        · exact h2.lt
      rw [upd_ne (Nat.ne_of_lt hlt)]
      exact (hf c hcm).1
  done := by
    intro X hP hw hK hc i pins s σ H E I hf st hg
    subst hP hw hK
    obtain ⟨hz, hTI, ⟨x0, y0, hTO⟩, h1, h2⟩ := st
    obtain ⟨xs, ys, hqx, hqy, hend⟩ := hg
    obtain ⟨its, rv, p⟩ := sq_at I hqx
    obtain ⟨its2, rv2, p2⟩ := sq_at I hqy
    have l1 := rv.length
    have l2 := rv2.length
    have he : its.toArray[i]? = none ∨ its2.toArray[i]? = none := by
      rcases hend with q | q
      · exact .inl (by simp; omega)
      · exact .inr (by simp; omega)
    exact next_end (I.ok.hd hc) D hz hTI hTO h1 h2 p p2 he fun h' hk => ⟨rfl, I.turnedL (t' := s.toks) (ch := [z, TI, TO, i1, i2]) (fun c o hb q =>
      hk c o (fun e => hb (by simp [e])) (fun e => hb (by simp [e])) (fun e => hb (by simp [e])) (fun e => hb (by simp [e])) q) hf⟩
  self := fun A i s Q E st h => wpAny_pyIter_zip st.1 h
def iZipM (K : PySem.W.Frag) (ta : TA) : TI := fun σ H R => ta σ H fun vs H1 => ∃ a b xs ys, vs = [.ref a, .ref b] ∧ ((SqL K H1 a xs ∧ SqT K H1 b ys ∧ R (ItzM false true K a b) H1) ∨ (SqT K H1 a xs ∧ SqL K H1 b ys ∧ R (ItzM true false K a b) H1))
theorem pi_zipM {X : Cx} {e e2 : Expr} {ta : TA} {p pos tpos : Pos} {elts : List Expr} {kk : Nat} (hg : Gl X "zip") (hm : X.mg "zip" = none) (ha : PA X [e, e2] ta)
    (hs : starEach [e, e2] X.env = (false, eval e X.env) :: starEach [e2] X.env := by rfl) (hpl : (backTo pos (starEach [e2] X.env)).any (·.1) = false := by rfl) :
    PI X (.Tuple elts kk tpos) (.Call (.Name "zip" p) [e, e2] [] pos) (iZipM X.K ta) := by
  refine ⟨fun pins s σ H R I h => ?_⟩
  refine Call_ (ld_blt I hg hm PyProof.Rows.boot_zip (PyProof.Rows.callWith_type1 (thn (ha.run pos pins s σ H _ I h) fun us s1 ⟨vs, H1, I1, r1, q1⟩ => ?_) hs hpl))
  obtain ⟨a, b, xs, ys, ex, q1⟩ := q1
  subst ex
  obtain ⟨u, v, rfl, r, r'⟩ := Vals.two r1
  cases r
  cases r'
  have fresh5 : ∀ c, c ∈ [s1.heap.objs.size + 4, s1.heap.objs.size + 2, s1.heap.objs.size + 3, s1.heap.objs.size, s1.heap.objs.size + 1] → FpOk X pins H1 c := fun c hcm => by
    have hle : s1.heap.objs.size ≤ c := by
      rcases five hcm with z | z | z | z | z <;> rw [z]
      · exact Nat.le_add_right _ _
      · exact Nat.le_add_right _ _
      · exact Nat.le_add_right _ _
      · exact Nat.le_refl _
      · exact Nat.le_add_right _ _
    exact I1.fpOk hle (I1.hok.fresh hle)
  rcases q1 with ⟨hqx, hqy, q⟩ | ⟨hqx, hqy, q⟩
  · obtain ⟨its, rv, p1, _⟩ := I1.list hqx
    obtain ⟨its2, rv2, p2, _⟩ := I1.tuple hqy
    obtain ⟨o2, ho2, _⟩ := id p2
    refine call_LT p1.isList (show s1.heap.IsTuple b its2.toArray from p2) fun h' hz hTI hTO h1 h2 hk => wpAny_pyIter_zip hz ?_
    have I2 : Inv X pins σ H1 { s1 with heap := h' } := I1.kept (t' := s1.toks) hk
    exact ⟨s1.heap.objs.size + 4, [s1.heap.objs.size + 4, s1.heap.objs.size + 2, s1.heap.objs.size + 3, s1.heap.objs.size, s1.heap.objs.size + 1], _, _, H1, rfl, I2, turn_M (PySem.W.ktu_apart s1.heap.objs.size a b p1.lt (Heap.lt_size ho2)), ⟨hz, hTI, ⟨_, _, hTO⟩, h1, h2⟩, fresh5, q⟩
  · obtain ⟨its, rv, p1, _⟩ := I1.tuple hqx
    obtain ⟨its2, rv2, p2, _⟩ := I1.list hqy
    obtain ⟨o1, ho1, _⟩ := id p1
    refine call_TL (show s1.heap.IsTuple a its.toArray from p1) p2.isList fun h' hz hTI hTO h1 h2 hk => wpAny_pyIter_zip hz ?_
    have I2 : Inv X pins σ H1 { s1 with heap := h' } := I1.kept (t' := s1.toks) hk
    exact ⟨s1.heap.objs.size + 4, [s1.heap.objs.size + 4, s1.heap.objs.size + 2, s1.heap.objs.size + 3, s1.heap.objs.size, s1.heap.objs.size + 1], _, _, H1, rfl, I2, turn_M (PySem.W.ktu_apart s1.heap.objs.size a b (Heap.lt_size ho1) p2.lt), ⟨hz, hTI, ⟨_, _, hTO⟩, h1, h2⟩, fresh5, q⟩
end MirZ
namespace Mir
open PySem PySem.Spec PyProof.Rows L2 MirZ
section
variable {X : Cx} {R : XR} {E : XK} {pos tpos : Pos} {e e2 : Expr} {ma mb : Rho → M Sl} {elts : List Expr} {kk : Nat}
/-- a sequence's items, and whether it is a tuple -/
def kindS : Sl → Option (Bool × List D)
  | .d (.tuple ds) => some (true, ds)
  | .d (.list ds) => some (false, ds)
  | _ => none
def mZipX (ma mb : Rho → M Sl) : Rho → M (List D) := fun ρ cs => (ma ρ cs).bind fun x cs1 => (mb ρ cs1).bind fun y cs2 => match kindS x, kindS y with
  | some (_, a), some (_, b) => .ok (zipD a b) cs2
  | _, _ => .bad
theorem kind_sh {K : PySem.W.Frag} {O A : List Addr} {H : Hp} {v : V} {sl : Sl} {b : Bool} {ds : List D} (s : ShS K O A H v sl) (e : kindS sl = some (b, ds)) : ∃ a vs, v = .ref a ∧ SqV b K (hid (O ++ A) H) a vs ∧ ShA K (hid (O ++ A) H) vs ds := by
  unfold kindS at e
  split at e
  · cases e
    cases s with
    | tup h t => exact ⟨_, _, rfl, h, t⟩
  · cases e
    cases s with
    | lst h t => exact ⟨_, _, rfl, .inl (.inl h), t⟩
  · cases e
theorem sqv_same {K : PySem.W.Frag} {b : Bool} {H H' : Hp} {a : Addr} {vs : List V} (e : Same H H') (h : SqV b K H a vs) : SqV b K H' a vs := by
  cases b
  · exact e.seq h
  · exact SqT.same e h
theorem feeds_M {K : PySem.W.Frag} {b1 b2 : Bool} {O A0 : List Addr} {H0 : Hp} {a b : Addr} {vs ws : List V} {ds es : List D} (h1 : SqV b1 K (hid (O ++ A0) H0) a vs) (t1 : ShA K (hid (O ++ A0) H0) vs ds) (h2 : SqV b2 K (hid (O ++ A0) H0) b ws) (t2 : ShA K (hid (O ++ A0) H0) ws es) :
    Feeds K O A0 H0 (ItzM b1 b2 K a b) (zipD ds es) := by
  intro O' A cs H hO s ok i
  have ee := same_ext hO s
  have l1 := sqv_same hid_same (sqv_same ee h1)
  have l2 := sqv_same hid_same (sqv_same ee h2)
  refine ⟨fun hi => ⟨_, _, l1, l2, ?_⟩, fun d hd => ?_⟩
  · rw [t1.length, t2.length]
    unfold zipD at hi
    rw [List.length_zipWith] at hi
    omega
  · obtain ⟨da, db, e1, e2, rfl⟩ := zip_at hd
    obtain ⟨v1, g1, s1⟩ := t1.get e1
    obtain ⟨v2, g2, s2⟩ := t2.get e2
    refine ⟨⟨_, _, v1, v2, l1, l2, g1, g2⟩, fun x H' y => ?_⟩
    obtain ⟨T, x1, x2, rfl, nT, rfl, f1, f2⟩ := y
    have ex1 := f1 _ l1
    have ex2 := f2 _ l2
    rw [g1] at ex1
    rw [g2] at ex2
    cases ex1
    cases ex2
    exact tup2 ok nT (s1.mono ee) (s2.mono ee)
theorem feeds_as {K : PySem.W.Frag} {O A0 : List Addr} {H0 : Hp} {J J' : It} {items : List D} (h : Feeds K O A0 H0 J items) (e1 : ∀ i H, J.stop i H → J'.stop i H) (e2 : ∀ i H, J.go i H → J'.go i H) (e3 : ∀ i H v H', J'.yld i H v H' → J.yld i H v H') : Feeds K O A0 H0 J' items := by
  intro O' A cs H hO s ok i
  obtain ⟨f1, f2⟩ := h O' A cs H hO s ok i
  exact ⟨fun hi => e1 _ _ (f1 hi), fun d hd => ⟨e2 _ _ (f2 d hd).1, fun x H' y => (f2 d hd).2 x H' (e3 _ _ _ _ y)⟩⟩
theorem im_zipX {p : Pos} (hg : Gl X "zip") (hm : X.mg "zip" = none) (h : EM X R E e ma) (h2 : EM X R E e2 mb) (hs : starEach [e, e2] X.env = (false, eval e X.env) :: starEach [e2] X.env := by rfl) (hs2 : starEach [e2] X.env = (false, eval e2 X.env) :: starEach [] X.env := by rfl)
    (hpl : (backTo pos (starEach [e2] X.env)).any (·.1) = false := by rfl) : IM X R E (.Tuple elts kk tpos) (.Call (.Name "zip" p) [e, e2] [] pos) (mZipX ma mb) := by
  obtain ⟨t, pt, k⟩ := h
  obtain ⟨u, pu, k2⟩ := h2
  refine ⟨_, pi_or (RZ.pi_zipA hg hm (pa_cons pt (pa_cons pu pa_nil hs2) hs) hs hpl) (pi_zipM hg hm (pa_cons pt (pa_cons pu pa_nil hs2) hs) hs hpl), fun O A ρ cs σ H ok rk S h => ?_⟩
  cases hx : ma ρ cs with
  | bad =>
    unfold mZipX at h
    rw [hx] at h
    exact (show False from h).elim
  | exc x c =>
    refine .inl (k O A ρ cs σ H ok rk _ ?_)
    unfold mZipX at h
    rw [hx] at h ⊢
    exact h
  | ok sx cs1 =>
    cases hy : mb ρ cs1 with
    | bad =>
      unfold mZipX at h
      rw [hx] at h
      simp only [Res.bind, hy] at h
      exact (show False from h).elim
    | exc x c =>
      unfold mZipX at h
      rw [hx] at h
      simp only [Res.bind, hy] at h
      refine .inl (k O A ρ cs σ H ok rk _ ?_)
      rw [hx]
      intro x A1 H1 s1 ok1 r1
      refine k2 O A1 ρ cs1 σ H1 ok1 (rk.step s1) _ ?_
      rw [hy]
      exact fun A' H' cls dx s' ok r => h A' H' cls dx (s1.trans s') ok r
    | ok sy cs2 =>
      have h' := h
      unfold mZipX at h'
      rw [hx] at h'
      simp only [Res.bind, hy] at h'
      cases ex : kindS sx with
      | none =>
        rw [ex] at h'
        exact (show False from h').elim
      | some px =>
        cases ey : kindS sy with
        | none =>
          rw [ex, ey] at h'
          exact (show False from h').elim
        | some py =>
          obtain ⟨b1, ds⟩ := px
          obtain ⟨b2, es⟩ := py
          rw [ex, ey] at h'
          have go : ∀ {W : V → V → Hp → Prop}, (∀ x y A2 H2, Stp A H A2 H2 → Ok X.K O A2 cs2 H2 → ShS X.K O A2 H2 x sx → ShS X.K O A2 H2 y sy → W x y H2) → t σ H fun x H1 => u σ H1 fun y H2 => W x y H2 := fun {W} w => by
            refine k O A ρ cs σ H ok rk _ ?_
            rw [hx]
            intro x A1 H1 s1 ok1 r1
            refine k2 O A1 ρ cs1 σ H1 ok1 (rk.step s1) _ ?_
            rw [hy]
            exact fun y A2 H2 s2 ok2 r2 => w x y A2 H2 (s1.trans s2) ok2 (r1.step s2) r2
          have mk : ∀ {x y : V} {A2 : List Addr} {H2 : Hp}, ShS X.K O A2 H2 x sx → ShS X.K O A2 H2 y sy → ∃ a b vs ws, x = .ref a ∧ y = .ref b ∧ SqV b1 X.K H2 a vs ∧ SqV b2 X.K H2 b ws ∧ Feeds X.K O A2 H2 (ItzM b1 b2 X.K a b) (zipD ds es) := fun r1 r2 => by
            obtain ⟨a, vs, e1, q1, t1⟩ := kind_sh r1 ex
            obtain ⟨b, ws, e2, q2, t2⟩ := kind_sh r2 ey
            exact ⟨a, b, vs, ws, e1, e2, sqv_same hid_same q1, sqv_same hid_same q2, feeds_M q1 t1 q2 t2⟩
          cases b1 <;> cases b2
          · refine .inl (go fun x y A2 H2 s ok2 r1 r2 => ?_)
            obtain ⟨a, b, vs, ws, rfl, rfl, q1, q2, fd⟩ := mk r1 r2
            exact ⟨a, b, vs, ws, rfl, .inl ⟨q1, q2, h' _ A2 H2 s ok2 (feeds_as fd (fun _ _ z => z) (fun _ _ z => z) fun _ _ _ _ z => z)⟩⟩
          · refine .inr (go fun x y A2 H2 s ok2 r1 r2 => ?_)
            obtain ⟨a, b, vs, ws, rfl, rfl, q1, q2, fd⟩ := mk r1 r2
            exact ⟨a, b, vs, ws, rfl, .inl ⟨q1, q2, h' _ A2 H2 s ok2 fd⟩⟩
          · refine .inr (go fun x y A2 H2 s ok2 r1 r2 => ?_)
            obtain ⟨a, b, vs, ws, rfl, rfl, q1, q2, fd⟩ := mk r1 r2
            exact ⟨a, b, vs, ws, rfl, .inr ⟨q1, q2, h' _ A2 H2 s ok2 fd⟩⟩
          · refine .inl (go fun x y A2 H2 s ok2 r1 r2 => ?_)
            obtain ⟨a, b, vs, ws, rfl, rfl, q1, q2, fd⟩ := mk r1 r2
            exact ⟨a, b, vs, ws, rfl, .inr ⟨q1, q2, h' _ A2 H2 s ok2 (feeds_as fd (fun _ _ z => z) (fun _ _ z => z) fun _ _ _ _ z => z)⟩⟩
end
section
variable {PL : List D → List HC → Prop} {cs : List HC} {ρ : Rho} {ma mb : Rho → M Sl}
theorem wp_zipX (h : Wp (ma ρ cs) fun x cs1 => Wp (mb ρ cs1) fun y cs2 => ∃ a b, kindS x = some a ∧ kindS y = some b ∧ PL (zipD a.2 b.2) cs2) : Wp (mZipX ma mb ρ cs) PL := wp_bind (h.mono fun _ _ q1 => wp_bind (q1.mono fun _ _ ⟨a, b, e1, e2, q2⟩ => by
  obtain ⟨a1, a2⟩ := a
  obtain ⟨b1, b2⟩ := b
  rw [e1, e2]
  exact q2))
end
end Mir
set_option maxHeartbeats 2000000
/-! loops and comprehensions over lists that may change: the item is looked up turn by turn -/
namespace Mir
open PySem PySem.Spec PyProof.Rows L2 MirZ

/-- the item at a turn: none: not known; some none: at its end -/
abbrev Nth := Nat → List HC → Option (Option D)
def FeedsN (K : PySem.W.Frag) (O A0 : List Addr) (H0 : Hp) (J : It) (nth : Nth) : Prop := ∀ O' A cs H, (∀ x ∈ O', x ∈ O ∨ H0 x = none) → Stp A0 H0 A H → Ok K O' A cs H → ∀ i : Nat, (nth i cs = some none → J.stop i H) ∧
  ∀ d, nth i cs = some (some d) → J.go i H ∧ ∀ x H', J.yld i H x H' → Stp A H A H' ∧ Ok K O' A cs H' ∧ ShS K O' A H' x (.d d)
structure IN (X : Cx) (R : XR) (E : XK) (tg iter : Expr) (m : Rho → M Nth) : Prop where
  ex : ∃ wi, PI X tg iter wi ∧ ∀ O A ρ cs σ H, Ok X.K O A cs H → RhoOk X.K O A ρ σ H → ∀ S : It → Hp → Prop, PostX X.K R O A H E (fun nth cs1 => ∀ J A' H', Stp A H A' H' → Ok X.K O A' cs1 H' → FeedsN X.K O A' H' J nth → S J H') (m ρ cs) → wi σ H S
/-- the k-th item of what a value holds now -/
def nthS (x : Sl) : Nth := fun i cs => (seqD x cs).map fun ds => ds[i]?
def nthZ (x y : Sl) : Nth := fun i cs => match seqD x cs, seqD y cs with
  | some a, some b => some ((zipD a b)[i]?)
  | _, _ => none
/-- whether it is a tuple; told of lists and tuples alone -/
def tupS : Sl → Option Bool
  | .d (.tuple _) => some true
  | .d (.list _) => some false
  | .h _ => some false
  | _ => none
theorem ShS.ext {K : PySem.W.Frag} {O O' A0 A : List Addr} {H0 H : Hp} {v : V} {sl : Sl} (h : ShS K O A0 H0 v sl) (hO : ∀ x ∈ O', x ∈ O ∨ H0 x = none) (s : Stp A0 H0 A H) : ShS K O' A H v sl := by
  cases sl with
  | d d => exact Sh.mono (same_ext hO s) h
  | h k => exact ShS.step s h
  | s ns =>
    obtain ⟨a, e, hl⟩ := h
    exact ⟨a, e, (same_ext hO s).seq hl⟩
theorem seq_v {K : PySem.W.Frag} {O A : List Addr} {cs : List HC} {H : Hp} {v : V} {sl : Sl} {b : Bool} {ds : List D} (ok : Ok K O A cs H) (s : ShS K O A H v sl) (t : tupS sl = some b) (e : seqD sl cs = some ds) :
    ∃ a vs, v = .ref a ∧ SqV b K H a vs ∧ ShA K (hid (O ++ A) H) vs ds := by
  unfold tupS at t
  split at t
  · cases t
    cases e
    cases s with
    | tup h tt => exact ⟨_, _, rfl, SqT.same hid_same h, tt⟩
  · cases t
    obtain ⟨a, vs, rfl, q, sa⟩ := view_l ok s (show viewL _ cs = some ds from e)
    exact ⟨a, vs, rfl, q, sa⟩
  · cases t
    obtain ⟨a, vs, rfl, q, sa⟩ := view_l ok s (show viewL _ cs = some ds from e)
    exact ⟨a, vs, rfl, q, sa⟩
  · cases t
/-- where a value stands -/
theorem tup_ref {K : PySem.W.Frag} {O A : List Addr} {H : Hp} {v : V} {sl : Sl} {b : Bool} (s : ShS K O A H v sl) (t : tupS sl = some b) : ∃ a, v = .ref a := by
  unfold tupS at t
  split at t
  · cases s with
    | tup h tt => exact ⟨_, rfl⟩
  · cases s with
    | lst h tt => exact ⟨_, rfl⟩
  · obtain ⟨a, _, rfl⟩ := s
    exact ⟨a, rfl⟩
  · cases t
theorem feedsN_list {K : PySem.W.Frag} {O A0 : List Addr} {H0 : Hp} {a : Addr} {sl : Sl} (h : ShS K O A0 H0 (.ref a) sl) (t : tupS sl = some false) : FeedsN K O A0 H0 (Itl K a) (nthS sl) := by
  intro O' A cs H hO s ok i
  have h' := h.ext hO s
  unfold nthS
  cases e : seqD sl cs with
  | none => exact ⟨fun z => (by cases z), fun d z => (by cases z)⟩
  | some ds =>
    obtain ⟨a', vs, ea, q, sa⟩ := seq_v ok h' t e
    cases ea
    refine ⟨fun z => ⟨vs, q, ?_⟩, fun d z => ?_⟩
    · have : ds[i]? = none := Option.some.inj z
      rw [sa.length]
      exact List.getElem?_eq_none_iff.mp this
    · have z : ds[i]? = some d := Option.some.inj z
      obtain ⟨v, e1, e2⟩ := sa.get z
      refine ⟨⟨vs, v, q, e1⟩, fun x H' y => ?_⟩
      obtain ⟨rfl, y⟩ := y
      have ex := y vs q
      rw [e1] at ex
      cases ex
      exact ⟨Stp.refl ok, ok, e2⟩
theorem feedsN_tup {K : PySem.W.Frag} {O A0 : List Addr} {H0 : Hp} {a : Addr} {sl : Sl} (h : ShS K O A0 H0 (.ref a) sl) (t : tupS sl = some true) : FeedsN K O A0 H0 (Itt K a) (nthS sl) := by
  intro O' A cs H hO s ok i
  have h' := h.ext hO s
  unfold nthS
  cases e : seqD sl cs with
  | none => exact ⟨fun z => (by cases z), fun d z => (by cases z)⟩
  | some ds =>
    obtain ⟨a', vs, ea, q, sa⟩ := seq_v ok h' t e
    cases ea
    refine ⟨fun z => ⟨vs, q, ?_⟩, fun d z => ?_⟩
    · have : ds[i]? = none := Option.some.inj z
      rw [sa.length]
      exact List.getElem?_eq_none_iff.mp this
    · have z : ds[i]? = some d := Option.some.inj z
      obtain ⟨v, e1, e2⟩ := sa.get z
      refine ⟨⟨vs, v, q, e1⟩, fun x H' y => ?_⟩
      obtain ⟨rfl, y⟩ := y
      have ex := y vs q
      rw [e1] at ex
      cases ex
      exact ⟨Stp.refl ok, ok, e2⟩
theorem feedsN_zip {K : PySem.W.Frag} {O A0 : List Addr} {H0 : Hp} {a b : Addr} {sx sy : Sl} {b1 b2 : Bool} (hx : ShS K O A0 H0 (.ref a) sx) (tx : tupS sx = some b1) (hy : ShS K O A0 H0 (.ref b) sy) (ty : tupS sy = some b2) : FeedsN K O A0 H0 (ItzM b1 b2 K a b) (nthZ sx sy) := by
  intro O' A cs H hO s ok i
  have hx' := hx.ext hO s
  have hy' := hy.ext hO s
  unfold nthZ
  cases ex : seqD sx cs with
  | none => exact ⟨fun z => (by cases z), fun d z => (by cases z)⟩
  | some ds =>
    cases ey : seqD sy cs with
    | none => exact ⟨fun z => (by cases z), fun d z => (by cases z)⟩
    | some es =>
      obtain ⟨a', vs, ea, q1, t1⟩ := seq_v ok hx' tx ex
      obtain ⟨b', ws, eb, q2, t2⟩ := seq_v ok hy' ty ey
      cases ea
      cases eb
      refine ⟨fun z => ⟨_, _, q1, q2, ?_⟩, fun d z => ?_⟩
      · have z : (zipD ds es)[i]? = none := Option.some.inj z
        have z := List.getElem?_eq_none_iff.mp z
        rw [t1.length, t2.length]
        unfold zipD at z
        rw [List.length_zipWith] at z
        omega
      · have z : (zipD ds es)[i]? = some d := Option.some.inj z
        obtain ⟨da, db, e1, e2, rfl⟩ := zip_at z
        obtain ⟨v1, g1, s1⟩ := t1.get e1
        obtain ⟨v2, g2, s2⟩ := t2.get e2
        refine ⟨⟨_, _, v1, v2, q1, q2, g1, g2⟩, fun x H' y => ?_⟩
        obtain ⟨T, x1, x2, rfl, nT, rfl, f1, f2⟩ := y
        have ex1 := f1 _ q1
        have ex2 := f2 _ q2
        rw [g1] at ex1
        rw [g2] at ex2
        cases ex1
        cases ex2
        exact tup2 ok nT s1 s2
theorem feedsN_as {K : PySem.W.Frag} {O A0 : List Addr} {H0 : Hp} {J J' : It} {nth : Nth} (h : FeedsN K O A0 H0 J nth) (e1 : ∀ i H, J.stop i H → J'.stop i H) (e2 : ∀ i H, J.go i H → J'.go i H) (e3 : ∀ i H v H', J'.yld i H v H' → J.yld i H v H') : FeedsN K O A0 H0 J' nth := by
  intro O' A cs H hO s ok i
  obtain ⟨f1, f2⟩ := h O' A cs H hO s ok i
  exact ⟨fun hi => e1 _ _ (f1 hi), fun d hd => ⟨e2 _ _ (f2 d hd).1, fun x H' y => (f2 d hd).2 x H' (e3 _ _ _ _ y)⟩⟩
def mSeqN (ma : Rho → M Sl) : Rho → M Nth := fun ρ cs => (ma ρ cs).bind fun x cs1 => if (tupS x).isSome = true then .ok (nthS x) cs1 else .bad
def mZipN (ma mb : Rho → M Sl) : Rho → M Nth := fun ρ cs => (ma ρ cs).bind fun x cs1 => (mb ρ cs1).bind fun y cs2 => if (tupS x).isSome = true ∧ (tupS y).isSome = true then .ok (nthZ x y) cs2 else .bad
section
variable {X : Cx} {R : XR} {E : XK} {pos tpos : Pos} {tg e e2 iter : Expr} {ma mb : Rho → M Sl} {elts : List Expr} {kk : Nat}
theorem in_seq (h : EM X R E e ma) : IN X R E tg e (mSeqN ma) := by
  obtain ⟨t, p, k⟩ := h
  refine ⟨_, pi_or (pi_list p) (pi_tup p), fun O A ρ cs σ H ok rk S h => ?_⟩
  have h' := PostX.bind h
  cases q : ma ρ cs with
  | bad =>
    rw [q] at h'
    exact h'.elim
  | exc x cs1 =>
    rw [q] at h'
    refine .inl (k O A ρ cs σ H ok rk _ ?_)
    rw [q]
    exact h'
  | ok sx cs1 =>
    rw [q] at h'
    have fin : ∀ (W : VK), (∀ v A' H', Stp A H A' H' → Ok X.K O A' cs1 H' → ShS X.K O A' H' v sx → W v H') → t σ H W := fun W w => k O A ρ cs σ H ok rk W (by rw [q]; exact w)
    replace h' : PostX X.K R O A H E (fun nth cs1 => ∀ J A' H', Stp A H A' H' → Ok X.K O A' cs1 H' → FeedsN X.K O A' H' J nth → S J H') (if (tupS sx).isSome = true then .ok (nthS sx) cs1 else .bad) := h'
    cases et : tupS sx with
    | none =>
      rw [et] at h'
      exact (show False from h').elim
    | some b =>
      rw [et] at h'
      have h2 : ∀ J A' H', Stp A H A' H' → Ok X.K O A' cs1 H' → FeedsN X.K O A' H' J (nthS sx) → S J H' := h'
      cases b
      · refine .inl (fin _ fun v A' H' s' ok' r => ?_)
        obtain ⟨a, rfl⟩ := tup_ref r et
        have hl : ∃ xs, SqL X.K H' a xs := by
          unfold tupS at et
          split at et
          · cases et
          · obtain ⟨a', vs, ea, q, _⟩ := view_l ok' r (ds := _) rfl
            cases ea
            exact ⟨vs, q⟩
          · rename_i k'
            obtain ⟨a', ea, e3⟩ := r
            cases e3
            obtain ⟨c, ec, hc⟩ := ok'.hc ea
            cases c with
            | lst ds =>
              obtain ⟨vs, hl, _⟩ := hc
              exact ⟨vs, .inl (.inl hl)⟩
          · cases et
        exact ⟨a, rfl, hl, h2 _ A' H' s' ok' (feedsN_list r et)⟩
      · refine .inr (fin _ fun v A' H' s' ok' r => ?_)
        obtain ⟨a, rfl⟩ := tup_ref r et
        have hl : ∃ xs, SqT X.K H' a xs := by
          unfold tupS at et
          split at et
          · cases r with
            | tup hl t => exact ⟨_, SqT.same hid_same hl⟩
          · cases et
          · cases et
          · cases et
        exact ⟨a, rfl, hl, h2 _ A' H' s' ok' (feedsN_tup r et)⟩
theorem in_zip {p : Pos} (hg : Gl X "zip") (hm : X.mg "zip" = none) (h : EM X R E e ma) (h2 : EM X R E e2 mb) (hs : starEach [e, e2] X.env = (false, eval e X.env) :: starEach [e2] X.env := by rfl) (hs2 : starEach [e2] X.env = (false, eval e2 X.env) :: starEach [] X.env := by rfl)
    (hpl : (backTo pos (starEach [e2] X.env)).any (·.1) = false := by rfl) : IN X R E (.Tuple elts kk tpos) (.Call (.Name "zip" p) [e, e2] [] pos) (mZipN ma mb) := by
  obtain ⟨t, pt, k⟩ := h
  obtain ⟨u, pu, k2⟩ := h2
  refine ⟨_, pi_or (RZ.pi_zipA hg hm (pa_cons pt (pa_cons pu pa_nil hs2) hs) hs hpl) (pi_zipM hg hm (pa_cons pt (pa_cons pu pa_nil hs2) hs) hs hpl), fun O A ρ cs σ H ok rk S h => ?_⟩
  cases hx : ma ρ cs with
  | bad =>
    unfold mZipN at h
    rw [hx] at h
    exact (show False from h).elim
  | exc x c =>
    refine .inl (k O A ρ cs σ H ok rk _ ?_)
    unfold mZipN at h
    rw [hx] at h ⊢
    exact h
  | ok sx cs1 =>
    cases hy : mb ρ cs1 with
    | bad =>
      unfold mZipN at h
      rw [hx] at h
      simp only [Res.bind, hy] at h
      exact (show False from h).elim
    | exc x c =>
      unfold mZipN at h
      rw [hx] at h
      simp only [Res.bind, hy] at h
      refine .inl (k O A ρ cs σ H ok rk _ ?_)
      rw [hx]
      intro x A1 H1 s1 ok1 r1
      refine k2 O A1 ρ cs1 σ H1 ok1 (rk.step s1) _ ?_
      rw [hy]
      exact fun A' H' cls dx s' ok r => h A' H' cls dx (s1.trans s') ok r
    | ok sy cs2 =>
      have h' := h
      unfold mZipN at h'
      rw [hx] at h'
      simp only [Res.bind, hy] at h'
      cases ex : tupS sx with
      | none =>
        rw [ex] at h'
        exact (show False from h').elim
      | some b1 =>
        cases ey : tupS sy with
        | none =>
          rw [ex, ey] at h'
          exact (show False from h').elim
        | some b2 =>
          rw [ex, ey] at h'
          have h3 : ∀ J A' H', Stp A H A' H' → Ok X.K O A' cs2 H' → FeedsN X.K O A' H' J (nthZ sx sy) → S J H' := h'
          have go : ∀ {W : V → V → Hp → Prop}, (∀ x y A2 H2, Stp A H A2 H2 → Ok X.K O A2 cs2 H2 → ShS X.K O A2 H2 x sx → ShS X.K O A2 H2 y sy → W x y H2) → t σ H fun x H1 => u σ H1 fun y H2 => W x y H2 := fun {W} w => by
            refine k O A ρ cs σ H ok rk _ ?_
            rw [hx]
            intro x A1 H1 s1 ok1 r1
            refine k2 O A1 ρ cs1 σ H1 ok1 (rk.step s1) _ ?_
            rw [hy]
            exact fun y A2 H2 s2 ok2 r2 => w x y A2 H2 (s1.trans s2) ok2 (r1.step s2) r2
          have isq : ∀ {x : V} {sl : Sl} {b : Bool} {A2 : List Addr} {H2 : Hp}, Ok X.K O A2 cs2 H2 → ShS X.K O A2 H2 x sl → tupS sl = some b → ∃ a vs, x = .ref a ∧ SqV b X.K H2 a vs := fun {x sl b A2 H2} ok2 r et => by
            unfold tupS at et
            split at et
            · cases et
              cases r with
              | tup hl t => exact ⟨_, _, rfl, SqT.same hid_same hl⟩
            · cases et
              obtain ⟨a', vs, ea, q, _⟩ := view_l ok2 r (ds := _) rfl
              exact ⟨a', vs, ea, q⟩
            · cases et
              obtain ⟨a', ea, rfl⟩ := r
              obtain ⟨c, ec, hc⟩ := ok2.hc ea
              cases c with
              | lst ds =>
                obtain ⟨vs, hl, _⟩ := hc
                exact ⟨a', vs, rfl, .inl (.inl hl)⟩
            · cases et
          have mk : ∀ {x y : V} {A2 : List Addr} {H2 : Hp}, Ok X.K O A2 cs2 H2 → ShS X.K O A2 H2 x sx → ShS X.K O A2 H2 y sy → ∃ a b vs ws, x = .ref a ∧ y = .ref b ∧ SqV b1 X.K H2 a vs ∧ SqV b2 X.K H2 b ws ∧ FeedsN X.K O A2 H2 (ItzM b1 b2 X.K a b) (nthZ sx sy) := fun ok2 r1 r2 => by
            obtain ⟨a, vs, rfl, q1⟩ := isq ok2 r1 ex
            obtain ⟨b, ws, rfl, q2⟩ := isq ok2 r2 ey
            exact ⟨a, b, vs, ws, rfl, rfl, q1, q2, feedsN_zip r1 ex r2 ey⟩
          cases b1 <;> cases b2
          · refine .inl (go fun x y A2 H2 s ok2 r1 r2 => ?_)
            obtain ⟨a, b, vs, ws, rfl, rfl, q1, q2, fd⟩ := mk ok2 r1 r2
            exact ⟨a, b, vs, ws, rfl, .inl ⟨q1, q2, h3 _ A2 H2 s ok2 (feedsN_as fd (fun _ _ z => z) (fun _ _ z => z) fun _ _ _ _ z => z)⟩⟩
          · refine .inr (go fun x y A2 H2 s ok2 r1 r2 => ?_)
            obtain ⟨a, b, vs, ws, rfl, rfl, q1, q2, fd⟩ := mk ok2 r1 r2
            exact ⟨a, b, vs, ws, rfl, .inl ⟨q1, q2, h3 _ A2 H2 s ok2 fd⟩⟩
          · refine .inr (go fun x y A2 H2 s ok2 r1 r2 => ?_)
            obtain ⟨a, b, vs, ws, rfl, rfl, q1, q2, fd⟩ := mk ok2 r1 r2
            exact ⟨a, b, vs, ws, rfl, .inr ⟨q1, q2, h3 _ A2 H2 s ok2 fd⟩⟩
          · refine .inl (go fun x y A2 H2 s ok2 r1 r2 => ?_)
            obtain ⟨a, b, vs, ws, rfl, rfl, q1, q2, fd⟩ := mk ok2 r1 r2
            exact ⟨a, b, vs, ws, rfl, .inr ⟨q1, q2, h3 _ A2 H2 s ok2 (feedsN_as fd (fun _ _ z => z) (fun _ _ z => z) fun _ _ _ _ z => z)⟩⟩
end

/-! ### for -/
def forN (nth : Nth) (f : D → Rho → Option Rho) (body : Rho → M Fl) : Nat → Nat → Rho → M Fl
  | 0, _, _, _ => .bad
  | n + 1, i, ρ, cs => match nth i cs with
    | none => .bad
    | some none => .ok (.nx ρ) cs
    | some (some d) => match f d ρ with
      | some ρ1 => (body ρ1 cs).bind fun x cs1 => match x with
        | .nx ρ2 => forN nth f body n (i + 1) ρ2 cs1
        | .ct ρ2 => forN nth f body n (i + 1) ρ2 cs1
        | .bk ρ2 => .ok (.nx ρ2) cs1
        | .rt sl => .ok (.rt sl) cs1
      | none => .bad
def sForN (mi : Rho → M Nth) (f : D → Rho → Option Rho) (body : Rho → M Fl) : Rho → M Fl := fun ρ cs => (mi ρ cs).bind fun nth cs1 => forN nth f body SL 0 ρ cs1
section
variable {X : Cx} {R : XR} {E : XK} {pos : Pos} {tg iter : Expr} {body : List Stmt} {mb' : Rho → M Fl} {L : List Nat} {f : D → Rho → Option Rho} {mi : Rho → M Nth}
theorem sm_forN (hp : PassesOwn (model X.prog X.w) X.A X.env X.xe) (hc : X.calm = true) (hi : IN X R E tg iter mi) (hg : GM X tg L f) (hb : BM X R E body mb') (hs : ∀ x, foldedSetIterable iter X.env x = pure x := by intro _; rfl) :
    SM X R E (.For tg iter body [] pos) (sForN mi f mb') := by
  obtain ⟨wi, pi, ki⟩ := hi
  obtain ⟨g, pg, kg⟩ := hg
  obtain ⟨tb, pb, kb⟩ := hb
  refine sm_of (ps_for hp hc pi pg pb hs) fun O A ρ cs σ H ok rk De h => ?_
  refine ki O A ρ cs σ H ok rk _ (PostX.step (Stp.refl ok) (fun nth cs1 q J A1 H1 s1 ok1 fd => ?_) (PostX.bind h))
  refine ⟨fun i m σ' H' => ∃ A' cs' ρ', Stp A H A' H' ∧ Stp A1 H1 A' H' ∧ Ok X.K O A' cs' H' ∧ RhoOk X.K O A' ρ' σ' H' ∧ PostS X.K R O A H De E (forN nth f mb' m i ρ' cs'),
    ⟨_, A1, cs1, ρ, s1, Stp.refl ok1, ok1, rk.step s1, q⟩, ?_⟩
  rintro i m σ' H' ⟨A', cs', ρ', s, s', ok', rk', hq⟩
  cases m with
  | zero => exact (show False from hq).elim
  | succ m =>
    obtain ⟨f1, f2⟩ := fd O A' cs' H' (fun x hx => .inl hx) s' ok' i
    unfold forN at hq
    split at hq
    · exact (show False from hq).elim
    · rename_i en
      exact .inl ⟨f1 en, hq σ' A' H' s ok' rk'⟩
    · rename_i d en
      obtain ⟨go, yl⟩ := f2 d en
      refine .inr ⟨go, fun σ2 H2 => ∃ A2 cs2 ρ2, Stp A H A2 H2 ∧ Stp A1 H1 A2 H2 ∧ Ok X.K O A2 cs2 H2 ∧ RhoOk X.K O A2 ρ2 σ2 H2 ∧ PostS X.K R O A H De E (forN nth f mb' m (i + 1) ρ2 cs2), fun σ2 H2 hN => ⟨m, Nat.lt_succ_self m, hN⟩, fun x H2 y => ?_⟩
      obtain ⟨s2, ok2, r2⟩ := yl x H2 y
      split at hq
      · rename_i ρ1 e1
        refine kg O A' cs' ρ' σ' H2 x d ρ1 ok2 (rk'.step s2) r2 e1 _ fun σ3 rk3 _ _ => ?_
        have st := s.trans s2
        have st' := s'.trans s2
        refine kb O A' ρ1 cs' σ3 H2 ok2 rk3 _ (PostX.step st (fun fl cs3 q3 => ?_) (PostX.bind hq))
        cases fl with
        | nx ρ2 => exact fun σ4 A4 H4 s4 ok4 rk4 => ⟨A4, cs3, ρ2, st.trans s4, st'.trans s4, ok4, rk4, q3⟩
        | ct ρ2 => exact fun σ4 A4 H4 s4 ok4 rk4 => ⟨A4, cs3, ρ2, st.trans s4, st'.trans s4, ok4, rk4, q3⟩
        | bk ρ2 => exact fun σ4 A4 H4 s4 ok4 rk4 => q3 σ4 A4 H4 (st.trans s4) ok4 rk4
        | rt sl => exact fun v A4 H4 s4 ok4 r4 => q3 v A4 H4 (st.trans s4) ok4 r4
      · exact (show False from hq).elim
end
section
variable {PF : Fl → List HC → Prop} {cs : List HC} {ρ : Rho} {ma mb : Rho → M Sl} {f : Rho → M Fl} {gf : D → Rho → Option Rho} {nth : Nth}
/-- a loop over items that stay, by what holds ahead of each turn -/
theorem wp_forNAll {I : Nat → Rho → List HC → Prop} {ds : List D} (hn : ∀ k ρ cs, I k ρ cs → nth k cs = some ds[k]?) (hk : ∀ (k : Nat) (d : D), ds[k]? = some d → ∀ ρ cs, I k ρ cs → ∃ ρ1, gf d ρ = some ρ1 ∧ Wp (f ρ1 cs) (forK (I (k + 1)) PF))
    (he : ∀ ρ' cs', I ds.length ρ' cs' → PF (.nx ρ') cs') : ∀ {m n : Nat} {ρ : Rho} {cs : List HC}, I n ρ cs → n ≤ ds.length → ds.length < n + m → Wp (forN nth gf f m n ρ cs) PF
  | 0, n, ρ, cs, _, h1, h2 => absurd h2 (by omega)
  | m + 1, n, ρ, cs, h, h1, h2 => by
    have e := hn n ρ cs h
    by_cases hl : n < ds.length
    · obtain ⟨ρ1, e1, w⟩ := hk n ds[n] (List.getElem?_eq_getElem hl) ρ cs h
      rw [List.getElem?_eq_getElem hl] at e
      simp only [forN, e, e1]
      refine wp_bind (w.mono fun x cs2 q => ?_)
      cases x with
      | nx ρ2 => exact wp_forNAll hn hk he q (by omega) (by omega)
      | ct ρ2 => exact wp_forNAll hn hk he q (by omega) (by omega)
      | rt sl => exact q
      | bk ρ2 => exact q
    · have hl : n = ds.length := by omega
      subst hl
      rw [List.getElem?_eq_none (Nat.le_refl _)] at e
      simp only [forN, e]
      exact he _ _ h
theorem wp_forN {mi : Rho → M Nth} (h : Wp (mi ρ cs) fun nth cs1 => Wp (forN nth gf f SL 0 ρ cs1) PF) : Wp (sForN mi gf f ρ cs) PF := wp_bind h
theorem wp_seqN {PN : Nth → List HC → Prop} (h : Wp (ma ρ cs) fun x cs1 => (tupS x).isSome = true ∧ PN (nthS x) cs1) : Wp (mSeqN ma ρ cs) PN := wp_bind (h.mono fun _ _ ⟨e, q⟩ => by
  rw [if_pos e]
  exact q)
theorem wp_zipN {PN : Nth → List HC → Prop} (h : Wp (ma ρ cs) fun x cs1 => Wp (mb ρ cs1) fun y cs2 => ((tupS x).isSome = true ∧ (tupS y).isSome = true) ∧ PN (nthZ x y) cs2) : Wp (mZipN ma mb ρ cs) PN := wp_bind (h.mono fun _ _ q1 => wp_bind (q1.mono fun _ _ ⟨e, q⟩ => by
  rw [if_pos e]
  exact q))
end
theorem ex_id {α : Type} {p q : α → Prop} (h : ∃ x, p x ∧ q x) : ∃ x, p x ∧ q x := h
theorem wp_vari {i : Nat} {ρ : Rho} {cs : List HC} {P : Sl → List HC → Prop} (h : ∃ sl, ρ[i]? = some (some sl) ∧ P sl cs) : Wp (mVar i ρ cs) P := wp_var h.choose_spec.1 h.choose_spec.2
end Mir
set_option maxHeartbeats 2000000
/-! exceptions: what a def lets out; try around one call -/
namespace Mir
open PySem PySem.Spec PyProof.Rows L2

/-- an exception of the program's own that keeps nothing: its class by its name -/
def RX (mg : Str → Option Value) : XR := fun x cls dx _ => mg x.cls = some cls ∧ x.arg = none ∧ dx = none
theorem rx_mono {mg : Str → Option Value} : RMono (RX mg) := fun _ _ _ _ _ _ h => h
def mRaise (c : Str) : Rho → M Fl := fun _ cs => .exc ⟨c, none⟩ cs
section
variable {X : Cx} {E : XK}
/-- the wish of a def's body about exceptions -/
abbrev TakesE (X : Cx) (E : XK) : Prop := Takes X (fun c d _ H => E c d H)
theorem sm_raise {C : Addr} {bmB : List Value} {B newId initId : String} {x m : Str} {j : Nat} {p p2 p3 pos : Pos} (F : ExcBaseFacts B newId initId bmB) (q : PySem.W.excIn X.K C bmB newId = true) (gC : X.mg x = some (.ref C)) (kC : PySem.W.keepIn X.K (.ref C) = true)
    (r : Raises X (.ref C)) (hg : Gl X x) (hc : X.calm = true) (tk : TakesE X E) (hdb : (x == ("__debug__" : Str)) = false := by decide) :
    SM X (RX X.mg) E (.Raise (some (.Call (.Name x p) [.Constant (.str m) j p2] [] p3)) none pos) (mRaise x) :=
  ⟨_, ps_raise hc tk (pmk_own F q gC kC r hg hdb), fun O A ρ cs σ H ok rk De h => h A H (.ref C) none (Stp.refl ok) ok ⟨gC, rfl, rfl⟩⟩
end
section
variable {P : Program} {w : World} {K : PySem.W.Frag} {mg : Str → Option Value} {base : Heap} {R : XR}
/-- a def that an exception may leave -/
theorem def_okX {x qual : Str} {st : Stmt} {f : Addr} {fd : FuncData} {N ps : List Str} {k : Nat} {mb : Rho → M Fl} (hR : RMono R) (F : Fun K x qual st f fd) (S : FnScope N ps (defScope st))
    (hb : ∀ (cdv : Value) (A : Around) (outer : List Env) (s : Shared) (H : Hp) (E : XK), Room k (A.deeper (envOfC qual (defScope st) s.heap.objs.size f cdv)) → TakesE (cxOf (L2.CX P w) P w K mg base N qual (defScope st) f cdv A outer s H E) E →
      BM (cxOf (L2.CX P w) P w K mg base N qual (defScope st) f cdv A outer s H E) R E (defBody st) mb) :
    FnOk P w K mg base (L2.CX P w) (k + 1) f fd ps (spM K R ps.length (mDef N.length mb)) := by
  refine F.okX S (fun vs H Q E h => ?_) (fun cdv A outer s H vs Q E hr h => ?_)
  · obtain ⟨O, A, cs, sls, _, hs, hn, _⟩ := h
    exact hs.length.trans hn
  · obtain ⟨O, A', cs, sls, ok, hs, hn, h⟩ := h
    obtain ⟨t, p, kk⟩ := hb cdv A outer s H E hr (takes_of rfl rfl rfl rfl)
    exact ⟨t, p, kk O A' _ cs _ H ok (rho_start (ps := ps) hs) _ (fin_ok hR ok.len h)⟩
/-- what a callee lets out goes on -/
theorem passX {X : Cx} {E : XK} (tk : TakesE X E) : Passes (L2.CX X.prog X.w) X E := passes_call tk fun _ _ _ _ h => h
end
/-! ### try -/
/-- an expression whose exception is told with the slots of its start -/
structure ES (X : Cx) (R : XR) (W : WX) (e : Expr) (m : Rho → M Sl) : Prop where
  ex : ∃ t, PE X e t ∧ ∀ O A ρ cs σ H, Ok X.K O A cs H → RhoOk X.K O A ρ σ H → ∀ Q, Post X.K R O A H Q (WE W σ) (m ρ cs) → t σ H Q
structure BS (X : Cx) (R : XR) (W : WX) (st : List Stmt) (m : Rho → M Fl) : Prop where
  ex : ∃ t, PSs X st t ∧ ∀ O A ρ cs σ H, Ok X.K O A cs H → RhoOk X.K O A ρ σ H → ∀ De, PostS X.K R O A H De (WE W σ) (m ρ cs) → t De σ H
def noX {α : Type} : Res α → Res α
  | .exc _ _ => .bad
  | r => r
theorem noX_of {K : PySem.W.Frag} {R : XR} {O A : List Addr} {H : Hp} {α : Type} {E E' : XK} {S : α → List HC → Prop} {r : Res α} (h : PostX K R O A H E S (noX r)) : PostX K R O A H E' S r := by
  cases r with
  | ok a cs => exact h
  | exc x cs => exact h.elim
  | bad => exact h.elim
def mOwnT (n : Nat) (m : List Sl → M Sl) (ms : Rho → M (List Sl)) : Rho → M Sl := fun ρ cs => (noX (ms ρ cs)).bind fun xs cs1 => if xs.length = n then m xs cs1 else .bad
section
variable {X : Cx} {R : XR} {W : WX}
/-- f(..) within a try -/
theorem es_call {x : Str} {p pos : Pos} {e : Expr} {es : List Expr} {ms : Rho → M (List Sl)} {k n : Nat} {f : Addr} {fd : FuncData} {ps : List Str} {m : List Sl → M Sl} (F : FnOk X.prog X.w X.K X.mg X.base (L2.CX X.prog X.w) k f fd ps (spM X.K R n m)) (hr : Room k X.A) (hg : Gl X x) (hm : X.mg x = some (.ref f))
    (hk : PySem.W.keepIn X.K (.ref f) = true) (hb : Binds X.K fd ps []) (tk : Takes X W)
    (ha : AM X R E0' (e :: es) ms) (hd : (x == ("__debug__" : Str)) = false := by decide) (hst : starEach (e :: es) X.env = (false, eval e X.env) :: starEach es X.env := by rfl) (hs : (backTo pos (starEach es X.env)).any (·.1) = false := by rfl) :
    ES X R W (.Call (.Name x p) (e :: es) [] pos) (mOwnT n m ms) := by
  obtain ⟨t, pt, kk⟩ := ha
  refine ⟨_, pe_callS F hr hg hm hk hb (passAt tk) pt hd hst hs, fun O A ρ cs σ H ok rk Q h => ?_⟩
  refine kk O A ρ cs σ H ok rk _ (noX_of ((PostX.bind h).step (Stp.refl ok) fun sxs cs1 q vs A1 H1 s1 ok1 r1 => ?_))
  split at q
  · rename_i hn
    exact ⟨O, A1, cs1, sxs, ok1, r1, hn, post_of (cs1 := cs1) s1 q⟩
  · exact q.elim
theorem bs_drop {e : Expr} {pos : Pos} {ma : Rho → M Sl} (he : ES X R W e ma) (hs : swapsWith e none pos.line X.env = pure false := by rfl) : BS X R W [.Expr e pos] (sDrop ma) := by
  obtain ⟨t, p, k⟩ := he
  refine ⟨_, pss_one (ps_expr p hs), fun O A ρ cs σ H ok rk De h => ?_⟩
  refine k O A ρ cs σ H ok rk _ (PostX.step (Stp.refl ok) (fun sx cs1 q x A1 H1 s1 ok1 r1 => ?_) (PostX.bind h))
  exact q σ A1 H1 s1 ok1 (rk.step s1)
theorem bs_set (i : Nat) {e : Expr} {x : Str} {pos pos' : Pos} {ma : Rho → M Sl} (hN : X.N.Nodup) (he : ES X R W e ma) (hi : X.N[i]? = some x := by rfl) (hx : Loc X.env.scope x := by first | exact Or.inl rfl | exact Or.inr rfl) (hs : swapsWith e (some (.Name x pos')) pos.line X.env = pure false := by rfl)
    (hf : X.fn x = true ∨ X.env.scope.names.lookup x = some .local := by first | exact .inl rfl | exact .inr rfl | assumption) : BS X R W [.Assign [.Name x pos'] e pos] (sSet i ma) := by
  obtain ⟨t, p, k⟩ := he
  refine ⟨_, pss_one (ps_set hN hi hx p hs hf), fun O A ρ cs σ H ok rk De h => ?_⟩
  refine k O A ρ cs σ H ok rk _ (PostX.step (Stp.refl ok) (fun sx cs1 q x A1 H1 s1 ok1 r1 => ?_) (PostX.bind h))
  exact q _ A1 H1 s1 ok1 ((rk.step s1).set r1)
end
/-- the clauses: the class's name, what is done; isA: which class is one of which -/
inductive HM (X : Cx) (R : XR) (isA : Str → Str → Option Bool) : List ExceptHandler → List (Str × (Rho → M Fl)) → Prop
  | nil : HM X R isA [] []
  | cons {x : Str} {c : Value} {mh : Rho → M Fl} {b₀ : Stmt} {suite : List Stmt} {np pos' : Pos} {hds : List ExceptHandler} {l : List (Str × (Rho → M Fl))} (hc : Names X x c)
      (hI : ∀ y v b, isA y x = some b → X.mg y = some v → PySem.W.exmOne X.K v c = some b)
      (hsu : ∀ (a : Addr) (pn : List (Addr × Obj)), BM (X.suite a pn) R E0' (b₀ :: suite) mh) (r : HM X R isA hds l) :
      HM X R isA (.ExceptHandler (some (.Name x np)) none (b₀ :: suite) pos' :: hds) ((x, mh) :: l)
def pick (isA : Str → Str → Option Bool) : List (Str × (Rho → M Fl)) → Ex → Rho → M Fl
  | [], x, _, cs => .exc x cs
  | (c, mh) :: r, x, ρ, cs => match isA x.cls c with
    | some true => noX (mh ρ cs)
    | some false => pick isA r x ρ cs
    | none => .bad
def mTry (isA : Str → Str → Option Bool) (m : Rho → M Fl) (hl : List (Str × (Rho → M Fl))) : Rho → M Fl := fun ρ cs => match m ρ cs with
  | .exc x cs' => pick isA hl x ρ cs'
  | r => r
section
variable {X : Cx} {R : XR} {E : XK} {isA : Str → Str → Option Bool}
theorem hm_ok (hR : ∀ x cls dx Hd, R x cls dx Hd → X.mg x.cls = some cls) {hds : List ExceptHandler} {hl : List (Str × (Rho → M Fl))} (hm : HM X R isA hds hl) :
    ∃ l, HdsOk X hds l ∧ ∀ De O A ρ cs σ H x cls dx, Ok X.K O A cs H → RhoOk X.K O A ρ σ H → R x cls dx (hid (O ++ A) H) → PostS X.K R O A H De E (pick isA hl x ρ cs) → wMany X.K (fun c d _ H => E c d H) De l cls dx σ H := by
  induction hm with
  | nil => exact ⟨[], .nil, fun De O A ρ cs σ H x cls dx ok rk r h => h A H cls dx (Stp.refl ok) ok r⟩
  | @cons x c mh b₀ suite np pos' hds l hc hI hsu r ih =>
    obtain ⟨l', hl', k⟩ := ih
    refine ⟨(c, fun a cls d D σ H => ∀ pn, ∃ t, PSs (X.suite a pn) (b₀ :: suite) t ∧ t D σ H) :: l', .cons hc (fun a oe cls d pn _ _ => ⟨fun pins s σ H D I h => ?_⟩) hl', fun De O A ρ cs σ H y cls dx ok rk ry h => ?_⟩
    · obtain ⟨t, p, h⟩ := h ((a, oe) :: pn)
      exact p.run pins s σ H D I h
    · have hy := hR _ _ _ _ ry
      unfold pick at h
      cases e : isA y.cls x with
      | none =>
        rw [e] at h
        exact h.elim
      | some b =>
        rw [e] at h
        refine ⟨b, hI _ _ _ e hy, fun eb a ha pn => ?_, fun eb => ?_⟩
        · subst eb
          obtain ⟨t, p, kk⟩ := hsu a pn
          exact ⟨t, p, kk O A ρ cs σ H ok rk De (noX_of h)⟩
        · subst eb
          exact k De O A ρ cs σ H y cls dx ok rk ry h
theorem sm_try {body : List Stmt} {h₀ : ExceptHandler} {hds : List ExceptHandler} {m : Rho → M Fl} {hl : List (Str × (Rho → M Fl))} {pos : Pos} (hR : ∀ x cls dx Hd, R x cls dx Hd → X.mg x.cls = some cls) (hs : X.stack = X.env :: X.outer) (hf : X.env.frame = some X.env.locals) (tk : TakesE X E)
    (hb : ∀ (W : WX) (pn : List (Addr × Obj)) (xe : Value → Shared → Prop), Takes (X.tr pn xe) W → PassesOwn (model X.prog X.w) X.A X.env xe → BS (X.tr pn xe) R W body m) (hh : HM X R isA (h₀ :: hds) hl) :
    SM X R E (.Try body (h₀ :: hds) [] [] pos) (mTry isA m hl) := by
  obtain ⟨l, hl', kl⟩ := hm_ok (E := E) hR hh
  refine ⟨_, ps_try_many (tb := fun W D σ H => ∀ pn xe, Takes (X.tr pn xe) W → PassesOwn (model X.prog X.w) X.A X.env xe → ∃ t, PSs (X.tr pn xe) body t ∧ t D σ H) hs hf tk (fun W pn xe tkW po => ⟨fun pins s σ H D I h => ?_⟩) hl', fun O A ρ cs σ H ok rk De h => ?_⟩
  · obtain ⟨t, p, h⟩ := h pn xe tkW po
    exact p.run pins s σ H D I h
  · intro pn xe tkW po
    obtain ⟨t, p, k⟩ := hb _ pn xe tkW po
    refine ⟨t, p, k O A ρ cs σ H ok rk De ?_⟩
    unfold mTry at h
    cases e : m ρ cs with
    | bad =>
      rw [e] at h
      exact h
    | ok f cs1 =>
      rw [e] at h
      exact h
    | exc x cs1 =>
      rw [e] at h
      exact fun A' H' cls dx s ok' r => kl De O A' ρ cs1 σ H' x cls dx ok' (rk.step s) r (PostS.step (De := De) s h)
end
end Mir
set_option maxHeartbeats 4000000
namespace Com
open PySem PySem.Spec PyProof.Rows L2 Mir
def b__law_spins : Rho → M Fl := sSeq (sSet 2 (mIf (mTest (mBin oLt (mVar 1) (mCall bLenX (mCons (mVar 0) (mNil))))) (mCall bInt (mCons (mBin oIdx (mVar 0) (mVar 1)) (mNil))) (mBin oAdd (mBin oMul (mC (.int 223)) (mVar 1)) (mC (.int 71))))) (sSeq (sSet 3 (mBin oMod (mCall bInt (mCons (mCall bAbs (mCons (mVar 2) (mNil))) (mNil))) (mBin oPow (mBin oPow (mC (.int 10)) (mC (.int 51))) (mC (.int 6))))) (sRet (mNew (mLst (mCons (mCall bMaxX (mCons (mC (.int 0)) (mCons (mBin oSub (mVar 3) (mBin oPow (mC (.int 10)) (mC (.int 16)))) (mNil)))) (mCons (mBin oAdd (mBin oAdd (mBin oAdd (mBin oMul (mBin oMod (mCall bInt (mCons (mVar 3) (mNil))) (mC (.int 2305843009213693907))) (mC (.int 67))) (mBin oMul (mC (.int 941)) (mVar 1))) (mBin oMul (mC (.int 43)) (mCall bInt (mCons (mBin oLt (mVar 2) (mC (.int 0))) (mNil))))) (mC (.int 17))) (mCons (mC (.int 0)) (mNil))))))))
def m__law_spins : List Sl → M (List D) := mDefL 4 b__law_spins
def b__law_spin : Rho → M Fl := sSeq (sIf (mTest (mBin oGt (mBin oIdx (mVar 0) (mC (.int 0))) (mC (.int 0)))) (sSeq (sSet 2 (mBin oMod (mCall bInt (mCons (mBin oIdx (mVar 0) (mC (.int 0))) (mNil))) (mVar 1))) (sSeq (sPut (mVar 0) (mC (.int 0)) (mBin oFdiv (mBin oIdx (mVar 0) (mC (.int 0))) (mVar 1))) (sRet (mVar 2)))) (sNil)) (sSeq (sPut (mVar 0) (mC (.int 2)) (mBin oAdd (mBin oIdx (mVar 0) (mC (.int 2))) (mC (.int 1)))) (sSeq (sSet 3 (mBin oMod (mCall bInt (mCons (mBin oAdd (mBin oIdx (mVar 0) (mC (.int 1))) (mBin oMul (mC (.int 32452843)) (mBin oIdx (mVar 0) (mC (.int 2))))) (mNil))) (mC (.int 2305843009213693951)))) (sSeq (sSet 4 (mBin oAdd (mBin oMul (mBin oMod (mCall bInt (mCons (mBin oAdd (mBin oMul (mVar 3) (mVar 3)) (mBin oMul (mC (.int 109)) (mBin oIdx (mVar 0) (mC (.int 2))))) (mNil))) (mC (.int 2305843009213693921))) (mC (.int 49979687))) (mVar 3))) (sRet (mBin oMod (mCall bInt (mCons (mBin oFdiv (mVar 4) (mC (.int 65551))) (mNil))) (mVar 1))))))
def m__law_spin : List Sl → M (Sl) := mDef 5 b__law_spin
def b__law_among : Rho → M Fl := sRet (mBin oIdx (mVar 1) (mOwn 2 Com.m__law_spin (mCons (mVar 0) (mCons (mCall bLenX (mCons (mVar 1) (mNil))) (mNil)))))
def m__law_among : List Sl → M (Sl) := mDef 2 b__law_among
def b_is_whole : Rho → M Fl := sRet (mAnd (mIsi "int" (mVar 0)) (mAnd (mBin oNotX (mVar 0) (mC (.bool true))) (mBin oNotX (mVar 0) (mC (.bool false)))))
def m_is_whole : List Sl → M (Sl) := mDef 1 b_is_whole
def b_is_short : Rho → M Fl := sRet (mAnd (mOwn 1 Com.m_is_whole (mCons (mVar 0) (mNil))) (mChain oLt oLt (mUn oNeg (mC (.int 1000000000000000000000000000000000000000000000000000000000000))) (mVar 0) (mC (.int 1000000000000000000000000000000000000000000000000000000000000))))
def m_is_short : List Sl → M (Sl) := mDef 1 b_is_short
def b_is_from : Rho → M Fl := sRet (mAnd (mOwn 1 Com.m_is_whole (mCons (mVar 2) (mNil))) (mChain oLe oLe (mVar 0) (mVar 2) (mVar 1)))
def m_is_from : List Sl → M (Sl) := mDef 3 b_is_from
def b_is_long_row : Rho → M Fl := sSeq (sIf (mOrT (mNotT (mTest (mIsi "tuple" (mVar 1)))) (mTest (mBin oNe (mCall bLenX (mCons (mVar 1) (mNil))) (mVar 0)))) (sRet (mC (.bool false))) (sNil)) (sSeq (sFor (mSeq (mVar 1)) (gSet 2) (sIf (mOrT (mNotT (mTest (mIsi "int" (mVar 2)))) (mOrT (mTest (mBin oIsX (mVar 2) (mC (.bool true)))) (mTest (mBin oIsX (mVar 2) (mC (.bool false)))))) (sRet (mC (.bool false))) (sNil))) (sRet (mC (.bool true))))
def m_is_long_row : List Sl → M (Sl) := mDef 3 b_is_long_row
def b_is_row_within : Rho → M Fl := sRet (mAnd (mOwn 2 Com.m_is_long_row (mCons (mVar 1) (mCons (mVar 2) (mNil)))) (mOr (mBin oEq (mVar 1) (mC (.int 0))) (mAnd (mBin oLe (mUn oNeg (mVar 0)) (mCall bMinX (mCons (mVar 2) (mNil)))) (mBin oLe (mCall bMaxX (mCons (mVar 2) (mNil))) (mVar 0)))))
def m_is_row_within : List Sl → M (Sl) := mDef 3 b_is_row_within
def b_is_short_row : Rho → M Fl := sRet (mOwn 3 Com.m_is_row_within (mCons (mBin oSub (mC (.int 1000000000000000000000000000000000000000000000000000000000000)) (mC (.int 1))) (mCons (mVar 0) (mCons (mVar 1) (mNil)))))
def m_is_short_row : List Sl → M (Sl) := mDef 2 b_is_short_row
def b_are_rows_within : Rho → M Fl := sSeq (sIf (mOrT (mNotT (mTest (mIsi "tuple" (mVar 3)))) (mTest (mBin oGt (mCall bLenX (mCons (mVar 3) (mNil))) (mVar 2)))) (sRet (mC (.bool false))) (sNil)) (sSeq (sFor (mSeq (mVar 3)) (gSet 4) (sIf (mNotT (mTest (mOwn 3 Com.m_is_row_within (mCons (mVar 0) (mCons (mVar 1) (mCons (mVar 4) (mNil))))))) (sRet (mC (.bool false))) (sNil))) (sRet (mC (.bool true))))
def m_are_rows_within : List Sl → M (Sl) := mDef 5 b_are_rows_within
def b_check_many : Rho → M Fl := sIf (mNotT (mTest (mOwn 3 Com.m_is_from (mCons (mC (.int 0)) (mCons (mVar 0) (mCons (mVar 1) (mNil))))))) (mDead) (sNil)
def m_check_many : List Sl → M (Sl) := mDef 2 b_check_many
def b_check_form : Rho → M Fl := sIf (mNotT (mTest (mOwn 2 Com.m_is_short_row (mCons (mBin oAdd (mVar 0) (mC (.int 1))) (mCons (mVar 1) (mNil)))))) (mDead) (sNil)
def m_check_form : List Sl → M (Sl) := mDef 2 b_check_form
def b_is_lot : Rho → M Fl := sRet (mOwn 4 Com.m_are_rows_within (mCons (mBin oSub (mC (.int 1000000000000000000000000000000000000000000000000000000000000)) (mC (.int 1))) (mCons (mBin oAdd (mVar 0) (mC (.int 1))) (mCons (mVar 1) (mCons (mVar 2) (mNil))))))
def m_is_lot : List Sl → M (Sl) := mDef 3 b_is_lot
def b_at_vector : Rho → M Fl := sRet (mCall bSum (mCons (mL (mLc (mZipX (mVar 0) (mVar 1)) (gTupM 2 (gsCons (gSet 2) (gsCons (gSet 3) (gsNil)))) (mYes) (mBin oMul (mVar 2) (mVar 3)) [2, 3])) (mNil)))
def m_at_vector : List Sl → M (Sl) := mDef 4 b_at_vector
def b_added : Rho → M Fl := sRet (mCall bTuple (mCons (mL (mLc (mZipX (mVar 0) (mVar 1)) (gTupM 2 (gsCons (gSet 2) (gsCons (gSet 3) (gsNil)))) (mYes) (mBin oAdd (mVar 2) (mVar 3)) [2, 3])) (mNil)))
def m_added : List Sl → M (Sl) := mDef 4 b_added
def b_scaled : Rho → M Fl := sRet (mCall bTuple (mCons (mL (mLc (mSeq (mVar 1)) (gSet 2) (mYes) (mBin oMul (mVar 0) (mVar 2)) [2])) (mNil)))
def m_scaled : List Sl → M (Sl) := mDef 3 b_scaled
def b_put : Rho → M Fl := sSeq (sSet 3 (mBin oAdd (mL (mLst (mCons (mBin oIdx (mVar 0) (mC (.int 0))) (mNil)))) (mBin oMul (mL (mLst (mCons (mC (.int 0)) (mNil)))) (mVar 2)))) (sSeq (sFor (mZipX (mCut (mVar 0) (mPart (mC (.int 1))) (mNo)) (mVar 1)) (gTupM 2 (gsCons (gSet 4) (gsCons (gSet 5) (gsNil)))) (sIf (mTest (mBin oNe (mVar 4) (mC (.int 0)))) (sSet 3 (mL (mLc (mZipX (mVar 3) (mVar 5)) (gTupM 2 (gsCons (gSet 6) (gsCons (gSet 7) (gsNil)))) (mYes) (mBin oAdd (mVar 6) (mBin oMul (mVar 4) (mVar 7))) [6, 7]))) (sNil))) (sRet (mCall bTuple (mCons (mVar 3) (mNil)))))
def m_put : List Sl → M (Sl) := mDef 8 b_put
def b__check_any_form : Rho → M Fl := sSeq (sIf (mOrT (mNotT (mTest (mIsi "tuple" (mVar 0)))) (mNotT (mTest (mChain oLe oLe (mC (.int 1)) (mCall bLenX (mCons (mVar 0) (mNil))) (mBin oAdd (mC (.int 14)) (mC (.int 1))))))) (mDead) (sNil)) (sDrop (mOwn 2 Com.m_check_form (mCons (mBin oSub (mCall bLenX (mCons (mVar 0) (mNil))) (mC (.int 1))) (mCons (mVar 0) (mNil)))))
def m__check_any_form : List Sl → M (Sl) := mDef 1 b__check_any_form
def b__is_vector : Rho → M Fl := sRet (mAnd (mOwn 2 Com.m_is_long_row (mCons (mBin oAdd (mVar 0) (mC (.int 1))) (mCons (mVar 1) (mNil)))) (mBin oGe (mBin oIdx (mVar 1) (mC (.int 0))) (mC (.int 0))))
def m__is_vector : List Sl → M (Sl) := mDef 2 b__is_vector
def b_value_at : Rho → M Fl := sSeq (sDrop (mOwn 1 Com.m__check_any_form (mCons (mVar 0) (mNil)))) (sSeq (sIf (mNotT (mTest (mOwn 2 Com.m__is_vector (mCons (mBin oSub (mCall bLenX (mCons (mVar 0) (mNil))) (mC (.int 1))) (mCons (mVar 1) (mNil)))))) (mDead) (sNil)) (sRet (mOwn 2 Com.m_at_vector (mCons (mVar 0) (mCons (mVar 1) (mNil))))))
def m_value_at : List Sl → M (Sl) := mDef 2 b_value_at
def b_plus : Rho → M Fl := sSeq (sDrop (mOwn 1 Com.m__check_any_form (mCons (mVar 0) (mNil)))) (sSeq (sDrop (mOwn 1 Com.m__check_any_form (mCons (mVar 1) (mNil)))) (sSeq (sIf (mTest (mBin oNe (mCall bLenX (mCons (mVar 0) (mNil))) (mCall bLenX (mCons (mVar 1) (mNil))))) (mDead) (sNil)) (sRet (mOwn 2 Com.m_added (mCons (mVar 0) (mCons (mVar 1) (mNil)))))))
def m_plus : List Sl → M (Sl) := mDef 2 b_plus
def b_times : Rho → M Fl := sSeq (sIf (mNotT (mTest (mOwn 1 Com.m_is_short (mCons (mVar 0) (mNil))))) (mDead) (sNil)) (sSeq (sDrop (mOwn 1 Com.m__check_any_form (mCons (mVar 1) (mNil)))) (sRet (mOwn 2 Com.m_scaled (mCons (mVar 0) (mCons (mVar 1) (mNil))))))
def m_times : List Sl → M (Sl) := mDef 2 b_times
def b_put_in : Rho → M Fl := sSeq (sDrop (mOwn 1 Com.m__check_any_form (mCons (mVar 0) (mNil)))) (sSeq (sDrop (mOwn 2 Com.m_check_many (mCons (mC (.int 14)) (mCons (mVar 2) (mNil))))) (sSeq (sIf (mOrT (mNotT (mTest (mOwn 3 Com.m_is_lot (mCons (mVar 2) (mCons (mC (.int 14)) (mCons (mVar 1) (mNil))))))) (mTest (mBin oNe (mCall bLenX (mCons (mVar 1) (mNil))) (mBin oSub (mCall bLenX (mCons (mVar 0) (mNil))) (mC (.int 1)))))) (mDead) (sNil)) (sRet (mOwn 3 Com.m_put (mCons (mVar 0) (mCons (mVar 1) (mCons (mVar 2) (mNil))))))))
def m_put_in : List Sl → M (Sl) := mDef 3 b_put_in
def b__are_places : Rho → M Fl := sSeq (sIf (mOrT (mNotT (mTest (mIsi "tuple" (mVar 2)))) (mTest (mBin oNe (mCall bLenX (mCons (mVar 2) (mNil))) (mVar 0)))) (sRet (mC (.bool false))) (sNil)) (sSeq (sIf (mNotT (mTest (mCall bAll (mCons (mL (mLc (mSeq (mVar 2)) (gSet 3) (mYes) (mOwn 3 Com.m_is_from (mCons (mC (.int 0)) (mCons (mBin oSub (mVar 1) (mC (.int 1))) (mCons (mVar 3) (mNil))))) [3])) (mNil))))) (sRet (mC (.bool false))) (sNil)) (sRet (mBin oEq (mCall bLenX (mCons (mDc (mSeq (mVar 2)) (gSet 3) (mYes) (mVar 3) (mC (.bool true)) [3]) (mNil))) (mVar 0))))
def m__are_places : List Sl → M (Sl) := mDef 4 b__are_places
def b_moved : Rho → M Fl := sSeq (sDrop (mOwn 1 Com.m__check_any_form (mCons (mVar 0) (mNil)))) (sSeq (sDrop (mOwn 2 Com.m_check_many (mCons (mC (.int 14)) (mCons (mVar 2) (mNil))))) (sSeq (sIf (mNotT (mTest (mOwn 3 Com.m__are_places (mCons (mBin oSub (mCall bLenX (mCons (mVar 0) (mNil))) (mC (.int 1))) (mCons (mVar 2) (mCons (mVar 1) (mNil))))))) (mDead) (sNil)) (sSeq (sNew 3 (mBinL oCatL (mL (mLst (mCons (mBin oIdx (mVar 0) (mC (.int 0))) (mNil)))) (mBin oMul (mL (mLst (mCons (mC (.int 0)) (mNil)))) (mVar 2)))) (sSeq (sFor (mZipX (mCut (mVar 0) (mPart (mC (.int 1))) (mNo)) (mVar 1)) (gTupM 2 (gsCons (gSet 4) (gsCons (gSet 5) (gsNil)))) (sPut (mVar 3) (mBin oAdd (mVar 5) (mC (.int 1))) (mVar 4))) (sRet (mCall bTuple (mCons (mVar 3) (mNil))))))))
def m_moved : List Sl → M (Sl) := mDef 6 b_moved
def b__law_at : Rho → M Fl := sRet (mCall bSum (mCons (mL (mLc (mZipX (mVar 0) (mVar 1)) (gTupM 2 (gsCons (gSet 2) (gsCons (gSet 3) (gsNil)))) (mYes) (mBin oMul (mVar 2) (mVar 3)) [2, 3])) (mNil)))
def m__law_at : List Sl → M (Sl) := mDef 4 b__law_at
def b__law_put : Rho → M Fl := sSeq (sNew 3 (mBinL oCatL (mL (mLst (mCons (mBin oIdx (mVar 0) (mC (.int 0))) (mNil)))) (mBin oMul (mL (mLst (mCons (mC (.int 0)) (mNil)))) (mVar 2)))) (sSeq (sFor (mZipX (mCut (mVar 0) (mPart (mC (.int 1))) (mNo)) (mVar 1)) (gTupM 2 (gsCons (gSet 4) (gsCons (gSet 5) (gsNil)))) (sFor (mRng1 (mBin oAdd (mVar 2) (mC (.int 1)))) (gSet 6) (sPut (mVar 3) (mVar 6) (mBin oAdd (mBin oIdx (mVar 3) (mVar 6)) (mBin oMul (mVar 4) (mBin oIdx (mVar 5) (mVar 6))))))) (sRet (mCall bTuple (mCons (mVar 3) (mNil)))))
def m__law_put : List Sl → M (Sl) := mDef 7 b__law_put
def b__law_form_drawn : Rho → M Fl := sSeq (sNew 3 (mBinL oCatL (mL (mLst (mCons (mBin oSub (mOwn 2 Com.m__law_spin (mCons (mVar 0) (mCons (mBin oAdd (mBin oMul (mC (.int 2)) (mVar 2)) (mC (.int 1))) (mNil)))) (mVar 2)) (mNil)))) (mBin oMul (mL (mLst (mCons (mC (.int 0)) (mNil)))) (mVar 1)))) (sSeq (sFor (mRng1 (mIf (mTest (mBin oGt (mVar 1) (mC (.int 0)))) (mOwn 2 Com.m__law_among (mCons (mVar 0) (mCons (mL (mLst (mCons (mC (.int 0)) (mCons (mC (.int 1)) (mCons (mC (.int 1)) (mCons (mC (.int 1)) (mCons (mC (.int 2)) (mCons (mC (.int 2)) (mCons (mC (.int 3)) (mNil)))))))))) (mNil)))) (mC (.int 0)))) (gSet 4) (sPut (mVar 3) (mBin oAdd (mC (.int 1)) (mOwn 2 Com.m__law_spin (mCons (mVar 0) (mCons (mVar 1) (mNil))))) (mOwn 2 Com.m__law_among (mCons (mVar 0) (mCons (mL (mLst (mCons (mC (.int 1)) (mCons (mC (.int 1)) (mCons (mC (.int 1)) (mCons (mUn oNeg (mC (.int 1))) (mCons (mUn oNeg (mC (.int 1))) (mCons (mC (.int 2)) (mCons (mUn oNeg (mC (.int 2))) (mCons (mC (.int 3)) (mNil))))))))))) (mNil)))))) (sRet (mCall bTuple (mCons (mVar 3) (mNil)))))
def m__law_form_drawn : List Sl → M (Sl) := mDef 5 b__law_form_drawn
def b__law_many_drawn : Rho → M Fl := sRet (mOwn 2 Com.m__law_among (mCons (mVar 0) (mCons (mL (mLst (mCons (mC (.int 0)) (mCons (mC (.int 1)) (mCons (mC (.int 1)) (mCons (mC (.int 2)) (mCons (mC (.int 2)) (mCons (mC (.int 2)) (mCons (mC (.int 3)) (mCons (mC (.int 3)) (mCons (mC (.int 4)) (mCons (mC (.int 5)) (mCons (mC (.int 7)) (mNil)))))))))))))) (mNil))))
def m__law_many_drawn : List Sl → M (Sl) := mDef 1 b__law_many_drawn
def b__law_plain_form : Rho → M Fl := sRet (mCall bTuple (mCons (mL (mLc (mRng1 (mBin oAdd (mVar 1) (mC (.int 1)))) (gSet 3) (mYes) (mOwn 2 Com.m__law_among (mCons (mVar 0) (mCons (mL (mLst (mCons (mC (.int 0)) (mCons (mC (.int 0)) (mCons (mBin oSub (mOwn 2 Com.m__law_spin (mCons (mVar 0) (mCons (mBin oAdd (mBin oMul (mC (.int 2)) (mVar 2)) (mC (.int 1))) (mNil)))) (mVar 2)) (mNil)))))) (mNil)))) [3])) (mNil)))
def m__law_plain_form : List Sl → M (Sl) := mDef 4 b__law_plain_form
def b_is_name : Rho → M Fl := sSeq (sIf (mOrT (mNotT (mTest (mIsi "str" (mVar 0)))) (mNotT (mTest (mChain oLe oLe (mC (.int 1)) (mCall bLenX (mCons (mVar 0) (mNil))) (mC (.int 8)))))) (sRet (mC (.bool false))) (sNil)) (sRet (mCall bAll (mCons (mL (mLc (mSeq (mVar 0)) (gSet 1) (mYes) (mChain oLe oLe (mC (.str "a")) (mVar 1) (mC (.str "z"))) [1])) (mNil))))
def m_is_name : List Sl → M (Sl) := mDef 2 b_is_name
def b__are_names : Rho → M Fl := sSeq (sIf (mOrT (mNotT (mTest (mIsi "tuple" (mVar 1)))) (mTest (mBin oNe (mCall bLenX (mCons (mVar 1) (mNil))) (mVar 0)))) (sRet (mC (.bool false))) (sNil)) (sSeq (sIf (mNotT (mTest (mCall bAll (mCons (mL (mLc (mSeq (mVar 1)) (gSet 2) (mYes) (mOwn 1 Com.m_is_name (mCons (mVar 2) (mNil))) [2])) (mNil))))) (sRet (mC (.bool false))) (sNil)) (sRet (mBin oEq (mCall bLenX (mCons (mDc (mSeq (mVar 1)) (gSet 2) (mYes) (mVar 2) (mC (.bool true)) [2]) (mNil))) (mVar 0))))
def m__are_names : List Sl → M (Sl) := mDef 3 b__are_names
def b__joint : Rho → M Fl := sSeq (sIf (mTest (mVar 1)) (sRet (mIf (mTest (mBin oLt (mVar 0) (mC (.int 0)))) (mC (.str " - ")) (mC (.str " + ")))) (sNil)) (sRet (mIf (mTest (mBin oLt (mVar 0) (mC (.int 0)))) (mC (.str "-")) (mC (.str ""))))
def m__joint : List Sl → M (Sl) := mDef 2 b__joint
def b_is_form : Rho → M Fl := sSeq (sDrop (mOwn 2 Com.m_check_many (mCons (mC (.int 14)) (mCons (mVar 0) (mNil))))) (sRet (mOwn 2 Com.m_is_short_row (mCons (mBin oAdd (mVar 0) (mC (.int 1))) (mCons (mVar 1) (mNil)))))
def m_is_form : List Sl → M (Sl) := mDef 2 b_is_form
def b_are_rows : Rho → M Fl := sSeq (sDrop (mOwn 2 Com.m_check_many (mCons (mC (.int 14)) (mCons (mVar 0) (mNil))))) (sRet (mOwn 3 Com.m_is_lot (mCons (mVar 0) (mCons (mC (.int 40)) (mCons (mVar 1) (mNil))))))
def m_are_rows : List Sl → M (Sl) := mDef 2 b_are_rows
def b_opposite_of : Rho → M Fl := sRet (mTup (mCons (mBin oSub (mUn oNeg (mBin oIdx (mVar 0) (mC (.int 0)))) (mC (.int 1))) (mStar (mL (mLc (mSeq (mCut (mVar 0) (mPart (mC (.int 1))) (mNo))) (gSet 1) (mYes) (mUn oNeg (mVar 1)) [1])) (mNil))))
def m_opposite_of : List Sl → M (Sl) := mDef 2 b_opposite_of
def b_reduced : Rho → M Fl := sSeq (sSet 1 (mC (.int 0))) (sSeq (sFor (mSeq (mVar 0)) (gSet 2) (sSet 1 (mCall bGcd (mCons (mVar 1) (mCons (mVar 2) (mNil)))))) (sSeq (sIf (mTest (mBin oEq (mVar 1) (mC (.int 0)))) (sRet (mCall bTuple (mCons (mVar 0) (mNil)))) (sNil)) (sRet (mCall bTuple (mCons (mL (mLc (mSeq (mVar 0)) (gSet 2) (mYes) (mBin oFdiv (mVar 2) (mVar 1)) [2])) (mNil))))))
def m_reduced : List Sl → M (Sl) := mDef 3 b_reduced
def b_lowest : Rho → M Fl := sSeq (sIf (mOrT (mNotT (mTest (mIsi "tuple" (mVar 0)))) (mNotT (mTest (mChain oLe oLe (mC (.int 1)) (mCall bLenX (mCons (mVar 0) (mNil))) (mBin oAdd (mC (.int 14)) (mC (.int 1))))))) (mDead) (sNil)) (sSeq (sIf (mNotT (mTest (mOwn 2 Com.m__is_vector (mCons (mBin oSub (mCall bLenX (mCons (mVar 0) (mNil))) (mC (.int 1))) (mCons (mVar 0) (mNil)))))) (mDead) (sNil)) (sRet (mOwn 1 Com.m_reduced (mCons (mVar 0) (mNil)))))
def m_lowest : List Sl → M (Sl) := mDef 1 b_lowest
def b_opposite : Rho → M Fl := sSeq (sDrop (mOwn 1 Com.m__check_any_form (mCons (mVar 0) (mNil)))) (sRet (mOwn 1 Com.m_opposite_of (mCons (mVar 0) (mNil))))
def m_opposite : List Sl → M (Sl) := mDef 1 b_opposite
def b__is_function : Rho → M Fl := sSeq (sIf (mOrT (mNotT (mTest (mIsi "tuple" (mVar 1)))) (mTest (mBin oNe (mCall bLenX (mCons (mVar 1) (mNil))) (mC (.int 2))))) (sRet (mC (.bool false))) (sNil)) (sRet (mAnd (mOwn 1 Com.m_is_name (mCons (mBin oIdx (mVar 1) (mC (.int 0))) (mNil))) (mOwn 3 Com.m_is_from (mCons (mC (.int 0)) (mCons (mVar 0) (mCons (mBin oIdx (mVar 1) (mC (.int 1))) (mNil)))))))
def m__is_function : List Sl → M (Sl) := mDef 2 b__is_function
def b_functions_fault : Rho → M Fl := sSeq (sIf (mOrT (mNotT (mTest (mIsi "tuple" (mVar 2)))) (mNotT (mTest (mChain oLe oLe (mC (.int 1)) (mCall bLenX (mCons (mVar 2) (mNil))) (mVar 0))))) (sRet (mTup (mCons (mC (.str "functions")) (mNil)))) (sNil)) (sSeq (sSet 3 (mC (.dict []))) (sSeq (sFor (mEnum (mVar 2)) (gTupM 2 (gsCons (gSet 4) (gsCons (gSet 5) (gsNil)))) (sSeq (sIf (mOrT (mNotT (mTest (mOwn 2 Com.m__is_function (mCons (mVar 1) (mCons (mVar 5) (mNil)))))) (mTest (mBin oIn2 (mBin oIdx (mVar 5) (mC (.int 0))) (mVar 3)))) (sRet (mTup (mCons (mC (.str "functions")) (mCons (mVar 4) (mNil))))) (sNil)) (sPut (mVar 3) (mBin oIdx (mVar 5) (mC (.int 0))) (mC (.bool true))))) (sRet (mC .none))))
def m_functions_fault : List Sl → M (Sl) := mDef 6 b_functions_fault
def b__is_call : Rho → M Fl := sSeq (sIf (mOrT (mNotT (mTest (mIsi "tuple" (mVar 3)))) (mTest (mBin oNe (mCall bLenX (mCons (mVar 3) (mNil))) (mC (.int 2))))) (sRet (mC (.bool false))) (sNil)) (sSeq (sAsg (mVar 3) (gTupM 2 (gsCons (gSet 4) (gsCons (gSet 5) (gsNil))))) (sSeq (sIf (mOrT (mNotT (mTest (mOwn 3 Com.m_is_from (mCons (mC (.int 0)) (mCons (mBin oSub (mCall bLenX (mCons (mVar 1) (mNil))) (mC (.int 1))) (mCons (mVar 4) (mNil))))))) (mNotT (mTest (mIsi "tuple" (mVar 5))))) (sRet (mC (.bool false))) (sNil)) (sSeq (sIf (mTest (mBin oNe (mCall bLenX (mCons (mVar 5) (mNil))) (mBin oIdx (mBin oIdx (mVar 1) (mVar 4)) (mC (.int 1))))) (sRet (mC (.bool false))) (sNil)) (sRet (mCall bAll (mCons (mL (mLc (mSeq (mVar 5)) (gSet 6) (mYes) (mOwn 3 Com.m_is_row_within (mCons (mBin oIdx (mVar 0) (mC (.str "factor"))) (mCons (mBin oAdd (mVar 2) (mC (.int 1))) (mCons (mVar 6) (mNil))))) [6])) (mNil)))))))
def m__is_call : List Sl → M (Sl) := mDef 7 b__is_call
def b__are_calls : Rho → M Fl := sSeq (sIf (mOrT (mNotT (mTest (mIsi "tuple" (mVar 3)))) (mTest (mBin oGt (mCall bLenX (mCons (mVar 3) (mNil))) (mBin oIdx (mVar 0) (mC (.str "calls")))))) (sRet (mC (.bool false))) (sNil)) (sRet (mCall bAll (mCons (mL (mLc (mEnum (mVar 3)) (gTupM 2 (gsCons (gSet 4) (gsCons (gSet 5) (gsNil)))) (mYes) (mOwn 4 Com.m__is_call (mCons (mVar 0) (mCons (mVar 1) (mCons (mBin oAdd (mVar 2) (mVar 4)) (mCons (mVar 5) (mNil)))))) [4, 5])) (mNil))))
def m__are_calls : List Sl → M (Sl) := mDef 6 b__are_calls
def b__rule_fault : Rho → M Fl := sSeq (sIf (mOrT (mNotT (mTest (mIsi "tuple" (mVar 2)))) (mTest (mBin oNe (mCall bLenX (mCons (mVar 2) (mNil))) (mC (.int 6))))) (sRet (mC (.str "rule"))) (sNil)) (sSeq (sAsg (mVar 2) (gTupM 6 (gsCons (gSet 3) (gsCons (gSet 4) (gsCons (gSet 5) (gsCons (gSet 6) (gsCons (gSet 7) (gsCons (gSet 8) (gsNil))))))))) (sSeq (sIf (mNotT (mTest (mOwn 3 Com.m_is_from (mCons (mC (.int 0)) (mCons (mBin oSub (mCall bLenX (mCons (mVar 1) (mNil))) (mC (.int 1))) (mCons (mVar 3) (mNil))))))) (sRet (mC (.str "function"))) (sNil)) (sSeq (sIf (mNotT (mTest (mOwn 3 Com.m_is_from (mCons (mC (.int 0)) (mCons (mBin oIdx (mVar 0) (mC (.str "unknowns"))) (mCons (mVar 4) (mNil))))))) (sRet (mC (.str "unknowns"))) (sNil)) (sSeq (sSet 9 (mBin oAdd (mBin oIdx (mBin oIdx (mVar 1) (mVar 3)) (mC (.int 1))) (mVar 4))) (sSeq (sIf (mNotT (mTest (mOwn 4 Com.m_are_rows_within (mCons (mBin oIdx (mVar 0) (mC (.str "factor"))) (mCons (mBin oAdd (mVar 9) (mC (.int 1))) (mCons (mBin oIdx (mVar 0) (mC (.str "guard"))) (mCons (mVar 5) (mNil)))))))) (sRet (mC (.str "guard"))) (sNil)) (sSeq (sIf (mNotT (mTest (mOwn 3 Com.m_is_from (mCons (mC (.int 0)) (mCons (mBin oIdx (mVar 0) (mC (.str "cost"))) (mCons (mVar 6) (mNil))))))) (sRet (mC (.str "cost"))) (sNil)) (sSeq (sIf (mNotT (mTest (mOwn 4 Com.m__are_calls (mCons (mVar 0) (mCons (mVar 1) (mCons (mVar 9) (mCons (mVar 7) (mNil)))))))) (sRet (mC (.str "calls"))) (sNil)) (sSeq (sIf (mNotT (mTest (mOwn 3 Com.m_is_row_within (mCons (mBin oIdx (mVar 0) (mC (.str "factor"))) (mCons (mBin oAdd (mBin oAdd (mVar 9) (mCall bLenX (mCons (mVar 7) (mNil)))) (mC (.int 1))) (mCons (mVar 8) (mNil))))))) (sRet (mC (.str "result"))) (sNil)) (sRet (mC .none))))))))))
def m__rule_fault : List Sl → M (Sl) := mDef 10 b__rule_fault
def b_rules_fault : Rho → M Fl := sSeq (sIf (mOrT (mNotT (mTest (mIsi "tuple" (mVar 2)))) (mTest (mBin oGt (mCall bLenX (mCons (mVar 2) (mNil))) (mBin oIdx (mVar 0) (mC (.str "rules")))))) (sRet (mTup (mCons (mC (.str "rules")) (mNil)))) (sNil)) (sSeq (sFor (mEnum (mVar 2)) (gTupM 2 (gsCons (gSet 3) (gsCons (gSet 4) (gsNil)))) (sSeq (sSet 5 (mOwn 3 Com.m__rule_fault (mCons (mVar 0) (mCons (mVar 1) (mCons (mVar 4) (mNil)))))) (sIf (mTest (mBin oNotX (mVar 5) (mC .none))) (sRet (mTup (mCons (mC (.str "rules")) (mCons (mVar 3) (mCons (mVar 5) (mNil)))))) (sNil)))) (sRet (mC .none)))
def m_rules_fault : List Sl → M (Sl) := mDef 6 b_rules_fault
def b_given_fault : Rho → M Fl := sSeq (sIf (mOrT (mNotT (mTest (mIsi "tuple" (mVar 2)))) (mTest (mBin oGt (mCall bLenX (mCons (mVar 2) (mNil))) (mBin oIdx (mVar 0) (mC (.str "guard")))))) (sRet (mTup (mCons (mC (.str "given")) (mNil)))) (sNil)) (sSeq (sFor (mEnum (mVar 2)) (gTupM 2 (gsCons (gSet 3) (gsCons (gSet 4) (gsNil)))) (sIf (mNotT (mTest (mOwn 3 Com.m_is_row_within (mCons (mBin oIdx (mVar 0) (mC (.str "factor"))) (mCons (mBin oAdd (mBin oIdx (mBin oIdx (mVar 1) (mC (.int 0))) (mC (.int 1))) (mC (.int 1))) (mCons (mVar 4) (mNil))))))) (sRet (mTup (mCons (mC (.str "given")) (mCons (mVar 3) (mNil))))) (sNil))) (sRet (mC .none)))
def m_given_fault : List Sl → M (Sl) := mDef 5 b_given_fault
def b__law_one : Rho → M Fl := sRet (mCall bTuple (mCons (mBin oAdd (mL (mLst (mCons (mVar 3) (mNil)))) (mL (mLc (mRng1 (mVar 0)) (gSet 4) (mYes) (mIf (mTest (mBin oEq (mVar 4) (mVar 1))) (mVar 2) (mC (.int 0))) [4]))) (mNil)))
def m__law_one : List Sl → M (Sl) := mDef 5 b__law_one
def b__law_guard_drawn : Rho → M Fl := sSeq (sPar 3 4 (mNew (mLst (mNil))) (mBin oAdd (mVar 1) (mVar 2))) (sSeq (sFor (mRng2 (mVar 1) (mVar 4)) (gSet 5) (sSeq (sPar 6 7 (mOwn 2 Com.m__law_spin (mCons (mVar 0) (mCons (mC (.int 3)) (mNil)))) (mOwn 2 Com.m__law_spin (mCons (mVar 0) (mCons (mC (.int 3)) (mNil))))) (sNew 3 (mBinL oCatL (mVar 3) (mL (mLst (mCons (mOwn 4 Com.m__law_one (mCons (mVar 4) (mCons (mVar 5) (mCons (mC (.int 1)) (mCons (mVar 6) (mNil)))))) (mCons (mOwn 4 Com.m__law_one (mCons (mVar 4) (mCons (mVar 5) (mCons (mUn oNeg (mC (.int 1))) (mCons (mVar 7) (mNil)))))) (mNil))))))))) (sSeq (sFor (mRng1 (mIf (mTest (mBin oGt (mVar 4) (mC (.int 0)))) (mOwn 2 Com.m__law_spin (mCons (mVar 0) (mCons (mC (.int 3)) (mNil)))) (mC (.int 0)))) (gSet 8) (sApp (mVar 3) (mOwn 3 Com.m__law_form_drawn (mCons (mVar 0) (mCons (mVar 4) (mCons (mC (.int 3)) (mNil))))))) (sRet (mCall bTuple (mCons (mVar 3) (mNil))))))
def m__law_guard_drawn : List Sl → M (Sl) := mDef 9 b__law_guard_drawn
def b__law_calls_drawn : Rho → M Fl := sSeq (sNew 3 (mLst (mNil))) (sSeq (sFor (mRng1 (mOwn 2 Com.m__law_among (mCons (mVar 0) (mCons (mL (mLst (mCons (mC (.int 0)) (mCons (mC (.int 1)) (mCons (mC (.int 1)) (mCons (mC (.int 1)) (mCons (mC (.int 2)) (mNil)))))))) (mNil))))) (gSet 4) (sSeq (sPar 5 6 (mOwn 2 Com.m__law_spin (mCons (mVar 0) (mCons (mCall bLenX (mCons (mVar 1) (mNil))) (mNil)))) (mBin oAdd (mVar 2) (mVar 4))) (sApp (mVar 3) (mTup (mCons (mVar 5) (mCons (mCall bTuple (mCons (mL (mLc (mRng1 (mBin oIdx (mBin oIdx (mVar 1) (mVar 5)) (mC (.int 1)))) (gSet 7) (mYes) (mOwn 3 Com.m__law_form_drawn (mCons (mVar 0) (mCons (mVar 6) (mCons (mC (.int 2)) (mNil))))) [7])) (mNil))) (mNil))))))) (sRet (mCall bTuple (mCons (mVar 3) (mNil)))))
def m__law_calls_drawn : List Sl → M (Sl) := mDef 8 b__law_calls_drawn
def b__law_system_drawn : Rho → M Fl := sSeq (sSet 3 (mL (mLst (mCons (mC (.str "main")) (mCons (mC (.str "f")) (mCons (mC (.str "loop")) (mCons (mC (.str "g")) (mCons (mC (.str "down")) (mCons (mC (.str "halves")) (mCons (mC (.str "z")) (mNil))))))))))) (sSeq (sSet 4 (mBin oAdd (mC (.int 1)) (mOwn 2 Com.m__law_spin (mCons (mVar 0) (mCons (mVar 1) (mNil)))))) (sSeq (sSet 5 (mCall bTuple (mCons (mL (mLc (mRng1 (mVar 4)) (gSet 6) (mYes) (mTup (mCons (mBin oIdx (mVar 3) (mVar 6)) (mCons (mOwn 2 Com.m__law_among (mCons (mVar 0) (mCons (mL (mLst (mCons (mC (.int 0)) (mCons (mC (.int 1)) (mCons (mC (.int 1)) (mCons (mC (.int 2)) (mCons (mC (.int 2)) (mCons (mC (.int 3)) (mNil))))))))) (mNil)))) (mNil)))) [6])) (mNil)))) (sSeq (sNew 7 (mLst (mNil))) (sSeq (sFor (mRng1 (mBin oAdd (mC (.int 1)) (mOwn 2 Com.m__law_spin (mCons (mVar 0) (mCons (mVar 2) (mNil)))))) (gSet 8) (sSeq (sPar 9 10 (mOwn 2 Com.m__law_spin (mCons (mVar 0) (mCons (mCall bLenX (mCons (mVar 5) (mNil))) (mNil)))) (mOwn 2 Com.m__law_among (mCons (mVar 0) (mCons (mL (mLst (mCons (mC (.int 0)) (mCons (mC (.int 0)) (mCons (mC (.int 0)) (mCons (mC (.int 1)) (mCons (mC (.int 1)) (mCons (mC (.int 2)) (mNil))))))))) (mNil))))) (sSeq (sSet 11 (mBin oIdx (mBin oIdx (mVar 5) (mVar 9)) (mC (.int 1)))) (sSeq (sSet 12 (mOwn 3 Com.m__law_calls_drawn (mCons (mVar 0) (mCons (mVar 5) (mCons (mBin oAdd (mVar 11) (mVar 10)) (mNil)))))) (sSeq (sPar 13 14 (mOwn 3 Com.m__law_guard_drawn (mCons (mVar 0) (mCons (mVar 11) (mCons (mVar 10) (mNil))))) (mOwn 2 Com.m__law_among (mCons (mVar 0) (mCons (mL (mLst (mCons (mC (.int 0)) (mCons (mC (.int 1)) (mCons (mC (.int 1)) (mCons (mC (.int 2)) (mCons (mC (.int 1000)) (mNil)))))))) (mNil))))) (sSeq (sSet 15 (mOwn 3 Com.m__law_form_drawn (mCons (mVar 0) (mCons (mBin oAdd (mBin oAdd (mVar 11) (mVar 10)) (mCall bLenX (mCons (mVar 12) (mNil)))) (mCons (mC (.int 2)) (mNil)))))) (sApp (mVar 7) (mTup (mCons (mVar 9) (mCons (mVar 10) (mCons (mVar 13) (mCons (mVar 14) (mCons (mVar 12) (mCons (mVar 15) (mNil))))))))))))))) (sSeq (sSet 16 (mCall bTuple (mCons (mL (mLc (mRng1 (mOwn 2 Com.m__law_among (mCons (mVar 0) (mCons (mL (mLst (mCons (mC (.int 0)) (mCons (mC (.int 0)) (mCons (mC (.int 0)) (mCons (mC (.int 1)) (mCons (mC (.int 2)) (mNil)))))))) (mNil))))) (gSet 8) (mYes) (mOwn 3 Com.m__law_form_drawn (mCons (mVar 0) (mCons (mBin oIdx (mBin oIdx (mVar 5) (mC (.int 0))) (mC (.int 1))) (mCons (mC (.int 2)) (mNil))))) [8])) (mNil)))) (sRet (mTup (mCons (mVar 5) (mCons (mCall bTuple (mCons (mVar 7) (mNil))) (mCons (mVar 16) (mNil)))))))))))
def m__law_system_drawn : List Sl → M (Sl) := mDef 17 b__law_system_drawn
def b_is_ascending : Rho → M Fl := sRet (mCall bAll (mCons (mL (mLc (mRng1 (mBin oSub (mCall bLenX (mCons (mVar 0) (mNil))) (mC (.int 1)))) (gSet 1) (mYes) (mBin oLt (mBin oIdx (mVar 0) (mVar 1)) (mBin oIdx (mVar 0) (mBin oAdd (mVar 1) (mC (.int 1))))) [1])) (mNil)))
def m_is_ascending : List Sl → M (Sl) := mDef 2 b_is_ascending
def b__law_some_of : Rho → M Fl := sRet (mCall bTuple (mCons (mL (mLc (mSeq (mVar 1)) (gSet 2) (mTest (mBin oGt (mOwn 2 Com.m__law_spin (mCons (mVar 0) (mCons (mC (.int 3)) (mNil)))) (mC (.int 0)))) (mVar 2) [2])) (mNil)))
def m__law_some_of : List Sl → M (Sl) := mDef 3 b__law_some_of
end Com
set_option maxHeartbeats 4000000
namespace Com
open PySem PySem.Spec PyProof.Rows L2 Mir
local macro_rules | `(tactic| walk_at "mir") => `(tactic| first
  | with_reducible refine wp_seq ?_ | with_reducible refine wp_nx ?_ | with_reducible refine wp_rt ?_ | with_reducible refine wp_bk ?_ | with_reducible refine wp_ct ?_
  | with_reducible refine fk_nx ?_ | with_reducible refine fk_ct ?_ | with_reducible refine fk_rt ?_ | with_reducible refine fk_bk ?_
  | with_reducible refine wp_dd ?_ | with_reducible refine wp_dn ?_
  | ((with_reducible refine wp_vari ?_); refine ⟨_, rfl, ?_⟩) | with_reducible refine wp_c ?_ | with_reducible refine wp_bin ?_
  | with_reducible refine wp_add ?_ | with_reducible refine wp_sub ?_ | with_reducible refine wp_lt ?_ | with_reducible refine wp_le ?_ | with_reducible refine wp_gt ?_ | with_reducible refine wp_ge ?_
  | with_reducible refine wp_eqI ?_ | with_reducible refine wp_neI ?_ | with_reducible refine wp_neg ?_ | with_reducible refine wp_un ?_
  | with_reducible refine wp_cut ?_ | with_reducible refine wp_cutT ?_ | with_reducible refine wp_no ?_ | with_reducible refine wp_part ?_ | with_reducible refine wp_toB ?_ | with_reducible refine wp_test ?_
  | with_reducible refine wp_chain ?_ | with_reducible refine wp_andT ?_ | with_reducible refine wp_orT ?_ | with_reducible refine wp_notT ?_ | with_reducible refine wp_and ?_ | with_reducible refine wp_or ?_ | with_reducible refine wp_not ?_
  | with_reducible refine wp_if ?_ | with_reducible refine wp_sif ?_ | with_reducible refine wp_isi ?_ | with_reducible refine wp_nil ?_ | with_reducible refine wp_cons ?_ | with_reducible refine wp_tup ?_ | with_reducible refine wp_lst ?_
  | with_reducible refine wp_L ?_ | with_reducible refine wp_New ?_ | with_reducible refine wp_call ?_ | with_reducible refine wp_own ?_ | with_reducible refine wp_ownL ?_
  | with_reducible refine wp_abs ?_ | with_reducible refine wp_int ?_ | with_reducible refine wp_intB ?_ | with_reducible refine wp_maxX ?_ | with_reducible refine wp_minX ?_ | with_reducible refine wp_tupleT ?_
  | with_reducible refine wp_isB ?_ | with_reducible refine wp_isNo ?_ | with_reducible refine wp_notB ?_ | with_reducible refine wp_notNo ?_ | with_reducible refine wp_parN ?_ | with_reducible refine wp_rgs ?_ | with_reducible refine wp_c0 ?_ | with_reducible refine wp_listRg ?_ | with_reducible refine wp_binL ?_ | with_reducible refine wp_lenD ?_
  | with_reducible refine wp_snil ?_ | with_reducible refine wp_break ?_ | with_reducible refine wp_cont ?_ | with_reducible refine wp_ret ?_ | with_reducible refine wp_set ?_ | with_reducible refine wp_new ?_ | with_reducible refine wp_par ?_ | with_reducible refine wp_drop ?_
  | with_reducible refine wp_put ?_ | with_reducible refine wp_app ?_ | with_reducible refine wp_rng1 ?_ | with_reducible refine wp_zipX ?_ | with_reducible refine wp_forN ?_ | with_reducible refine wp_seqN ?_ | with_reducible refine wp_zipN ?_ | with_reducible refine wp_enum ?_ | with_reducible refine wp_lc ?_ | with_reducible refine wp_dc ?_ | with_reducible refine wp_for ?_ | with_reducible refine wp_listOf ?_
  | ((with_reducible refine ifK_t ?_ ?_); rfl) | ((with_reducible refine ifK_f ?_ ?_); rfl)
  | ((with_reducible refine ex_id ?_); (first | refine ⟨_, rfl, Nat.le_of_ble_eq_true rfl, ?_⟩ | refine ⟨_, rfl, ?_⟩))
  | refine ⟨_, rfl, Nat.le_of_ble_eq_true rfl, ?_⟩ | refine ⟨_, rfl, ?_⟩)
local macro_rules | `(tactic| walk_at "mis") => `(tactic| first
  | with_reducible refine wp_nx ?_ | with_reducible refine wp_rt ?_ | with_reducible refine wp_bk ?_ | with_reducible refine wp_ct ?_
  | with_reducible refine fk_nx ?_ | with_reducible refine fk_ct ?_ | with_reducible refine fk_rt ?_ | with_reducible refine fk_bk ?_
  | with_reducible refine wp_dd ?_ | with_reducible refine wp_dn ?_
  | ((with_reducible refine wp_vari ?_); refine ⟨_, rfl, ?_⟩) | with_reducible refine wp_c ?_ | with_reducible refine wp_bin ?_
  | with_reducible refine wp_add ?_ | with_reducible refine wp_sub ?_ | with_reducible refine wp_lt ?_ | with_reducible refine wp_le ?_ | with_reducible refine wp_gt ?_ | with_reducible refine wp_ge ?_
  | with_reducible refine wp_eqI ?_ | with_reducible refine wp_neI ?_ | with_reducible refine wp_neg ?_ | with_reducible refine wp_un ?_
  | with_reducible refine wp_cut ?_ | with_reducible refine wp_cutT ?_ | with_reducible refine wp_no ?_ | with_reducible refine wp_part ?_ | with_reducible refine wp_toB ?_ | with_reducible refine wp_test ?_
  | with_reducible refine wp_chain ?_ | with_reducible refine wp_andT ?_ | with_reducible refine wp_orT ?_ | with_reducible refine wp_notT ?_ | with_reducible refine wp_and ?_ | with_reducible refine wp_or ?_ | with_reducible refine wp_not ?_
  | with_reducible refine wp_if ?_ | with_reducible refine wp_sif ?_ | with_reducible refine wp_isi ?_ | with_reducible refine wp_nil ?_ | with_reducible refine wp_cons ?_ | with_reducible refine wp_tup ?_ | with_reducible refine wp_lst ?_
  | with_reducible refine wp_L ?_ | with_reducible refine wp_New ?_ | with_reducible refine wp_call ?_ | with_reducible refine wp_own ?_ | with_reducible refine wp_ownL ?_
  | with_reducible refine wp_abs ?_ | with_reducible refine wp_int ?_ | with_reducible refine wp_intB ?_ | with_reducible refine wp_maxX ?_ | with_reducible refine wp_minX ?_ | with_reducible refine wp_tupleT ?_
  | with_reducible refine wp_isB ?_ | with_reducible refine wp_isNo ?_ | with_reducible refine wp_notB ?_ | with_reducible refine wp_notNo ?_ | with_reducible refine wp_parN ?_ | with_reducible refine wp_rgs ?_ | with_reducible refine wp_c0 ?_ | with_reducible refine wp_listRg ?_ | with_reducible refine wp_binL ?_ | with_reducible refine wp_lenD ?_
  | with_reducible refine wp_snil ?_ | with_reducible refine wp_break ?_ | with_reducible refine wp_cont ?_ | with_reducible refine wp_ret ?_ | with_reducible refine wp_set ?_ | with_reducible refine wp_new ?_ | with_reducible refine wp_par ?_ | with_reducible refine wp_drop ?_
  | with_reducible refine wp_put ?_ | with_reducible refine wp_app ?_ | with_reducible refine wp_rng1 ?_ | with_reducible refine wp_zipX ?_ | with_reducible refine wp_forN ?_ | with_reducible refine wp_seqN ?_ | with_reducible refine wp_zipN ?_ | with_reducible refine wp_enum ?_ | with_reducible refine wp_lc ?_ | with_reducible refine wp_dc ?_ | with_reducible refine wp_for ?_ | with_reducible refine wp_listOf ?_
  | ((with_reducible refine ifK_t ?_ ?_); rfl) | ((with_reducible refine ifK_f ?_ ?_); rfl)
  | ((with_reducible refine ex_id ?_); (first | refine ⟨_, rfl, Nat.le_of_ble_eq_true rfl, ?_⟩ | refine ⟨_, rfl, ?_⟩))
  | refine ⟨_, rfl, Nat.le_of_ble_eq_true rfl, ?_⟩ | refine ⟨_, rfl, ?_⟩)
def nxK (J : Rho → List HC → Prop) : Fl → List HC → Prop
  | .nx ρ, cs => J ρ cs
  | _, _ => False
theorem nk_nx {J : Rho → List HC → Prop} {ρ : Rho} {cs : List HC} (h : J ρ cs) : nxK J (.nx ρ) cs := h
theorem wp_mid {f g : Rho → M Fl} {ρ : Rho} {cs : List HC} {PF : Fl → List HC → Prop} (J : Rho → List HC → Prop) (h1 : Wp (f ρ cs) (nxK J)) (h2 : ∀ ρ' cs', J ρ' cs' → Wp (g ρ' cs') PF) : Wp (sSeq f g ρ cs) PF := by
  refine wp_seq (h1.mono fun x cs' q => ?_)
  cases x with
  | nx ρ' => exact h2 ρ' cs' q
  | _ => exact q.elim
theorem at0 {a b c : D} : L2.atI [a, b, c] 0 = some a := rfl
theorem at1 {a b c : D} : L2.atI [a, b, c] 1 = some b := rfl
theorem at2 {a b c : D} : L2.atI [a, b, c] 2 = some c := rfl
theorem spin_wp {k n : Nat} {cs : List HC} {t : Int} {P : Sl → List HC → Prop} (h : Spin n k cs) (hn : n < 2 ^ 60) (t0 : 0 < t) (t1 : t.natAbs.log2 < 9000)
    (q : ∀ r cs', 0 ≤ r → r < t → Spin (n + 1) k cs' → Frm k cs cs' → P (.d (.int r)) cs') : Wp (m__law_spin [.h k, .d (.int t)] cs) P := by
  obtain ⟨a, b, c, hk, hc0, hc⟩ := h
  have hv := viewH hk
  have fin : ∀ (x y z : Int) (v : Int), 0 ≤ z → z ≤ n + 1 → P (.d (.int (v % t))) ((cs.set k (.lst [.int x, .int y, .int z])).take cs.length) := fun x y z v z0 z1 => by
    rw [(Frm.set _).take]
    exact q _ _ (Int.emod_nonneg _ (by omega)) (Int.emod_lt_of_pos _ t0) ⟨x, y, z, getset hk, z0, by omega⟩ (Frm.set _)
  refine wp_def ?_
  show Wp (b__law_spin [some (.h k), some (.d (.int t)), none, none, none] cs) _
  unfold b__law_spin
  repeat walk_at "mir"
  refine wp_idx hv at0 ?_
  repeat walk_at "mir"
  refine ifK_b (fun e => ?_) (fun e => ?_)
  · repeat walk_at "mir"
    refine wp_idx hv at0 ?_
    repeat walk_at "mir"
    refine wp_mod t0 ?_
    repeat walk_at "mir"
    refine wp_idx hv at0 ?_
    repeat walk_at "mir"
    refine wp_fdiv t0 t1 ?_
    repeat walk_at "mir"
    refine ⟨_, putH hk rfl, ?_⟩
    repeat walk_at "mir"
    exact fin _ _ _ _ hc0 (by omega)
  · repeat walk_at "mir"
    refine wp_idx hv at2 ?_
    repeat walk_at "mir"
    refine ⟨_, putH hk rfl, ?_⟩
    have hk2 := getset (y := .lst [.int a, .int b, .int (c + 1)]) hk
    have hv2 := viewH hk2
    repeat walk_at "mir"
    refine wp_idx hv2 at1 ?_
    repeat walk_at "mir"
    refine wp_idx hv2 at2 ?_
    refine wp_mul (mulc (by decide) (by omega)) ?_
    repeat walk_at "mir"
    refine wp_mod (by decide) ?_
    generalize ho : (b + 32452843 * (c + 1)) % 2305843009213693951 = one
    have o1 : 0 ≤ one := ho ▸ Int.emod_nonneg _ (by decide)
    have o2 : one < 2305843009213693951 := ho ▸ Int.emod_lt_of_pos _ (by decide)
    repeat walk_at "mir"
    refine wp_mul (mulc (by omega) (by omega)) ?_
    repeat walk_at "mir"
    refine wp_idx hv2 at2 ?_
    refine wp_mul (mulc (by decide) (by omega)) ?_
    repeat walk_at "mir"
    refine wp_mod (by decide) ?_
    repeat walk_at "mir"
    refine wp_mul (mulc (by have := Int.emod_nonneg (one * one + 109 * (c + 1)) (b := 2305843009213693921) (by decide); have := Int.emod_lt_of_pos (one * one + 109 * (c + 1)) (b := 2305843009213693921) (by decide); omega) (by decide)) ?_
    repeat walk_at "mir"
    refine wp_fdiv (j := 65551) (by decide) (by decide +kernel) ?_
    repeat walk_at "mir"
    refine wp_mod t0 ?_
    repeat walk_at "mir"
    exact fin _ _ _ _ (by omega) (by omega)
theorem among_wp {k n : Nat} {cs : List HC} {x : Sl} {ds : List D} {P : Sl → List HC → Prop} (h : Spin n k cs) (hn : n < 2 ^ 60) (hx : ∀ cs', Frm k cs cs' → seqD x cs' = some ds) (h0 : 1 ≤ ds.length) (h1 : ds.length ≤ 1000)
    (q : ∀ d cs', d ∈ ds → Spin (n + 1) k cs' → Frm k cs cs' → P (.d d) cs') : Wp (m__law_among [.h k, x] cs) P := by
  refine wp_def ?_
  show Wp (b__law_among [some (.h k), some x] cs) _
  unfold b__law_among
  repeat walk_at "mir"
  refine wp_lenX (hx cs (Frm.refl _ _)) ?_
  repeat walk_at "mir"
  refine ⟨rfl, spin_wp h hn (by omega) (Nat.lt_trans (lg (n := 60) (by omega) (by decide)) (by decide)) fun r cs' r0 r1 s f => ?_⟩
  obtain ⟨i, rfl⟩ : ∃ i : Nat, r = i := ⟨r.toNat, (Int.toNat_of_nonneg r0).symm⟩
  have e1 : L2.atI ds (i : Int) = some (ds[i]'(by omega)) := atI_nat (List.getElem?_eq_getElem (by omega))
  have fin : ∀ d, d ∈ ds → Wp (Res.ok (.d d) cs') fun x cs1 => defK cs.length P (.rt x) cs1 := fun d hd => by
    refine wp_ok (wp_dd ?_)
    rw [f.take]
    exact q d cs' hd s f
  have hm : ds[i]'(by omega) ∈ ds := List.getElem_mem _
  have hv := hx cs' f
  unfold seqD at hv
  split at hv
  · cases hv
    refine wp_idxT e1 ?_
    exact fin _ hm
  · exact wp_idx hv e1 (fin _ hm)
def isInt : D → Bool
  | .int _ => true
  | _ => false
def B60 : Int := 10 ^ 60
def shortD : D → Bool
  | .int i => decide (-B60 < i) && decide (i < B60)
  | _ => false
def rowD (m : Int) : D → Bool
  | .tuple ds => ((ds.length : Int) == m) && ds.all shortD
  | _ => false
theorem pow60 (cs : List HC) : oPow (.d (.int 10)) (.d (.int 60)) cs = .ok (.d (.int B60)) cs := Wp.eq (wp_pow (by decide +kernel) ⟨rfl, rfl⟩)
local macro_rules | `(tactic| walk_at "mir") => `(tactic| refine wp_is (pow60 _) ?_)
theorem isT_tuple (cs : List HC) (v : D) : isT (tyS cs (.d v)) "tuple" = (match v with | .tuple _ => true | _ => false) := by cases v <;> rfl
theorem boolsD_map (f : D → Bool) : ∀ ds : List D, boolsD (ds.map fun d => .bool (f d)) = some (ds.map f)
  | [] => rfl
  | d :: r => by
    rw [List.map_cons, List.map_cons, boolsD, boolsD_map f r]
    rfl
theorem wp_ddL {PL : List D → List HC → Prop} {cs : List HC} {ds : List D} (h : PL ds cs) : defLK cs.length PL (.rt (.h cs.length)) (cs ++ [.lst ds]) := by
  refine ⟨Nat.lt_irrefl _, ds, by simp, ?_⟩
  rw [List.take_left']
  · exact h
  · rfl
theorem sl_of {n : Nat} (h : n ≤ 1000) : n ≤ SL := Nat.le_trans h (by decide)
theorem modp (x : Int) {m : Int} (h : 0 < m) : 0 ≤ x % m ∧ x % m < m := ⟨Int.emod_nonneg _ (by omega), Int.emod_lt_of_pos _ h⟩
theorem spins_wp {ns : List Int} {spot : Int} {cs : List HC} {PL : List D → List HC → Prop} (h0 : 0 ≤ spot) (h1 : spot < 2 ^ 60) (q : ∀ a b : Int, PL [.int a, .int b, .int 0] cs) : Wp (m__law_spins [.s ns, .d (.int spot)] cs) PL := by
  refine wp_defL ?_
  show Wp (b__law_spins [some (.s ns), some (.d (.int spot)), none, none] cs) _
  unfold b__law_spins
  repeat walk_at "mir"
  refine wp_lenX (ds := ns.map .int) rfl ?_
  repeat walk_at "mir"
  have rest : ∀ c : Int, Wp (sSeq (sSet 3 (mBin oMod (mCall bInt (mCons (mCall bAbs (mCons (mVar 2) (mNil))) (mNil))) (mBin oPow (mBin oPow (mC (.int 10)) (mC (.int 51))) (mC (.int 6))))) (sRet (mNew (mLst (mCons (mCall bMaxX (mCons (mC (.int 0)) (mCons (mBin oSub (mVar 3) (mBin oPow (mC (.int 10)) (mC (.int 16)))) (mNil)))) (mCons (mBin oAdd (mBin oAdd (mBin oAdd (mBin oMul (mBin oMod (mCall bInt (mCons (mVar 3) (mNil))) (mC (.int 2305843009213693907))) (mC (.int 67))) (mBin oMul (mC (.int 941)) (mVar 1))) (mBin oMul (mC (.int 43)) (mCall bInt (mCons (mBin oLt (mVar 2) (mC (.int 0))) (mNil))))) (mC (.int 17))) (mCons (mC (.int 0)) (mNil)))))))
      ([some (.s ns), some (.d (.int spot)), none, none].set 2 (some (.d (.int c)))) cs) (defLK cs.length PL) := fun c => by
    repeat walk_at "mir"
    refine wp_pow (by decide +kernel) ?_
    repeat walk_at "mir"
    refine wp_pow (by decide +kernel) ?_
    refine wp_mod (by decide +kernel) ?_
    repeat walk_at "mir"
    refine wp_pow (by decide +kernel) ?_
    repeat walk_at "mir"
    refine wp_mod (by decide) ?_
    repeat walk_at "mir"
    refine wp_mul (mulc ?_ (by decide)) ?_
    · have := modp ((if c < 0 then -c else c) % (10 ^ Int.toNat 51) ^ Int.toNat 6) (m := 2305843009213693907) (by decide)
      omega
    repeat walk_at "mir"
    refine wp_mul (mulc (by decide) (by omega)) ?_
    repeat walk_at "mir"
    refine wp_mul (mulc (by decide) (by split <;> decide)) ?_
    repeat walk_at "mir"
    exact wp_ddL (q _ _)
  refine ifK_b (fun e => ?_) (fun e => ?_)
  · obtain ⟨i, rfl⟩ : ∃ i : Nat, spot = i := ⟨spot.toNat, (Int.toNat_of_nonneg h0).symm⟩
    have hi : i < ns.length := by simpa using e
    repeat walk_at "mir"
    refine wp_idx (ds := ns.map .int) (d := .int (ns[i]'hi)) rfl (atI_nat (by rw [List.getElem?_map, List.getElem?_eq_getElem hi]; rfl)) ?_
    repeat walk_at "mir"
    exact rest _
  · repeat walk_at "mir"
    refine wp_mul (mulc (by decide) (by omega)) ?_
    repeat walk_at "mir"
    exact rest _
def Ints (B : Nat) (d : D) : Prop := ∃ i : Int, d = .int i ∧ i.natAbs ≤ B
theorem ints_of {B : Nat} : ∀ {ds : List D}, (∀ y ∈ ds, Ints B y) → ∃ xs : List Int, ds = xs.map .int ∧ ∀ x ∈ xs, x.natAbs ≤ B
  | [], _ => ⟨[], rfl, fun _ h => by cases h⟩
  | d :: r, h => by
    obtain ⟨i, rfl, hi⟩ := h d List.mem_cons_self
    obtain ⟨xs, rfl, hx⟩ := ints_of (ds := r) fun y hy => h y (List.mem_cons_of_mem _ hy)
    refine ⟨i :: xs, rfl, fun x hx' => ?_⟩
    rcases List.mem_cons.mp hx' with e | e
    · rw [e]
      exact hi
    · exact hx x e
def Fm (m B : Nat) (d : D) : Prop := ∃ xs : List Int, d = .tuple (xs.map .int) ∧ xs.length = m ∧ ∀ x ∈ xs, x.natAbs ≤ B
theorem rngD_len (n : Nat) : (rngD 0 n).length = n := by simp [rngD]
theorem plain_wp {k n : Nat} {cs : List HC} {many most : Int} {P : Sl → List HC → Prop} (h : Spin n k cs) (hn : n + 100 < 2 ^ 60) (hm0 : 0 ≤ many) (hm : many ≤ 14) (m0 : 0 < most) (m1 : most ≤ 1000000)
    (q : ∀ d cs', Fm (many + 1).toNat 1000000 d → Spin (n + 30) k cs' → Frm k cs cs' → P (.d d) cs') : Wp (m__law_plain_form [.h k, .d (.int many), .d (.int most)] cs) P := by
  refine wp_def ?_
  show Wp (b__law_plain_form [some (.h k), some (.d (.int many)), some (.d (.int most)), none] cs) _
  unfold b__law_plain_form
  repeat walk_at "mir"
  refine ⟨by omega, by omega, ?_⟩
  refine ⟨by rw [rngD_len]; exact sl_of (by omega), ?_⟩
  refine wp_lcAll 15 (G := Ints 1000000) (C := fun j cs' => Spin (n + 2 * j) k cs' ∧ Frm k cs cs') (n := 0) (by rw [rngD_len]; omega) ⟨h, Frm.refl _ _⟩ (fun d hd j cs1 hj hC => ?_) fun ds cs1 hl hg hC => ?_
  · obtain ⟨hs, hf⟩ := hC
    refine ⟨_, rfl, ?_⟩
    repeat walk_at "mir"
    refine wp_mul (mulc (by decide) (by omega)) ?_
    repeat walk_at "mir"
    refine ⟨rfl, spin_wp hs (by omega) (by omega) (Nat.lt_trans (lg (n := 60) (by omega) (by decide)) (by decide)) fun r cs2 r0 r1 s2 f2 => ?_⟩
    repeat walk_at "mir"
    refine ⟨rfl, among_wp s2 (by omega) (fun _ _ => rfl) (Nat.le_of_ble_eq_true rfl) (Nat.le_of_ble_eq_true rfl) fun d3 cs3 hd3 s3 f3 => ?_⟩
    refine ⟨f3.1.trans f2.1, d3, rfl, ?_, s3.mono (by omega), (hf.trans f2).trans f3⟩
    simp only [List.mem_cons, List.not_mem_nil, or_false] at hd3
    rcases hd3 with e | e | e
    · exact ⟨0, e, by decide⟩
    · exact ⟨0, e, by decide⟩
    · exact ⟨_, e, by omega⟩
  · repeat walk_at "mir"
    refine wp_tuple rfl ?_
    repeat walk_at "mir"
    rw [rngD_len] at hl hC
    obtain ⟨xs, rfl, hx⟩ := ints_of hg
    rw [hC.2.take]
    exact q _ _ ⟨xs, rfl, by simpa using hl, hx⟩ (hC.1.mono (by omega)) hC.2
theorem zip_mem {d : D} : ∀ {as bs : List D}, d ∈ zipD as bs → ∃ a ∈ as, ∃ b ∈ bs, d = .tuple [a, b]
  | [], _, h => by simp [zipD] at h
  | _ :: _, [], h => by simp [zipD] at h
  | a :: as, b :: bs, h => by
    rcases List.mem_cons.mp (show d ∈ PyData.tuple [a, b] :: zipD as bs from h) with e | e
    · exact ⟨a, List.mem_cons_self, b, List.mem_cons_self, e⟩
    · obtain ⟨a', ha, b', hb, e⟩ := zip_mem e
      exact ⟨a', List.mem_cons_of_mem _ ha, b', List.mem_cons_of_mem _ hb, e⟩
theorem zip_len (as bs : List D) : (zipD as bs).length ≤ as.length := by
  simp [zipD]
  omega
theorem intsD_map : ∀ xs : List Int, intsD (xs.map .int) = some xs
  | [] => rfl
  | x :: r => by
    rw [List.map_cons, intsD, intsD_map r]
    rfl
theorem sum_le {B : Nat} : ∀ {xs : List Int}, (∀ x ∈ xs, x.natAbs ≤ B) → xs.sum.natAbs ≤ xs.length * B
  | [], _ => Nat.zero_le _
  | x :: r, h => by
    have h1 := h x List.mem_cons_self
    have h2 := sum_le (xs := r) fun y hy => h y (List.mem_cons_of_mem _ hy)
    have h3 := Int.natAbs_add_le x r.sum
    rw [List.sum_cons, List.length_cons, Nat.add_mul, Nat.one_mul]
    omega
theorem mem_ints {xs : List Int} {B : Nat} (h : ∀ x ∈ xs, x.natAbs ≤ B) {d : D} (hd : d ∈ xs.map PyData.int) : ∃ i : Int, d = .int i ∧ i.natAbs ≤ B := by
  obtain ⟨i, hi, rfl⟩ := List.mem_map.mp hd
  exact ⟨i, rfl, h i hi⟩
theorem mul_le {i j : Int} {A B : Nat} (h1 : i.natAbs ≤ A) (h2 : j.natAbs ≤ B) : (i * j).natAbs ≤ A * B := by
  rw [Int.natAbs_mul]
  exact Nat.mul_le_mul h1 h2
theorem cut1 {x : Int} {xs : List Int} : Mir.cutD ((x :: xs).map PyData.int) (some 1) none = xs.map .int := by
  unfold Mir.cutD
  rw [show HT.sIx ((x :: xs).map PyData.int).length 0 (some 1) = min 1 ((x :: xs).map PyData.int).length from HT.sIx_nat _ 0 1, HT.sIx_none]
  simp
  exact List.take_of_length_le (by simp)

theorem isI_d (cs : List HC) (v : D) : isT (tyS cs (.d v)) "int" = (match v with | .int _ => true | .bool _ => true | _ => false) := by cases v <;> rfl
theorem whole_eq (v : D) (cs : List HC) : m_is_whole [.d v] cs = .ok (.d (.bool (isInt v))) cs := def_pure (by cases v with
  | bool b => cases b <;> rfl
  | _ => rfl)
theorem mulw {i j : Int} (hi : i.natAbs < 2 ^ 250) (hj : j.natAbs < 2 ^ 250) : i.natAbs.log2 + j.natAbs.log2 < 1000000 := by
  have h1 := lg hi (by decide)
  have h2 := lg hj (by decide)
  omega
end Com
set_option maxHeartbeats 4000000
namespace Com
open PySem PySem.Spec PyProof.Rows L2 Mir
local macro_rules | `(tactic| walk_at "mir") => `(tactic| first
  | with_reducible refine wp_seq ?_ | with_reducible refine wp_nx ?_ | with_reducible refine wp_rt ?_ | with_reducible refine wp_bk ?_ | with_reducible refine wp_ct ?_
  | with_reducible refine fk_nx ?_ | with_reducible refine fk_ct ?_ | with_reducible refine fk_rt ?_ | with_reducible refine fk_bk ?_
  | with_reducible refine wp_dd ?_ | with_reducible refine wp_dn ?_
  | ((with_reducible refine wp_vari ?_); refine ⟨_, rfl, ?_⟩) | with_reducible refine wp_c ?_ | with_reducible refine wp_bin ?_
  | with_reducible refine wp_add ?_ | with_reducible refine wp_sub ?_ | with_reducible refine wp_lt ?_ | with_reducible refine wp_le ?_ | with_reducible refine wp_gt ?_ | with_reducible refine wp_ge ?_
  | with_reducible refine wp_eqI ?_ | with_reducible refine wp_neI ?_ | with_reducible refine wp_neg ?_ | with_reducible refine wp_un ?_
  | with_reducible refine wp_cut ?_ | with_reducible refine wp_cutT ?_ | with_reducible refine wp_no ?_ | with_reducible refine wp_part ?_ | with_reducible refine wp_toB ?_ | with_reducible refine wp_test ?_
  | with_reducible refine wp_chain ?_ | with_reducible refine wp_andT ?_ | with_reducible refine wp_orT ?_ | with_reducible refine wp_notT ?_ | with_reducible refine wp_and ?_ | with_reducible refine wp_or ?_ | with_reducible refine wp_not ?_
  | with_reducible refine wp_if ?_ | with_reducible refine wp_sif ?_ | with_reducible refine wp_isi ?_ | with_reducible refine wp_nil ?_ | with_reducible refine wp_cons ?_ | with_reducible refine wp_tup ?_ | with_reducible refine wp_lst ?_
  | with_reducible refine wp_L ?_ | with_reducible refine wp_New ?_ | with_reducible refine wp_call ?_ | with_reducible refine wp_own ?_ | with_reducible refine wp_ownL ?_
  | with_reducible refine wp_abs ?_ | with_reducible refine wp_int ?_ | with_reducible refine wp_intB ?_ | with_reducible refine wp_maxX ?_ | with_reducible refine wp_minX ?_ | with_reducible refine wp_tupleT ?_
  | with_reducible refine wp_isB ?_ | with_reducible refine wp_isNo ?_ | with_reducible refine wp_notB ?_ | with_reducible refine wp_notNo ?_ | with_reducible refine wp_parN ?_ | with_reducible refine wp_rgs ?_ | with_reducible refine wp_c0 ?_ | with_reducible refine wp_listRg ?_ | with_reducible refine wp_binL ?_ | with_reducible refine wp_lenD ?_
  | with_reducible refine wp_snil ?_ | with_reducible refine wp_break ?_ | with_reducible refine wp_cont ?_ | with_reducible refine wp_ret ?_ | with_reducible refine wp_set ?_ | with_reducible refine wp_new ?_ | with_reducible refine wp_par ?_ | with_reducible refine wp_drop ?_
  | with_reducible refine wp_put ?_ | with_reducible refine wp_app ?_ | with_reducible refine wp_rng1 ?_ | with_reducible refine wp_zipX ?_ | with_reducible refine wp_forN ?_ | with_reducible refine wp_seqN ?_ | with_reducible refine wp_zipN ?_ | with_reducible refine wp_enum ?_ | with_reducible refine wp_lc ?_ | with_reducible refine wp_dc ?_ | with_reducible refine wp_for ?_ | with_reducible refine wp_listOf ?_
  | ((with_reducible refine ifK_t ?_ ?_); rfl) | ((with_reducible refine ifK_f ?_ ?_); rfl)
  | ((with_reducible refine ex_id ?_); (first | refine ⟨_, rfl, Nat.le_of_ble_eq_true rfl, ?_⟩ | refine ⟨_, rfl, ?_⟩))
  | refine ⟨_, rfl, Nat.le_of_ble_eq_true rfl, ?_⟩ | refine ⟨_, rfl, ?_⟩)
local macro_rules | `(tactic| walk_at "mis") => `(tactic| first
  | with_reducible refine wp_nx ?_ | with_reducible refine wp_rt ?_ | with_reducible refine wp_bk ?_ | with_reducible refine wp_ct ?_
  | with_reducible refine fk_nx ?_ | with_reducible refine fk_ct ?_ | with_reducible refine fk_rt ?_ | with_reducible refine fk_bk ?_
  | with_reducible refine wp_dd ?_ | with_reducible refine wp_dn ?_
  | ((with_reducible refine wp_vari ?_); refine ⟨_, rfl, ?_⟩) | with_reducible refine wp_c ?_ | with_reducible refine wp_bin ?_
  | with_reducible refine wp_add ?_ | with_reducible refine wp_sub ?_ | with_reducible refine wp_lt ?_ | with_reducible refine wp_le ?_ | with_reducible refine wp_gt ?_ | with_reducible refine wp_ge ?_
  | with_reducible refine wp_eqI ?_ | with_reducible refine wp_neI ?_ | with_reducible refine wp_neg ?_ | with_reducible refine wp_un ?_
  | with_reducible refine wp_cut ?_ | with_reducible refine wp_cutT ?_ | with_reducible refine wp_no ?_ | with_reducible refine wp_part ?_ | with_reducible refine wp_toB ?_ | with_reducible refine wp_test ?_
  | with_reducible refine wp_chain ?_ | with_reducible refine wp_andT ?_ | with_reducible refine wp_orT ?_ | with_reducible refine wp_notT ?_ | with_reducible refine wp_and ?_ | with_reducible refine wp_or ?_ | with_reducible refine wp_not ?_
  | with_reducible refine wp_if ?_ | with_reducible refine wp_sif ?_ | with_reducible refine wp_isi ?_ | with_reducible refine wp_nil ?_ | with_reducible refine wp_cons ?_ | with_reducible refine wp_tup ?_ | with_reducible refine wp_lst ?_
  | with_reducible refine wp_L ?_ | with_reducible refine wp_New ?_ | with_reducible refine wp_call ?_ | with_reducible refine wp_own ?_ | with_reducible refine wp_ownL ?_
  | with_reducible refine wp_abs ?_ | with_reducible refine wp_int ?_ | with_reducible refine wp_intB ?_ | with_reducible refine wp_maxX ?_ | with_reducible refine wp_minX ?_ | with_reducible refine wp_tupleT ?_
  | with_reducible refine wp_isB ?_ | with_reducible refine wp_isNo ?_ | with_reducible refine wp_notB ?_ | with_reducible refine wp_notNo ?_ | with_reducible refine wp_parN ?_ | with_reducible refine wp_rgs ?_ | with_reducible refine wp_c0 ?_ | with_reducible refine wp_listRg ?_ | with_reducible refine wp_binL ?_ | with_reducible refine wp_lenD ?_
  | with_reducible refine wp_snil ?_ | with_reducible refine wp_break ?_ | with_reducible refine wp_cont ?_ | with_reducible refine wp_ret ?_ | with_reducible refine wp_set ?_ | with_reducible refine wp_new ?_ | with_reducible refine wp_par ?_ | with_reducible refine wp_drop ?_
  | with_reducible refine wp_put ?_ | with_reducible refine wp_app ?_ | with_reducible refine wp_rng1 ?_ | with_reducible refine wp_zipX ?_ | with_reducible refine wp_forN ?_ | with_reducible refine wp_seqN ?_ | with_reducible refine wp_zipN ?_ | with_reducible refine wp_enum ?_ | with_reducible refine wp_lc ?_ | with_reducible refine wp_dc ?_ | with_reducible refine wp_for ?_ | with_reducible refine wp_listOf ?_
  | ((with_reducible refine ifK_t ?_ ?_); rfl) | ((with_reducible refine ifK_f ?_ ?_); rfl)
  | ((with_reducible refine ex_id ?_); (first | refine ⟨_, rfl, Nat.le_of_ble_eq_true rfl, ?_⟩ | refine ⟨_, rfl, ?_⟩))
  | refine ⟨_, rfl, Nat.le_of_ble_eq_true rfl, ?_⟩ | refine ⟨_, rfl, ?_⟩)
local macro_rules | `(tactic| walk_at "mir") => `(tactic| with_reducible refine wp_is (pow60 _) ?_)
/-! ### tuples of ints told from others -/
def longD (m : Int) : D → Bool
  | .tuple ds => ((ds.length : Int) == m) && ds.all isInt
  | _ => false
def inB (b : Int) : D → Bool
  | .int i => decide (-b ≤ i) && decide (i ≤ b)
  | _ => false
def withinD (b m : Int) : D → Bool
  | .tuple ds => ((ds.length : Int) == m) && ds.all (inB b)
  | _ => false
theorem long_eq (m : Int) (v : D) (cs : List HC) : m_is_long_row [.d (.int m), .d v] cs = .ok (.d (.bool (longD m v))) cs := by
  refine Wp.eq (wp_def ?_)
  show Wp (b_is_long_row [some (.d (.int m)), some (.d v), none] cs) _
  unfold b_is_long_row
  repeat walk_at "mir"
  rw [isT_tuple]
  cases v with
  | tuple ds =>
    refine ifK_f rfl ?_
    repeat walk_at "mir"
    refine wp_lenX (ds := ds) rfl ?_
    repeat walk_at "mir"
    refine ifK_b (fun e => ?_) (fun e => ?_)
    · have e1 : ((ds.length : Int) == m) = false := by simpa using e
      repeat walk_at "mir"
      refine ⟨?_, List.take_length⟩
      rw [longD, e1, Bool.false_and]
    · have e1 : ((ds.length : Int) == m) = true := by simpa using e
      repeat walk_at "mir"
      refine wp_seqI (.inr rfl) rfl ?_
      refine wp_forAll (I := fun n ρ cs' => cs' = cs ∧ (ds.take n).all isInt = true ∧ ∃ x2, ρ = [some (.d (.int m)), some (.d (.tuple ds)), x2]) (n := 0) ⟨rfl, rfl, _, rfl⟩ (fun k d ed ρ cs' hI => ?_) fun ρ cs' hI => ?_
      · obtain ⟨rfl, hk, x2, rfl⟩ := hI
        rw [Nat.zero_add] at hk ⊢
        refine ⟨_, rfl, ?_⟩
        have bad : isInt d = false → longD m (.tuple ds) = false := fun z => by
          rw [longD, e1, Bool.true_and]
          exact List.all_eq_false.mpr ⟨d, List.mem_of_getElem? ed, by rw [z]; decide⟩
        have good : isInt d = true → (ds.take (k + 1)).all isInt = true := fun z => by
          rw [List.take_add_one, ed, Option.toList_some, List.all_append, hk, List.all_cons, z]
          rfl
        repeat walk_at "mir"
        rw [isI_d]
        cases d with
        | int i =>
          refine ifK_f rfl ?_
          repeat walk_at "mir"
          exact ⟨rfl, good rfl, _, rfl⟩
        | bool b =>
          refine ifK_f rfl ?_
          cases b
          · repeat walk_at "mir"
            exact ⟨by rw [bad rfl], List.take_length⟩
          · repeat walk_at "mir"
            exact ⟨by rw [bad rfl], List.take_length⟩
        | _ =>
          refine ifK_t rfl ?_
          repeat walk_at "mir"
          exact ⟨by rw [bad rfl], List.take_length⟩
      · obtain ⟨rfl, hk, x2, rfl⟩ := hI
        rw [Nat.zero_add, List.take_length] at hk
        repeat walk_at "mir"
        refine ⟨?_, List.take_length⟩
        rw [longD, e1, hk]
        rfl
  | _ =>
    refine ifK_t rfl ?_
    repeat walk_at "mir"
    exact ⟨rfl, List.take_length⟩
theorem ints_all : ∀ {ds : List D}, ds.all isInt = true → ∃ xs : List Int, ds = xs.map .int
  | [], _ => ⟨[], rfl⟩
  | d :: r, h => by
    rw [List.all_cons, Bool.and_eq_true] at h
    obtain ⟨xs, rfl⟩ := ints_all h.2
    cases d with
    | int i => exact ⟨i :: xs, rfl⟩
    | _ => exact (Bool.false_ne_true h.1).elim
theorem inB_int {b : Int} {d : D} (h : inB b d = true) : isInt d = true := by
  cases d with
  | int i => rfl
  | _ => exact (Bool.false_ne_true h).elim
theorem inB_map (b : Int) (xs : List Int) : (xs.map PyData.int).all (inB b) = xs.all fun i => decide (-b ≤ i) && decide (i ≤ b) := by
  rw [List.all_map]
  rfl
theorem within_ints (b : Int) {xs : List Int} (h : 0 < xs.length) : (decide (-b ≤ minI xs) && decide (maxI xs ≤ b)) = xs.all fun i => decide (-b ≤ i) && decide (i ≤ b) := by
  rw [Bool.eq_iff_iff, Bool.and_eq_true, List.all_eq_true]
  constructor
  · rintro ⟨h1, h2⟩ i hi
    have := minI_le hi
    have := maxI_ge hi
    have := of_decide_eq_true h1
    have := of_decide_eq_true h2
    rw [Bool.and_eq_true]
    exact ⟨decide_eq_true (by omega), decide_eq_true (by omega)⟩
  · intro k
    have h1 := k _ (minI_mem h)
    have h2 := k _ (maxI_mem h)
    rw [Bool.and_eq_true] at h1 h2
    exact ⟨h1.1, h2.2⟩
theorem within_eq (b m : Int) (v : D) (cs : List HC) : m_is_row_within [.d (.int b), .d (.int m), .d v] cs = .ok (.d (.bool (withinD b m v))) cs := by
  refine Wp.eq (wp_def ?_)
  show Wp (b_is_row_within [some (.d (.int b)), some (.d (.int m)), some (.d v)] cs) _
  unfold b_is_row_within
  repeat walk_at "mir"
  refine ⟨rfl, wp_is (long_eq m v cs) ?_⟩
  repeat walk_at "mir"
  have no : longD m v = false → withinD b m v = false := fun e => by
    cases v with
    | tuple ds =>
      rw [longD, Bool.and_eq_false_iff] at e
      rw [withinD, Bool.and_eq_false_iff]
      rcases e with e | e
      · exact .inl e
      · obtain ⟨d, hd, hn⟩ := List.all_eq_false.mp e
        exact .inr (List.all_eq_false.mpr ⟨d, hd, fun z => hn (inB_int z)⟩)
    | _ => rfl
  refine ifK_b (fun e => ?_) (fun e => ?_)
  · cases v with
    | tuple ds =>
      rw [longD, Bool.and_eq_true] at e
      obtain ⟨xs, rfl⟩ := ints_all e.2
      have hl : (xs.length : Int) = m := by simpa using e.1
      repeat walk_at "mir"
      refine ifK_b (fun e2 => ?_) (fun e2 => ?_)
      · have h0 : xs.length = 0 := by
          have : m = 0 := by simpa using e2
          omega
        have hx : xs = [] := List.eq_nil_of_length_eq_zero h0
        subst hx
        repeat walk_at "mir"
        refine ⟨?_, List.take_length⟩
        rw [withinD, e.1]
        rfl
      · have h0 : 0 < xs.length := by
          have : ¬ m = 0 := by simpa using e2
          omega
        repeat walk_at "mir"
        refine wp_minS (ds := xs.map .int) rfl (intsD_map xs) h0 ?_
        repeat walk_at "mir"
        have fin : (decide (-b ≤ minI xs) && decide (maxI xs ≤ b)) = withinD b m (.tuple (xs.map .int)) := by
          rw [withinD, e.1, Bool.true_and, inB_map, within_ints b h0]
        rw [← fin]
        refine ifK_b (fun e3 => ?_) (fun e3 => ?_)
        · repeat walk_at "mir"
          refine wp_maxS (ds := xs.map .int) rfl (intsD_map xs) h0 ?_
          repeat walk_at "mir"
          refine ⟨?_, List.take_length⟩
          rw [e3, Bool.true_and]
        · repeat walk_at "mir"
          refine ⟨?_, List.take_length⟩
          rw [e3, Bool.false_and]
    | _ => exact (Bool.false_ne_true e).elim
  · repeat walk_at "mir"
    exact ⟨by rw [no e], List.take_length⟩
theorem within_short (m : Int) (v : D) : withinD (B60 - 1) m v = rowD m v := by
  have hs : ∀ d, inB (B60 - 1) d = shortD d := fun d => by
    cases d with
    | int i =>
      show (decide (-(B60 - 1) ≤ i) && decide (i ≤ B60 - 1)) = (decide (-B60 < i) && decide (i < B60))
      rw [decide_eq_decide.mpr (show -(B60 - 1) ≤ i ↔ -B60 < i by omega), decide_eq_decide.mpr (show i ≤ B60 - 1 ↔ i < B60 by omega)]
    | _ => rfl
  cases v with
  | tuple ds =>
    show (_ && ds.all (inB (B60 - 1))) = (_ && ds.all shortD)
    rw [show (inB (B60 - 1)) = shortD from funext hs]
  | _ => rfl
theorem row_eq (m : Int) (v : D) (cs : List HC) : m_is_short_row [.d (.int m), .d v] cs = .ok (.d (.bool (rowD m v))) cs := by
  refine Wp.eq (wp_def ?_)
  show Wp (b_is_short_row [some (.d (.int m)), some (.d v)] cs) _
  unfold b_is_short_row
  repeat walk_at "mir"
  refine ⟨rfl, wp_is (within_eq (B60 - 1) m v cs) ?_⟩
  rw [within_short]
  repeat walk_at "mir"
  exact ⟨rfl, List.take_length⟩
theorem short_eq (v : D) (cs : List HC) : m_is_short [.d v] cs = .ok (.d (.bool (shortD v))) cs := by
  refine Wp.eq (wp_def ?_)
  show Wp (b_is_short [some (.d v)] cs) _
  unfold b_is_short
  repeat walk_at "mir"
  refine ⟨rfl, wp_is (whole_eq v cs) ?_⟩
  repeat walk_at "mir"
  refine ifK_b (fun e => ?_) (fun e => ?_)
  · cases v with
    | int i =>
      repeat walk_at "mir"
      have hB : (1000000000000000000000000000000000000000000000000000000000000 : Int) = B60 := rfl
      rw [hB]
      refine ifK_b (fun e1 => ?_) (fun e1 => ?_)
      · repeat walk_at "mir"
        exact ⟨by rw [shortD, e1, Bool.true_and], List.take_length⟩
      · repeat walk_at "mir"
        exact ⟨by rw [shortD, e1, Bool.false_and], List.take_length⟩
    | _ => cases e
  · repeat walk_at "mir"
    refine ⟨?_, List.take_length⟩
    cases v with
    | int i => cases e
    | _ => rfl
def fromD (lo hi : Int) : D → Bool
  | .int i => decide (lo ≤ i) && decide (i ≤ hi)
  | _ => false
theorem from_eq (lo hi : Int) (v : D) (cs : List HC) : m_is_from [.d (.int lo), .d (.int hi), .d v] cs = .ok (.d (.bool (fromD lo hi v))) cs := by
  refine Wp.eq (wp_def ?_)
  show Wp (b_is_from [some (.d (.int lo)), some (.d (.int hi)), some (.d v)] cs) _
  unfold b_is_from
  repeat walk_at "mir"
  refine ⟨rfl, wp_is (whole_eq v cs) ?_⟩
  repeat walk_at "mir"
  refine ifK_b (fun e => ?_) (fun e => ?_)
  · cases v with
    | int i =>
      repeat walk_at "mir"
      refine ifK_b (fun e1 => ?_) (fun e1 => ?_)
      · repeat walk_at "mir"
        exact ⟨by rw [fromD, e1, Bool.true_and], List.take_length⟩
      · repeat walk_at "mir"
        exact ⟨by rw [fromD, e1, Bool.false_and], List.take_length⟩
    | _ => cases e
  · repeat walk_at "mir"
    refine ⟨?_, List.take_length⟩
    cases v with
    | int i => cases e
    | _ => rfl
def rowsW (b m most : Int) : D → Bool
  | .tuple ds => !decide (most < (ds.length : Int)) && ds.all (withinD b m)
  | _ => false
theorem rowsW_eq (b m most : Int) (v : D) (cs : List HC) : m_are_rows_within [.d (.int b), .d (.int m), .d (.int most), .d v] cs = .ok (.d (.bool (rowsW b m most v))) cs := by
  refine Wp.eq (wp_def ?_)
  show Wp (b_are_rows_within [some (.d (.int b)), some (.d (.int m)), some (.d (.int most)), some (.d v), none] cs) _
  unfold b_are_rows_within
  repeat walk_at "mir"
  rw [isT_tuple]
  cases v with
  | tuple ds =>
    refine ifK_f rfl ?_
    repeat walk_at "mir"
    refine wp_lenX (ds := ds) rfl ?_
    repeat walk_at "mir"
    refine ifK_b (fun e => ?_) (fun e => ?_)
    · repeat walk_at "mir"
      refine ⟨?_, List.take_length⟩
      rw [rowsW, e]
      rfl
    · repeat walk_at "mir"
      refine wp_seqI (.inr rfl) rfl ?_
      refine wp_forAll (I := fun n ρ cs' => cs' = cs ∧ (ds.take n).all (withinD b m) = true ∧ ∃ x4, ρ = [some (.d (.int b)), some (.d (.int m)), some (.d (.int most)), some (.d (.tuple ds)), x4]) (n := 0) ⟨rfl, rfl, _, rfl⟩ (fun k d ed ρ cs' hI => ?_) fun ρ cs' hI => ?_
      · obtain ⟨rfl, hk, x4, rfl⟩ := hI
        rw [Nat.zero_add] at hk ⊢
        refine ⟨_, rfl, ?_⟩
        repeat walk_at "mir"
        refine ⟨rfl, wp_is (within_eq b m d cs') ?_⟩
        repeat walk_at "mir"
        refine ifK_b (fun e1 => ?_) (fun e1 => ?_)
        · have e2 : withinD b m d = false := by simpa using e1
          repeat walk_at "mir"
          refine ⟨?_, List.take_length⟩
          rw [rowsW, e, List.all_eq_false.mpr ⟨d, List.mem_of_getElem? ed, by rw [e2]; decide⟩]
          rfl
        · have e2 : withinD b m d = true := by simpa using e1
          repeat walk_at "mir"
          refine ⟨rfl, ?_, _, rfl⟩
          rw [List.take_add_one, ed, Option.toList_some, List.all_append, hk, List.all_cons, e2]
          rfl
      · obtain ⟨rfl, hk, x4, rfl⟩ := hI
        rw [Nat.zero_add, List.take_length] at hk
        repeat walk_at "mir"
        refine ⟨?_, List.take_length⟩
        rw [rowsW, e, hk]
        rfl
  | _ =>
    refine ifK_t rfl ?_
    repeat walk_at "mir"
    exact ⟨rfl, List.take_length⟩
def lotD (m most : Int) : D → Bool
  | .tuple ds => !decide (most < (ds.length : Int)) && ds.all (rowD m)
  | _ => false
theorem rowsW_lot (m most : Int) (v : D) : rowsW (B60 - 1) m most v = lotD m most v := by
  cases v with
  | tuple ds =>
    show (_ && ds.all (withinD (B60 - 1) m)) = (_ && ds.all (rowD m))
    rw [show withinD (B60 - 1) m = rowD m from funext (within_short m)]
  | _ => rfl
theorem lot_eq (m most : Int) (v : D) (cs : List HC) : m_is_lot [.d (.int m), .d (.int most), .d v] cs = .ok (.d (.bool (lotD (m + 1) most v))) cs := by
  refine Wp.eq (wp_def ?_)
  show Wp (b_is_lot [some (.d (.int m)), some (.d (.int most)), some (.d v)] cs) _
  unfold b_is_lot
  repeat walk_at "mir"
  refine ⟨rfl, wp_is (rowsW_eq (B60 - 1) (m + 1) most v cs) ?_⟩
  rw [rowsW_lot]
  repeat walk_at "mir"
  exact ⟨rfl, List.take_length⟩
theorem many_eq (most m : Int) (h0 : 0 ≤ m) (h1 : m ≤ most) (cs : List HC) : m_check_many [.d (.int most), .d (.int m)] cs = .ok (.d .none) cs := by
  refine Wp.eq (wp_def ?_)
  show Wp (b_check_many [some (.d (.int most)), some (.d (.int m))] cs) _
  unfold b_check_many
  repeat walk_at "mir"
  refine ⟨rfl, wp_is (from_eq 0 most (.int m) cs) ?_⟩
  rw [show fromD 0 most (.int m) = true by rw [fromD, decide_eq_true h0, decide_eq_true h1]; rfl]
  repeat walk_at "mir"
  exact ⟨rfl, List.take_length⟩
/-! ### forms that are forms -/
abbrev tI (xs : List Int) : Sl := .d (.tuple (xs.map PyData.int))
theorem row_true {xs : List Int} {m : Int} (hl : (xs.length : Int) = m) (hf : ∀ x ∈ xs, x.natAbs < 10 ^ 60) : rowD m (.tuple (xs.map .int)) = true := by
  rw [rowD, Bool.and_eq_true]
  refine ⟨by simpa using hl, List.all_eq_true.mpr fun d hd => ?_⟩
  obtain ⟨i, hi, rfl⟩ := List.mem_map.mp hd
  have := hf i hi
  have hb : B60 = 10 ^ 60 := rfl
  rw [shortD, hb, Bool.and_eq_true]
  exact ⟨decide_eq_true (by omega), decide_eq_true (by omega)⟩
theorem form_eq (m : Int) (xs : List Int) (cs : List HC) (hl : (xs.length : Int) = m + 1) (hf : ∀ x ∈ xs, x.natAbs < 10 ^ 60) : m_check_form [.d (.int m), tI xs] cs = .ok (.d .none) cs := by
  refine Wp.eq (wp_def ?_)
  show Wp (b_check_form [some (.d (.int m)), some (tI xs)] cs) _
  unfold b_check_form
  repeat walk_at "mir"
  refine ⟨rfl, wp_is (row_eq (m + 1) _ cs) ?_⟩
  rw [row_true hl hf]
  repeat walk_at "mir"
  exact ⟨rfl, List.take_length⟩
theorem any_eq (xs : List Int) (cs : List HC) (h1 : 1 ≤ xs.length) (h15 : xs.length ≤ 15) (hf : ∀ x ∈ xs, x.natAbs < 10 ^ 60) : m__check_any_form [tI xs] cs = .ok (.d .none) cs := by
  refine Wp.eq (wp_def ?_)
  show Wp (b__check_any_form [some (tI xs)] cs) _
  unfold b__check_any_form
  repeat walk_at "mir"
  have hlen : ((xs.map PyData.int).length : Int) = xs.length := by simp
  refine wp_lenX (ds := xs.map .int) rfl ?_
  repeat walk_at "mir"
  refine ifK_t (decide_eq_true (by omega)) ?_
  repeat walk_at "mir"
  refine ifK_f (by rw [decide_eq_true (by omega)]; rfl) ?_
  repeat walk_at "mir"
  refine wp_lenX (ds := xs.map .int) rfl ?_
  repeat walk_at "mir"
  refine ⟨rfl, wp_is (form_eq _ xs cs (by omega) hf) ?_⟩
  repeat walk_at "mir"
  exact ⟨rfl, List.take_length⟩
theorem long_true {xs : List Int} {m : Int} (hl : (xs.length : Int) = m) : longD m (.tuple (xs.map .int)) = true := by
  rw [longD, Bool.and_eq_true, List.all_map]
  exact ⟨by simpa using hl, List.all_eq_true.mpr fun _ _ => rfl⟩
theorem vector_eq (x0 : Int) (xs : List Int) (m : Int) (cs : List HC) (hl : (xs.length : Int) = m) (h0 : 0 ≤ x0) : m__is_vector [.d (.int m), tI (x0 :: xs)] cs = .ok (.d (.bool true)) cs := by
  refine Wp.eq (wp_def ?_)
  show Wp (b__is_vector [some (.d (.int m)), some (tI (x0 :: xs))] cs) _
  unfold b__is_vector
  repeat walk_at "mir"
  refine ⟨rfl, wp_is (long_eq (m + 1) _ cs) ?_⟩
  rw [long_true (by rw [List.length_cons]; omega)]
  repeat walk_at "mir"
  refine wp_idxT (d := .int x0) (atI_nat (j := 0) rfl) ?_
  repeat walk_at "mir"
  exact ⟨by rw [decide_eq_true h0], List.take_length⟩
def dot (fs xs : List Int) : Int := (List.zipWith (fun a b => a * b) fs xs).sum
theorem zip_map : ∀ fs xs : List Int, (zipD (fs.map .int) (xs.map .int)).map (fun d => match d with | .tuple [.int a, .int b] => PyData.int (a * b) | _ => .none) = (List.zipWith (fun a b => a * b) fs xs).map .int
  | [], _ => rfl
  | _ :: _, [] => rfl
  | f :: fs, x :: xs => congrArg (PyData.int (f * x) :: ·) (zip_map fs xs)
theorem dot_eq {A B : Nat} (fs xs : List Int) (cs : List HC) (hA : A < 2 ^ 250) (hB : B < 2 ^ 250) (hf : ∀ x ∈ fs, x.natAbs ≤ A) (hx : ∀ x ∈ xs, x.natAbs ≤ B) (hl : fs.length ≤ 15) : m_at_vector [tI fs, tI xs] cs = .ok (.d (.int (dot fs xs))) cs := by
  refine Wp.eq (wp_def ?_)
  show Wp (b_at_vector [some (tI fs), some (tI xs), none, none] cs) _
  unfold b_at_vector
  repeat walk_at "mir"
  have zl := zip_len (fs.map .int) (xs.map .int)
  rw [List.length_map] at zl
  refine ⟨(true, fs.map .int), (true, xs.map .int), rfl, rfl, sl_of (show (zipD (fs.map .int) (xs.map .int)).length ≤ 1000 by omega), ?_⟩
  refine wp_lcMap (fun d => match d with | .tuple [.int a, .int b] => PyData.int (a * b) | _ => .none) (fun d hd => ?_) ?_
  · obtain ⟨a, ha, b, hb, rfl⟩ := zip_mem hd
    obtain ⟨i, rfl, hi⟩ := mem_ints hf ha
    obtain ⟨l, rfl, hll⟩ := mem_ints hx hb
    refine ⟨_, rfl, ?_⟩
    repeat walk_at "mir"
    exact wp_mul (mulw (by omega) (by omega)) ⟨rfl, rfl⟩
  · rw [zip_map]
    repeat walk_at "mir"
    refine wp_sum rfl (intsD_map _) ?_
    repeat walk_at "mir"
    exact ⟨rfl, List.take_length⟩
theorem value_eq {A B : Nat} (fs : List Int) (x0 : Int) (xs : List Int) (cs : List HC) (hA : A < 10 ^ 60) (hB : B < 2 ^ 250) (hf : ∀ x ∈ fs, x.natAbs ≤ A) (hx : ∀ x ∈ x0 :: xs, x.natAbs ≤ B) (hl : fs.length ≤ 15) (he : xs.length + 1 = fs.length) (h0 : 0 ≤ x0) :
    m_value_at [tI fs, tI (x0 :: xs)] cs = .ok (.d (.int (dot fs (x0 :: xs)))) cs := by
  have hlen : ((fs.map PyData.int).length : Int) = fs.length := by simp
  have hv := vector_eq x0 xs ((fs.map PyData.int).length - 1) cs (by omega) h0
  refine Wp.eq (wp_def ?_)
  show Wp (b_value_at [some (tI fs), some (tI (x0 :: xs))] cs) _
  unfold b_value_at
  repeat walk_at "mir"
  refine ⟨rfl, wp_is (any_eq fs cs (by omega) hl fun x h => Nat.lt_of_le_of_lt (hf x h) hA) ?_⟩
  repeat walk_at "mir"
  refine wp_lenX (ds := fs.map .int) rfl ?_
  repeat walk_at "mir"
  refine ⟨rfl, wp_is hv ?_⟩
  repeat walk_at "mir"
  refine ⟨rfl, wp_is (dot_eq (A := A) (B := B) _ _ cs (Nat.lt_trans hA (by decide)) hB hf hx hl) ?_⟩
  repeat walk_at "mir"
  exact ⟨rfl, List.take_length⟩
end Com
set_option maxHeartbeats 4000000
namespace Com
open PySem PySem.Spec PyProof.Rows L2 Mir
local macro_rules | `(tactic| walk_at "mir") => `(tactic| first
  | with_reducible refine wp_seq ?_ | with_reducible refine wp_nx ?_ | with_reducible refine wp_rt ?_ | with_reducible refine wp_bk ?_ | with_reducible refine wp_ct ?_
  | with_reducible refine fk_nx ?_ | with_reducible refine fk_ct ?_ | with_reducible refine fk_rt ?_ | with_reducible refine fk_bk ?_
  | with_reducible refine wp_dd ?_ | with_reducible refine wp_dn ?_
  | ((with_reducible refine wp_vari ?_); refine ⟨_, rfl, ?_⟩) | with_reducible refine wp_c ?_ | with_reducible refine wp_bin ?_
  | with_reducible refine wp_add ?_ | with_reducible refine wp_sub ?_ | with_reducible refine wp_lt ?_ | with_reducible refine wp_le ?_ | with_reducible refine wp_gt ?_ | with_reducible refine wp_ge ?_
  | with_reducible refine wp_eqI ?_ | with_reducible refine wp_neI ?_ | with_reducible refine wp_neg ?_ | with_reducible refine wp_un ?_
  | with_reducible refine wp_cut ?_ | with_reducible refine wp_cutT ?_ | with_reducible refine wp_no ?_ | with_reducible refine wp_part ?_ | with_reducible refine wp_toB ?_ | with_reducible refine wp_test ?_
  | with_reducible refine wp_chain ?_ | with_reducible refine wp_andT ?_ | with_reducible refine wp_orT ?_ | with_reducible refine wp_notT ?_ | with_reducible refine wp_and ?_ | with_reducible refine wp_or ?_ | with_reducible refine wp_not ?_
  | with_reducible refine wp_if ?_ | with_reducible refine wp_sif ?_ | with_reducible refine wp_isi ?_ | with_reducible refine wp_nil ?_ | with_reducible refine wp_cons ?_ | with_reducible refine wp_tup ?_ | with_reducible refine wp_lst ?_
  | with_reducible refine wp_L ?_ | with_reducible refine wp_New ?_ | with_reducible refine wp_call ?_ | with_reducible refine wp_own ?_ | with_reducible refine wp_ownL ?_
  | with_reducible refine wp_abs ?_ | with_reducible refine wp_int ?_ | with_reducible refine wp_intB ?_ | with_reducible refine wp_maxX ?_ | with_reducible refine wp_minX ?_ | with_reducible refine wp_tupleT ?_
  | with_reducible refine wp_isB ?_ | with_reducible refine wp_isNo ?_ | with_reducible refine wp_notB ?_ | with_reducible refine wp_notNo ?_ | with_reducible refine wp_parN ?_ | with_reducible refine wp_rgs ?_ | with_reducible refine wp_c0 ?_ | with_reducible refine wp_listRg ?_ | with_reducible refine wp_binL ?_ | with_reducible refine wp_lenD ?_
  | with_reducible refine wp_snil ?_ | with_reducible refine wp_break ?_ | with_reducible refine wp_cont ?_ | with_reducible refine wp_ret ?_ | with_reducible refine wp_set ?_ | with_reducible refine wp_new ?_ | with_reducible refine wp_par ?_ | with_reducible refine wp_drop ?_
  | with_reducible refine wp_put ?_ | with_reducible refine wp_app ?_ | with_reducible refine wp_rng1 ?_ | with_reducible refine wp_zipX ?_ | with_reducible refine wp_forN ?_ | with_reducible refine wp_seqN ?_ | with_reducible refine wp_zipN ?_ | with_reducible refine wp_enum ?_ | with_reducible refine wp_lc ?_ | with_reducible refine wp_dc ?_ | with_reducible refine wp_for ?_ | with_reducible refine wp_listOf ?_
  | ((with_reducible refine ifK_t ?_ ?_); rfl) | ((with_reducible refine ifK_f ?_ ?_); rfl)
  | ((with_reducible refine ex_id ?_); (first | refine ⟨_, rfl, Nat.le_of_ble_eq_true rfl, ?_⟩ | refine ⟨_, rfl, ?_⟩))
  | refine ⟨_, rfl, Nat.le_of_ble_eq_true rfl, ?_⟩ | refine ⟨_, rfl, ?_⟩)
local macro_rules | `(tactic| walk_at "mis") => `(tactic| first
  | with_reducible refine wp_nx ?_ | with_reducible refine wp_rt ?_ | with_reducible refine wp_bk ?_ | with_reducible refine wp_ct ?_
  | with_reducible refine fk_nx ?_ | with_reducible refine fk_ct ?_ | with_reducible refine fk_rt ?_ | with_reducible refine fk_bk ?_
  | with_reducible refine wp_dd ?_ | with_reducible refine wp_dn ?_
  | ((with_reducible refine wp_vari ?_); refine ⟨_, rfl, ?_⟩) | with_reducible refine wp_c ?_ | with_reducible refine wp_bin ?_
  | with_reducible refine wp_add ?_ | with_reducible refine wp_sub ?_ | with_reducible refine wp_lt ?_ | with_reducible refine wp_le ?_ | with_reducible refine wp_gt ?_ | with_reducible refine wp_ge ?_
  | with_reducible refine wp_eqI ?_ | with_reducible refine wp_neI ?_ | with_reducible refine wp_neg ?_ | with_reducible refine wp_un ?_
  | with_reducible refine wp_cut ?_ | with_reducible refine wp_cutT ?_ | with_reducible refine wp_no ?_ | with_reducible refine wp_part ?_ | with_reducible refine wp_toB ?_ | with_reducible refine wp_test ?_
  | with_reducible refine wp_chain ?_ | with_reducible refine wp_andT ?_ | with_reducible refine wp_orT ?_ | with_reducible refine wp_notT ?_ | with_reducible refine wp_and ?_ | with_reducible refine wp_or ?_ | with_reducible refine wp_not ?_
  | with_reducible refine wp_if ?_ | with_reducible refine wp_sif ?_ | with_reducible refine wp_isi ?_ | with_reducible refine wp_nil ?_ | with_reducible refine wp_cons ?_ | with_reducible refine wp_tup ?_ | with_reducible refine wp_lst ?_
  | with_reducible refine wp_L ?_ | with_reducible refine wp_New ?_ | with_reducible refine wp_call ?_ | with_reducible refine wp_own ?_ | with_reducible refine wp_ownL ?_
  | with_reducible refine wp_abs ?_ | with_reducible refine wp_int ?_ | with_reducible refine wp_intB ?_ | with_reducible refine wp_maxX ?_ | with_reducible refine wp_minX ?_ | with_reducible refine wp_tupleT ?_
  | with_reducible refine wp_isB ?_ | with_reducible refine wp_isNo ?_ | with_reducible refine wp_notB ?_ | with_reducible refine wp_notNo ?_ | with_reducible refine wp_parN ?_ | with_reducible refine wp_rgs ?_ | with_reducible refine wp_c0 ?_ | with_reducible refine wp_listRg ?_ | with_reducible refine wp_binL ?_ | with_reducible refine wp_lenD ?_
  | with_reducible refine wp_snil ?_ | with_reducible refine wp_break ?_ | with_reducible refine wp_cont ?_ | with_reducible refine wp_ret ?_ | with_reducible refine wp_set ?_ | with_reducible refine wp_new ?_ | with_reducible refine wp_par ?_ | with_reducible refine wp_drop ?_
  | with_reducible refine wp_put ?_ | with_reducible refine wp_app ?_ | with_reducible refine wp_rng1 ?_ | with_reducible refine wp_zipX ?_ | with_reducible refine wp_forN ?_ | with_reducible refine wp_seqN ?_ | with_reducible refine wp_zipN ?_ | with_reducible refine wp_enum ?_ | with_reducible refine wp_lc ?_ | with_reducible refine wp_dc ?_ | with_reducible refine wp_for ?_ | with_reducible refine wp_listOf ?_
  | ((with_reducible refine ifK_t ?_ ?_); rfl) | ((with_reducible refine ifK_f ?_ ?_); rfl)
  | ((with_reducible refine ex_id ?_); (first | refine ⟨_, rfl, Nat.le_of_ble_eq_true rfl, ?_⟩ | refine ⟨_, rfl, ?_⟩))
  | refine ⟨_, rfl, Nat.le_of_ble_eq_true rfl, ?_⟩ | refine ⟨_, rfl, ?_⟩)
local macro_rules | `(tactic| walk_at "mir") => `(tactic| with_reducible refine wp_is (pow60 _) ?_)
/-! ### forms put into forms -/
def axI (n : Int) (acc inner : List Int) : List Int := List.zipWith (fun a b => a + n * b) acc inner
def putF : List Int → List (List Int) → List Int → List Int
  | f :: fs, i :: is, acc => putF fs is (axI f acc i)
  | _, _, acc => acc
def putI (fs : List Int) (is : List (List Int)) (m : Nat) : List Int := match fs with
  | [] => []
  | f0 :: fs => putF fs is (f0 :: List.replicate m 0)
abbrev tupI (xs : List Int) : D := .tuple (xs.map PyData.int)
abbrev tF (is : List (List Int)) : Sl := .d (.tuple (is.map tupI))
theorem axI_len {n : Int} {acc i : List Int} (h : i.length = acc.length) : (axI n acc i).length = acc.length := by
  unfold axI
  rw [List.length_zipWith, h, Nat.min_self]
theorem axI_zero : ∀ {acc i : List Int}, i.length = acc.length → axI 0 acc i = acc
  | [], _, _ => by simp [axI]
  | a :: r, [], h => by cases h
  | a :: r, b :: s, h => by
    show (a + 0 * b) :: axI 0 r s = a :: r
    rw [axI_zero (by simpa using h), Int.zero_mul, Int.add_zero]
theorem putF_len : ∀ {fs : List Int} {is : List (List Int)} {acc : List Int}, (∀ i ∈ is, i.length = acc.length) → (putF fs is acc).length = acc.length
  | [], _, _, _ => by simp [putF]
  | f :: fs, [], _, _ => rfl
  | f :: fs, i :: is, acc, h => by
    have e := axI_len (n := f) (h i List.mem_cons_self)
    show (putF fs is (axI f acc i)).length = acc.length
    rw [putF_len fun j hj => (h j (List.mem_cons_of_mem _ hj)).trans e.symm, e]
theorem putF_snoc : ∀ {fs : List Int} {is : List (List Int)} {acc : List Int} {k : Nat} {f : Int} {i : List Int}, fs[k]? = some f → is[k]? = some i → putF (fs.take (k + 1)) (is.take (k + 1)) acc = axI f (putF (fs.take k) (is.take k) acc) i
  | [], _, _, _, _, _, h, _ => by simp at h
  | _ :: _, [], _, _, _, _, _, h => by simp at h
  | f :: fs, i :: is, acc, 0, _, _, h1, h2 => by
    simp at h1 h2
    subst h1 h2
    rfl
  | f :: fs, i :: is, acc, k + 1, f', i', h1, h2 => by
    show putF (fs.take (k + 1)) (is.take (k + 1)) (axI f acc i) = axI f' (putF (fs.take k) (is.take k) (axI f acc i)) i'
    exact putF_snoc (by simpa using h1) (by simpa using h2)
theorem rep_flat : ∀ n : Nat, (List.replicate n [PyData.int 0]).flatten = (List.replicate n (0 : Int)).map PyData.int
  | 0 => rfl
  | n + 1 => by
    rw [List.replicate_succ, List.flatten_cons, rep_flat n]
    rfl
theorem tup_get {is : List (List Int)} {k : Nat} {d : D} (e : (is.map tupI)[k]? = some d) : ∃ i, is[k]? = some i ∧ d = tupI i := by
  rw [List.getElem?_map] at e
  cases h : is[k]? with
  | none =>
    rw [h] at e
    cases e
  | some i =>
    rw [h] at e
    cases e
    exact ⟨i, rfl, rfl⟩
theorem int_get {xs : List Int} {k : Nat} {d : D} (e : (xs.map PyData.int)[k]? = some d) : ∃ x, xs[k]? = some x ∧ d = .int x := by
  rw [List.getElem?_map] at e
  cases h : xs[k]? with
  | none =>
    rw [h] at e
    cases e
  | some x =>
    rw [h] at e
    cases e
    exact ⟨x, rfl, rfl⟩
theorem zip_len2 {as bs : List D} (h : bs.length = as.length) : (zipD as bs).length = as.length := by
  unfold zipD
  rw [List.length_zipWith, h, Nat.min_self]
def axD (n : Int) : D → D := fun d => match d with
  | .tuple [.int a, .int b] => .int (a + n * b)
  | _ => .none
theorem ax_map (n : Int) : ∀ acc i : List Int, (zipD (acc.map .int) (i.map .int)).map (axD n) = (axI n acc i).map .int
  | [], _ => rfl
  | _ :: _, [] => rfl
  | a :: acc, b :: i => congrArg (PyData.int (a + n * b) :: ·) (ax_map n acc i)
theorem put_eq {A B : Nat} (f0 : Int) (fs : List Int) (is : List (List Int)) (m : Int) (cs : List HC) (m0 : 0 ≤ m) (hm : m ≤ 14) (hl : is.length = fs.length) (h14 : fs.length ≤ 14) (hi : ∀ i ∈ is, i.length = m.toNat + 1) (hA : A < 2 ^ 250) (hB : B < 2 ^ 250)
    (hf : ∀ x ∈ fs, x.natAbs ≤ A) (hb : ∀ i ∈ is, ∀ x ∈ i, x.natAbs ≤ B) : m_put [tI (f0 :: fs), tF is, .d (.int m)] cs = .ok (tI (putI (f0 :: fs) is m.toNat)) cs := by
  refine Wp.eq (wp_def ?_)
  show Wp (b_put [some (tI (f0 :: fs)), some (tF is), some (.d (.int m)), none, none, none, none, none] cs) _
  unfold b_put
  repeat walk_at "mir"
  refine wp_idxT (d := .int f0) (atI_nat (j := 0) rfl) ?_
  repeat walk_at "mir"
  refine wp_repL ⟨by omega, by omega, sl_of (by simp only [List.length_cons, List.length_nil]; omega)⟩ ?_
  refine wp_addL (a := [.int f0]) (b := (List.replicate m.toNat (0 : Int)).map .int) rfl (by rw [rep_flat]; rfl) (sl_of (by simp; omega)) ?_
  have e0 : [PyData.int f0] ++ (List.replicate m.toNat (0 : Int)).map .int = (f0 :: List.replicate m.toNat 0).map .int := rfl
  rw [e0]
  have ha : (f0 :: List.replicate m.toNat (0 : Int)).length = m.toNat + 1 := by simp
  have hp : putI (f0 :: fs) is m.toNat = putF fs is (f0 :: List.replicate m.toNat 0) := rfl
  rw [hp]
  generalize f0 :: List.replicate m.toNat (0 : Int) = acc at ha
  refine wp_nx ?_
  refine wp_mid (fun ρ cs' => cs' = cs ∧ ∃ x4 x5 x6 x7, ρ = [some (tI (f0 :: fs)), some (tF is), some (.d (.int m)), some (.d (.list ((putF fs is acc).map .int))), x4, x5, x6, x7]) ?_ fun ρ cs' hJ => ?_
  · repeat walk_at "mir"
    refine ⟨(true, fs.map .int), (true, is.map tupI), by rw [cut1]; rfl, rfl, ?_⟩
    have zl : (zipD (fs.map .int) (is.map tupI)).length = fs.length := by rw [zip_len2 (by simpa using hl), List.length_map]
    refine wp_forAll (I := fun n ρ cs' => cs' = cs ∧ ∃ x4 x5 x6 x7, ρ = [some (tI (f0 :: fs)), some (tF is), some (.d (.int m)), some (.d (.list ((putF (fs.take n) (is.take n) acc).map .int))), x4, x5, x6, x7]) (n := 0) ⟨rfl, _, _, _, _, rfl⟩ (fun k d ed ρ cs' hI => ?_) fun ρ cs' hI => ?_
    · obtain ⟨rfl, x4, x5, x6, x7, rfl⟩ := hI
      rw [Nat.zero_add]
      obtain ⟨a, b, ea, eb, rfl⟩ := zip_at ed
      obtain ⟨f, ef, rfl⟩ := int_get ea
      obtain ⟨i, ei, rfl⟩ := tup_get eb
      have snoc := putF_snoc (acc := acc) ef ei
      have hil : i.length = m.toNat + 1 := hi i (List.mem_of_getElem? ei)
      have hcl : (putF (fs.take k) (is.take k) acc).length = m.toNat + 1 := by
        rw [putF_len fun j hj => (hi j (List.mem_of_mem_take hj)).trans ha.symm, ha]
      refine ⟨_, rfl, ?_⟩
      repeat walk_at "mir"
      refine ifK_b (fun e => ?_) (fun e => ?_)
      · repeat walk_at "mir"
        have zz : (zipD ((putF (fs.take k) (is.take k) acc).map .int) (i.map .int)).length ≤ 1000 := by
          rw [zip_len2 (by rw [List.length_map, List.length_map]; omega), List.length_map]
          omega
        refine ⟨(false, (putF (fs.take k) (is.take k) acc).map .int), (true, i.map .int), rfl, rfl, sl_of zz, ?_⟩
        refine wp_lcMap (axD f) (fun d hd => ?_) ?_
        · obtain ⟨a, ha', b, hb', rfl⟩ := zip_mem hd
          obtain ⟨p, hp', rfl⟩ := List.mem_map.mp ha'
          obtain ⟨q, hq', rfl⟩ := List.mem_map.mp hb'
          have b1 := hf f (List.mem_of_getElem? ef)
          have b2 := hb i (List.mem_of_getElem? ei) q hq'
          refine ⟨_, rfl, ?_⟩
          repeat walk_at "mir"
          refine wp_mul (mulw (by omega) (by omega)) ?_
          repeat walk_at "mir"
          exact ⟨rfl, rfl⟩
        · repeat walk_at "mir"
          rw [show List.map (axD f) (zipD (false, (putF (fs.take k) (is.take k) acc).map PyData.int).2 (true, i.map PyData.int).2) = (putF (fs.take (k + 1)) (is.take (k + 1)) acc).map .int from by rw [snoc, ← ax_map]]
          exact ⟨rfl, _, _, _, _, rfl⟩
      · have e0 : f = 0 := by simpa using e
        repeat walk_at "mir"
        rw [show putF (fs.take k) (is.take k) acc = putF (fs.take (k + 1)) (is.take (k + 1)) acc from by rw [snoc, e0, axI_zero (hil.trans hcl.symm)]]
        exact ⟨rfl, _, _, _, _, rfl⟩
    · obtain ⟨rfl, x4, x5, x6, x7, rfl⟩ := hI
      refine ⟨rfl, x4, x5, x6, x7, ?_⟩
      rw [Nat.zero_add, show (zipD (true, fs.map PyData.int).2 (true, is.map tupI).2).length = fs.length from zl, List.take_length, ← hl, List.take_length]
  · obtain ⟨rfl, x4, x5, x6, x7, rfl⟩ := hJ
    repeat walk_at "mir"
    refine wp_tuple rfl ?_
    repeat walk_at "mir"
    exact ⟨rfl, List.take_length⟩
end Com
set_option maxHeartbeats 4000000
namespace Com
open PySem PySem.Spec PyProof.Rows L2 Mir
local macro_rules | `(tactic| walk_at "mir") => `(tactic| first
  | with_reducible refine wp_seq ?_ | with_reducible refine wp_nx ?_ | with_reducible refine wp_rt ?_ | with_reducible refine wp_bk ?_ | with_reducible refine wp_ct ?_
  | with_reducible refine fk_nx ?_ | with_reducible refine fk_ct ?_ | with_reducible refine fk_rt ?_ | with_reducible refine fk_bk ?_
  | with_reducible refine wp_dd ?_ | with_reducible refine wp_dn ?_
  | ((with_reducible refine wp_vari ?_); refine ⟨_, rfl, ?_⟩) | with_reducible refine wp_c ?_ | with_reducible refine wp_bin ?_
  | with_reducible refine wp_add ?_ | with_reducible refine wp_sub ?_ | with_reducible refine wp_lt ?_ | with_reducible refine wp_le ?_ | with_reducible refine wp_gt ?_ | with_reducible refine wp_ge ?_
  | with_reducible refine wp_eqI ?_ | with_reducible refine wp_neI ?_ | with_reducible refine wp_neg ?_ | with_reducible refine wp_un ?_
  | with_reducible refine wp_cut ?_ | with_reducible refine wp_cutT ?_ | with_reducible refine wp_no ?_ | with_reducible refine wp_part ?_ | with_reducible refine wp_toB ?_ | with_reducible refine wp_test ?_
  | with_reducible refine wp_chain ?_ | with_reducible refine wp_andT ?_ | with_reducible refine wp_orT ?_ | with_reducible refine wp_notT ?_ | with_reducible refine wp_and ?_ | with_reducible refine wp_or ?_ | with_reducible refine wp_not ?_
  | with_reducible refine wp_if ?_ | with_reducible refine wp_sif ?_ | with_reducible refine wp_isi ?_ | with_reducible refine wp_nil ?_ | with_reducible refine wp_cons ?_ | with_reducible refine wp_tup ?_ | with_reducible refine wp_lst ?_
  | with_reducible refine wp_L ?_ | with_reducible refine wp_New ?_ | with_reducible refine wp_call ?_ | with_reducible refine wp_own ?_ | with_reducible refine wp_ownL ?_
  | with_reducible refine wp_abs ?_ | with_reducible refine wp_int ?_ | with_reducible refine wp_intB ?_ | with_reducible refine wp_maxX ?_ | with_reducible refine wp_minX ?_ | with_reducible refine wp_tupleT ?_
  | with_reducible refine wp_isB ?_ | with_reducible refine wp_isNo ?_ | with_reducible refine wp_notB ?_ | with_reducible refine wp_notNo ?_ | with_reducible refine wp_parN ?_ | with_reducible refine wp_rgs ?_ | with_reducible refine wp_c0 ?_ | with_reducible refine wp_listRg ?_ | with_reducible refine wp_binL ?_ | with_reducible refine wp_lenD ?_
  | with_reducible refine wp_snil ?_ | with_reducible refine wp_break ?_ | with_reducible refine wp_cont ?_ | with_reducible refine wp_ret ?_ | with_reducible refine wp_set ?_ | with_reducible refine wp_new ?_ | with_reducible refine wp_par ?_ | with_reducible refine wp_drop ?_
  | with_reducible refine wp_put ?_ | with_reducible refine wp_app ?_ | with_reducible refine wp_rng1 ?_ | with_reducible refine wp_zipX ?_ | with_reducible refine wp_forN ?_ | with_reducible refine wp_seqN ?_ | with_reducible refine wp_zipN ?_ | with_reducible refine wp_enum ?_ | with_reducible refine wp_lc ?_ | with_reducible refine wp_dc ?_ | with_reducible refine wp_for ?_ | with_reducible refine wp_listOf ?_
  | ((with_reducible refine ifK_t ?_ ?_); rfl) | ((with_reducible refine ifK_f ?_ ?_); rfl)
  | ((with_reducible refine ex_id ?_); (first | refine ⟨_, rfl, Nat.le_of_ble_eq_true rfl, ?_⟩ | refine ⟨_, rfl, ?_⟩))
  | refine ⟨_, rfl, Nat.le_of_ble_eq_true rfl, ?_⟩ | refine ⟨_, rfl, ?_⟩)
local macro_rules | `(tactic| walk_at "mis") => `(tactic| first
  | with_reducible refine wp_nx ?_ | with_reducible refine wp_rt ?_ | with_reducible refine wp_bk ?_ | with_reducible refine wp_ct ?_
  | with_reducible refine fk_nx ?_ | with_reducible refine fk_ct ?_ | with_reducible refine fk_rt ?_ | with_reducible refine fk_bk ?_
  | with_reducible refine wp_dd ?_ | with_reducible refine wp_dn ?_
  | ((with_reducible refine wp_vari ?_); refine ⟨_, rfl, ?_⟩) | with_reducible refine wp_c ?_ | with_reducible refine wp_bin ?_
  | with_reducible refine wp_add ?_ | with_reducible refine wp_sub ?_ | with_reducible refine wp_lt ?_ | with_reducible refine wp_le ?_ | with_reducible refine wp_gt ?_ | with_reducible refine wp_ge ?_
  | with_reducible refine wp_eqI ?_ | with_reducible refine wp_neI ?_ | with_reducible refine wp_neg ?_ | with_reducible refine wp_un ?_
  | with_reducible refine wp_cut ?_ | with_reducible refine wp_cutT ?_ | with_reducible refine wp_no ?_ | with_reducible refine wp_part ?_ | with_reducible refine wp_toB ?_ | with_reducible refine wp_test ?_
  | with_reducible refine wp_chain ?_ | with_reducible refine wp_andT ?_ | with_reducible refine wp_orT ?_ | with_reducible refine wp_notT ?_ | with_reducible refine wp_and ?_ | with_reducible refine wp_or ?_ | with_reducible refine wp_not ?_
  | with_reducible refine wp_if ?_ | with_reducible refine wp_sif ?_ | with_reducible refine wp_isi ?_ | with_reducible refine wp_nil ?_ | with_reducible refine wp_cons ?_ | with_reducible refine wp_tup ?_ | with_reducible refine wp_lst ?_
  | with_reducible refine wp_L ?_ | with_reducible refine wp_New ?_ | with_reducible refine wp_call ?_ | with_reducible refine wp_own ?_ | with_reducible refine wp_ownL ?_
  | with_reducible refine wp_abs ?_ | with_reducible refine wp_int ?_ | with_reducible refine wp_intB ?_ | with_reducible refine wp_maxX ?_ | with_reducible refine wp_minX ?_ | with_reducible refine wp_tupleT ?_
  | with_reducible refine wp_isB ?_ | with_reducible refine wp_isNo ?_ | with_reducible refine wp_notB ?_ | with_reducible refine wp_notNo ?_ | with_reducible refine wp_parN ?_ | with_reducible refine wp_rgs ?_ | with_reducible refine wp_c0 ?_ | with_reducible refine wp_listRg ?_ | with_reducible refine wp_binL ?_ | with_reducible refine wp_lenD ?_
  | with_reducible refine wp_snil ?_ | with_reducible refine wp_break ?_ | with_reducible refine wp_cont ?_ | with_reducible refine wp_ret ?_ | with_reducible refine wp_set ?_ | with_reducible refine wp_new ?_ | with_reducible refine wp_par ?_ | with_reducible refine wp_drop ?_
  | with_reducible refine wp_put ?_ | with_reducible refine wp_app ?_ | with_reducible refine wp_rng1 ?_ | with_reducible refine wp_zipX ?_ | with_reducible refine wp_forN ?_ | with_reducible refine wp_seqN ?_ | with_reducible refine wp_zipN ?_ | with_reducible refine wp_enum ?_ | with_reducible refine wp_lc ?_ | with_reducible refine wp_dc ?_ | with_reducible refine wp_for ?_ | with_reducible refine wp_listOf ?_
  | ((with_reducible refine ifK_t ?_ ?_); rfl) | ((with_reducible refine ifK_f ?_ ?_); rfl)
  | ((with_reducible refine ex_id ?_); (first | refine ⟨_, rfl, Nat.le_of_ble_eq_true rfl, ?_⟩ | refine ⟨_, rfl, ?_⟩))
  | refine ⟨_, rfl, Nat.le_of_ble_eq_true rfl, ?_⟩ | refine ⟨_, rfl, ?_⟩)
local macro_rules | `(tactic| walk_at "mir") => `(tactic| with_reducible refine wp_is (pow60 _) ?_)
/-! the law's own way: number by number into a list that changes -/
def mixI (f : Int) (acc i : List Int) (j : Nat) : List Int := (axI f acc i).take j ++ acc.drop j
theorem mix_step {f : Int} {acc i : List Int} {j : Nat} {a b : Int} (ha : acc[j]? = some a) (hb : i[j]? = some b) (hl : i.length = acc.length) : (mixI f acc i j)[j]? = some a ∧ mixI f acc i (j + 1) = (mixI f acc i j).set j (a + f * b) := by
  have hj := (List.getElem?_eq_some_iff.mp ha).1
  have ht : ((axI f acc i).take j).length = j := by rw [List.length_take, axI_len hl]; omega
  have hx : (axI f acc i)[j]? = some (a + f * b) := by
    unfold axI
    rw [List.getElem?_zipWith, ha, hb]
  have hd : acc.drop j = a :: acc.drop (j + 1) := by
    rw [List.drop_eq_getElem_cons hj]
    congr 1
    exact Option.some.inj ((List.getElem?_eq_getElem hj).symm.trans ha)
  unfold mixI
  refine ⟨?_, ?_⟩
  · rw [List.getElem?_append_right (by omega), ht, Nat.sub_self, hd]
    rfl
  · rw [List.set_append_right _ _ (by omega), ht, Nat.sub_self, hd, List.take_add_one, hx]
    simp
theorem ix_at {n j : Nat} (h : j < n) : ixN n (j : Int) = some j := by
  unfold ixN
  rw [if_pos (by omega), if_pos (by omega)]
  rfl
theorem map_set (xs : List Int) (j : Nat) (x : Int) : (xs.map PyData.int).set j (.int x) = (xs.set j x).map .int := (List.map_set (f := PyData.int)).symm
theorem lawput_eq {A B : Nat} (f0 : Int) (fs : List Int) (is : List (List Int)) (m : Int) (cs : List HC) (m0 : 0 ≤ m) (hm : m ≤ 14) (hl : is.length = fs.length) (h14 : fs.length ≤ 14) (hi : ∀ i ∈ is, i.length = m.toNat + 1) (hA : A < 2 ^ 250) (hB : B < 2 ^ 250)
    (hf : ∀ x ∈ fs, x.natAbs ≤ A) (hb : ∀ i ∈ is, ∀ x ∈ i, x.natAbs ≤ B) : m__law_put [tI (f0 :: fs), tF is, .d (.int m)] cs = .ok (tI (putI (f0 :: fs) is m.toNat)) cs := by
  refine Wp.eq (wp_def ?_)
  show Wp (b__law_put [some (tI (f0 :: fs)), some (tF is), some (.d (.int m)), none, none, none, none] cs) _
  unfold b__law_put
  repeat walk_at "mir"
  refine wp_idxT (d := .int f0) (atI_nat (j := 0) rfl) ?_
  repeat walk_at "mir"
  refine wp_repL ⟨by omega, by omega, sl_of (by simp only [List.length_cons, List.length_nil]; omega)⟩ ?_
  refine wp_catL (a := [.int f0]) (b := (List.replicate m.toNat (0 : Int)).map .int) rfl (by rw [rep_flat]; rfl) (sl_of (by simp; omega)) ?_
  have e0 : [PyData.int f0] ++ (List.replicate m.toNat (0 : Int)).map .int = (f0 :: List.replicate m.toNat 0).map .int := rfl
  rw [e0]
  have ha : (f0 :: List.replicate m.toNat (0 : Int)).length = m.toNat + 1 := by simp
  have hp : putI (f0 :: fs) is m.toNat = putF fs is (f0 :: List.replicate m.toNat 0) := rfl
  rw [hp]
  generalize f0 :: List.replicate m.toNat (0 : Int) = acc at ha
  refine wp_nx ?_
  refine wp_mid (fun ρ cs' => cs' = cs ++ [.lst ((putF fs is acc).map .int)] ∧ ∃ x4 x5 x6, ρ = [some (tI (f0 :: fs)), some (tF is), some (.d (.int m)), some (.h cs.length), x4, x5, x6]) ?_ fun ρ cs' hJ => ?_
  · repeat walk_at "mir"
    refine ⟨(true, fs.map .int), (true, is.map tupI), by rw [cut1]; rfl, rfl, ?_⟩
    have zl : (zipD (fs.map .int) (is.map tupI)).length = fs.length := by rw [zip_len2 (by simpa using hl), List.length_map]
    refine wp_forAll (I := fun n ρ cs' => cs' = cs ++ [.lst ((putF (fs.take n) (is.take n) acc).map .int)] ∧ ∃ x4 x5 x6, ρ = [some (tI (f0 :: fs)), some (tF is), some (.d (.int m)), some (.h cs.length), x4, x5, x6]) (n := 0) ⟨rfl, _, _, _, rfl⟩ (fun k d ed ρ cs' hI => ?_) fun ρ cs' hI => ?_
    · obtain ⟨rfl, x4, x5, x6, rfl⟩ := hI
      rw [Nat.zero_add]
      obtain ⟨a, b, ea, eb, rfl⟩ := zip_at ed
      obtain ⟨f, ef, rfl⟩ := int_get ea
      obtain ⟨i, ei, rfl⟩ := tup_get eb
      have snoc := putF_snoc (acc := acc) ef ei
      have hil : i.length = m.toNat + 1 := hi i (List.mem_of_getElem? ei)
      have hcl : (putF (fs.take k) (is.take k) acc).length = m.toNat + 1 := by
        rw [putF_len fun j hj => (hi j (List.mem_of_mem_take hj)).trans ha.symm, ha]
      rw [snoc]
      generalize putF (fs.take k) (is.take k) acc = ac at hcl
      refine ⟨_, rfl, ?_⟩
      repeat walk_at "mir"
      refine ⟨by omega, by omega, ?_⟩
      refine wp_forAll (I := fun j ρ cs' => cs' = cs ++ [.lst ((mixI f ac i j).map .int)] ∧ ∃ x6, ρ = [some (tI (f0 :: fs)), some (tF is), some (.d (.int m)), some (.h cs.length), some (.d (.int f)), some (.d (tupI i)), x6]) (n := 0) ⟨by simp [mixI], _, rfl⟩ (fun j d ej ρ cs' hI => ?_) fun ρ cs' hI => ?_
      · obtain ⟨rfl, x6, rfl⟩ := hI
        rw [Nat.zero_add]
        have hj := (List.getElem?_eq_some_iff.mp ej).1
        rw [rngD_len] at hj
        have ed : d = .int (j : Int) := by
          simp only [rngD, List.getElem?_map, List.getElem?_range hj, Option.map_some, Option.some.injEq] at ej
          rw [← ej, Int.zero_add]
        subst ed
        have ga : ac[j]? = some (ac[j]'(by omega)) := List.getElem?_eq_getElem (by omega)
        have gb : i[j]? = some (i[j]'(by omega)) := List.getElem?_eq_getElem (by omega)
        generalize ac[j]'(by omega) = p at ga
        generalize i[j]'(by omega) = q at gb
        obtain ⟨g1, g2⟩ := mix_step (f := f) ga gb (hil.trans hcl.symm)
        have hv : (cs ++ [HC.lst ((mixI f ac i j).map .int)])[cs.length]? = some (.lst ((mixI f ac i j).map .int)) := by simp
        have hq := hb i (List.mem_of_getElem? ei) q (List.mem_of_getElem? gb)
        have hff := hf f (List.mem_of_getElem? ef)
        refine ⟨_, rfl, ?_⟩
        repeat walk_at "mir"
        refine wp_idx (d := .int p) (viewH hv) (atI_nat (by rw [List.getElem?_map, g1]; rfl)) ?_
        repeat walk_at "mir"
        refine wp_idxT (d := .int q) (atI_nat (by rw [List.getElem?_map, gb]; rfl)) ?_
        refine wp_mul (mulw (by omega) (by omega)) ?_
        repeat walk_at "mir"
        have hlen : ((mixI f ac i j).map PyData.int).length = m.toNat + 1 := by
          unfold mixI
          rw [List.length_map, List.length_append, List.length_take, axI_len (hil.trans hcl.symm), List.length_drop]
          omega
        refine ⟨_, putH hv (by rw [hlen]; exact ix_at (by omega)), ?_⟩
        repeat walk_at "mir"
        refine ⟨?_, _, rfl⟩
        rw [g2, ← map_set]
        simp
      · obtain ⟨rfl, x6, rfl⟩ := hI
        repeat walk_at "mir"
        refine ⟨?_, _, _, _, rfl⟩
        rw [Nat.zero_add, rngD_len]
        have e1 : (m + 1).toNat = ac.length := by omega
        unfold mixI
        rw [e1, List.drop_length, List.append_nil, ← axI_len (n := f) (hil.trans hcl.symm), List.take_length]
    · obtain ⟨rfl, x4, x5, x6, rfl⟩ := hI
      refine ⟨?_, x4, x5, x6, rfl⟩
      rw [Nat.zero_add, show (zipD (true, fs.map PyData.int).2 (true, is.map tupI).2).length = fs.length from zl, List.take_length, ← hl, List.take_length]
  · obtain ⟨rfl, x4, x5, x6, rfl⟩ := hJ
    repeat walk_at "mir"
    refine wp_tuple (ds := (putF fs is acc).map .int) (viewH (by simp)) ?_
    repeat walk_at "mir"
    exact ⟨rfl, by simp⟩
/-! the checks ahead -/
theorem lot_true {is : List (List Int)} {m : Int} (hl : is.length ≤ 14) (hi : ∀ i ∈ is, (i.length : Int) = m) (hb : ∀ i ∈ is, ∀ x ∈ i, x.natAbs < 10 ^ 60) : lotD m 14 (.tuple (is.map tupI)) = true := by
  rw [lotD, Bool.and_eq_true]
  refine ⟨by simp; omega, ?_⟩
  rw [List.all_map, List.all_eq_true]
  exact fun i h => row_true (hi i h) (hb i h)
theorem put_in_eq {A B : Nat} (f0 : Int) (fs : List Int) (is : List (List Int)) (m : Int) (cs : List HC) (m0 : 0 ≤ m) (hm : m ≤ 14) (hl : is.length = fs.length) (h14 : fs.length ≤ 14) (hi : ∀ i ∈ is, i.length = m.toNat + 1) (hA : A < 10 ^ 60) (hB : B < 10 ^ 60)
    (hf : ∀ x ∈ f0 :: fs, x.natAbs ≤ A) (hb : ∀ i ∈ is, ∀ x ∈ i, x.natAbs ≤ B) : m_put_in [tI (f0 :: fs), tF is, .d (.int m)] cs = .ok (tI (putI (f0 :: fs) is m.toNat)) cs := by
  refine Wp.eq (wp_def ?_)
  show Wp (b_put_in [some (tI (f0 :: fs)), some (tF is), some (.d (.int m))] cs) _
  unfold b_put_in
  repeat walk_at "mir"
  refine ⟨rfl, wp_is (any_eq (f0 :: fs) cs (by simp) (by simp; omega) fun x h => Nat.lt_of_le_of_lt (hf x h) hA) ?_⟩
  repeat walk_at "mir"
  refine ⟨rfl, wp_is (many_eq 14 m m0 hm cs) ?_⟩
  repeat walk_at "mir"
  refine ⟨rfl, wp_is (lot_eq m 14 _ cs) ?_⟩
  rw [lot_true (by omega) (fun i h => by have := hi i h; omega) fun i h x hx => Nat.lt_of_le_of_lt (hb i h x hx) hB]
  repeat walk_at "mir"
  refine wp_lenX (ds := is.map tupI) rfl ?_
  repeat walk_at "mir"
  refine wp_lenX (ds := (f0 :: fs).map .int) rfl ?_
  repeat walk_at "mir"
  refine ifK_f (by simp; omega) ?_
  repeat walk_at "mir"
  refine ⟨rfl, wp_is (put_eq f0 fs is m cs m0 hm hl h14 hi (Nat.lt_trans hA (by decide)) (Nat.lt_trans hB (by decide)) (fun x h => hf x (List.mem_cons_of_mem _ h)) hb) ?_⟩
  repeat walk_at "mir"
  exact ⟨rfl, List.take_length⟩
def addI (xs ys : List Int) : List Int := List.zipWith (fun a b => a + b) xs ys
def addD : D → D := fun d => match d with
  | .tuple [.int a, .int b] => .int (a + b)
  | _ => .none
theorem add_map : ∀ xs ys : List Int, (zipD (xs.map .int) (ys.map .int)).map addD = (addI xs ys).map .int
  | [], _ => rfl
  | _ :: _, [] => rfl
  | a :: xs, b :: ys => congrArg (PyData.int (a + b) :: ·) (add_map xs ys)
theorem added_eq (xs ys : List Int) (cs : List HC) (hl : xs.length ≤ 15) : m_added [tI xs, tI ys] cs = .ok (tI (addI xs ys)) cs := by
  refine Wp.eq (wp_def ?_)
  show Wp (b_added [some (tI xs), some (tI ys), none, none] cs) _
  unfold b_added
  repeat walk_at "mir"
  have zl := zip_len (xs.map .int) (ys.map .int)
  rw [List.length_map] at zl
  refine ⟨(true, xs.map .int), (true, ys.map .int), rfl, rfl, sl_of (show (zipD (xs.map .int) (ys.map .int)).length ≤ 1000 by omega), ?_⟩
  refine wp_lcMap addD (fun d hd => ?_) ?_
  · obtain ⟨a, ha, b, hb, rfl⟩ := zip_mem hd
    obtain ⟨i, _, rfl⟩ := List.mem_map.mp ha
    obtain ⟨l, _, rfl⟩ := List.mem_map.mp hb
    refine ⟨_, rfl, ?_⟩
    repeat walk_at "mir"
    exact ⟨rfl, rfl⟩
  · rw [show List.map addD (zipD (true, xs.map PyData.int).2 (true, ys.map PyData.int).2) = (addI xs ys).map .int from add_map xs ys]
    repeat walk_at "mir"
    refine wp_tuple rfl ?_
    repeat walk_at "mir"
    exact ⟨rfl, List.take_length⟩
theorem plus_eq (xs ys : List Int) (cs : List HC) (h1 : 1 ≤ xs.length) (hl : xs.length ≤ 15) (he : ys.length = xs.length) (hx : ∀ x ∈ xs, x.natAbs < 10 ^ 60) (hy : ∀ x ∈ ys, x.natAbs < 10 ^ 60) : m_plus [tI xs, tI ys] cs = .ok (tI (addI xs ys)) cs := by
  refine Wp.eq (wp_def ?_)
  show Wp (b_plus [some (tI xs), some (tI ys)] cs) _
  unfold b_plus
  repeat walk_at "mir"
  refine ⟨rfl, wp_is (any_eq xs cs h1 hl hx) ?_⟩
  repeat walk_at "mir"
  refine ⟨rfl, wp_is (any_eq ys cs (by omega) (by omega) hy) ?_⟩
  repeat walk_at "mir"
  refine wp_lenX (ds := xs.map .int) rfl ?_
  repeat walk_at "mir"
  refine wp_lenX (ds := ys.map .int) rfl ?_
  repeat walk_at "mir"
  refine ifK_f (by simp [he]) ?_
  repeat walk_at "mir"
  refine ⟨rfl, wp_is (added_eq xs ys cs hl) ?_⟩
  repeat walk_at "mir"
  exact ⟨rfl, List.take_length⟩
def mulI (n : Int) (xs : List Int) : List Int := xs.map fun x => n * x
theorem mapI {F : Int → Int} {f : D → D} (h : ∀ i, f (.int i) = .int (F i)) (xs : List Int) : (xs.map PyData.int).map f = (xs.map F).map PyData.int := by
  rw [List.map_map, List.map_map]
  exact List.map_congr_left fun x _ => h x
def mulD (n : Int) : D → D := fun d => match d with
  | .int i => .int (n * i)
  | _ => .none
theorem scaled_eq {A : Nat} (n : Int) (xs : List Int) (cs : List HC) (hn : n.natAbs < 2 ^ 250) (hA : A < 2 ^ 250) (hl : xs.length ≤ 15) (hx : ∀ x ∈ xs, x.natAbs ≤ A) : m_scaled [.d (.int n), tI xs] cs = .ok (tI (mulI n xs)) cs := by
  refine Wp.eq (wp_def ?_)
  show Wp (b_scaled [some (.d (.int n)), some (tI xs), none] cs) _
  unfold b_scaled
  repeat walk_at "mir"
  refine wp_seqI (.inr rfl) rfl ⟨sl_of (by rw [List.length_map]; omega), ?_⟩
  refine wp_lcMap (mulD n) (fun d hd => ?_) ?_
  · obtain ⟨i, rfl, hi⟩ := mem_ints hx hd
    refine ⟨_, rfl, ?_⟩
    repeat walk_at "mir"
    exact wp_mul (mulw hn (by omega)) ⟨rfl, rfl⟩
  · rw [mapI (f := mulD n) (F := fun x => n * x) (fun _ => rfl)]
    repeat walk_at "mir"
    refine wp_tuple rfl ?_
    repeat walk_at "mir"
    exact ⟨rfl, List.take_length⟩
theorem times_eq {A : Nat} (n : Int) (xs : List Int) (cs : List HC) (hn : n.natAbs < 10 ^ 60) (hA : A < 10 ^ 60) (h1 : 1 ≤ xs.length) (hl : xs.length ≤ 15) (hx : ∀ x ∈ xs, x.natAbs ≤ A) : m_times [.d (.int n), tI xs] cs = .ok (tI (mulI n xs)) cs := by
  refine Wp.eq (wp_def ?_)
  show Wp (b_times [some (.d (.int n)), some (tI xs)] cs) _
  unfold b_times
  repeat walk_at "mir"
  refine ⟨rfl, wp_is (short_eq (.int n) cs) ?_⟩
  have hb : B60 = 10 ^ 60 := rfl
  rw [show shortD (.int n) = true by rw [shortD, hb, Bool.and_eq_true]; exact ⟨decide_eq_true (by omega), decide_eq_true (by omega)⟩]
  repeat walk_at "mir"
  refine ⟨rfl, wp_is (any_eq xs cs h1 hl fun x h => Nat.lt_of_le_of_lt (hx x h) hA) ?_⟩
  repeat walk_at "mir"
  refine ⟨rfl, wp_is (scaled_eq (A := A) n xs cs (Nat.lt_trans hn (by decide)) (Nat.lt_trans hA (by decide)) hl hx) ?_⟩
  repeat walk_at "mir"
  exact ⟨rfl, List.take_length⟩
theorem lawat_eq {A B : Nat} (fs xs : List Int) (cs : List HC) (hA : A < 2 ^ 250) (hB : B < 2 ^ 250) (hf : ∀ x ∈ fs, x.natAbs ≤ A) (hx : ∀ x ∈ xs, x.natAbs ≤ B) (hl : fs.length ≤ 15) : m__law_at [tI fs, tI xs] cs = .ok (.d (.int (dot fs xs))) cs := dot_eq (A := A) (B := B) fs xs cs hA hB hf hx hl
end Com
set_option maxHeartbeats 4000000
namespace Com
open PySem PySem.Spec PyProof.Rows L2 Mir
local macro_rules | `(tactic| walk_at "mir") => `(tactic| first
  | with_reducible refine wp_seq ?_ | with_reducible refine wp_nx ?_ | with_reducible refine wp_rt ?_ | with_reducible refine wp_bk ?_ | with_reducible refine wp_ct ?_
  | with_reducible refine fk_nx ?_ | with_reducible refine fk_ct ?_ | with_reducible refine fk_rt ?_ | with_reducible refine fk_bk ?_
  | with_reducible refine wp_dd ?_ | with_reducible refine wp_dn ?_
  | ((with_reducible refine wp_vari ?_); refine ⟨_, rfl, ?_⟩) | with_reducible refine wp_c ?_ | with_reducible refine wp_bin ?_
  | with_reducible refine wp_add ?_ | with_reducible refine wp_sub ?_ | with_reducible refine wp_lt ?_ | with_reducible refine wp_le ?_ | with_reducible refine wp_gt ?_ | with_reducible refine wp_ge ?_
  | with_reducible refine wp_eqI ?_ | with_reducible refine wp_neI ?_ | with_reducible refine wp_neg ?_ | with_reducible refine wp_un ?_
  | with_reducible refine wp_cut ?_ | with_reducible refine wp_cutT ?_ | with_reducible refine wp_no ?_ | with_reducible refine wp_part ?_ | with_reducible refine wp_toB ?_ | with_reducible refine wp_test ?_
  | with_reducible refine wp_chain ?_ | with_reducible refine wp_andT ?_ | with_reducible refine wp_orT ?_ | with_reducible refine wp_notT ?_ | with_reducible refine wp_and ?_ | with_reducible refine wp_or ?_ | with_reducible refine wp_not ?_
  | with_reducible refine wp_if ?_ | with_reducible refine wp_sif ?_ | with_reducible refine wp_isi ?_ | with_reducible refine wp_nil ?_ | with_reducible refine wp_cons ?_ | with_reducible refine wp_tup ?_ | with_reducible refine wp_lst ?_
  | with_reducible refine wp_L ?_ | with_reducible refine wp_New ?_ | with_reducible refine wp_call ?_ | with_reducible refine wp_own ?_ | with_reducible refine wp_ownL ?_
  | with_reducible refine wp_abs ?_ | with_reducible refine wp_int ?_ | with_reducible refine wp_intB ?_ | with_reducible refine wp_maxX ?_ | with_reducible refine wp_minX ?_ | with_reducible refine wp_tupleT ?_
  | with_reducible refine wp_isB ?_ | with_reducible refine wp_isNo ?_ | with_reducible refine wp_notB ?_ | with_reducible refine wp_notNo ?_ | with_reducible refine wp_parN ?_ | with_reducible refine wp_rgs ?_ | with_reducible refine wp_c0 ?_ | with_reducible refine wp_listRg ?_ | with_reducible refine wp_binL ?_ | with_reducible refine wp_lenD ?_
  | with_reducible refine wp_snil ?_ | with_reducible refine wp_break ?_ | with_reducible refine wp_cont ?_ | with_reducible refine wp_ret ?_ | with_reducible refine wp_set ?_ | with_reducible refine wp_new ?_ | with_reducible refine wp_par ?_ | with_reducible refine wp_drop ?_
  | with_reducible refine wp_put ?_ | with_reducible refine wp_app ?_ | with_reducible refine wp_rng1 ?_ | with_reducible refine wp_zipX ?_ | with_reducible refine wp_forN ?_ | with_reducible refine wp_seqN ?_ | with_reducible refine wp_zipN ?_ | with_reducible refine wp_enum ?_ | with_reducible refine wp_lc ?_ | with_reducible refine wp_dc ?_ | with_reducible refine wp_for ?_ | with_reducible refine wp_listOf ?_
  | ((with_reducible refine ifK_t ?_ ?_); rfl) | ((with_reducible refine ifK_f ?_ ?_); rfl)
  | ((with_reducible refine ex_id ?_); (first | refine ⟨_, rfl, Nat.le_of_ble_eq_true rfl, ?_⟩ | refine ⟨_, rfl, ?_⟩))
  | refine ⟨_, rfl, Nat.le_of_ble_eq_true rfl, ?_⟩ | refine ⟨_, rfl, ?_⟩)
local macro_rules | `(tactic| walk_at "mis") => `(tactic| first
  | with_reducible refine wp_nx ?_ | with_reducible refine wp_rt ?_ | with_reducible refine wp_bk ?_ | with_reducible refine wp_ct ?_
  | with_reducible refine fk_nx ?_ | with_reducible refine fk_ct ?_ | with_reducible refine fk_rt ?_ | with_reducible refine fk_bk ?_
  | with_reducible refine wp_dd ?_ | with_reducible refine wp_dn ?_
  | ((with_reducible refine wp_vari ?_); refine ⟨_, rfl, ?_⟩) | with_reducible refine wp_c ?_ | with_reducible refine wp_bin ?_
  | with_reducible refine wp_add ?_ | with_reducible refine wp_sub ?_ | with_reducible refine wp_lt ?_ | with_reducible refine wp_le ?_ | with_reducible refine wp_gt ?_ | with_reducible refine wp_ge ?_
  | with_reducible refine wp_eqI ?_ | with_reducible refine wp_neI ?_ | with_reducible refine wp_neg ?_ | with_reducible refine wp_un ?_
  | with_reducible refine wp_cut ?_ | with_reducible refine wp_cutT ?_ | with_reducible refine wp_no ?_ | with_reducible refine wp_part ?_ | with_reducible refine wp_toB ?_ | with_reducible refine wp_test ?_
  | with_reducible refine wp_chain ?_ | with_reducible refine wp_andT ?_ | with_reducible refine wp_orT ?_ | with_reducible refine wp_notT ?_ | with_reducible refine wp_and ?_ | with_reducible refine wp_or ?_ | with_reducible refine wp_not ?_
  | with_reducible refine wp_if ?_ | with_reducible refine wp_sif ?_ | with_reducible refine wp_isi ?_ | with_reducible refine wp_nil ?_ | with_reducible refine wp_cons ?_ | with_reducible refine wp_tup ?_ | with_reducible refine wp_lst ?_
  | with_reducible refine wp_L ?_ | with_reducible refine wp_New ?_ | with_reducible refine wp_call ?_ | with_reducible refine wp_own ?_ | with_reducible refine wp_ownL ?_
  | with_reducible refine wp_abs ?_ | with_reducible refine wp_int ?_ | with_reducible refine wp_intB ?_ | with_reducible refine wp_maxX ?_ | with_reducible refine wp_minX ?_ | with_reducible refine wp_tupleT ?_
  | with_reducible refine wp_isB ?_ | with_reducible refine wp_isNo ?_ | with_reducible refine wp_notB ?_ | with_reducible refine wp_notNo ?_ | with_reducible refine wp_parN ?_ | with_reducible refine wp_rgs ?_ | with_reducible refine wp_c0 ?_ | with_reducible refine wp_listRg ?_ | with_reducible refine wp_binL ?_ | with_reducible refine wp_lenD ?_
  | with_reducible refine wp_snil ?_ | with_reducible refine wp_break ?_ | with_reducible refine wp_cont ?_ | with_reducible refine wp_ret ?_ | with_reducible refine wp_set ?_ | with_reducible refine wp_new ?_ | with_reducible refine wp_par ?_ | with_reducible refine wp_drop ?_
  | with_reducible refine wp_put ?_ | with_reducible refine wp_app ?_ | with_reducible refine wp_rng1 ?_ | with_reducible refine wp_zipX ?_ | with_reducible refine wp_forN ?_ | with_reducible refine wp_seqN ?_ | with_reducible refine wp_zipN ?_ | with_reducible refine wp_enum ?_ | with_reducible refine wp_lc ?_ | with_reducible refine wp_dc ?_ | with_reducible refine wp_for ?_ | with_reducible refine wp_listOf ?_
  | ((with_reducible refine ifK_t ?_ ?_); rfl) | ((with_reducible refine ifK_f ?_ ?_); rfl)
  | ((with_reducible refine ex_id ?_); (first | refine ⟨_, rfl, Nat.le_of_ble_eq_true rfl, ?_⟩ | refine ⟨_, rfl, ?_⟩))
  | refine ⟨_, rfl, Nat.le_of_ble_eq_true rfl, ?_⟩ | refine ⟨_, rfl, ?_⟩)
local macro_rules | `(tactic| walk_at "mir") => `(tactic| with_reducible refine wp_is (pow60 _) ?_)
/-! ### sums of products -/
theorem dot_nil_r : ∀ fs : List Int, dot fs [] = 0
  | [] => rfl
  | _ :: _ => rfl
theorem dot_cons (f x : Int) (fs xs : List Int) : dot (f :: fs) (x :: xs) = f * x + dot fs xs := rfl
theorem dot_axI (n : Int) : ∀ {acc i : List Int} (xs : List Int), i.length = acc.length → dot (axI n acc i) xs = dot acc xs + n * dot i xs
  | [], [], _, _ => (by show (0 : Int) = 0 + n * 0; omega)
  | [], _ :: _, _, h => by cases h
  | _ :: _, [], _, h => by cases h
  | a :: acc, b :: i, [], h => by rw [dot_nil_r, dot_nil_r, dot_nil_r, Int.mul_zero, Int.add_zero]
  | a :: acc, b :: i, x :: xs, h => by
    show dot ((a + n * b) :: axI n acc i) (x :: xs) = _
    rw [dot_cons, dot_cons, dot_cons, dot_axI n xs (by simpa using h), Int.add_mul, Int.mul_add, Int.mul_assoc]
    omega
theorem dot_putF (xs : List Int) : ∀ (fs : List Int) (is : List (List Int)) (acc : List Int), (∀ i ∈ is, i.length = acc.length) → dot (putF fs is acc) xs = dot acc xs + dot fs (is.map fun i => dot i xs)
  | [], _, acc, _ => by
    show dot acc xs = dot acc xs + 0
    omega
  | f :: fs, [], acc, _ => by
    show dot acc xs = dot acc xs + 0
    omega
  | f :: fs, i :: is, acc, h => by
    have e := axI_len (n := f) (h i List.mem_cons_self)
    show dot (putF fs is (axI f acc i)) xs = _
    rw [dot_putF xs fs is _ fun j hj => (h j (List.mem_cons_of_mem _ hj)).trans e.symm, dot_axI f xs (h i List.mem_cons_self), List.map_cons, dot_cons]
    omega
theorem dot_zeros : ∀ (m : Nat) (xs : List Int), dot (List.replicate m 0) xs = 0
  | 0, _ => rfl
  | m + 1, [] => rfl
  | m + 1, x :: xs => by
    rw [List.replicate_succ, dot_cons, dot_zeros m xs]
    omega
/-- a form put in, at a vector -/
theorem dot_putI (f0 : Int) (fs : List Int) (is : List (List Int)) (m : Nat) (x0 : Int) (xs : List Int) (h : ∀ i ∈ is, i.length = m + 1) : dot (putI (f0 :: fs) is m) (x0 :: xs) = dot (f0 :: fs) (x0 :: is.map fun i => dot i (x0 :: xs)) := by
  show dot (putF fs is (f0 :: List.replicate m 0)) (x0 :: xs) = _
  rw [dot_putF _ fs is _ (by simpa using h), dot_cons, dot_cons, dot_zeros]
  omega
theorem dot_ext : ∀ {as bs : List Int}, as.length = bs.length → (∀ xs : List Int, xs.length = as.length → dot as xs = dot bs xs) → as = bs
  | [], [], _, _ => rfl
  | [], _ :: _, h, _ => by cases h
  | _ :: _, [], h, _ => by cases h
  | a :: as, b :: bs, h, k => by
    have h1 := k (1 :: List.replicate as.length 0) (by simp)
    have hz : ∀ (zs : List Int) (n : Nat), dot zs (List.replicate n 0) = 0 := by
      intro zs
      induction zs with
      | nil => intro n; rfl
      | cons z zs ih => intro n; cases n with
        | zero => rfl
        | succ n =>
          rw [List.replicate_succ, dot_cons, ih]
          omega
    rw [dot_cons, dot_cons, hz, hz] at h1
    have ea : a = b := by omega
    subst ea
    congr 1
    refine dot_ext (by simpa using h) fun xs hx => ?_
    have h2 := k (0 :: xs) (by simp [hx])
    rw [dot_cons, dot_cons] at h2
    omega
theorem putI_len {f0 : Int} {fs : List Int} {is : List (List Int)} {m : Nat} (h : ∀ i ∈ is, i.length = m + 1) : (putI (f0 :: fs) is m).length = m + 1 := by
  show (putF fs is (f0 :: List.replicate m 0)).length = _
  rw [putF_len (by simpa using h)]
  simp
/-- putting in twice is putting in once what comes of the second one -/
theorem put_put (f0 : Int) (fs : List Int) (is : List (List Int)) (m : Nat) (gs : List (List Int)) (l : Nat) (hi : ∀ i ∈ is, i.length = m + 1) (hg : ∀ g ∈ gs, g.length = l + 1) :
    putI (f0 :: fs) (is.map fun i => putI i gs l) l = putI (putI (f0 :: fs) is m) gs l := by
  have hl1 : ∀ i ∈ is.map (fun i => putI i gs l), i.length = l + 1 := fun j hj => by
    obtain ⟨i, h, rfl⟩ := List.mem_map.mp hj
    have := hi i h
    cases i with
    | nil => cases this
    | cons a i => exact putI_len hg
  have hp := putI_len (f0 := f0) (fs := fs) hi
  obtain ⟨p0, ps, ep⟩ : ∃ p0 ps, putI (f0 :: fs) is m = p0 :: ps := by
    cases h : putI (f0 :: fs) is m with
    | nil =>
      rw [h] at hp
      cases hp
    | cons a b => exact ⟨a, b, rfl⟩
  have e1 := putI_len (f0 := f0) (fs := fs) hl1
  have e2 : (putI (putI (f0 :: fs) is m) gs l).length = l + 1 := by
    rw [ep]
    exact putI_len hg
  refine dot_ext (e1.trans e2.symm) fun xs hx => ?_
  rw [e1] at hx
  obtain ⟨x0, xs, rfl⟩ : ∃ x0 xs', xs = x0 :: xs' := by
    cases xs with
    | nil => cases hx
    | cons a b => exact ⟨a, b, rfl⟩
  rw [dot_putI f0 fs _ l x0 xs hl1, ep, dot_putI p0 ps gs l x0 xs hg, ← ep, dot_putI f0 fs is m _ _ hi]
  congr 2
  rw [List.map_map]
  refine List.map_congr_left fun i h => ?_
  have := hi i h
  cases i with
  | nil => cases this
  | cons a i => exact dot_putI a i gs l x0 xs hg
theorem dot_addI : ∀ (as bs xs : List Int), as.length = bs.length → dot (addI as bs) xs = dot as xs + dot bs xs
  | [], [], _, _ => rfl
  | [], _ :: _, _, h => by cases h
  | _ :: _, [], _, h => by cases h
  | a :: as, b :: bs, [], _ => rfl
  | a :: as, b :: bs, x :: xs, h => by
    show dot ((a + b) :: addI as bs) (x :: xs) = _
    rw [dot_cons, dot_cons, dot_cons, dot_addI as bs xs (by simpa using h), Int.add_mul]
    omega
theorem dot_mulI (n : Int) : ∀ (as xs : List Int), dot (mulI n as) xs = n * dot as xs
  | [], _ => (Int.mul_zero n).symm
  | a :: as, [] => (Int.mul_zero n).symm
  | a :: as, x :: xs => by
    show dot ((n * a) :: mulI n as) (x :: xs) = _
    rw [dot_cons, dot_cons, dot_mulI n as xs, Int.mul_add, Int.mul_assoc]
/-! how great they are -/
theorem axI_le {n : Int} {acc i : List Int} {N A B : Nat} (hn : n.natAbs ≤ N) (ha : ∀ x ∈ acc, x.natAbs ≤ A) (hi : ∀ x ∈ i, x.natAbs ≤ B) : ∀ x ∈ axI n acc i, x.natAbs ≤ A + N * B := by
  induction acc generalizing i with
  | nil => intro x hx; simp [axI] at hx
  | cons a acc ih =>
    cases i with
    | nil => intro x hx; simp [axI] at hx
    | cons b i =>
      intro x hx
      rcases List.mem_cons.mp (show x ∈ (a + n * b) :: axI n acc i from hx) with e | e
      · have h1 := ha a List.mem_cons_self
        have h2 := mul_le hn (hi b List.mem_cons_self)
        have h3 := Int.natAbs_add_le a (n * b)
        rw [e]
        omega
      · exact ih (fun x h => ha x (List.mem_cons_of_mem _ h)) (fun x h => hi x (List.mem_cons_of_mem _ h)) x e
theorem putF_le {N B : Nat} : ∀ {fs : List Int} {is : List (List Int)} {acc : List Int} {A : Nat}, (∀ f ∈ fs, f.natAbs ≤ N) → (∀ x ∈ acc, x.natAbs ≤ A) → (∀ i ∈ is, ∀ x ∈ i, x.natAbs ≤ B) → ∀ x ∈ putF fs is acc, x.natAbs ≤ A + fs.length * (N * B)
  | [], _, acc, A, _, ha, _, x, hx => by
    have := ha x hx
    simp
    omega
  | f :: fs, [], acc, A, _, ha, _, x, hx => by
    have h := ha x hx
    exact Nat.le_trans h (Nat.le_add_right _ _)
  | f :: fs, i :: is, acc, A, hf, ha, hi, x, hx => by
    have h := putF_le (fs := fs) (is := is) (A := A + N * B) (fun f h => hf f (List.mem_cons_of_mem _ h)) (axI_le (hf f List.mem_cons_self) ha (hi i List.mem_cons_self)) (fun i h => hi i (List.mem_cons_of_mem _ h)) x hx
    rw [List.length_cons, Nat.add_mul, Nat.one_mul]
    omega
theorem putI_le {N B : Nat} {f0 : Int} {fs : List Int} {is : List (List Int)} {m : Nat} (hf : ∀ f ∈ f0 :: fs, f.natAbs ≤ N) (hi : ∀ i ∈ is, ∀ x ∈ i, x.natAbs ≤ B) : ∀ x ∈ putI (f0 :: fs) is m, x.natAbs ≤ N + fs.length * (N * B) := by
  refine putF_le (fun f h => hf f (List.mem_cons_of_mem _ h)) (fun x hx => ?_) hi
  rcases List.mem_cons.mp hx with e | e
  · rw [e]
    exact hf f0 List.mem_cons_self
  · rw [List.eq_of_mem_replicate e]
    exact Nat.zero_le _
theorem zw_mem {z : Int} : ∀ {fs xs : List Int}, z ∈ List.zipWith (fun a b => a * b) fs xs → ∃ a ∈ fs, ∃ b ∈ xs, z = a * b
  | [], _, h => by simp at h
  | _ :: _, [], h => by simp at h
  | f :: fs, x :: xs, h => by
    rcases List.mem_cons.mp h with e | e
    · exact ⟨f, List.mem_cons_self, x, List.mem_cons_self, e⟩
    · obtain ⟨a, ha, b, hb, e⟩ := zw_mem e
      exact ⟨a, List.mem_cons_of_mem _ ha, b, List.mem_cons_of_mem _ hb, e⟩
theorem dot_le {A B : Nat} {fs xs : List Int} (hf : ∀ x ∈ fs, x.natAbs ≤ A) (hx : ∀ x ∈ xs, x.natAbs ≤ B) (hl : fs.length ≤ 15) : (dot fs xs).natAbs ≤ 15 * (A * B) := by
  unfold dot
  refine Nat.le_trans (sum_le (B := A * B) fun z hz => ?_) (Nat.mul_le_mul_right _ ?_)
  · obtain ⟨a, ha, b, hb, rfl⟩ := zw_mem hz
    exact mul_le (hf a ha) (hx b hb)
  · rw [List.length_zipWith]
    omega
theorem addI_le {A B : Nat} {xs ys : List Int} (hx : ∀ x ∈ xs, x.natAbs ≤ A) (hy : ∀ x ∈ ys, x.natAbs ≤ B) : ∀ x ∈ addI xs ys, x.natAbs ≤ A + B := by
  induction xs generalizing ys with
  | nil => intro x h; simp [addI] at h
  | cons a xs ih =>
    cases ys with
    | nil => intro x h; simp [addI] at h
    | cons b ys =>
      intro x h
      rcases List.mem_cons.mp (show x ∈ (a + b) :: addI xs ys from h) with e | e
      · have h1 := hx a List.mem_cons_self
        have h2 := hy b List.mem_cons_self
        have h3 := Int.natAbs_add_le a b
        rw [e]
        omega
      · exact ih (fun x h => hx x (List.mem_cons_of_mem _ h)) (fun x h => hy x (List.mem_cons_of_mem _ h)) x e
theorem mulI_le {A N : Nat} {n : Int} {xs : List Int} (hn : n.natAbs ≤ N) (hx : ∀ x ∈ xs, x.natAbs ≤ A) : ∀ x ∈ mulI n xs, x.natAbs ≤ N * A := fun y hy => by
  obtain ⟨x, h, rfl⟩ := List.mem_map.mp hy
  exact mul_le hn (hx x h)
/-! equal tuples of ints are equal -/
mutual
theorem eqv_rI : ∀ xs : List Int, PyData.eqvAll (xs.map .int) (xs.map .int) = true
  | [] => rfl
  | x :: r => by
    show (PyData.eqv (.int x) (.int x) && PyData.eqvAll (r.map .int) (r.map .int)) = true
    rw [eqv_rI r, Bool.and_true]
    exact beq_self_eq_true x
end
theorem lay_I : ∀ xs : List Int, PyData.canLayAll0 (xs.map .int) = true
  | [] => rfl
  | x :: r => by
    show (PyData.canLay0 (.int x) && PyData.canLayAll0 (r.map .int)) = true
    rw [lay_I r]
    rfl
theorem deep_I : ∀ xs : List Int, PyData.depthAll (xs.map .int) = 0
  | [] => rfl
  | x :: r => by
    show max (PyData.depth (.int x)) (PyData.depthAll (r.map .int)) = 0
    rw [deep_I r]
    rfl
theorem shaped_I (xs : List Int) : SeqAt.shaped (.tuple (xs.map .int)) = true := by
  unfold SeqAt.shaped
  rw [show PyData.canLay0 (.tuple (xs.map .int)) = PyData.canLayAll0 (xs.map .int) from rfl, lay_I, show PyData.depth (.tuple (xs.map .int)) = PyData.depthAll (xs.map .int) + 1 from rfl, deep_I]
  rfl
theorem eqT (xs : List Int) (cs : List HC) : oEq (tI xs) (tI xs) cs = .ok (.d (.bool true)) cs := by
  unfold oEq
  simp only [viewD, eqD, shaped_I, if_true, and_self]
  show Res.ok (Sl.d (PyData.bool (PyData.eqvAll (xs.map .int) (xs.map .int)))) cs = _
  rw [eqv_rI]
theorem neT (xs : List Int) (cs : List HC) : oNe (tI xs) (tI xs) cs = .ok (.d (.bool false)) cs := by
  unfold oNe
  simp only [viewD, eqD, shaped_I, if_true, and_self]
  show Res.ok (Sl.d (PyData.bool (!PyData.eqvAll (xs.map .int) (xs.map .int)))) cs = _
  rw [eqv_rI]
  rfl
end Com
set_option maxHeartbeats 4000000
namespace Com
open PySem PySem.Spec PyProof.Rows L2 Mir
local macro_rules | `(tactic| walk_at "mir") => `(tactic| first
  | with_reducible refine wp_seq ?_ | with_reducible refine wp_nx ?_ | with_reducible refine wp_rt ?_ | with_reducible refine wp_bk ?_ | with_reducible refine wp_ct ?_
  | with_reducible refine fk_nx ?_ | with_reducible refine fk_ct ?_ | with_reducible refine fk_rt ?_ | with_reducible refine fk_bk ?_
  | with_reducible refine wp_dd ?_ | with_reducible refine wp_dn ?_
  | ((with_reducible refine wp_vari ?_); refine ⟨_, rfl, ?_⟩) | with_reducible refine wp_c ?_ | with_reducible refine wp_bin ?_
  | with_reducible refine wp_add ?_ | with_reducible refine wp_sub ?_ | with_reducible refine wp_lt ?_ | with_reducible refine wp_le ?_ | with_reducible refine wp_gt ?_ | with_reducible refine wp_ge ?_
  | with_reducible refine wp_eqI ?_ | with_reducible refine wp_neI ?_ | with_reducible refine wp_neg ?_ | with_reducible refine wp_un ?_
  | with_reducible refine wp_cut ?_ | with_reducible refine wp_cutT ?_ | with_reducible refine wp_no ?_ | with_reducible refine wp_part ?_ | with_reducible refine wp_toB ?_ | with_reducible refine wp_test ?_
  | with_reducible refine wp_chain ?_ | with_reducible refine wp_andT ?_ | with_reducible refine wp_orT ?_ | with_reducible refine wp_notT ?_ | with_reducible refine wp_and ?_ | with_reducible refine wp_or ?_ | with_reducible refine wp_not ?_
  | with_reducible refine wp_if ?_ | with_reducible refine wp_sif ?_ | with_reducible refine wp_isi ?_ | with_reducible refine wp_nil ?_ | with_reducible refine wp_cons ?_ | with_reducible refine wp_tup ?_ | with_reducible refine wp_lst ?_
  | with_reducible refine wp_L ?_ | with_reducible refine wp_New ?_ | with_reducible refine wp_call ?_ | with_reducible refine wp_own ?_ | with_reducible refine wp_ownL ?_
  | with_reducible refine wp_abs ?_ | with_reducible refine wp_int ?_ | with_reducible refine wp_intB ?_ | with_reducible refine wp_maxX ?_ | with_reducible refine wp_minX ?_ | with_reducible refine wp_tupleT ?_
  | with_reducible refine wp_isB ?_ | with_reducible refine wp_isNo ?_ | with_reducible refine wp_notB ?_ | with_reducible refine wp_notNo ?_ | with_reducible refine wp_parN ?_ | with_reducible refine wp_rgs ?_ | with_reducible refine wp_c0 ?_ | with_reducible refine wp_listRg ?_ | with_reducible refine wp_binL ?_ | with_reducible refine wp_lenD ?_
  | with_reducible refine wp_snil ?_ | with_reducible refine wp_break ?_ | with_reducible refine wp_cont ?_ | with_reducible refine wp_ret ?_ | with_reducible refine wp_set ?_ | with_reducible refine wp_new ?_ | with_reducible refine wp_par ?_ | with_reducible refine wp_drop ?_
  | with_reducible refine wp_put ?_ | with_reducible refine wp_app ?_ | with_reducible refine wp_rng1 ?_ | with_reducible refine wp_zipX ?_ | with_reducible refine wp_forN ?_ | with_reducible refine wp_seqN ?_ | with_reducible refine wp_zipN ?_ | with_reducible refine wp_enum ?_ | with_reducible refine wp_lc ?_ | with_reducible refine wp_dc ?_ | with_reducible refine wp_for ?_ | with_reducible refine wp_listOf ?_
  | ((with_reducible refine ifK_t ?_ ?_); rfl) | ((with_reducible refine ifK_f ?_ ?_); rfl)
  | ((with_reducible refine ex_id ?_); (first | refine ⟨_, rfl, Nat.le_of_ble_eq_true rfl, ?_⟩ | refine ⟨_, rfl, ?_⟩))
  | refine ⟨_, rfl, Nat.le_of_ble_eq_true rfl, ?_⟩ | refine ⟨_, rfl, ?_⟩)
local macro_rules | `(tactic| walk_at "mis") => `(tactic| first
  | with_reducible refine wp_nx ?_ | with_reducible refine wp_rt ?_ | with_reducible refine wp_bk ?_ | with_reducible refine wp_ct ?_
  | with_reducible refine fk_nx ?_ | with_reducible refine fk_ct ?_ | with_reducible refine fk_rt ?_ | with_reducible refine fk_bk ?_
  | with_reducible refine wp_dd ?_ | with_reducible refine wp_dn ?_
  | ((with_reducible refine wp_vari ?_); refine ⟨_, rfl, ?_⟩) | with_reducible refine wp_c ?_ | with_reducible refine wp_bin ?_
  | with_reducible refine wp_add ?_ | with_reducible refine wp_sub ?_ | with_reducible refine wp_lt ?_ | with_reducible refine wp_le ?_ | with_reducible refine wp_gt ?_ | with_reducible refine wp_ge ?_
  | with_reducible refine wp_eqI ?_ | with_reducible refine wp_neI ?_ | with_reducible refine wp_neg ?_ | with_reducible refine wp_un ?_
  | with_reducible refine wp_cut ?_ | with_reducible refine wp_cutT ?_ | with_reducible refine wp_no ?_ | with_reducible refine wp_part ?_ | with_reducible refine wp_toB ?_ | with_reducible refine wp_test ?_
  | with_reducible refine wp_chain ?_ | with_reducible refine wp_andT ?_ | with_reducible refine wp_orT ?_ | with_reducible refine wp_notT ?_ | with_reducible refine wp_and ?_ | with_reducible refine wp_or ?_ | with_reducible refine wp_not ?_
  | with_reducible refine wp_if ?_ | with_reducible refine wp_sif ?_ | with_reducible refine wp_isi ?_ | with_reducible refine wp_nil ?_ | with_reducible refine wp_cons ?_ | with_reducible refine wp_tup ?_ | with_reducible refine wp_lst ?_
  | with_reducible refine wp_L ?_ | with_reducible refine wp_New ?_ | with_reducible refine wp_call ?_ | with_reducible refine wp_own ?_ | with_reducible refine wp_ownL ?_
  | with_reducible refine wp_abs ?_ | with_reducible refine wp_int ?_ | with_reducible refine wp_intB ?_ | with_reducible refine wp_maxX ?_ | with_reducible refine wp_minX ?_ | with_reducible refine wp_tupleT ?_
  | with_reducible refine wp_isB ?_ | with_reducible refine wp_isNo ?_ | with_reducible refine wp_notB ?_ | with_reducible refine wp_notNo ?_ | with_reducible refine wp_parN ?_ | with_reducible refine wp_rgs ?_ | with_reducible refine wp_c0 ?_ | with_reducible refine wp_listRg ?_ | with_reducible refine wp_binL ?_ | with_reducible refine wp_lenD ?_
  | with_reducible refine wp_snil ?_ | with_reducible refine wp_break ?_ | with_reducible refine wp_cont ?_ | with_reducible refine wp_ret ?_ | with_reducible refine wp_set ?_ | with_reducible refine wp_new ?_ | with_reducible refine wp_par ?_ | with_reducible refine wp_drop ?_
  | with_reducible refine wp_put ?_ | with_reducible refine wp_app ?_ | with_reducible refine wp_rng1 ?_ | with_reducible refine wp_zipX ?_ | with_reducible refine wp_forN ?_ | with_reducible refine wp_seqN ?_ | with_reducible refine wp_zipN ?_ | with_reducible refine wp_enum ?_ | with_reducible refine wp_lc ?_ | with_reducible refine wp_dc ?_ | with_reducible refine wp_for ?_ | with_reducible refine wp_listOf ?_
  | ((with_reducible refine ifK_t ?_ ?_); rfl) | ((with_reducible refine ifK_f ?_ ?_); rfl)
  | ((with_reducible refine ex_id ?_); (first | refine ⟨_, rfl, Nat.le_of_ble_eq_true rfl, ?_⟩ | refine ⟨_, rfl, ?_⟩))
  | refine ⟨_, rfl, Nat.le_of_ble_eq_true rfl, ?_⟩ | refine ⟨_, rfl, ?_⟩)
local macro_rules | `(tactic| walk_at "mir") => `(tactic| with_reducible refine wp_is (pow60 _) ?_)
/-! ### drawing -/
theorem frm_snoc {k : Nat} {cs cs' : List HC} {x : HC} (h : Frm k (cs ++ [x]) cs') (hk : k < cs.length) : ∃ cs2, cs' = cs2 ++ [x] ∧ Frm k cs cs2 := by
  obtain ⟨hl, hf⟩ := h
  have hl' : cs'.length = cs.length + 1 := by simpa using hl
  have e1 : cs'[cs.length]? = some x := by
    rw [hf _ (by omega)]
    simp
  refine ⟨cs'.take cs.length, ?_, by rw [List.length_take]; omega, fun j hj => ?_⟩
  · have h2 := List.take_append_drop cs.length cs'
    have h3 : cs'.drop cs.length = [x] := by
      rw [List.drop_eq_getElem_cons (by omega)]
      have : cs'[cs.length]'(by omega) = x := Option.some.inj ((List.getElem?_eq_getElem (by omega)).symm.trans e1)
      rw [this, List.drop_eq_nil_of_le (by omega)]
    rw [h3] at h2
    exact h2.symm
  · rw [List.getElem?_take]
    split
    · rename_i hlt
      rw [hf j hj, List.getElem?_append_left hlt]
    · rw [List.getElem?_eq_none (by omega)]
theorem spin_snoc {n k : Nat} {cs : List HC} {x : HC} (hk : k < cs.length) : Spin n k (cs ++ [x]) ↔ Spin n k cs := by
  unfold Spin
  rw [List.getElem?_append_left hk]
theorem spin_lt {n k : Nat} {cs : List HC} (h : Spin n k cs) : k < cs.length := by
  obtain ⟨a, b, c, e, _⟩ := h
  exact (List.getElem?_eq_some_iff.mp e).1
theorem many_wp {k n : Nat} {cs : List HC} {P : Sl → List HC → Prop} (h : Spin n k cs) (hn : n + 10 < 2 ^ 60) (q : ∀ (m : Int) cs', 0 ≤ m → m ≤ 7 → Spin (n + 1) k cs' → Frm k cs cs' → P (.d (.int m)) cs') : Wp (m__law_many_drawn [.h k] cs) P := by
  refine wp_def ?_
  show Wp (b__law_many_drawn [some (.h k)] cs) _
  unfold b__law_many_drawn
  repeat walk_at "mir"
  refine ⟨rfl, among_wp h (by omega) (fun _ _ => rfl) (Nat.le_of_ble_eq_true rfl) (Nat.le_of_ble_eq_true rfl) fun d cs1 hd sp f => ?_⟩
  obtain ⟨i, rfl, i0, i1⟩ : ∃ i : Int, d = .int i ∧ 0 ≤ i ∧ i ≤ 7 := by
    simp only [List.mem_cons, List.not_mem_nil, or_false] at hd
    rcases hd with e | e | e | e | e | e | e | e | e | e | e <;> exact ⟨_, e, by decide, by decide⟩
  repeat walk_at "mir"
  rw [f.take]
  exact q i cs1 i0 i1 sp f
theorem mem_set {α : Type} {xs : List α} {j : Nat} {x y : α} (h : y ∈ xs.set j x) : y = x ∨ y ∈ xs := by
  rcases List.mem_or_eq_of_mem_set h with h | h
  · exact .inr h
  · exact .inl h
theorem formdrawn_wp {k n : Nat} {cs : List HC} {many most : Int} {P : Sl → List HC → Prop} (h : Spin n k cs) (hn : n + 100 < 2 ^ 60) (hm0 : 0 ≤ many) (hm : many ≤ 14) (m0 : 0 < most) (m1 : most ≤ 100)
    (q : ∀ xs cs', xs.length = many.toNat + 1 → (∀ x ∈ xs, x.natAbs ≤ 100) → Spin (n + 20) k cs' → Frm k cs cs' → P (tI xs) cs') : Wp (m__law_form_drawn [.h k, .d (.int many), .d (.int most)] cs) P := by
  have hk := spin_lt h
  refine wp_def ?_
  show Wp (b__law_form_drawn [some (.h k), some (.d (.int many)), some (.d (.int most)), none, none] cs) _
  unfold b__law_form_drawn
  repeat walk_at "mir"
  refine wp_mul (mulc (by decide) (by omega)) ?_
  repeat walk_at "mir"
  refine ⟨rfl, spin_wp h (by omega) (by omega) (Nat.lt_trans (lg (n := 60) (by omega) (by decide)) (by decide)) fun r cs1 r0 r1 s1 f1 => ?_⟩
  repeat walk_at "mir"
  refine wp_repL ⟨by omega, by omega, sl_of (by simp only [List.length_cons, List.length_nil]; omega)⟩ ?_
  refine wp_catL (a := [.int (r - most)]) (b := (List.replicate many.toNat (0 : Int)).map .int) rfl (by rw [rep_flat]; rfl) (sl_of (by simp; omega)) ?_
  have e0 : [PyData.int (r - most)] ++ (List.replicate many.toNat (0 : Int)).map .int = ((r - most) :: List.replicate many.toNat 0).map .int := rfl
  rw [e0]
  have hl0 : ((r - most) :: List.replicate many.toNat (0 : Int)).length = many.toNat + 1 := by simp
  have hb0 : ∀ x ∈ (r - most) :: List.replicate many.toNat (0 : Int), x.natAbs ≤ 100 := fun x hx => by
    rcases List.mem_cons.mp hx with e | e
    · rw [e]
      omega
    · rw [List.eq_of_mem_replicate e]
      exact Nat.zero_le _
  generalize (r - most) :: List.replicate many.toNat (0 : Int) = xs0 at hl0 hb0
  have hk1 : k < cs1.length := spin_lt s1
  refine wp_nx ?_
  refine wp_mid (fun ρ cs' => ∃ (cs2 : List HC) (xs : List Int) (x4 : Option Sl), cs' = cs2 ++ [.lst (xs.map .int)] ∧ cs2.length = cs.length ∧ xs.length = many.toNat + 1 ∧ (∀ x ∈ xs, x.natAbs ≤ 100) ∧ Spin (n + 20) k cs2 ∧ Frm k cs cs2 ∧ ρ = [some (.h k), some (.d (.int many)), some (.d (.int most)), some (.h cs.length), x4]) ?_ fun ρ cs' hJ => ?_
  · have turns : ∀ (cs3 : List HC) (t : Int), 0 ≤ t → t ≤ 3 → Spin (n + 2) k cs3 → Frm k cs cs3 → (0 < t → 0 < many) → Wp (forL (gSet 4) (sPut (mVar 3) (mBin oAdd (mC (.int 1)) (mOwn 2 m__law_spin (mCons (mVar 0) (mCons (mVar 1) (mNil))))) (mOwn 2 m__law_among (mCons (mVar 0) (mCons (mL (mLst (mCons (mC (.int 1)) (mCons (mC (.int 1)) (mCons (mC (.int 1)) (mCons (mUn oNeg (mC (.int 1))) (mCons (mUn oNeg (mC (.int 1))) (mCons (mC (.int 2)) (mCons (mUn oNeg (mC (.int 2))) (mCons (mC (.int 3)) (mNil))))))))))) (mNil))))) (rngD 0 t.toNat) [some (.h k), some (.d (.int many)), some (.d (.int most)), some (.h cs.length), none] (cs3 ++ [.lst (xs0.map .int)]))
        (nxK fun ρ cs' => ∃ (cs2 : List HC) (xs : List Int) (x4 : Option Sl), cs' = cs2 ++ [.lst (xs.map .int)] ∧ cs2.length = cs.length ∧ xs.length = many.toNat + 1 ∧ (∀ x ∈ xs, x.natAbs ≤ 100) ∧ Spin (n + 20) k cs2 ∧ Frm k cs cs2 ∧ ρ = [some (.h k), some (.d (.int many)), some (.d (.int most)), some (.h cs.length), x4]) := fun cs3 t t0 t1 s3 f3 tm => by
      refine wp_forAll (I := fun j ρ cs' => ∃ (cs2 : List HC) (xs : List Int) (x4 : Option Sl), cs' = cs2 ++ [.lst (xs.map .int)] ∧ cs2.length = cs.length ∧ xs.length = many.toNat + 1 ∧ (∀ x ∈ xs, x.natAbs ≤ 100) ∧ Spin (n + 2 + 2 * j) k cs2 ∧ Frm k cs cs2 ∧ ρ = [some (.h k), some (.d (.int many)), some (.d (.int most)), some (.h cs.length), x4]) (n := 0)
        ⟨cs3, xs0, _, rfl, f3.1, hl0, hb0, s3, f3, rfl⟩ (fun j d ej ρ cs' hI => ?_) fun ρ cs' hI => ?_
      · obtain ⟨cs2, xs, x4, rfl, hc2, hl, hb, sp, fr, rfl⟩ := hI
        have hj := (List.getElem?_eq_some_iff.mp ej).1
        rw [rngD_len] at hj
        have hmany := tm (by omega)
        have hk2 : k < cs2.length := spin_lt sp
        rw [Nat.zero_add] at sp ⊢
        refine ⟨_, rfl, ?_⟩
        repeat walk_at "mir"
        refine ⟨rfl, among_wp ((spin_snoc hk2).mpr sp) (by omega) (fun _ _ => rfl) (Nat.le_of_ble_eq_true rfl) (Nat.le_of_ble_eq_true rfl) fun d cs4 hd s4 f4 => ?_⟩
        obtain ⟨v, rfl, hv⟩ : ∃ i : Int, d = .int i ∧ i.natAbs ≤ 100 := by
          simp only [List.mem_cons, List.not_mem_nil, or_false] at hd
          rcases hd with e | e | e | e | e | e | e | e <;> exact ⟨_, e, by decide⟩
        clear hd
        obtain ⟨cs5, rfl, f5⟩ := frm_snoc f4 hk2
        repeat walk_at "mir"
        refine ⟨rfl, spin_wp s4 (by omega) (by omega) (Nat.lt_trans (lg (n := 60) (by omega) (by decide)) (by decide)) fun p cs6 p0 p1 s6 f6 => ?_⟩
        have hk5 : k < cs5.length := by rw [f5.1]; exact hk2
        obtain ⟨cs7, rfl, f7⟩ := frm_snoc f6 hk5
        have hk7 : k < cs7.length := by rw [f7.1]; exact hk5
        have hc7 : cs7.length = cs.length := by rw [f7.1, f5.1, hc2]
        repeat walk_at "mir"
        have hg : (cs7 ++ [HC.lst (xs.map .int)])[cs.length]? = some (.lst (xs.map .int)) := by
          rw [← hc7]
          simp
        refine ⟨_, putH (j := (1 + p).toNat) hg ?_, ?_⟩
        · rw [List.length_map, hl, show (1 + p) = (((1 + p).toNat : Nat) : Int) by omega]
          exact ix_at (by omega)
        repeat walk_at "mir"
        refine ⟨cs7, xs.set (1 + p).toNat v, _, ?_, hc7, by rw [List.length_set]; exact hl, fun x hx => ?_, ((spin_snoc hk7).mp s6).mono (by omega), (fr.trans f5).trans f7, rfl⟩
        · rw [← hc7, map_set]
          simp
        · rcases mem_set hx with e | e
          · rw [e]
            exact hv
          · exact hb x e
      · obtain ⟨cs2, xs, x4, e1, e2, e3, e4, e5, e6, e7⟩ := hI
        rw [Nat.zero_add, rngD_len] at e5
        exact ⟨cs2, xs, x4, e1, e2, e3, e4, e5.mono (by omega), e6, e7⟩
    repeat walk_at "mir"
    refine ifK_b (fun e => ?_) (fun e => ?_)
    · have hmany : 0 < many := by simpa using e
      repeat walk_at "mir"
      refine ⟨rfl, among_wp ((spin_snoc hk1).mpr s1) (by omega) (fun _ _ => rfl) (Nat.le_of_ble_eq_true rfl) (Nat.le_of_ble_eq_true rfl) fun d cs2 hd s2 f2 => ?_⟩
      obtain ⟨t, rfl, t0, t1⟩ : ∃ i : Int, d = .int i ∧ 0 ≤ i ∧ i ≤ 3 := by
        simp only [List.mem_cons, List.not_mem_nil, or_false] at hd
        rcases hd with e | e | e | e | e | e | e <;> exact ⟨_, e, by decide, by decide⟩
      clear hd
      obtain ⟨cs3, rfl, f3⟩ := frm_snoc f2 hk1
      refine ⟨_, rfl, by omega, by omega, ?_⟩
      have hk3 : k < cs3.length := by rw [f3.1]; exact hk1
      rw [show cs1.length = cs.length from f1.1]
      exact turns cs3 t t0 t1 ((spin_snoc hk3).mp s2) (f1.trans f3) fun _ => hmany
    · repeat walk_at "mir"
      refine ⟨by decide, by decide, ?_⟩
      rw [show cs1.length = cs.length from f1.1]
      exact turns cs1 0 (by decide) (by decide) (s1.mono (by omega)) f1 fun z => absurd z (by decide)
  · obtain ⟨cs2, xs, x4, rfl, hc2, hl, hb, sp, fr, rfl⟩ := hJ
    repeat walk_at "mir"
    refine wp_tuple (ds := xs.map .int) (viewH (by rw [← hc2]; simp)) ?_
    repeat walk_at "mir"
    have e : (cs2 ++ [HC.lst (xs.map .int)]).take cs.length = cs2 := by rw [← hc2]; simp
    rw [e]
    exact q xs cs2 hl hb sp fr
end Com
set_option maxHeartbeats 4000000
namespace Com
open PySem PySem.Spec PyProof.Rows L2 Mir
local macro_rules | `(tactic| walk_at "mir") => `(tactic| first
  | with_reducible refine wp_seq ?_ | with_reducible refine wp_nx ?_ | with_reducible refine wp_rt ?_ | with_reducible refine wp_bk ?_ | with_reducible refine wp_ct ?_
  | with_reducible refine fk_nx ?_ | with_reducible refine fk_ct ?_ | with_reducible refine fk_rt ?_ | with_reducible refine fk_bk ?_
  | with_reducible refine wp_dd ?_ | with_reducible refine wp_dn ?_
  | ((with_reducible refine wp_vari ?_); refine ⟨_, rfl, ?_⟩) | with_reducible refine wp_c ?_ | with_reducible refine wp_bin ?_
  | with_reducible refine wp_add ?_ | with_reducible refine wp_sub ?_ | with_reducible refine wp_lt ?_ | with_reducible refine wp_le ?_ | with_reducible refine wp_gt ?_ | with_reducible refine wp_ge ?_
  | with_reducible refine wp_eqI ?_ | with_reducible refine wp_neI ?_ | with_reducible refine wp_neg ?_ | with_reducible refine wp_un ?_
  | with_reducible refine wp_cut ?_ | with_reducible refine wp_cutT ?_ | with_reducible refine wp_no ?_ | with_reducible refine wp_part ?_ | with_reducible refine wp_toB ?_ | with_reducible refine wp_test ?_
  | with_reducible refine wp_chain ?_ | with_reducible refine wp_andT ?_ | with_reducible refine wp_orT ?_ | with_reducible refine wp_notT ?_ | with_reducible refine wp_and ?_ | with_reducible refine wp_or ?_ | with_reducible refine wp_not ?_
  | with_reducible refine wp_if ?_ | with_reducible refine wp_sif ?_ | with_reducible refine wp_isi ?_ | with_reducible refine wp_nil ?_ | with_reducible refine wp_cons ?_ | with_reducible refine wp_tup ?_ | with_reducible refine wp_lst ?_
  | with_reducible refine wp_L ?_ | with_reducible refine wp_New ?_ | with_reducible refine wp_call ?_ | with_reducible refine wp_own ?_ | with_reducible refine wp_ownL ?_
  | with_reducible refine wp_abs ?_ | with_reducible refine wp_int ?_ | with_reducible refine wp_intB ?_ | with_reducible refine wp_maxX ?_ | with_reducible refine wp_minX ?_ | with_reducible refine wp_tupleT ?_
  | with_reducible refine wp_isB ?_ | with_reducible refine wp_isNo ?_ | with_reducible refine wp_notB ?_ | with_reducible refine wp_notNo ?_ | with_reducible refine wp_parN ?_ | with_reducible refine wp_rgs ?_ | with_reducible refine wp_c0 ?_ | with_reducible refine wp_listRg ?_ | with_reducible refine wp_binL ?_ | with_reducible refine wp_lenD ?_
  | with_reducible refine wp_snil ?_ | with_reducible refine wp_break ?_ | with_reducible refine wp_cont ?_ | with_reducible refine wp_ret ?_ | with_reducible refine wp_set ?_ | with_reducible refine wp_new ?_ | with_reducible refine wp_par ?_ | with_reducible refine wp_drop ?_
  | with_reducible refine wp_put ?_ | with_reducible refine wp_app ?_ | with_reducible refine wp_rng1 ?_ | with_reducible refine wp_zipX ?_ | with_reducible refine wp_forN ?_ | with_reducible refine wp_seqN ?_ | with_reducible refine wp_zipN ?_ | with_reducible refine wp_enum ?_ | with_reducible refine wp_lc ?_ | with_reducible refine wp_dc ?_ | with_reducible refine wp_for ?_ | with_reducible refine wp_listOf ?_
  | ((with_reducible refine ifK_t ?_ ?_); rfl) | ((with_reducible refine ifK_f ?_ ?_); rfl)
  | ((with_reducible refine ex_id ?_); (first | refine ⟨_, rfl, Nat.le_of_ble_eq_true rfl, ?_⟩ | refine ⟨_, rfl, ?_⟩))
  | refine ⟨_, rfl, Nat.le_of_ble_eq_true rfl, ?_⟩ | refine ⟨_, rfl, ?_⟩)
local macro_rules | `(tactic| walk_at "mis") => `(tactic| first
  | with_reducible refine wp_nx ?_ | with_reducible refine wp_rt ?_ | with_reducible refine wp_bk ?_ | with_reducible refine wp_ct ?_
  | with_reducible refine fk_nx ?_ | with_reducible refine fk_ct ?_ | with_reducible refine fk_rt ?_ | with_reducible refine fk_bk ?_
  | with_reducible refine wp_dd ?_ | with_reducible refine wp_dn ?_
  | ((with_reducible refine wp_vari ?_); refine ⟨_, rfl, ?_⟩) | with_reducible refine wp_c ?_ | with_reducible refine wp_bin ?_
  | with_reducible refine wp_add ?_ | with_reducible refine wp_sub ?_ | with_reducible refine wp_lt ?_ | with_reducible refine wp_le ?_ | with_reducible refine wp_gt ?_ | with_reducible refine wp_ge ?_
  | with_reducible refine wp_eqI ?_ | with_reducible refine wp_neI ?_ | with_reducible refine wp_neg ?_ | with_reducible refine wp_un ?_
  | with_reducible refine wp_cut ?_ | with_reducible refine wp_cutT ?_ | with_reducible refine wp_no ?_ | with_reducible refine wp_part ?_ | with_reducible refine wp_toB ?_ | with_reducible refine wp_test ?_
  | with_reducible refine wp_chain ?_ | with_reducible refine wp_andT ?_ | with_reducible refine wp_orT ?_ | with_reducible refine wp_notT ?_ | with_reducible refine wp_and ?_ | with_reducible refine wp_or ?_ | with_reducible refine wp_not ?_
  | with_reducible refine wp_if ?_ | with_reducible refine wp_sif ?_ | with_reducible refine wp_isi ?_ | with_reducible refine wp_nil ?_ | with_reducible refine wp_cons ?_ | with_reducible refine wp_tup ?_ | with_reducible refine wp_lst ?_
  | with_reducible refine wp_L ?_ | with_reducible refine wp_New ?_ | with_reducible refine wp_call ?_ | with_reducible refine wp_own ?_ | with_reducible refine wp_ownL ?_
  | with_reducible refine wp_abs ?_ | with_reducible refine wp_int ?_ | with_reducible refine wp_intB ?_ | with_reducible refine wp_maxX ?_ | with_reducible refine wp_minX ?_ | with_reducible refine wp_tupleT ?_
  | with_reducible refine wp_isB ?_ | with_reducible refine wp_isNo ?_ | with_reducible refine wp_notB ?_ | with_reducible refine wp_notNo ?_ | with_reducible refine wp_parN ?_ | with_reducible refine wp_rgs ?_ | with_reducible refine wp_c0 ?_ | with_reducible refine wp_listRg ?_ | with_reducible refine wp_binL ?_ | with_reducible refine wp_lenD ?_
  | with_reducible refine wp_snil ?_ | with_reducible refine wp_break ?_ | with_reducible refine wp_cont ?_ | with_reducible refine wp_ret ?_ | with_reducible refine wp_set ?_ | with_reducible refine wp_new ?_ | with_reducible refine wp_par ?_ | with_reducible refine wp_drop ?_
  | with_reducible refine wp_put ?_ | with_reducible refine wp_app ?_ | with_reducible refine wp_rng1 ?_ | with_reducible refine wp_zipX ?_ | with_reducible refine wp_forN ?_ | with_reducible refine wp_seqN ?_ | with_reducible refine wp_zipN ?_ | with_reducible refine wp_enum ?_ | with_reducible refine wp_lc ?_ | with_reducible refine wp_dc ?_ | with_reducible refine wp_for ?_ | with_reducible refine wp_listOf ?_
  | ((with_reducible refine ifK_t ?_ ?_); rfl) | ((with_reducible refine ifK_f ?_ ?_); rfl)
  | ((with_reducible refine ex_id ?_); (first | refine ⟨_, rfl, Nat.le_of_ble_eq_true rfl, ?_⟩ | refine ⟨_, rfl, ?_⟩))
  | refine ⟨_, rfl, Nat.le_of_ble_eq_true rfl, ?_⟩ | refine ⟨_, rfl, ?_⟩)
local macro_rules | `(tactic| walk_at "mir") => `(tactic| with_reducible refine wp_is (pow60 _) ?_)
/-! ### unknowns moved -/
theorem putD_new {acc : List (Key × D)} {k : Key} {d : D} (h : ∀ p ∈ acc, p.1 ≠ k) : putD acc k d = acc ++ [(k, d)] := by
  unfold putD
  rw [if_neg]
  rw [Bool.not_eq_true, List.any_eq_false]
  exact fun p hp => by simpa using h p hp
theorem fold_put (Fk : D → Key) (Fv : D → D) : ∀ (ds : List D) (acc : List (Key × D)), (∀ d ∈ ds, ∀ p ∈ acc, p.1 ≠ Fk d) → (ds.map Fk).Nodup → (ds.foldl (fun acc d => putD acc (Fk d) (Fv d)) acc).length = acc.length + ds.length
  | [], acc, _, _ => rfl
  | d :: r, acc, h, nd => by
    rw [List.map_cons, List.nodup_cons] at nd
    have e := putD_new (d := Fv d) (h d List.mem_cons_self)
    rw [List.foldl_cons, e, fold_put Fk Fv r _ (fun d' hd p hp => ?_) nd.2, List.length_append, List.length_cons, List.length_cons, List.length_nil]
    · omega
    · rcases List.mem_append.mp hp with z | z
      · exact h d' (List.mem_cons_of_mem _ hd) p z
      · have e : p = (Fk d, Fv d) := by simpa using z
        rw [e]
        exact fun q => nd.1 (by rw [show Fk d = Fk d' from q]; exact List.mem_map_of_mem hd)
def intK : D → Key := fun d => match d with
  | .int i => .inl i
  | _ => .inl 0
theorem pairs_len (acc : List (Key × D)) : (pairsD acc).length = acc.length := by simp [pairsD]
theorem places_eq (ps : List Int) (c m : Int) (cs : List HC) (hl : (ps.length : Int) = c) (h14 : ps.length ≤ 14) (hp : ∀ p ∈ ps, 0 ≤ p ∧ p < m) (nd : ps.Nodup) : m__are_places [.d (.int c), .d (.int m), tI ps] cs = .ok (.d (.bool true)) cs := by
  refine Wp.eq (wp_def ?_)
  show Wp (b__are_places [some (.d (.int c)), some (.d (.int m)), some (tI ps), none] cs) _
  unfold b__are_places
  repeat walk_at "mir"
  refine wp_lenX (ds := ps.map .int) rfl ?_
  repeat walk_at "mir"
  refine ifK_f (by simp [hl]) ?_
  repeat walk_at "mir"
  refine wp_seqI (.inr rfl) rfl ⟨sl_of (by rw [List.length_map]; omega), ?_⟩
  refine wp_lcMap (fun d => .bool (fromD 0 (m - 1) d)) (fun d hd => ⟨_, rfl, ?_⟩) ?_
  · repeat walk_at "mir"
    refine ⟨rfl, wp_is (from_eq 0 (m - 1) d cs) ⟨rfl, rfl⟩⟩
  repeat walk_at "mir"
  refine wp_all rfl (boolsD_map (fromD 0 (m - 1)) (ps.map .int)) ?_
  rw [show (List.map (fromD 0 (m - 1)) (ps.map PyData.int)).all id = true from by
    rw [List.map_map, List.all_map, List.all_eq_true]
    intro p h
    obtain ⟨h1, h2⟩ := hp p h
    show (decide (0 ≤ p) && decide (p ≤ m - 1)) = true
    rw [decide_eq_true h1, decide_eq_true (by omega)]
    rfl]
  repeat walk_at "mir"
  refine wp_seqI (.inr rfl) rfl ⟨sl_of (by rw [List.length_map]; omega), ?_⟩
  refine wp_dcMap intK (fun _ => .bool true) (fun d hd => ?_) ?_
  · obtain ⟨p, _, rfl⟩ := List.mem_map.mp hd
    refine ⟨_, rfl, ?_, ?_⟩
    · repeat walk_at "mir"
      exact ⟨rfl, _, rfl, rfl⟩
    · repeat walk_at "mir"
      exact ⟨rfl, rfl⟩
  have hlen : ((ps.map PyData.int).foldl (fun acc d => putD acc (intK d) ((fun _ => PyData.bool true) d)) []).length = ps.length := by
    rw [fold_put intK _ (ps.map .int) [] (fun _ _ _ h => by cases h) ?_]
    · simp
    · rw [List.map_map]
      refine List.Pairwise.map _ (fun a b h => ?_) nd
      exact fun z => h (Sum.inl.inj z)
  repeat walk_at "mir"
  refine ⟨?_, List.take_length⟩
  congr 2
  rw [pairs_len, hlen, hl]
  simp
/-- numbers at their places -/
def setF : List Int → List Int → List Int → List Int
  | f :: fs, p :: ps, acc => setF fs ps (acc.set (p + 1).toNat f)
  | _, _, acc => acc
def movI (fs ps : List Int) (m : Nat) : List Int := match fs with
  | [] => []
  | f0 :: fs => setF fs ps (f0 :: List.replicate m 0)
theorem setF_len : ∀ (fs ps acc : List Int), (setF fs ps acc).length = acc.length
  | [], _, acc => by simp [setF]
  | _ :: _, [], acc => by simp [setF]
  | f :: fs, p :: ps, acc => by
    show (setF fs ps (acc.set _ f)).length = _
    rw [setF_len, List.length_set]
theorem setF_snoc : ∀ {fs ps acc : List Int} {k : Nat} {f p : Int}, fs[k]? = some f → ps[k]? = some p → setF (fs.take (k + 1)) (ps.take (k + 1)) acc = (setF (fs.take k) (ps.take k) acc).set (p + 1).toNat f
  | [], _, _, _, _, _, h, _ => by simp at h
  | _ :: _, [], _, _, _, _, _, h => by simp at h
  | f :: fs, p :: ps, acc, 0, _, _, h1, h2 => by
    simp at h1 h2
    subst h1 h2
    simp [setF]
  | f :: fs, p :: ps, acc, k + 1, f', p', h1, h2 => by
    show setF (fs.take (k + 1)) (ps.take (k + 1)) (acc.set _ f) = (setF (fs.take k) (ps.take k) (acc.set _ f)).set _ f'
    exact setF_snoc (by simpa using h1) (by simpa using h2)
theorem moved_eq {A : Nat} (f0 : Int) (fs ps : List Int) (m : Int) (cs : List HC) (m0 : 0 ≤ m) (hm : m ≤ 14) (hl : ps.length = fs.length) (h14 : fs.length ≤ 14) (hp : ∀ p ∈ ps, 0 ≤ p ∧ p < m) (nd : ps.Nodup) (hA : A < 10 ^ 60) (hf : ∀ x ∈ f0 :: fs, x.natAbs ≤ A) :
    m_moved [tI (f0 :: fs), tI ps, .d (.int m)] cs = .ok (tI (movI (f0 :: fs) ps m.toNat)) cs := by
  refine Wp.eq (wp_def ?_)
  show Wp (b_moved [some (tI (f0 :: fs)), some (tI ps), some (.d (.int m)), none, none, none] cs) _
  unfold b_moved
  have hlen : (((f0 :: fs).map PyData.int).length : Int) = fs.length + 1 := by simp
  repeat walk_at "mir"
  refine ⟨rfl, wp_is (any_eq (f0 :: fs) cs (by simp) (by simp; omega) fun x h => Nat.lt_of_le_of_lt (hf x h) hA) ?_⟩
  repeat walk_at "mir"
  refine ⟨rfl, wp_is (many_eq 14 m m0 hm cs) ?_⟩
  repeat walk_at "mir"
  refine wp_lenX (ds := (f0 :: fs).map .int) rfl ?_
  repeat walk_at "mir"
  refine ⟨rfl, wp_is (places_eq ps _ m cs (by omega) (by omega) hp nd) ?_⟩
  repeat walk_at "mir"
  refine wp_idxT (d := .int f0) (atI_nat (j := 0) rfl) ?_
  repeat walk_at "mir"
  refine wp_repL ⟨by omega, by omega, sl_of (by simp only [List.length_cons, List.length_nil]; omega)⟩ ?_
  refine wp_catL (a := [.int f0]) (b := (List.replicate m.toNat (0 : Int)).map .int) rfl (by rw [rep_flat]; rfl) (sl_of (by simp; omega)) ?_
  have e0 : [PyData.int f0] ++ (List.replicate m.toNat (0 : Int)).map .int = (f0 :: List.replicate m.toNat 0).map .int := rfl
  rw [e0]
  have ha : (f0 :: List.replicate m.toNat (0 : Int)).length = m.toNat + 1 := by simp
  have hq : movI (f0 :: fs) ps m.toNat = setF fs ps (f0 :: List.replicate m.toNat 0) := rfl
  rw [hq]
  generalize f0 :: List.replicate m.toNat (0 : Int) = acc at ha
  refine wp_nx ?_
  refine wp_mid (fun ρ cs' => cs' = cs ++ [.lst ((setF fs ps acc).map .int)] ∧ ∃ x4 x5, ρ = [some (tI (f0 :: fs)), some (tI ps), some (.d (.int m)), some (.h cs.length), x4, x5]) ?_ fun ρ cs' hJ => ?_
  · repeat walk_at "mir"
    refine ⟨(true, fs.map .int), (true, ps.map .int), by rw [cut1]; rfl, rfl, ?_⟩
    have zl : (zipD (fs.map .int) (ps.map .int)).length = fs.length := by rw [zip_len2 (by simpa using hl), List.length_map]
    refine wp_forAll (I := fun n ρ cs' => cs' = cs ++ [.lst ((setF (fs.take n) (ps.take n) acc).map .int)] ∧ ∃ x4 x5, ρ = [some (tI (f0 :: fs)), some (tI ps), some (.d (.int m)), some (.h cs.length), x4, x5]) (n := 0) ⟨rfl, _, _, rfl⟩ (fun k d ed ρ cs' hI => ?_) fun ρ cs' hI => ?_
    · obtain ⟨rfl, x4, x5, rfl⟩ := hI
      rw [Nat.zero_add]
      obtain ⟨a, b, ea, eb, rfl⟩ := zip_at ed
      obtain ⟨f, ef, rfl⟩ := int_get ea
      obtain ⟨p, ep, rfl⟩ := int_get eb
      obtain ⟨p0, p1⟩ := hp p (List.mem_of_getElem? ep)
      refine ⟨_, rfl, ?_⟩
      repeat walk_at "mir"
      refine ⟨_, putH (j := (p + 1).toNat) (ds := (setF (fs.take k) (ps.take k) acc).map .int) (by simp) ?_, ?_⟩
      · rw [List.length_map, setF_len, ha, show p + 1 = (((p + 1).toNat : Nat) : Int) by omega]
        exact ix_at (by omega)
      repeat walk_at "mir"
      refine ⟨?_, _, _, rfl⟩
      rw [setF_snoc ef ep, ← map_set]
      simp
    · obtain ⟨rfl, x4, x5, rfl⟩ := hI
      refine ⟨?_, x4, x5, rfl⟩
      rw [Nat.zero_add, show (zipD (true, fs.map PyData.int).2 (true, ps.map PyData.int).2).length = fs.length from zl, List.take_length, ← hl, List.take_length]
  · obtain ⟨rfl, x4, x5, rfl⟩ := hJ
    repeat walk_at "mir"
    refine wp_tuple (ds := (setF fs ps acc).map .int) (viewH (by simp)) ?_
    repeat walk_at "mir"
    exact ⟨rfl, by simp⟩
end Com
set_option maxHeartbeats 4000000
namespace K04
open PySem PySem.Spec PyProof.Rows L2 Mir
def topS (i : Nat) : Stmt := PySem.Challenge.pw_fallorflow_k04_whole_lowest_vectors_and.main.body.getD i (.Pass ⟨0, 0, 0, 0⟩)
abbrev s_is_long_row : Stmt := topS 7
theorem sc_is_long_row : FnScope ["many", "value", "part"] ["many", "value"] (defScope s_is_long_row) := ⟨rfl, rfl, rfl, by decide +kernel, rfl, by decide +kernel, by decide +kernel⟩
abbrev s_is_row_within : Stmt := topS 8
theorem sc_is_row_within : FnScope ["bound", "many", "value"] ["bound", "many", "value"] (defScope s_is_row_within) := ⟨rfl, rfl, rfl, by decide +kernel, rfl, by decide +kernel, by decide +kernel⟩
abbrev s_is_short_row : Stmt := topS 9
theorem sc_is_short_row : FnScope ["many", "value"] ["many", "value"] (defScope s_is_short_row) := ⟨rfl, rfl, rfl, by decide +kernel, rfl, by decide +kernel, by decide +kernel⟩
abbrev s_check_form : Stmt := topS 10
theorem sc_check_form : FnScope ["many", "form"] ["many", "form"] (defScope s_check_form) := ⟨rfl, rfl, rfl, by decide +kernel, rfl, by decide +kernel, by decide +kernel⟩
abbrev s_at_vector : Stmt := topS 12
theorem sc_at_vector : FnScope ["form", "vector", "one", "other"] ["form", "vector"] (defScope s_at_vector) := ⟨rfl, rfl, rfl, by decide +kernel, rfl, by decide +kernel, by decide +kernel⟩
abbrev s_opposite_of : Stmt := topS 13
theorem sc_opposite_of : FnScope ["form", "part"] ["form"] (defScope s_opposite_of) := ⟨rfl, rfl, rfl, by decide +kernel, rfl, by decide +kernel, by decide +kernel⟩
abbrev s_reduced : Stmt := topS 14
theorem sc_reduced : FnScope ["numbers", "common", "number"] ["numbers"] (defScope s_reduced) := ⟨rfl, rfl, rfl, by decide +kernel, rfl, by decide +kernel, by decide +kernel⟩
abbrev s__check_any_form : Stmt := topS 17
theorem sc__check_any_form : FnScope ["form"] ["form"] (defScope s__check_any_form) := ⟨rfl, rfl, rfl, by decide +kernel, rfl, by decide +kernel, by decide +kernel⟩
abbrev s__is_vector : Stmt := topS 18
theorem sc__is_vector : FnScope ["many", "value"] ["many", "value"] (defScope s__is_vector) := ⟨rfl, rfl, rfl, by decide +kernel, rfl, by decide +kernel, by decide +kernel⟩
abbrev s_value_at : Stmt := topS 19
theorem sc_value_at : FnScope ["form", "vector"] ["form", "vector"] (defScope s_value_at) := ⟨rfl, rfl, rfl, by decide +kernel, rfl, by decide +kernel, by decide +kernel⟩
abbrev s_lowest : Stmt := topS 20
theorem sc_lowest : FnScope ["vector"] ["vector"] (defScope s_lowest) := ⟨rfl, rfl, rfl, by decide +kernel, rfl, by decide +kernel, by decide +kernel⟩
abbrev s_opposite : Stmt := topS 21
theorem sc_opposite : FnScope ["form"] ["form"] (defScope s_opposite) := ⟨rfl, rfl, rfl, by decide +kernel, rfl, by decide +kernel, by decide +kernel⟩
abbrev s__law_spins : Stmt := topS 23
theorem sc__law_spins : FnScope ["script", "spot", "cell", "great"] ["script", "spot"] (defScope s__law_spins) := ⟨rfl, rfl, rfl, by decide +kernel, rfl, by decide +kernel, by decide +kernel⟩
abbrev s__law_spin : Stmt := topS 24
theorem sc__law_spin : FnScope ["spins", "total", "found", "one", "two"] ["spins", "total"] (defScope s__law_spin) := ⟨rfl, rfl, rfl, by decide +kernel, rfl, by decide +kernel, by decide +kernel⟩
abbrev s__law_among : Stmt := topS 25
theorem sc__law_among : FnScope ["spins", "items"] ["spins", "items"] (defScope s__law_among) := ⟨rfl, rfl, rfl, by decide +kernel, rfl, by decide +kernel, by decide +kernel⟩
abbrev s__law_plain_form : Stmt := topS 26
theorem sc__law_plain_form : FnScope ["spins", "many", "most", "at"] ["spins", "many", "most"] (defScope s__law_plain_form) := ⟨rfl, rfl, rfl, by decide +kernel, rfl, by decide +kernel, by decide +kernel⟩
abbrev s__law_shared : Stmt := topS 27
theorem sc__law_shared : FnScope ["numbers", "found", "number", "one", "other", "turn"] ["numbers"] (defScope s__law_shared) := ⟨rfl, rfl, rfl, by decide +kernel, rfl, by decide +kernel, by decide +kernel⟩
abbrev s__law_right : Stmt := topS 28
theorem sc__law_right : FnScope ["spins", "many", "size", "plain", "at", "number", "vector", "one", "told", "shared", "form", "values", "more", "first", "second"] ["spins"] (defScope s__law_right) := ⟨rfl, rfl, rfl, by decide +kernel, rfl, by decide +kernel, by decide +kernel⟩
abbrev s_law : Stmt := topS 29
theorem sc_law : FnScope ["script", "spot", "spins", "told"] ["script"] (defScope s_law) := ⟨rfl, rfl, rfl, by decide +kernel, rfl, by decide +kernel, by decide +kernel⟩
def b__law_shared : Rho → M Fl := sSeq (sSet 1 (mC (.int 0))) (sSeq (sFor (mSeq (mVar 0)) (gSet 2) (sSeq (sPar 3 4 (mVar 1) (mCall bAbs (mCons (mVar 2) (mNil)))) (sSeq (sFor (mRng1 (mC (.int 4000))) (gSet 5) (sSeq (sIf (mTest (mBin oEq (mVar 4) (mC (.int 0)))) (sBreak) (sNil)) (sPar 3 4 (mVar 4) (mBin oMod (mVar 3) (mVar 4))))) (sSet 1 (mVar 3))))) (sRet (mVar 1)))
def m__law_shared : List Sl → M (Sl) := mDef 6 b__law_shared
def b__law_right : Rho → M Fl := sSeq (sSet 1 (mOwn 2 Com.m__law_among (mCons (mVar 0) (mCons (mL (mLst (mCons (mC (.int 0)) (mCons (mC (.int 1)) (mCons (mC (.int 2)) (mCons (mC (.int 3)) (mCons (mC (.int 7)) (mCons (mC (.int 14)) (mNil))))))))) (mNil))))) (sSeq (sSet 2 (mOwn 2 Com.m__law_among (mCons (mVar 0) (mCons (mL (mLst (mCons (mC (.int 1)) (mCons (mC (.int 4)) (mCons (mBin oPow (mC (.int 10)) (mC (.int 6))) (mCons (mBin oPow (mC (.int 10)) (mC (.int 40))) (mNil))))))) (mNil))))) (sSeq (sSet 3 (mBin oAdd (mTup (mCons (mOwn 2 Com.m__law_spin (mCons (mVar 0) (mCons (mC (.int 4)) (mNil)))) (mNil))) (mCall bTuple (mCons (mL (mLc (mRng1 (mVar 1)) (gSet 4) (mYes) (mBin oSub (mOwn 2 Com.m__law_spin (mCons (mVar 0) (mCons (mBin oAdd (mBin oMul (mC (.int 2)) (mVar 2)) (mC (.int 1))) (mNil)))) (mVar 2)) [4])) (mNil))))) (sSeq (sSet 5 (mBin oAdd (mC (.int 1)) (mOwn 2 Com.m__law_spin (mCons (mVar 0) (mCons (mOwn 2 Com.m__law_among (mCons (mVar 0) (mCons (mL (mLst (mCons (mC (.int 1)) (mCons (mC (.int 6)) (mCons (mBin oPow (mC (.int 10)) (mC (.int 9))) (mNil)))))) (mNil)))) (mNil)))))) (sSeq (sSet 6 (mCall bTuple (mCons (mL (mLc (mSeq (mVar 3)) (gSet 7) (mYes) (mBin oMul (mVar 5) (mVar 7)) [7])) (mNil)))) (sSeq (sPar 8 9 (mOwn 1 Com.m_lowest (mCons (mVar 6) (mNil))) (mOwn 1 m__law_shared (mCons (mVar 6) (mNil)))) (sSeq (sIf (mTest (mBin oEq (mVar 9) (mC (.int 0)))) (sRet (mBin oEq (mVar 8) (mVar 6))) (sNil)) (sSeq (sIf (mOrT (mTest (mBin oNe (mCall bTuple (mCons (mL (mLc (mSeq (mVar 8)) (gSet 7) (mYes) (mBin oMul (mVar 9) (mVar 7)) [7])) (mNil))) (mVar 6))) (mOrT (mTest (mBin oNe (mOwn 1 m__law_shared (mCons (mVar 8) (mNil))) (mC (.int 1)))) (mTest (mBin oNe (mOwn 1 Com.m_lowest (mCons (mVar 8) (mNil))) (mVar 8))))) (sRet (mC (.bool false))) (sNil)) (sSeq (sSet 10 (mOwn 3 Com.m__law_plain_form (mCons (mVar 0) (mCons (mVar 1) (mCons (mC (.int 99)) (mNil)))))) (sSeq (sIf (mOrT (mTest (mBin oNe (mOwn 2 Com.m_value_at (mCons (mVar 10) (mCons (mVar 6) (mNil)))) (mBin oMul (mVar 9) (mOwn 2 Com.m_value_at (mCons (mVar 10) (mCons (mVar 8) (mNil))))))) (mTest (mBin oNe (mOwn 1 Com.m_opposite (mCons (mOwn 1 Com.m_opposite (mCons (mVar 10) (mNil))) (mNil))) (mVar 10)))) (sRet (mC (.bool false))) (sNil)) (sSeq (sSet 11 (mCall bTuple (mCons (mL (mLc (mRng1 (mVar 1)) (gSet 4) (mYes) (mBin oSub (mOwn 2 Com.m__law_spin (mCons (mVar 0) (mCons (mC (.int 21)) (mNil)))) (mC (.int 10))) [4])) (mNil)))) (sSeq (sSet 12 (mBin oAdd (mTup (mCons (mBin oAdd (mBin oSub (mBin oIdx (mVar 10) (mC (.int 0))) (mOwn 2 Com.m_value_at (mCons (mVar 10) (mCons (mBin oAdd (mTup (mCons (mC (.int 1)) (mNil))) (mVar 11)) (mNil))))) (mOwn 2 Com.m__law_among (mCons (mVar 0) (mCons (mL (mLst (mCons (mC (.int 0)) (mCons (mUn oNeg (mC (.int 1))) (mCons (mC (.int 1)) (mCons (mC (.int 5)) (mCons (mUn oNeg (mC (.int 5))) (mNil)))))))) (mNil))))) (mNil))) (mCut (mVar 10) (mPart (mC (.int 1))) (mNo)))) (sSeq (sPar 13 14 (mOwn 2 Com.m_value_at (mCons (mVar 12) (mCons (mBin oAdd (mTup (mCons (mC (.int 1)) (mNil))) (mVar 11)) (mNil)))) (mOwn 2 Com.m_value_at (mCons (mOwn 1 Com.m_opposite (mCons (mVar 12) (mNil))) (mCons (mBin oAdd (mTup (mCons (mC (.int 1)) (mNil))) (mVar 11)) (mNil))))) (sRet (mAnd (mBin oNe (mBin oGe (mVar 13) (mC (.int 0))) (mBin oGe (mVar 14) (mC (.int 0)))) (mBin oEq (mBin oAdd (mVar 13) (mVar 14)) (mUn oNeg (mC (.int 1))))))))))))))))))
def m__law_right : List Sl → M (Sl) := mDef 15 b__law_right
def b_law : Rho → M Fl := sSeq (sFor (mRng1 (mCall bMaxX (mCons (mC (.int 1)) (mCons (mCall bMinX (mCons (mC (.int 3)) (mCons (mCall bLenX (mCons (mVar 0) (mNil))) (mNil)))) (mNil))))) (gSet 1) (sSeq (sNew 2 (mOwnL 2 Com.m__law_spins (mCons (mVar 0) (mCons (mVar 1) (mNil))))) (sIf (mOrT (mNotT (mTest (mOwn 1 m__law_right (mCons (mVar 2) (mNil))))) (mOrT (mNotT (mTest (mOwn 1 m__law_right (mCons (mVar 2) (mNil))))) (mNotT (mTest (mOwn 1 m__law_right (mCons (mVar 2) (mNil))))))) (sRet (mC (.bool false))) (sNil)))) (sSeq (sSet 3 (mL (mLst (mCons (mOwn 1 Com.m_lowest (mCons (mTup (mCons (mC (.int 4)) (mCons (mC (.int 6)) (mCons (mUn oNeg (mC (.int 2))) (mNil))))) (mNil))) (mCons (mOwn 1 Com.m_lowest (mCons (mTup (mCons (mC (.int 0)) (mCons (mC (.int 0)) (mNil)))) (mNil))) (mCons (mOwn 1 Com.m_lowest (mCons (mTup (mCons (mC (.int 0)) (mCons (mUn oNeg (mC (.int 9))) (mCons (mC (.int 6)) (mNil))))) (mNil))) (mCons (mOwn 1 Com.m_lowest (mCons (mTup (mCons (mC (.int 5)) (mNil))) (mNil))) (mCons (mOwn 1 Com.m_opposite (mCons (mTup (mCons (mC (.int 3)) (mCons (mUn oNeg (mC (.int 1))) (mNil)))) (mNil))) (mCons (mOwn 1 Com.m_opposite (mCons (mTup (mCons (mUn oNeg (mC (.int 1))) (mNil))) (mNil))) (mNil)))))))))) (sRet (mBin oEq (mVar 3) (mL (mLst (mCons (mTup (mCons (mC (.int 2)) (mCons (mC (.int 3)) (mCons (mUn oNeg (mC (.int 1))) (mNil))))) (mCons (mTup (mCons (mC (.int 0)) (mCons (mC (.int 0)) (mNil)))) (mCons (mTup (mCons (mC (.int 0)) (mCons (mUn oNeg (mC (.int 3))) (mCons (mC (.int 2)) (mNil))))) (mCons (mTup (mCons (mC (.int 1)) (mNil))) (mCons (mTup (mCons (mUn oNeg (mC (.int 4))) (mCons (mC (.int 1)) (mNil)))) (mCons (mTup (mCons (mC (.int 0)) (mNil))) (mNil))))))))))))
def m_law : List Sl → M (Sl) := mDef 4 b_law
theorem bb_abs : bootBuiltins "abs" = some (.builtin "abs") := by decide +kernel
theorem bb_int : bootBuiltins "int" = some (.type "int") := by decide +kernel
theorem bb_len : bootBuiltins "len" = some (.builtin "len") := by decide +kernel
theorem bb_max : bootBuiltins "max" = some (.builtin "max") := by decide +kernel
theorem bb_min : bootBuiltins "min" = some (.builtin "min") := by decide +kernel
theorem bb_sum : bootBuiltins "sum" = some (.builtin "sum") := by decide +kernel
theorem bb_tuple : bootBuiltins "tuple" = some (.type "tuple") := by decide +kernel
structure Tops (K : PySem.W.Frag) (mg : Str → Option Value) : Prop where
  f_is_long_row : At K mg "is_long_row" s_is_long_row ["many", "value"]
  f_is_row_within : At K mg "is_row_within" s_is_row_within ["bound", "many", "value"]
  f_is_short_row : At K mg "is_short_row" s_is_short_row ["many", "value"]
  f_check_form : At K mg "check_form" s_check_form ["many", "form"]
  f_at_vector : At K mg "at_vector" s_at_vector ["form", "vector"]
  f_opposite_of : At K mg "opposite_of" s_opposite_of ["form"]
  f_reduced : At K mg "reduced" s_reduced ["numbers"]
  f__check_any_form : At K mg "_check_any_form" s__check_any_form ["form"]
  f__is_vector : At K mg "_is_vector" s__is_vector ["many", "value"]
  f_value_at : At K mg "value_at" s_value_at ["form", "vector"]
  f_lowest : At K mg "lowest" s_lowest ["vector"]
  f_opposite : At K mg "opposite" s_opposite ["form"]
  f__law_spins : At K mg "_law_spins" s__law_spins ["script", "spot"]
  f__law_spin : At K mg "_law_spin" s__law_spin ["spins", "total"]
  f__law_among : At K mg "_law_among" s__law_among ["spins", "items"]
  f__law_plain_form : At K mg "_law_plain_form" s__law_plain_form ["spins", "many", "most"]
  f__law_shared : At K mg "_law_shared" s__law_shared ["numbers"]
  f__law_right : At K mg "_law_right" s__law_right ["spins"]
  c_TOO_LONG : ∃ t, mg "TOO_LONG" = some (.int 1000000000000000000000000000000000000000000000000000000000000 t)
  c_MOST_UNKNOWNS : ∃ t, mg "MOST_UNKNOWNS" = some (.int 14 t)
  i_gcd : mg "gcd" = some (.builtin "math.gcd")
  z_abs : mg "abs" = none
  z_int : mg "int" = none
  z_isinstance : mg "isinstance" = none
  z_len : mg "len" = none
  z_max : mg "max" = none
  z_min : mg "min" = none
  z_range : mg "range" = none
  z_sum : mg "sum" = none
  z_tuple : mg "tuple" = none
  z_zip : mg "zip" = none
section
variable {P : Program} {w : World} {K : PySem.W.Frag} {mg : Str → Option Value} {base : Heap} {R : XR} (hR : RMono R) (T : Tops K mg)
include hR T
theorem ok_is_long_row : Df P w K mg base R "is_long_row" 1 2 Com.m_is_long_row := Df.mk' hR T.f_is_long_row sc_is_long_row fun f cdv A outer s H E hr =>
  bm_cons (sm_if (WM.tm (wm_or (tm_not (tm_val (em_isi (u := "tuple") (by decide) (by rfl) T.z_isinstance (by rfl) T.z_tuple bb_tuple (em_var 1)))) (wm_or1 (tm_cmp (om_ne hr.units) (em_callB (cb_lenX) (by rfl) T.z_len bb_len (am_cons (em_var 1) (am_nil))) (em_var 0))))) (bm_one (sm_ret (em_bl))) (bm_nil)) (bm_cons (sm_for PassesOwn.never rfl (im_seq (em_var 1)) (gm_name 2 sc_is_long_row.nd) (bm_one (sm_if (WM.tm (wm_or (tm_not (tm_val (em_isi (u := "int") (by decide) (by rfl) T.z_isinstance (by rfl) T.z_int bb_int (em_var 2)))) (wm_or (tm_cmp (om_isX) (em_var 2) (em_bl)) (wm_or1 (tm_cmp (om_isX) (em_var 2) (em_bl)))))) (bm_one (sm_ret (em_bl))) (bm_nil)))) (bm_one (sm_ret (em_bl))))
theorem ok_is_row_within : Df P w K mg base R "is_row_within" 2 3 Com.m_is_row_within := Df.mk' hR T.f_is_row_within sc_is_row_within fun f cdv A outer s H E hr =>
  bm_one (sm_ret (em_and (em_callD (ok_is_long_row hR T) hr (by rfl) (am_cons (em_var 1) (am_cons (em_var 2) (am_nil)))) (em_one (em_or (em_cmp (om_eq hr.units) (em_var 1) (em_int)) (em_one (em_and (em_cmp (om_le) (em_neg (em_var 0)) (em_callB (cb_minX rfl) (by rfl) T.z_min bb_min (am_cons (em_var 2) (am_nil)))) (em_one (em_cmp (om_le) (em_callB (cb_maxX rfl) (by rfl) T.z_max bb_max (am_cons (em_var 2) (am_nil))) (em_var 0)))))))))
theorem ok_is_short_row : Df P w K mg base R "is_short_row" 3 2 Com.m_is_short_row := Df.mk' hR T.f_is_short_row sc_is_short_row fun f cdv A outer s H E hr =>
  bm_one (sm_ret (em_callD (ok_is_row_within hR T) hr (by rfl) (am_cons (em_bin om_sub (em_globI (by rfl) T.c_TOO_LONG) (em_int)) (am_cons (em_var 0) (am_cons (em_var 1) (am_nil))))))
theorem ok_check_form : Df P w K mg base R "check_form" 4 2 Com.m_check_form := Df.mk' hR T.f_check_form sc_check_form fun f cdv A outer s H E hr =>
  bm_one (sm_if (tm_not (tm_val (em_callD (ok_is_short_row hR T) hr (by rfl) (am_cons (em_bin om_add (em_var 0) (em_int)) (am_cons (em_var 1) (am_nil)))))) (bm_one (sm_dead)) (bm_nil))
theorem ok_at_vector : Df P w K mg base R "at_vector" 1 2 Com.m_at_vector := Df.mk' hR T.f_at_vector sc_at_vector fun f cdv A outer s H E hr =>
  bm_one (sm_ret (em_callB (cb_sum rfl) (by rfl) T.z_sum bb_sum (am_cons (LM.em (lm_lc (own := [("one", 2), ("other", 3)]) rfl sc_at_vector.nd (im_zipX (by rfl) T.z_zip (em_var 0) (em_var 1)) (blkOk_by (by kernel_rfl)) (by decide) (fun _ _ _ _ _ => gm_tup rfl (gs_cons (gm_name 2 sc_at_vector.nd) (gs_cons (gm_name 3 sc_at_vector.nd) (gs_nil)))) (fun _ _ _ _ _ => qm_nil) (fun _ _ _ _ _ => em_bin om_mul (em_var 2) (em_var 3)))) (am_nil))))
theorem ok_opposite_of : Df P w K mg base R "opposite_of" 1 1 Com.m_opposite_of := Df.mk' hR T.f_opposite_of sc_opposite_of fun f cdv A outer s H E hr =>
  bm_one (sm_ret (em_tup (am_cons (em_bin om_sub (em_neg (em_ix (em_var 0) (em_int))) (em_int)) (am_star (LM.em (lm_lc (own := [("part", 1)]) rfl sc_opposite_of.nd (im_seq (em_slice (em_var 0) (om_some (em_int)) (om_none))) (blkOk_by (by kernel_rfl)) (by decide) (fun _ _ _ _ _ => gm_name 1 sc_opposite_of.nd) (fun _ _ _ _ _ => qm_nil) (fun _ _ _ _ _ => em_neg (em_var 1)))) (am_nil)))))
theorem ok_reduced : Df P w K mg base R "reduced" 1 1 Com.m_reduced := Df.mk' hR T.f_reduced sc_reduced fun f cdv A outer s H E hr =>
  bm_cons (sm_set 1 sc_reduced.nd (em_int)) (bm_cons (sm_for PassesOwn.never rfl (im_seq (em_var 0)) (gm_name 2 sc_reduced.nd) (bm_one (sm_set 1 sc_reduced.nd (em_callBf cb_gcd (by rfl) T.i_gcd (am_cons (em_var 1) (am_cons (em_var 2) (am_nil))))))) (bm_cons (sm_if (tm_cmp (om_eq hr.units) (em_var 1) (em_int)) (bm_one (sm_ret (em_callTy (cb_tuple) (by rfl) T.z_tuple bb_tuple (am_cons (em_var 0) (am_nil))))) (bm_nil)) (bm_one (sm_ret (em_callTy (cb_tuple) (by rfl) T.z_tuple bb_tuple (am_cons (LM.em (lm_lc (own := [("number", 2)]) rfl sc_reduced.nd (im_seq (em_var 0)) (blkOk_by (by kernel_rfl)) (by decide) (fun _ _ _ _ _ => gm_name 2 sc_reduced.nd) (fun _ _ _ _ _ => qm_nil) (fun _ _ _ _ _ => em_bin om_fdiv (em_var 2) (em_var 1)))) (am_nil)))))))
theorem ok__check_any_form : Df P w K mg base R "_check_any_form" 5 1 Com.m__check_any_form := Df.mk' hR T.f__check_any_form sc__check_any_form fun f cdv A outer s H E hr =>
  bm_cons (sm_if (WM.tm (wm_or (tm_not (tm_val (em_isi (u := "tuple") (by decide) (by rfl) T.z_isinstance (by rfl) T.z_tuple bb_tuple (em_var 0)))) (wm_or1 (tm_not (tm_chain (om_le) (om_le) (em_int) (em_callB (cb_lenX) (by rfl) T.z_len bb_len (am_cons (em_var 0) (am_nil))) (em_bin om_add (em_globI (by rfl) T.c_MOST_UNKNOWNS) (em_int))))))) (bm_one (sm_dead)) (bm_nil)) (bm_one (sm_drop (em_callD (ok_check_form hR T) hr (by rfl) (am_cons (em_bin om_sub (em_callB (cb_lenX) (by rfl) T.z_len bb_len (am_cons (em_var 0) (am_nil))) (em_int)) (am_cons (em_var 0) (am_nil))))))
theorem ok__is_vector : Df P w K mg base R "_is_vector" 2 2 Com.m__is_vector := Df.mk' hR T.f__is_vector sc__is_vector fun f cdv A outer s H E hr =>
  bm_one (sm_ret (em_and (em_callD (ok_is_long_row hR T) hr (by rfl) (am_cons (em_bin om_add (em_var 0) (em_int)) (am_cons (em_var 1) (am_nil)))) (em_one (em_cmp (om_ge) (em_ix (em_var 1) (em_int)) (em_int)))))
theorem ok_value_at : Df P w K mg base R "value_at" 6 2 Com.m_value_at := Df.mk' hR T.f_value_at sc_value_at fun f cdv A outer s H E hr =>
  bm_cons (sm_drop (em_callD (ok__check_any_form hR T) hr (by rfl) (am_cons (em_var 0) (am_nil)))) (bm_cons (sm_if (tm_not (tm_val (em_callD (ok__is_vector hR T) (hr.mono (by decide)) (by rfl) (am_cons (em_bin om_sub (em_callB (cb_lenX) (by rfl) T.z_len bb_len (am_cons (em_var 0) (am_nil))) (em_int)) (am_cons (em_var 1) (am_nil)))))) (bm_one (sm_dead)) (bm_nil)) (bm_one (sm_ret (em_callD (ok_at_vector hR T) (hr.mono (by decide)) (by rfl) (am_cons (em_var 0) (am_cons (em_var 1) (am_nil)))))))
theorem ok_lowest : Df P w K mg base R "lowest" 3 1 Com.m_lowest := Df.mk' hR T.f_lowest sc_lowest fun f cdv A outer s H E hr =>
  bm_cons (sm_if (WM.tm (wm_or (tm_not (tm_val (em_isi (u := "tuple") (by decide) (by rfl) T.z_isinstance (by rfl) T.z_tuple bb_tuple (em_var 0)))) (wm_or1 (tm_not (tm_chain (om_le) (om_le) (em_int) (em_callB (cb_lenX) (by rfl) T.z_len bb_len (am_cons (em_var 0) (am_nil))) (em_bin om_add (em_globI (by rfl) T.c_MOST_UNKNOWNS) (em_int))))))) (bm_one (sm_dead)) (bm_nil)) (bm_cons (sm_if (tm_not (tm_val (em_callD (ok__is_vector hR T) hr (by rfl) (am_cons (em_bin om_sub (em_callB (cb_lenX) (by rfl) T.z_len bb_len (am_cons (em_var 0) (am_nil))) (em_int)) (am_cons (em_var 0) (am_nil)))))) (bm_one (sm_dead)) (bm_nil)) (bm_one (sm_ret (em_callD (ok_reduced hR T) (hr.mono (by decide)) (by rfl) (am_cons (em_var 0) (am_nil))))))
theorem ok_opposite : Df P w K mg base R "opposite" 6 1 Com.m_opposite := Df.mk' hR T.f_opposite sc_opposite fun f cdv A outer s H E hr =>
  bm_cons (sm_drop (em_callD (ok__check_any_form hR T) hr (by rfl) (am_cons (em_var 0) (am_nil)))) (bm_one (sm_ret (em_callD (ok_opposite_of hR T) (hr.mono (by decide)) (by rfl) (am_cons (em_var 0) (am_nil)))))
theorem ok__law_spins : DfL P w K mg base R "_law_spins" 1 2 Com.m__law_spins := DfL.mk' hR T.f__law_spins sc__law_spins fun f cdv A outer s H E hr =>
  bm_cons (sm_set 2 sc__law_spins.nd (em_if (tm_cmp (om_lt) (em_var 1) (em_callB (cb_lenX) (by rfl) T.z_len bb_len (am_cons (em_var 0) (am_nil)))) (em_callTy (cb_int) (by rfl) T.z_int bb_int (am_cons (em_ix (em_var 0) (em_var 1)) (am_nil))) (em_bin om_add (em_bin om_mul (em_int) (em_var 1)) (em_int)))) (bm_cons (sm_set 3 sc__law_spins.nd (em_bin om_mod (em_callTy (cb_int) (by rfl) T.z_int bb_int (am_cons (em_callB (cb_abs) (by rfl) T.z_abs bb_abs (am_cons (em_var 2) (am_nil))) (am_nil))) (em_bin om_pow (em_bin om_pow (em_int) (em_int)) (em_int)))) (bm_one (sm_ret (LM.new (lm_lst (am_cons (em_callB (cb_maxX rfl) (by rfl) T.z_max bb_max (am_cons (em_int) (am_cons (em_bin om_sub (em_var 3) (em_bin om_pow (em_int) (em_int))) (am_nil)))) (am_cons (em_bin om_add (em_bin om_add (em_bin om_add (em_bin om_mul (em_bin om_mod (em_callTy (cb_int) (by rfl) T.z_int bb_int (am_cons (em_var 3) (am_nil))) (em_int)) (em_int)) (em_bin om_mul (em_int) (em_var 1))) (em_bin om_mul (em_int) (em_callTy (cb_int) (by rfl) T.z_int bb_int (am_cons (em_cmp (om_lt) (em_var 2) (em_int)) (am_nil))))) (em_int)) (am_cons (em_int) (am_nil)))))))))
theorem ok__law_spin : Df P w K mg base R "_law_spin" 1 2 Com.m__law_spin := Df.mk' hR T.f__law_spin sc__law_spin fun f cdv A outer s H E hr =>
  bm_cons (sm_if (tm_cmp (om_gt) (em_ix (em_var 0) (em_int)) (em_int)) (bm_cons (sm_set 2 sc__law_spin.nd (em_bin om_mod (em_callTy (cb_int) (by rfl) T.z_int bb_int (am_cons (em_ix (em_var 0) (em_int)) (am_nil))) (em_var 1))) (bm_cons (sm_put (em_bin om_fdiv (em_ix (em_var 0) (em_int)) (em_var 1)) (em_var 0) (em_int)) (bm_one (sm_ret (em_var 2))))) (bm_nil)) (bm_cons (sm_put (em_bin om_add (em_ix (em_var 0) (em_int)) (em_int)) (em_var 0) (em_int)) (bm_cons (sm_set 3 sc__law_spin.nd (em_bin om_mod (em_callTy (cb_int) (by rfl) T.z_int bb_int (am_cons (em_bin om_add (em_ix (em_var 0) (em_int)) (em_bin om_mul (em_int) (em_ix (em_var 0) (em_int)))) (am_nil))) (em_int))) (bm_cons (sm_set 4 sc__law_spin.nd (em_bin om_add (em_bin om_mul (em_bin om_mod (em_callTy (cb_int) (by rfl) T.z_int bb_int (am_cons (em_bin om_add (em_bin om_mul (em_var 3) (em_var 3)) (em_bin om_mul (em_int) (em_ix (em_var 0) (em_int)))) (am_nil))) (em_int)) (em_int)) (em_var 3))) (bm_one (sm_ret (em_bin om_mod (em_callTy (cb_int) (by rfl) T.z_int bb_int (am_cons (em_bin om_fdiv (em_var 4) (em_int)) (am_nil))) (em_var 1)))))))
theorem ok__law_among : Df P w K mg base R "_law_among" 2 2 Com.m__law_among := Df.mk' hR T.f__law_among sc__law_among fun f cdv A outer s H E hr =>
  bm_one (sm_ret (em_ix (em_var 1) (em_callD (ok__law_spin hR T) hr (by rfl) (am_cons (em_var 0) (am_cons (em_callB (cb_lenX) (by rfl) T.z_len bb_len (am_cons (em_var 1) (am_nil))) (am_nil))))))
theorem ok__law_plain_form : Df P w K mg base R "_law_plain_form" 3 3 Com.m__law_plain_form := Df.mk' hR T.f__law_plain_form sc__law_plain_form fun f cdv A outer s H E hr =>
  bm_one (sm_ret (em_callTy (cb_tuple) (by rfl) T.z_tuple bb_tuple (am_cons (LM.em (lm_lc (own := [("at", 3)]) rfl sc__law_plain_form.nd (im_range1 (by rfl) T.z_range (em_bin om_add (em_var 1) (em_int))) (blkOk_by (by kernel_rfl)) (by decide) (fun _ _ _ _ _ => gm_name 3 sc__law_plain_form.nd) (fun _ _ _ _ _ => qm_nil) (fun _ _ _ _ _ => em_callD (ok__law_among hR T) hr (by rfl) (am_cons (em_var 0) (am_cons (LM.em (lm_lst (am_cons (em_int) (am_cons (em_int) (am_cons (em_bin om_sub (em_callD (ok__law_spin hR T) (hr.mono (by decide)) (by rfl) (am_cons (em_var 0) (am_cons (em_bin om_add (em_bin om_mul (em_int) (em_var 2)) (em_int)) (am_nil)))) (em_var 2)) (am_nil)))))) (am_nil)))))) (am_nil))))
theorem ok__law_shared : Df P w K mg base R "_law_shared" 1 1 m__law_shared := Df.mk' hR T.f__law_shared sc__law_shared fun f cdv A outer s H E hr =>
  bm_cons (sm_set 1 sc__law_shared.nd (em_int)) (bm_cons (sm_for PassesOwn.never rfl (im_seq (em_var 0)) (gm_name 2 sc__law_shared.nd) (bm_cons (sm_par 3 4 rfl sc__law_shared.nd (em_var 1) (em_callB (cb_abs) (by rfl) T.z_abs bb_abs (am_cons (em_var 2) (am_nil))) (by rfl)) (bm_cons (sm_for PassesOwn.never rfl (im_range1 (by rfl) T.z_range (em_int)) (gm_name 5 sc__law_shared.nd) (bm_cons (sm_if (tm_cmp (om_eq hr.units) (em_var 4) (em_int)) (bm_one (sm_break)) (bm_nil)) (bm_one (sm_par 3 4 rfl sc__law_shared.nd (em_var 4) (em_bin om_mod (em_var 3) (em_var 4)) (by rfl))))) (bm_one (sm_set 1 sc__law_shared.nd (em_var 3)))))) (bm_one (sm_ret (em_var 1))))
theorem ok__law_right : Df P w K mg base R "_law_right" 7 1 m__law_right := Df.mk' hR T.f__law_right sc__law_right fun f cdv A outer s H E hr =>
  bm_cons (sm_set 1 sc__law_right.nd (em_callD (ok__law_among hR T) (hr.mono (by decide)) (by rfl) (am_cons (em_var 0) (am_cons (LM.em (lm_lst (am_cons (em_int) (am_cons (em_int) (am_cons (em_int) (am_cons (em_int) (am_cons (em_int) (am_cons (em_int) (am_nil))))))))) (am_nil))))) (bm_cons (sm_set 2 sc__law_right.nd (em_callD (ok__law_among hR T) (hr.mono (by decide)) (by rfl) (am_cons (em_var 0) (am_cons (LM.em (lm_lst (am_cons (em_int) (am_cons (em_int) (am_cons (em_bin om_pow (em_int) (em_int)) (am_cons (em_bin om_pow (em_int) (em_int)) (am_nil))))))) (am_nil))))) (bm_cons (sm_set 3 sc__law_right.nd (em_bin om_add (em_tup (am_cons (em_callD (ok__law_spin hR T) (hr.mono (by decide)) (by rfl) (am_cons (em_var 0) (am_cons (em_int) (am_nil)))) (am_nil))) (em_callTy (cb_tuple) (by rfl) T.z_tuple bb_tuple (am_cons (LM.em (lm_lc (own := [("at", 4)]) rfl sc__law_right.nd (im_range1 (by rfl) T.z_range (em_var 1)) (blkOk_by (by kernel_rfl)) (by decide) (fun _ _ _ _ _ => gm_name 4 sc__law_right.nd) (fun _ _ _ _ _ => qm_nil) (fun _ _ _ _ _ => em_bin om_sub (em_callD (ok__law_spin hR T) (hr.mono (by decide)) (by rfl) (am_cons (em_var 0) (am_cons (em_bin om_add (em_bin om_mul (em_int) (em_var 2)) (em_int)) (am_nil)))) (em_var 2)))) (am_nil))))) (bm_cons (sm_set 5 sc__law_right.nd (em_bin om_add (em_int) (em_callD (ok__law_spin hR T) (hr.mono (by decide)) (by rfl) (am_cons (em_var 0) (am_cons (em_callD (ok__law_among hR T) (hr.mono (by decide)) (by rfl) (am_cons (em_var 0) (am_cons (LM.em (lm_lst (am_cons (em_int) (am_cons (em_int) (am_cons (em_bin om_pow (em_int) (em_int)) (am_nil)))))) (am_nil)))) (am_nil)))))) (bm_cons (sm_set 6 sc__law_right.nd (em_callTy (cb_tuple) (by rfl) T.z_tuple bb_tuple (am_cons (LM.em (lm_lc (own := [("one", 7)]) rfl sc__law_right.nd (im_seq (em_var 3)) (blkOk_by (by kernel_rfl)) (by decide) (fun _ _ _ _ _ => gm_name 7 sc__law_right.nd) (fun _ _ _ _ _ => qm_nil) (fun _ _ _ _ _ => em_bin om_mul (em_var 5) (em_var 7)))) (am_nil)))) (bm_cons (sm_parC 8 9 rfl sc__law_right.nd (em_callD (ok_lowest hR T) (hr.mono (by decide)) (by rfl) (am_cons (em_var 6) (am_nil))) (em_callD (ok__law_shared hR T) (hr.mono (by decide)) (by rfl) (am_cons (em_var 6) (am_nil)))) (bm_cons (sm_if (tm_cmp (om_eq hr.units) (em_var 9) (em_int)) (bm_one (sm_ret (em_cmp (om_eq hr.units) (em_var 8) (em_var 6)))) (bm_nil)) (bm_cons (sm_if (WM.tm (wm_or (tm_cmp (om_ne hr.units) (em_callTy (cb_tuple) (by rfl) T.z_tuple bb_tuple (am_cons (LM.em (lm_lc (own := [("one", 7)]) rfl sc__law_right.nd (im_seq (em_var 8)) (blkOk_by (by kernel_rfl)) (by decide) (fun _ _ _ _ _ => gm_name 7 sc__law_right.nd) (fun _ _ _ _ _ => qm_nil) (fun _ _ _ _ _ => em_bin om_mul (em_var 9) (em_var 7)))) (am_nil))) (em_var 6)) (wm_or (tm_cmp (om_ne hr.units) (em_callD (ok__law_shared hR T) (hr.mono (by decide)) (by rfl) (am_cons (em_var 8) (am_nil))) (em_int)) (wm_or1 (tm_cmp (om_ne hr.units) (em_callD (ok_lowest hR T) (hr.mono (by decide)) (by rfl) (am_cons (em_var 8) (am_nil))) (em_var 8)))))) (bm_one (sm_ret (em_bl))) (bm_nil)) (bm_cons (sm_set 10 sc__law_right.nd (em_callD (ok__law_plain_form hR T) (hr.mono (by decide)) (by rfl) (am_cons (em_var 0) (am_cons (em_var 1) (am_cons (em_int) (am_nil)))))) (bm_cons (sm_if (WM.tm (wm_or (tm_cmp (om_ne hr.units) (em_callD (ok_value_at hR T) hr (by rfl) (am_cons (em_var 10) (am_cons (em_var 6) (am_nil)))) (em_bin om_mul (em_var 9) (em_callD (ok_value_at hR T) hr (by rfl) (am_cons (em_var 10) (am_cons (em_var 8) (am_nil)))))) (wm_or1 (tm_cmp (om_ne hr.units) (em_callD (ok_opposite hR T) hr (by rfl) (am_cons (em_callD (ok_opposite hR T) hr (by rfl) (am_cons (em_var 10) (am_nil))) (am_nil))) (em_var 10))))) (bm_one (sm_ret (em_bl))) (bm_nil)) (bm_cons (sm_set 11 sc__law_right.nd (em_callTy (cb_tuple) (by rfl) T.z_tuple bb_tuple (am_cons (LM.em (lm_lc (own := [("at", 4)]) rfl sc__law_right.nd (im_range1 (by rfl) T.z_range (em_var 1)) (blkOk_by (by kernel_rfl)) (by decide) (fun _ _ _ _ _ => gm_name 4 sc__law_right.nd) (fun _ _ _ _ _ => qm_nil) (fun _ _ _ _ _ => em_bin om_sub (em_callD (ok__law_spin hR T) (hr.mono (by decide)) (by rfl) (am_cons (em_var 0) (am_cons (em_int) (am_nil)))) (em_int)))) (am_nil)))) (bm_cons (sm_set 12 sc__law_right.nd (em_bin om_add (em_tup (am_cons (em_bin om_add (em_bin om_sub (em_ix (em_var 10) (em_int)) (em_callD (ok_value_at hR T) hr (by rfl) (am_cons (em_var 10) (am_cons (em_bin om_add (em_tup (am_cons (em_int) (am_nil))) (em_var 11)) (am_nil))))) (em_callD (ok__law_among hR T) (hr.mono (by decide)) (by rfl) (am_cons (em_var 0) (am_cons (LM.em (lm_lst (am_cons (em_int) (am_cons (em_neg (em_int)) (am_cons (em_int) (am_cons (em_int) (am_cons (em_neg (em_int)) (am_nil)))))))) (am_nil))))) (am_nil))) (em_slice (em_var 10) (om_some (em_int)) (om_none)))) (bm_cons (sm_par 13 14 rfl sc__law_right.nd (em_callD (ok_value_at hR T) hr (by rfl) (am_cons (em_var 12) (am_cons (em_bin om_add (em_tup (am_cons (em_int) (am_nil))) (em_var 11)) (am_nil)))) (em_callD (ok_value_at hR T) hr (by rfl) (am_cons (em_callD (ok_opposite hR T) hr (by rfl) (am_cons (em_var 12) (am_nil))) (am_cons (em_bin om_add (em_tup (am_cons (em_int) (am_nil))) (em_var 11)) (am_nil)))) (by rfl)) (bm_one (sm_ret (em_and (em_cmp (om_ne hr.units) (em_cmp (om_ge) (em_var 13) (em_int)) (em_cmp (om_ge) (em_var 14) (em_int))) (em_one (em_cmp (om_eq hr.units) (em_bin om_add (em_var 13) (em_var 14)) (em_neg (em_int)))))))))))))))))))
theorem okF_law {f : Addr} {fd : FuncData} (F : Fun K "law" "law" s_law f fd) : FnOk P w K mg base CX0 8 f fd ["script"] (spM K R 1 m_law) := def_ok hR F sc_law fun cdv A outer s H E hr =>
  bm_cons (sm_for PassesOwn.never rfl (im_range1 (by rfl) T.z_range (em_callB (cb_maxX rfl) (by rfl) T.z_max bb_max (am_cons (em_int) (am_cons (em_callB (cb_minX rfl) (by rfl) T.z_min bb_min (am_cons (em_int) (am_cons (em_callB (cb_lenX) (by rfl) T.z_len bb_len (am_cons (em_var 0) (am_nil))) (am_nil)))) (am_nil))))) (gm_name 1 sc_law.nd) (bm_cons (sm_new 2 sc_law.nd (lm_callD (ok__law_spins hR T) (hr.mono (by decide)) (by rfl) (am_cons (em_var 0) (am_cons (em_var 1) (am_nil))))) (bm_one (sm_if (WM.tm (wm_or (tm_not (tm_val (em_callD (ok__law_right hR T) hr (by rfl) (am_cons (em_var 2) (am_nil))))) (wm_or (tm_not (tm_val (em_callD (ok__law_right hR T) hr (by rfl) (am_cons (em_var 2) (am_nil))))) (wm_or1 (tm_not (tm_val (em_callD (ok__law_right hR T) hr (by rfl) (am_cons (em_var 2) (am_nil))))))))) (bm_one (sm_ret (em_bl))) (bm_nil))))) (bm_cons (sm_set 3 sc_law.nd (LM.em (lm_lst (am_cons (em_callD (ok_lowest hR T) (hr.mono (by decide)) (by rfl) (am_cons (em_tup (am_cons (em_int) (am_cons (em_int) (am_cons (em_neg (em_int)) (am_nil))))) (am_nil))) (am_cons (em_callD (ok_lowest hR T) (hr.mono (by decide)) (by rfl) (am_cons (em_tup (am_cons (em_int) (am_cons (em_int) (am_nil)))) (am_nil))) (am_cons (em_callD (ok_lowest hR T) (hr.mono (by decide)) (by rfl) (am_cons (em_tup (am_cons (em_int) (am_cons (em_neg (em_int)) (am_cons (em_int) (am_nil))))) (am_nil))) (am_cons (em_callD (ok_lowest hR T) (hr.mono (by decide)) (by rfl) (am_cons (em_tup (am_cons (em_int) (am_nil))) (am_nil))) (am_cons (em_callD (ok_opposite hR T) (hr.mono (by decide)) (by rfl) (am_cons (em_tup (am_cons (em_int) (am_cons (em_neg (em_int)) (am_nil)))) (am_nil))) (am_cons (em_callD (ok_opposite hR T) (hr.mono (by decide)) (by rfl) (am_cons (em_tup (am_cons (em_neg (em_int)) (am_nil))) (am_nil))) (am_nil)))))))))) (bm_one (sm_ret (em_cmp (om_eq hr.units) (em_var 3) (LM.em (lm_lst (am_cons (em_tup (am_cons (em_int) (am_cons (em_int) (am_cons (em_neg (em_int)) (am_nil))))) (am_cons (em_tup (am_cons (em_int) (am_cons (em_int) (am_nil)))) (am_cons (em_tup (am_cons (em_int) (am_cons (em_neg (em_int)) (am_cons (em_int) (am_nil))))) (am_cons (em_tup (am_cons (em_int) (am_nil))) (am_cons (em_tup (am_cons (em_neg (em_int)) (am_cons (em_int) (am_nil)))) (am_cons (em_tup (am_cons (em_int) (am_nil))) (am_nil)))))))))))))
end
end K04
set_option maxHeartbeats 4000000
namespace K04
open PySem PySem.Spec PyProof.Rows L2 Mir
open Com
local macro_rules | `(tactic| walk_at "mir") => `(tactic| first
  | with_reducible refine wp_seq ?_ | with_reducible refine wp_nx ?_ | with_reducible refine wp_rt ?_ | with_reducible refine wp_bk ?_ | with_reducible refine wp_ct ?_
  | with_reducible refine fk_nx ?_ | with_reducible refine fk_ct ?_ | with_reducible refine fk_rt ?_ | with_reducible refine fk_bk ?_
  | with_reducible refine wp_dd ?_ | with_reducible refine wp_dn ?_
  | ((with_reducible refine wp_vari ?_); refine ⟨_, rfl, ?_⟩) | with_reducible refine wp_c ?_ | with_reducible refine wp_bin ?_
  | with_reducible refine wp_add ?_ | with_reducible refine wp_sub ?_ | with_reducible refine wp_lt ?_ | with_reducible refine wp_le ?_ | with_reducible refine wp_gt ?_ | with_reducible refine wp_ge ?_
  | with_reducible refine wp_eqI ?_ | with_reducible refine wp_neI ?_ | with_reducible refine wp_neg ?_ | with_reducible refine wp_un ?_
  | with_reducible refine wp_cut ?_ | with_reducible refine wp_cutT ?_ | with_reducible refine wp_no ?_ | with_reducible refine wp_part ?_ | with_reducible refine wp_toB ?_ | with_reducible refine wp_test ?_
  | with_reducible refine wp_chain ?_ | with_reducible refine wp_andT ?_ | with_reducible refine wp_orT ?_ | with_reducible refine wp_notT ?_ | with_reducible refine wp_and ?_ | with_reducible refine wp_or ?_ | with_reducible refine wp_not ?_
  | with_reducible refine wp_if ?_ | with_reducible refine wp_sif ?_ | with_reducible refine wp_isi ?_ | with_reducible refine wp_nil ?_ | with_reducible refine wp_cons ?_ | with_reducible refine wp_tup ?_ | with_reducible refine wp_lst ?_
  | with_reducible refine wp_L ?_ | with_reducible refine wp_New ?_ | with_reducible refine wp_call ?_ | with_reducible refine wp_own ?_ | with_reducible refine wp_ownL ?_
  | with_reducible refine wp_abs ?_ | with_reducible refine wp_int ?_ | with_reducible refine wp_intB ?_ | with_reducible refine wp_maxX ?_ | with_reducible refine wp_minX ?_ | with_reducible refine wp_tupleT ?_
  | with_reducible refine wp_isB ?_ | with_reducible refine wp_isNo ?_ | with_reducible refine wp_notB ?_ | with_reducible refine wp_notNo ?_ | with_reducible refine wp_parN ?_ | with_reducible refine wp_rgs ?_ | with_reducible refine wp_c0 ?_ | with_reducible refine wp_listRg ?_ | with_reducible refine wp_binL ?_ | with_reducible refine wp_lenD ?_
  | with_reducible refine wp_snil ?_ | with_reducible refine wp_break ?_ | with_reducible refine wp_cont ?_ | with_reducible refine wp_ret ?_ | with_reducible refine wp_set ?_ | with_reducible refine wp_new ?_ | with_reducible refine wp_par ?_ | with_reducible refine wp_drop ?_
  | with_reducible refine wp_put ?_ | with_reducible refine wp_app ?_ | with_reducible refine wp_rng1 ?_ | with_reducible refine wp_zipX ?_ | with_reducible refine wp_forN ?_ | with_reducible refine wp_seqN ?_ | with_reducible refine wp_zipN ?_ | with_reducible refine wp_enum ?_ | with_reducible refine wp_lc ?_ | with_reducible refine wp_dc ?_ | with_reducible refine wp_for ?_ | with_reducible refine wp_listOf ?_
  | ((with_reducible refine ifK_t ?_ ?_); rfl) | ((with_reducible refine ifK_f ?_ ?_); rfl)
  | ((with_reducible refine ex_id ?_); (first | refine ⟨_, rfl, Nat.le_of_ble_eq_true rfl, ?_⟩ | refine ⟨_, rfl, ?_⟩))
  | refine ⟨_, rfl, Nat.le_of_ble_eq_true rfl, ?_⟩ | refine ⟨_, rfl, ?_⟩)
local macro_rules | `(tactic| walk_at "mis") => `(tactic| first
  | with_reducible refine wp_nx ?_ | with_reducible refine wp_rt ?_ | with_reducible refine wp_bk ?_ | with_reducible refine wp_ct ?_
  | with_reducible refine fk_nx ?_ | with_reducible refine fk_ct ?_ | with_reducible refine fk_rt ?_ | with_reducible refine fk_bk ?_
  | with_reducible refine wp_dd ?_ | with_reducible refine wp_dn ?_
  | ((with_reducible refine wp_vari ?_); refine ⟨_, rfl, ?_⟩) | with_reducible refine wp_c ?_ | with_reducible refine wp_bin ?_
  | with_reducible refine wp_add ?_ | with_reducible refine wp_sub ?_ | with_reducible refine wp_lt ?_ | with_reducible refine wp_le ?_ | with_reducible refine wp_gt ?_ | with_reducible refine wp_ge ?_
  | with_reducible refine wp_eqI ?_ | with_reducible refine wp_neI ?_ | with_reducible refine wp_neg ?_ | with_reducible refine wp_un ?_
  | with_reducible refine wp_cut ?_ | with_reducible refine wp_cutT ?_ | with_reducible refine wp_no ?_ | with_reducible refine wp_part ?_ | with_reducible refine wp_toB ?_ | with_reducible refine wp_test ?_
  | with_reducible refine wp_chain ?_ | with_reducible refine wp_andT ?_ | with_reducible refine wp_orT ?_ | with_reducible refine wp_notT ?_ | with_reducible refine wp_and ?_ | with_reducible refine wp_or ?_ | with_reducible refine wp_not ?_
  | with_reducible refine wp_if ?_ | with_reducible refine wp_sif ?_ | with_reducible refine wp_isi ?_ | with_reducible refine wp_nil ?_ | with_reducible refine wp_cons ?_ | with_reducible refine wp_tup ?_ | with_reducible refine wp_lst ?_
  | with_reducible refine wp_L ?_ | with_reducible refine wp_New ?_ | with_reducible refine wp_call ?_ | with_reducible refine wp_own ?_ | with_reducible refine wp_ownL ?_
  | with_reducible refine wp_abs ?_ | with_reducible refine wp_int ?_ | with_reducible refine wp_intB ?_ | with_reducible refine wp_maxX ?_ | with_reducible refine wp_minX ?_ | with_reducible refine wp_tupleT ?_
  | with_reducible refine wp_isB ?_ | with_reducible refine wp_isNo ?_ | with_reducible refine wp_notB ?_ | with_reducible refine wp_notNo ?_ | with_reducible refine wp_parN ?_ | with_reducible refine wp_rgs ?_ | with_reducible refine wp_c0 ?_ | with_reducible refine wp_listRg ?_ | with_reducible refine wp_binL ?_ | with_reducible refine wp_lenD ?_
  | with_reducible refine wp_snil ?_ | with_reducible refine wp_break ?_ | with_reducible refine wp_cont ?_ | with_reducible refine wp_ret ?_ | with_reducible refine wp_set ?_ | with_reducible refine wp_new ?_ | with_reducible refine wp_par ?_ | with_reducible refine wp_drop ?_
  | with_reducible refine wp_put ?_ | with_reducible refine wp_app ?_ | with_reducible refine wp_rng1 ?_ | with_reducible refine wp_zipX ?_ | with_reducible refine wp_forN ?_ | with_reducible refine wp_seqN ?_ | with_reducible refine wp_zipN ?_ | with_reducible refine wp_enum ?_ | with_reducible refine wp_lc ?_ | with_reducible refine wp_dc ?_ | with_reducible refine wp_for ?_ | with_reducible refine wp_listOf ?_
  | ((with_reducible refine ifK_t ?_ ?_); rfl) | ((with_reducible refine ifK_f ?_ ?_); rfl)
  | ((with_reducible refine ex_id ?_); (first | refine ⟨_, rfl, Nat.le_of_ble_eq_true rfl, ?_⟩ | refine ⟨_, rfl, ?_⟩))
  | refine ⟨_, rfl, Nat.le_of_ble_eq_true rfl, ?_⟩ | refine ⟨_, rfl, ?_⟩)
local macro_rules | `(tactic| walk_at "mir") => `(tactic| with_reducible refine wp_is (pow60 _) ?_)
abbrev tI (xs : List Int) : Sl := .d (.tuple (xs.map PyData.int))
def G (xs : List Int) : Nat := xs.foldl (fun c x => Nat.gcd c x.natAbs) 0
theorem G_snoc (xs : List Int) (x : Int) : G (xs ++ [x]) = Nat.gcd (G xs) x.natAbs := by
  unfold G
  rw [List.foldl_append]
  rfl
theorem G_take {xs : List Int} {k : Nat} {x : Int} (e : xs[k]? = some x) : G (xs.take (k + 1)) = Nat.gcd (G (xs.take k)) x.natAbs := by
  rw [List.take_add_one, e]
  exact G_snoc _ _
theorem fold_le {B : Nat} : ∀ (xs : List Int) (c : Nat), c ≤ B → (∀ x ∈ xs, x.natAbs ≤ B) → xs.foldl (fun c x => Nat.gcd c x.natAbs) c ≤ B
  | [], _, h, _ => h
  | x :: r, c, h, hx => by
    refine fold_le r _ ?_ fun y hy => hx y (List.mem_cons_of_mem _ hy)
    by_cases hc : c = 0
    · subst hc
      show Nat.gcd 0 x.natAbs ≤ B
      rw [Nat.gcd_zero_left]
      exact hx x List.mem_cons_self
    · exact Nat.le_trans (Nat.le_of_dvd (Nat.pos_of_ne_zero hc) (Nat.gcd_dvd_left _ _)) h
theorem G_le {B : Nat} {xs : List Int} (h : ∀ x ∈ xs, x.natAbs ≤ B) : G xs ≤ B := fold_le xs 0 (Nat.zero_le _) h
theorem map_get {xs : List Int} {k : Nat} {d : D} (e : (xs.map PyData.int)[k]? = some d) : ∃ x, xs[k]? = some x ∧ d = .int x := by
  rw [List.getElem?_map] at e
  cases h : xs[k]? with
  | none =>
    rw [h] at e
    cases e
  | some x =>
    rw [h] at e
    cases e
    exact ⟨x, rfl, rfl⟩
def red (xs : List Int) : List Int := xs.map fun x => if G xs = 0 then x else x / (G xs : Int)
theorem reduced_eq {B : Nat} (xs : List Int) (cs : List HC) (hx : ∀ x ∈ xs, x.natAbs ≤ B) (hB : B < 2 ^ 200) (hl : xs.length ≤ 15) : m_reduced [tI xs] cs = .ok (tI (red xs)) cs := by
  refine Wp.eq (wp_def ?_)
  show Wp (b_reduced [some (tI xs), none, none] cs) _
  unfold b_reduced
  refine wp_seq (wp_set (wp_c (wp_nx ?_)))
  refine wp_mid (fun ρ cs' => cs' = cs ∧ ∃ x2, ρ = [some (tI xs), some (.d (.int (G xs))), x2]) ?_ fun ρ cs' hJ => ?_
  · repeat walk_at "mir"
    refine wp_seqI (.inr rfl) rfl ?_
    refine wp_forAll (I := fun n ρ cs' => cs' = cs ∧ ∃ x2, ρ = [some (tI xs), some (.d (.int (G (xs.take n)))), x2]) (n := 0) ⟨rfl, _, rfl⟩ (fun k d ed ρ cs' hI => ?_) fun ρ cs' hI => ?_
    · obtain ⟨rfl, x2, rfl⟩ := hI
      rw [Nat.zero_add]
      obtain ⟨x, ex, rfl⟩ := map_get ed
      refine ⟨_, rfl, ?_⟩
      repeat walk_at "mir"
      refine wp_gcd ?_
      repeat walk_at "mir"
      rw [Int.natAbs_natCast, ← G_take ex]
      exact ⟨rfl, _, rfl⟩
    · rw [Nat.zero_add, List.length_map, List.take_length] at hI
      exact hI
  · obtain ⟨rfl, x2, rfl⟩ := hJ
    repeat walk_at "mir"
    refine ifK_b (fun e => ?_) (fun e => ?_)
    · have e0 : G xs = 0 := by
        have : (G xs : Int) = 0 := by simpa using e
        omega
      repeat walk_at "mir"
      refine ⟨?_, List.take_length⟩
      unfold red
      simp only [e0, if_true, List.map_id']
    · have e0 : G xs ≠ 0 := fun z => by
        rw [z] at e
        cases e
      have hg := G_le hx
      repeat walk_at "mir"
      refine wp_seqI (.inr rfl) rfl ⟨sl_of (by rw [List.length_map]; omega), ?_⟩
      refine wp_lcMap (fun d => match d with | .int i => .int (i / (G xs : Int)) | _ => .none) (fun d hd => ?_) ?_
      · obtain ⟨i, hi, rfl⟩ := List.mem_map.mp hd
        refine ⟨_, rfl, ?_⟩
        repeat walk_at "mir"
        exact wp_fdiv (by omega) (Nat.lt_trans (lg (n := 200) (by omega) (by decide)) (by decide)) ⟨rfl, rfl⟩
      · repeat walk_at "mir"
        refine wp_tuple rfl ?_
        repeat walk_at "mir"
        refine ⟨?_, List.take_length⟩
        unfold red
        simp only [tI, if_neg e0, List.map_map]
        rfl
theorem lowest_eq {B : Nat} (x0 : Int) (xs : List Int) (cs : List HC) (hx : ∀ x ∈ x0 :: xs, x.natAbs ≤ B) (hB : B < 2 ^ 200) (hl : xs.length ≤ 14) (h0 : 0 ≤ x0) : m_lowest [tI (x0 :: xs)] cs = .ok (tI (red (x0 :: xs))) cs := by
  refine Wp.eq (wp_def ?_)
  show Wp (b_lowest [some (tI (x0 :: xs))] cs) _
  unfold b_lowest
  repeat walk_at "mir"
  have hlen : (((x0 :: xs).map PyData.int).length : Int) = xs.length + 1 := by simp
  have hv := vector_eq x0 xs (((x0 :: xs).map PyData.int).length - 1) cs (by omega) h0
  refine ifK_t (decide_eq_true (by omega)) ?_
  repeat walk_at "mir"
  refine ifK_f (by rw [decide_eq_true (by omega)]; rfl) ?_
  repeat walk_at "mir"
  refine ⟨rfl, wp_is hv ?_⟩
  repeat walk_at "mir"
  refine ⟨rfl, wp_is (reduced_eq (x0 :: xs) cs hx hB (by rw [List.length_cons]; omega)) ?_⟩
  repeat walk_at "mir"
  exact ⟨rfl, List.take_length⟩
def opp : List Int → List Int
  | [] => []
  | f0 :: fs => (-f0 - 1) :: fs.map fun x => -x
theorem dataAll_map : ∀ ds : List D, dataAll (ds.map Sl.d) = some ds
  | [] => rfl
  | d :: r => by
    rw [List.map_cons, dataAll, dataAll_map r]
    rfl
theorem opposite_eq {A : Nat} (f0 : Int) (fs : List Int) (cs : List HC) (hA : A < 10 ^ 60) (hf : ∀ x ∈ f0 :: fs, x.natAbs ≤ A) (hl : fs.length ≤ 14) : m_opposite [tI (f0 :: fs)] cs = .ok (tI (opp (f0 :: fs))) cs := by
  have ho : m_opposite_of [tI (f0 :: fs)] cs = .ok (tI (opp (f0 :: fs))) cs := by
    refine Wp.eq (wp_def ?_)
    show Wp (b_opposite_of [some (tI (f0 :: fs)), none] cs) _
    unfold b_opposite_of
    repeat walk_at "mir"
    refine wp_idxT (d := .int f0) (atI_nat (j := 0) rfl) ?_
    repeat walk_at "mir"
    refine wp_star (ds := fs.map fun x => .int (-x)) ?_
    repeat walk_at "mir"
    refine wp_seqT (ds := []) ?_
    repeat walk_at "mir"
    rw [cut1]
    refine ⟨fs.map .int, .inr rfl, sl_of (by rw [List.length_map]; omega), ?_⟩
    refine wp_lcMap (fun d => match d with | .int i => .int (-i) | _ => .none) (fun d hd => ?_) ?_
    · obtain ⟨i, hi, rfl⟩ := List.mem_map.mp hd
      refine ⟨_, rfl, ?_⟩
      repeat walk_at "mir"
      exact ⟨rfl, rfl⟩
    · repeat walk_at "mir"
      refine ⟨by simp only [seqD, viewL, List.map_map]; rfl, ?_⟩
      refine wp_nil ⟨.int (-f0 - 1) :: fs.map (fun x => .int (-x)), ?_, sl_of (by rw [List.length_cons, List.length_map]; omega), ?_⟩
      · rw [List.append_nil, dataAll, dataAll_map]
        rfl
      · repeat walk_at "mir"
        refine ⟨?_, List.take_length⟩
        simp only [tI, opp, List.map_cons, List.map_map]
        rfl
  refine Wp.eq (wp_def ?_)
  show Wp (b_opposite [some (tI (f0 :: fs))] cs) _
  unfold b_opposite
  repeat walk_at "mir"
  refine ⟨rfl, wp_is (any_eq (f0 :: fs) cs (by simp) (by rw [List.length_cons]; omega) fun x h => Nat.lt_of_le_of_lt (hf x h) hA) ?_⟩
  repeat walk_at "mir"
  refine ⟨rfl, wp_is ho ?_⟩
  repeat walk_at "mir"
  exact ⟨rfl, List.take_length⟩
/-! ### Euclid's way, by turns -/
/-- one turn halves the product -/
theorem half {a b : Nat} (h : b < a) (hb : 0 < b) : 2 * (b * (a % b)) ≤ a * b := by
  have h1 := Nat.mod_lt a hb
  have h2 : a % b + b ≤ a := by
    have h3 := Nat.div_add_mod a b
    have h4 : 1 ≤ a / b := (Nat.one_le_div_iff hb).mpr (Nat.le_of_lt h)
    have h5 : b * 1 ≤ b * (a / b) := Nat.mul_le_mul_left b h4
    omega
  have h6 : 2 * (a % b) ≤ a := by omega
  calc 2 * (b * (a % b)) = b * (2 * (a % b)) := by rw [Nat.mul_left_comm]
    _ ≤ b * a := Nat.mul_le_mul_left b h6
    _ = a * b := Nat.mul_comm b a
/-- ahead of the j-th turn -/
def Ev (g B j : Nat) (a b : Nat) : Prop := Nat.gcd a b = g ∧ (j = 0 → a ≤ B ∧ b ≤ B) ∧ (0 < j → b < a ∧ a * b * 2 ^ (j - 1) ≤ B * B)
theorem Ev.step {g B j a b : Nat} (h : Ev g B j a b) (hb : 0 < b) : Ev g B (j + 1) b (a % b) := by
  obtain ⟨h1, h2, h3⟩ := h
  refine ⟨?_, fun z => absurd z (by omega), fun _ => ⟨Nat.mod_lt a hb, ?_⟩⟩
  · rw [Nat.gcd_comm b, ← Nat.gcd_rec, Nat.gcd_comm, h1]
  · by_cases hj : j = 0
    · obtain ⟨q1, q2⟩ := h2 hj
      subst hj
      rw [Nat.zero_add, Nat.sub_self, Nat.pow_zero, Nat.mul_one]
      exact Nat.mul_le_mul q2 (Nat.le_trans (Nat.mod_le a b) q1)
    · obtain ⟨q1, q2⟩ := h3 (by omega)
      have q3 := half q1 hb
      have e : 2 ^ (j + 1 - 1) = 2 * 2 ^ (j - 1) := by
        rw [show j + 1 - 1 = (j - 1) + 1 by omega, Nat.pow_succ, Nat.mul_comm]
      rw [e]
      calc b * (a % b) * (2 * 2 ^ (j - 1)) = (2 * (b * (a % b))) * 2 ^ (j - 1) := by
            rw [← Nat.mul_assoc, Nat.mul_comm (b * (a % b)) 2]
        _ ≤ a * b * 2 ^ (j - 1) := Nat.mul_le_mul_right _ q3
        _ ≤ B * B := q2
theorem Ev.last {g B j a b : Nat} (h : Ev g B j a b) (hB : B < 2 ^ 200) (hj : 500 ≤ j) : b = 0 := by
  obtain ⟨h1, h2, h3⟩ := h
  obtain ⟨q1, q2⟩ := h3 (by omega)
  by_cases hb : b = 0
  · exact hb
  · have hp : 1 ≤ a * b := Nat.mul_pos (by omega) (by omega)
    have hBB : B * B < 2 ^ 400 := by
      have e : (2 : Nat) ^ 400 = 2 ^ 200 * 2 ^ 200 := by rw [← Nat.pow_add]
      rw [e]
      exact Nat.mul_lt_mul_of_lt_of_lt hB hB
    have hpow : 2 ^ 400 ≤ 2 ^ (j - 1) := Nat.pow_le_pow_right (by decide) (by omega)
    have := Nat.mul_le_mul_right (2 ^ (j - 1)) hp
    omega
theorem shared_eq {B : Nat} (xs : List Int) (cs : List HC) (hx : ∀ x ∈ xs, x.natAbs ≤ B) (hB : B < 2 ^ 200) : m__law_shared [tI xs] cs = .ok (.d (.int (G xs))) cs := by
  refine Wp.eq (wp_def ?_)
  show Wp (b__law_shared [some (tI xs), none, none, none, none, none] cs) _
  unfold b__law_shared
  refine wp_seq (wp_set (wp_c (wp_nx ?_)))
  refine wp_mid (fun ρ cs' => cs' = cs ∧ ∃ x2 x3 x4 x5, ρ = [some (tI xs), some (.d (.int (G xs))), x2, x3, x4, x5]) ?_ fun ρ cs' hJ => ?_
  · repeat walk_at "mir"
    refine wp_seqI (.inr rfl) rfl ?_
    refine wp_forAll (I := fun n ρ cs' => cs' = cs ∧ ∃ x2 x3 x4 x5, ρ = [some (tI xs), some (.d (.int (G (xs.take n)))), x2, x3, x4, x5]) (n := 0) ⟨rfl, _, _, _, _, rfl⟩ (fun k d ed ρ cs' hI => ?_) fun ρ cs' hI => ?_
    · obtain ⟨rfl, x2, x3, x4, x5, rfl⟩ := hI
      rw [Nat.zero_add]
      obtain ⟨x, ex, rfl⟩ := map_get ed
      have bG : G (xs.take k) ≤ B := G_le fun y hy => hx y (List.mem_of_mem_take hy)
      have bx := hx x (List.mem_of_getElem? ex)
      refine ⟨_, rfl, ?_⟩
      refine wp_seq (wp_par (wp_var rfl (wp_call (wp_cons (wp_var rfl (wp_nil (wp_abs (wp_nx ?_))))))))
      rw [show (if x < 0 then -x else x) = (x.natAbs : Int) by split <;> omega]
      have hg := G_take ex
      generalize hgg : G (xs.take (k + 1)) = g at hg
      refine wp_mid (fun ρ cs2 => cs2 = cs' ∧ ∃ x4 x5, ρ = [some (tI xs), some (.d (.int (G (xs.take k)))), some (.d (.int x)), some (.d (.int g)), x4, x5]) ?_ fun ρ cs2 hJ => ?_
      · repeat walk_at "mir"
        refine ⟨by decide, by decide, ?_⟩
        refine wp_forAll (I := fun j ρ cs2 => cs2 = cs' ∧ ∃ (a b : Nat) (x5 : Option Sl), ρ = [some (tI xs), some (.d (.int (G (xs.take k)))), some (.d (.int x)), some (.d (.int (a : Int))), some (.d (.int (b : Int))), x5] ∧ Ev g B j a b) (n := 0)
          ⟨rfl, _, _, _, rfl, hg.symm, fun _ => ⟨bG, bx⟩, fun z => absurd z (by decide)⟩ (fun j d ej ρ cs2 hI => ?_) fun ρ cs2 hI => ?_
        · obtain ⟨rfl, a, b, y5, rfl, ev⟩ := hI
          rw [Nat.zero_add] at ev ⊢
          refine ⟨_, rfl, ?_⟩
          repeat walk_at "mir"
          refine ifK_b (fun e => ?_) (fun e => ?_)
          · have hb : b = 0 := by
              have : (b : Int) = 0 := by simpa using e
              omega
            have ha : a = g := by
              have := ev.1
              rw [hb, Nat.gcd_zero_right] at this
              exact this
            repeat walk_at "mir"
            subst ha
            exact ⟨rfl, _, _, rfl⟩
          · have hb : 0 < b := by
              have : ¬ (b : Int) = 0 := by simpa using e
              omega
            repeat walk_at "mir"
            refine wp_mod (by omega) ?_
            repeat walk_at "mir"
            exact ⟨rfl, b, a % b, _, rfl, ev.step hb⟩
        · obtain ⟨rfl, a, b, y5, rfl, ev⟩ := hI
          have hb := ev.last hB (by rw [rngD_len]; decide)
          have ha : a = g := by
            have := ev.1
            rw [hb, Nat.gcd_zero_right] at this
            exact this
          subst ha
          exact ⟨rfl, _, _, rfl⟩
      · obtain ⟨rfl, y4, y5, rfl⟩ := hJ
        repeat walk_at "mir"
        exact ⟨rfl, _, _, _, _, rfl⟩
    · rw [Nat.zero_add, List.length_map, List.take_length] at hI
      exact hI
  · obtain ⟨rfl, x2, x3, x4, x5, rfl⟩ := hJ
    repeat walk_at "mir"
    exact ⟨rfl, List.take_length⟩
theorem value4_eq {A B : Nat} (f0 : Int) (fs : List Int) (x0 : Int) (xs : List Int) (cs : List HC) (hA : A < 10 ^ 60) (hB : B < 2 ^ 200) (hf : ∀ x ∈ f0 :: fs, x.natAbs ≤ A) (hx : ∀ x ∈ x0 :: xs, x.natAbs ≤ B) (hl : fs.length ≤ 14) (he : xs.length = fs.length) (h0 : 0 ≤ x0) :
    m_value_at [tI (f0 :: fs), tI (x0 :: xs)] cs = .ok (.d (.int (dot (f0 :: fs) (x0 :: xs)))) cs :=
  value_eq (f0 :: fs) x0 xs cs hA (Nat.lt_trans hB (by decide)) hf hx (by rw [List.length_cons]; omega) (by rw [List.length_cons]; omega) h0
end K04
set_option maxHeartbeats 4000000
namespace K04
open PySem PySem.Spec PyProof.Rows L2 Mir
open Com
local macro_rules | `(tactic| walk_at "mir") => `(tactic| first
  | with_reducible refine wp_seq ?_ | with_reducible refine wp_nx ?_ | with_reducible refine wp_rt ?_ | with_reducible refine wp_bk ?_ | with_reducible refine wp_ct ?_
  | with_reducible refine fk_nx ?_ | with_reducible refine fk_ct ?_ | with_reducible refine fk_rt ?_ | with_reducible refine fk_bk ?_
  | with_reducible refine wp_dd ?_ | with_reducible refine wp_dn ?_
  | ((with_reducible refine wp_vari ?_); refine ⟨_, rfl, ?_⟩) | with_reducible refine wp_c ?_ | with_reducible refine wp_bin ?_
  | with_reducible refine wp_add ?_ | with_reducible refine wp_sub ?_ | with_reducible refine wp_lt ?_ | with_reducible refine wp_le ?_ | with_reducible refine wp_gt ?_ | with_reducible refine wp_ge ?_
  | with_reducible refine wp_eqI ?_ | with_reducible refine wp_neI ?_ | with_reducible refine wp_neg ?_ | with_reducible refine wp_un ?_
  | with_reducible refine wp_cut ?_ | with_reducible refine wp_cutT ?_ | with_reducible refine wp_no ?_ | with_reducible refine wp_part ?_ | with_reducible refine wp_toB ?_ | with_reducible refine wp_test ?_
  | with_reducible refine wp_chain ?_ | with_reducible refine wp_andT ?_ | with_reducible refine wp_orT ?_ | with_reducible refine wp_notT ?_ | with_reducible refine wp_and ?_ | with_reducible refine wp_or ?_ | with_reducible refine wp_not ?_
  | with_reducible refine wp_if ?_ | with_reducible refine wp_sif ?_ | with_reducible refine wp_isi ?_ | with_reducible refine wp_nil ?_ | with_reducible refine wp_cons ?_ | with_reducible refine wp_tup ?_ | with_reducible refine wp_lst ?_
  | with_reducible refine wp_L ?_ | with_reducible refine wp_New ?_ | with_reducible refine wp_call ?_ | with_reducible refine wp_own ?_ | with_reducible refine wp_ownL ?_
  | with_reducible refine wp_abs ?_ | with_reducible refine wp_int ?_ | with_reducible refine wp_intB ?_ | with_reducible refine wp_maxX ?_ | with_reducible refine wp_minX ?_ | with_reducible refine wp_tupleT ?_
  | with_reducible refine wp_isB ?_ | with_reducible refine wp_isNo ?_ | with_reducible refine wp_notB ?_ | with_reducible refine wp_notNo ?_ | with_reducible refine wp_parN ?_ | with_reducible refine wp_rgs ?_ | with_reducible refine wp_c0 ?_ | with_reducible refine wp_listRg ?_ | with_reducible refine wp_binL ?_ | with_reducible refine wp_lenD ?_
  | with_reducible refine wp_snil ?_ | with_reducible refine wp_break ?_ | with_reducible refine wp_cont ?_ | with_reducible refine wp_ret ?_ | with_reducible refine wp_set ?_ | with_reducible refine wp_new ?_ | with_reducible refine wp_par ?_ | with_reducible refine wp_drop ?_
  | with_reducible refine wp_put ?_ | with_reducible refine wp_app ?_ | with_reducible refine wp_rng1 ?_ | with_reducible refine wp_zipX ?_ | with_reducible refine wp_forN ?_ | with_reducible refine wp_seqN ?_ | with_reducible refine wp_zipN ?_ | with_reducible refine wp_enum ?_ | with_reducible refine wp_lc ?_ | with_reducible refine wp_dc ?_ | with_reducible refine wp_for ?_ | with_reducible refine wp_listOf ?_
  | ((with_reducible refine ifK_t ?_ ?_); rfl) | ((with_reducible refine ifK_f ?_ ?_); rfl)
  | ((with_reducible refine ex_id ?_); (first | refine ⟨_, rfl, Nat.le_of_ble_eq_true rfl, ?_⟩ | refine ⟨_, rfl, ?_⟩))
  | refine ⟨_, rfl, Nat.le_of_ble_eq_true rfl, ?_⟩ | refine ⟨_, rfl, ?_⟩)
local macro_rules | `(tactic| walk_at "mis") => `(tactic| first
  | with_reducible refine wp_nx ?_ | with_reducible refine wp_rt ?_ | with_reducible refine wp_bk ?_ | with_reducible refine wp_ct ?_
  | with_reducible refine fk_nx ?_ | with_reducible refine fk_ct ?_ | with_reducible refine fk_rt ?_ | with_reducible refine fk_bk ?_
  | with_reducible refine wp_dd ?_ | with_reducible refine wp_dn ?_
  | ((with_reducible refine wp_vari ?_); refine ⟨_, rfl, ?_⟩) | with_reducible refine wp_c ?_ | with_reducible refine wp_bin ?_
  | with_reducible refine wp_add ?_ | with_reducible refine wp_sub ?_ | with_reducible refine wp_lt ?_ | with_reducible refine wp_le ?_ | with_reducible refine wp_gt ?_ | with_reducible refine wp_ge ?_
  | with_reducible refine wp_eqI ?_ | with_reducible refine wp_neI ?_ | with_reducible refine wp_neg ?_ | with_reducible refine wp_un ?_
  | with_reducible refine wp_cut ?_ | with_reducible refine wp_cutT ?_ | with_reducible refine wp_no ?_ | with_reducible refine wp_part ?_ | with_reducible refine wp_toB ?_ | with_reducible refine wp_test ?_
  | with_reducible refine wp_chain ?_ | with_reducible refine wp_andT ?_ | with_reducible refine wp_orT ?_ | with_reducible refine wp_notT ?_ | with_reducible refine wp_and ?_ | with_reducible refine wp_or ?_ | with_reducible refine wp_not ?_
  | with_reducible refine wp_if ?_ | with_reducible refine wp_sif ?_ | with_reducible refine wp_isi ?_ | with_reducible refine wp_nil ?_ | with_reducible refine wp_cons ?_ | with_reducible refine wp_tup ?_ | with_reducible refine wp_lst ?_
  | with_reducible refine wp_L ?_ | with_reducible refine wp_New ?_ | with_reducible refine wp_call ?_ | with_reducible refine wp_own ?_ | with_reducible refine wp_ownL ?_
  | with_reducible refine wp_abs ?_ | with_reducible refine wp_int ?_ | with_reducible refine wp_intB ?_ | with_reducible refine wp_maxX ?_ | with_reducible refine wp_minX ?_ | with_reducible refine wp_tupleT ?_
  | with_reducible refine wp_isB ?_ | with_reducible refine wp_isNo ?_ | with_reducible refine wp_notB ?_ | with_reducible refine wp_notNo ?_ | with_reducible refine wp_parN ?_ | with_reducible refine wp_rgs ?_ | with_reducible refine wp_c0 ?_ | with_reducible refine wp_listRg ?_ | with_reducible refine wp_binL ?_ | with_reducible refine wp_lenD ?_
  | with_reducible refine wp_snil ?_ | with_reducible refine wp_break ?_ | with_reducible refine wp_cont ?_ | with_reducible refine wp_ret ?_ | with_reducible refine wp_set ?_ | with_reducible refine wp_new ?_ | with_reducible refine wp_par ?_ | with_reducible refine wp_drop ?_
  | with_reducible refine wp_put ?_ | with_reducible refine wp_app ?_ | with_reducible refine wp_rng1 ?_ | with_reducible refine wp_zipX ?_ | with_reducible refine wp_forN ?_ | with_reducible refine wp_seqN ?_ | with_reducible refine wp_zipN ?_ | with_reducible refine wp_enum ?_ | with_reducible refine wp_lc ?_ | with_reducible refine wp_dc ?_ | with_reducible refine wp_for ?_ | with_reducible refine wp_listOf ?_
  | ((with_reducible refine ifK_t ?_ ?_); rfl) | ((with_reducible refine ifK_f ?_ ?_); rfl)
  | ((with_reducible refine ex_id ?_); (first | refine ⟨_, rfl, Nat.le_of_ble_eq_true rfl, ?_⟩ | refine ⟨_, rfl, ?_⟩))
  | refine ⟨_, rfl, Nat.le_of_ble_eq_true rfl, ?_⟩ | refine ⟨_, rfl, ?_⟩)
local macro_rules | `(tactic| walk_at "mir") => `(tactic| with_reducible refine wp_is (pow60 _) ?_)
theorem fold_dvd : ∀ (xs : List Int) (c : Nat), xs.foldl (fun c x => Nat.gcd c x.natAbs) c ∣ c ∧ ∀ x ∈ xs, xs.foldl (fun c x => Nat.gcd c x.natAbs) c ∣ x.natAbs
  | [], c => ⟨Nat.dvd_refl _, fun _ h => by cases h⟩
  | y :: r, c => by
    obtain ⟨h1, h2⟩ := fold_dvd r (Nat.gcd c y.natAbs)
    refine ⟨Nat.dvd_trans h1 (Nat.gcd_dvd_left _ _), fun x hx => ?_⟩
    rcases List.mem_cons.mp hx with e | e
    · rw [e]
      exact Nat.dvd_trans h1 (Nat.gcd_dvd_right _ _)
    · exact h2 x e
theorem G_dvd {xs : List Int} {x : Int} (h : x ∈ xs) : (G xs : Int) ∣ x := Int.natAbs_dvd_natAbs.mp (by rw [Int.natAbs_natCast]; exact (fold_dvd xs 0).2 x h)
theorem fold_mul (g : Nat) : ∀ (ys : List Int) (c : Nat), (ys.map fun y => (g : Int) * y).foldl (fun c x => Nat.gcd c x.natAbs) (g * c) = g * ys.foldl (fun c x => Nat.gcd c x.natAbs) c
  | [], c => rfl
  | y :: r, c => by
    show (r.map fun y => (g : Int) * y).foldl (fun c x => Nat.gcd c x.natAbs) (Nat.gcd (g * c) ((g : Int) * y).natAbs) = _
    rw [Int.natAbs_mul, Int.natAbs_natCast, Nat.gcd_mul_left, fold_mul g r]
    rfl
theorem G_mul (g : Nat) (ys : List Int) : G (ys.map fun y => (g : Int) * y) = g * G ys := fold_mul g ys 0
theorem red_mul (xs : List Int) : ((red xs).map fun y => (G xs : Int) * y) = xs := by
  unfold red
  rw [List.map_map]
  conv => rhs; rw [← List.map_id xs]
  refine List.map_congr_left fun x hx => ?_
  show (G xs : Int) * (if G xs = 0 then x else x / (G xs : Int)) = x
  by_cases h : G xs = 0
  · have := G_dvd hx
    rw [h] at this
    have e : x = 0 := by simpa using this
    rw [if_pos h, e, Int.mul_zero]
  · rw [if_neg h]
    exact Int.mul_ediv_cancel' (G_dvd hx)
theorem G_red {xs : List Int} (h : G xs ≠ 0) : G (red xs) = 1 := by
  have e := congrArg G (red_mul xs)
  rw [G_mul] at e
  exact Nat.eq_of_mul_eq_mul_left (Nat.pos_of_ne_zero h) (by rw [e, Nat.mul_one])
theorem red_red {xs : List Int} (h : G xs ≠ 0) : red (red xs) = red xs := by
  have e : red (red xs) = (red xs).map fun x => if G (red xs) = 0 then x else x / (G (red xs) : Int) := rfl
  rw [e, G_red h]
  conv => rhs; rw [← List.map_id (red xs)]
  refine List.map_congr_left fun x _ => ?_
  rw [if_neg (by decide)]
  exact Int.ediv_one x
theorem red_zero {xs : List Int} (h : G xs = 0) : red xs = xs := by
  unfold red
  simp [h]
theorem dot_mul (g : Int) : ∀ fs ys : List Int, dot fs (ys.map fun y => g * y) = g * dot fs ys
  | [], _ => (Int.mul_zero g).symm
  | _ :: _, [] => (Int.mul_zero g).symm
  | f :: fs, y :: ys => by
    show f * (g * y) + dot fs (ys.map fun y => g * y) = g * (f * y + dot fs ys)
    rw [dot_mul g fs ys, Int.mul_add, ← Int.mul_assoc, ← Int.mul_assoc, Int.mul_comm f g]
theorem opp_opp : ∀ fs : List Int, opp (opp fs) = fs
  | [] => rfl
  | f :: fs => by
    show (-(-f - 1) - 1) :: ((fs.map fun x => -x).map fun x => -x) = f :: fs
    rw [List.map_map]
    congr 1
    · omega
    · conv => rhs; rw [← List.map_id fs]
      exact List.map_congr_left fun x _ => Int.neg_neg x
theorem dot_neg : ∀ fs ys : List Int, dot (fs.map fun x => -x) ys = -dot fs ys
  | [], _ => rfl
  | _ :: _, [] => rfl
  | f :: fs, y :: ys => by
    show -f * y + dot (fs.map fun x => -x) ys = -(f * y + dot fs ys)
    rw [dot_neg fs ys, Int.neg_mul, Int.neg_add]
theorem dot_opp (f : Int) (fs ys : List Int) : dot (opp (f :: fs)) (1 :: ys) = -dot (f :: fs) (1 :: ys) - 1 := by
  show (-f - 1) * 1 + dot (fs.map fun x => -x) ys = -(f * 1 + dot fs ys) - 1
  rw [dot_neg]
  omega
theorem red_le {B : Nat} {xs : List Int} (h : ∀ x ∈ xs, x.natAbs ≤ B) : ∀ y ∈ red xs, y.natAbs ≤ B := fun y hy => by
  obtain ⟨x, hx, rfl⟩ := List.mem_map.mp hy
  have := h x hx
  split
  · exact this
  · rw [Int.natAbs_ediv_of_dvd (G_dvd hx), Int.natAbs_natCast]
    exact Nat.le_trans (Nat.div_le_self _ _) this
theorem red_head {x : Int} {xs : List Int} (h : 0 ≤ x) : ∃ y ys, red (x :: xs) = y :: ys ∧ 0 ≤ y ∧ ys.length = xs.length := by
  refine ⟨_, _, rfl, ?_, by rw [List.length_map]⟩
  split
  · exact h
  · exact Int.ediv_nonneg h (by omega)

theorem opp_le {A : Nat} {fs : List Int} (hf : ∀ x ∈ fs, x.natAbs ≤ A) : ∀ y ∈ opp fs, y.natAbs ≤ A + 1 := by
  cases fs with
  | nil => exact fun y h => by cases h
  | cons f fs =>
    intro y hy
    rcases List.mem_cons.mp (show y ∈ (-f - 1) :: fs.map (fun x => -x) from hy) with e | e
    · have := hf f List.mem_cons_self
      omega
    · obtain ⟨x, hx, rfl⟩ := List.mem_map.mp e
      have := hf x (List.mem_cons_of_mem _ hx)
      omega
def tail2 : Rho → M Fl := sSeq (sSet 11 (mCall bTuple (mCons (mL (mLc (mRng1 (mVar 1)) (gSet 4) (mYes) (mBin oSub (mOwn 2 m__law_spin (mCons (mVar 0) (mCons (mC (.int 21)) (mNil)))) (mC (.int 10))) [4])) (mNil)))) (sSeq (sSet 12 (mBin oAdd (mTup (mCons (mBin oAdd (mBin oSub (mBin oIdx (mVar 10) (mC (.int 0))) (mOwn 2 m_value_at (mCons (mVar 10) (mCons (mBin oAdd (mTup (mCons (mC (.int 1)) (mNil))) (mVar 11)) (mNil))))) (mOwn 2 m__law_among (mCons (mVar 0) (mCons (mL (mLst (mCons (mC (.int 0)) (mCons (mUn oNeg (mC (.int 1))) (mCons (mC (.int 1)) (mCons (mC (.int 5)) (mCons (mUn oNeg (mC (.int 5))) (mNil)))))))) (mNil))))) (mNil))) (mCut (mVar 10) (mPart (mC (.int 1))) (mNo)))) (sSeq (sPar 13 14 (mOwn 2 m_value_at (mCons (mVar 12) (mCons (mBin oAdd (mTup (mCons (mC (.int 1)) (mNil))) (mVar 11)) (mNil)))) (mOwn 2 m_value_at (mCons (mOwn 1 m_opposite (mCons (mVar 12) (mNil))) (mCons (mBin oAdd (mTup (mCons (mC (.int 1)) (mNil))) (mVar 11)) (mNil))))) (sRet (mAnd (mBin oNe (mBin oGe (mVar 13) (mC (.int 0))) (mBin oGe (mVar 14) (mC (.int 0)))) (mBin oEq (mBin oAdd (mVar 13) (mVar 14)) (mUn oNeg (mC (.int 1))))))))
def tail1 : Rho → M Fl := sSeq (sPar 8 9 (mOwn 1 m_lowest (mCons (mVar 6) (mNil))) (mOwn 1 m__law_shared (mCons (mVar 6) (mNil)))) (sSeq (sIf (mTest (mBin oEq (mVar 9) (mC (.int 0)))) (sRet (mBin oEq (mVar 8) (mVar 6))) (sNil)) (sSeq (sIf (mOrT (mTest (mBin oNe (mCall bTuple (mCons (mL (mLc (mSeq (mVar 8)) (gSet 7) (mYes) (mBin oMul (mVar 9) (mVar 7)) [7])) (mNil))) (mVar 6))) (mOrT (mTest (mBin oNe (mOwn 1 m__law_shared (mCons (mVar 8) (mNil))) (mC (.int 1)))) (mTest (mBin oNe (mOwn 1 m_lowest (mCons (mVar 8) (mNil))) (mVar 8))))) (sRet (mC (.bool false))) (sNil)) (sSeq (sSet 10 (mOwn 3 m__law_plain_form (mCons (mVar 0) (mCons (mVar 1) (mCons (mC (.int 99)) (mNil)))))) (sSeq (sIf (mOrT (mTest (mBin oNe (mOwn 2 m_value_at (mCons (mVar 10) (mCons (mVar 6) (mNil)))) (mBin oMul (mVar 9) (mOwn 2 m_value_at (mCons (mVar 10) (mCons (mVar 8) (mNil))))))) (mTest (mBin oNe (mOwn 1 m_opposite (mCons (mOwn 1 m_opposite (mCons (mVar 10) (mNil))) (mNil))) (mVar 10)))) (sRet (mC (.bool false))) (sNil)) (tail2)))))
theorem right3 {k n : Nat} {cs cs6 : List HC} {many f0 : Int} {fr : List Int} {a2 a3 a4 a5 a6 a7 a8 a9 : Option Sl} {P : Sl → List HC → Prop} (m0 : 0 ≤ many) (m1 : many ≤ 14) (sp : Spin n k cs6) (f : Frm k cs cs6) (hn : n + 200 < 2 ^ 60)
    (hf : ∀ x ∈ f0 :: fr, x.natAbs ≤ 1000000) (fl : fr.length = many.toNat) (q : ∀ cs', Spin (n + 100) k cs' → Frm k cs cs' → P (.d (.bool true)) cs') :
    Wp (tail2 [some (.h k), some (.d (.int many)), a2, a3, a4, a5, a6, a7, a8, a9, some (tI (f0 :: fr)), none, none, none, none] cs6) (defK cs.length P) := by
  unfold tail2
  repeat walk_at "mir"
  refine ⟨by omega, by omega, by rw [rngD_len]; exact sl_of (by omega), ?_⟩
  refine wp_lcAll 14 (G := Ints 10) (C := fun j cs' => Spin (n + j) k cs' ∧ Frm k cs cs') (n := 0) (by rw [rngD_len]; omega) ⟨sp, f⟩ (fun d hd j cs4 hj hC => ?_) fun ds cs4 hl hg hC => ?_
  · obtain ⟨sp4, f4⟩ := hC
    refine ⟨_, rfl, ?_⟩
    repeat walk_at "mir"
    refine ⟨rfl, spin_wp sp4 (by omega) (by decide) (by decide) fun b cs5 b0 b1 sp5 f5 => ?_⟩
    repeat walk_at "mir"
    exact ⟨f5.1, _, rfl, ⟨_, rfl, by omega⟩, sp5, f4.trans f5⟩
  obtain ⟨sp4, f4⟩ := hC
  rw [rngD_len] at hl sp4
  obtain ⟨us, rfl, hus⟩ := ints_of hg
  rw [List.length_map] at hl
  have h1u : ∀ x ∈ (1 : Int) :: us, x.natAbs ≤ 10 := fun x hx => by
    rcases List.mem_cons.mp hx with e | e
    · rw [e]
      decide
    · exact hus x e
  have hpt : ((fun x => PyData.int 1 :: x) [] ++ us.map PyData.int) = ((1 : Int) :: us).map PyData.int := rfl
  repeat walk_at "mir"
  refine wp_tuple rfl ?_
  repeat walk_at "mir"
  refine wp_idxT (d := .int f0) (atI_nat (j := 0) rfl) ?_
  repeat walk_at "mir"
  refine wp_addT (sl_of (by simp only [List.length_cons, List.length_nil, List.length_map]; omega)) ?_
  rw [hpt]
  repeat walk_at "mir"
  refine ⟨rfl, wp_is (value4_eq (A := 1000000) (B := 10) f0 fr 1 us cs4 (by decide) (by decide) hf h1u (by omega) (by omega) (by decide)) ?_⟩
  have hd1 := dot_le (fs := f0 :: fr) (xs := 1 :: us) hf h1u (by rw [List.length_cons]; omega)
  generalize dot (f0 :: fr) (1 :: us) = z at hd1
  repeat walk_at "mir"
  refine ⟨rfl, among_wp sp4 (by omega) (fun _ _ => rfl) (Nat.le_of_ble_eq_true rfl) (Nat.le_of_ble_eq_true rfl) fun d cs5 hd sp5 f5 => ?_⟩
  obtain ⟨e, rfl, e1⟩ : ∃ i : Int, d = .int i ∧ i.natAbs ≤ 5 := by
    simp only [List.mem_cons, List.not_mem_nil, or_false] at hd
    rcases hd with e | e | e | e | e <;> exact ⟨_, e, by decide⟩
  clear hd
  repeat walk_at "mir"
  rw [cut1]
  refine wp_addT (sl_of (by simp only [List.length_cons, List.length_nil, List.length_map]; omega)) ?_
  have hmp : ((fun x => PyData.int (f0 - z + e) :: x) [] ++ fr.map PyData.int) = ((f0 - z + e) :: fr).map PyData.int := rfl
  rw [hmp]
  have g0 := hf f0 List.mem_cons_self
  have hmb : ∀ x ∈ (f0 - z + e) :: fr, x.natAbs ≤ 10 ^ 10 := fun x hx => by
    rcases List.mem_cons.mp hx with e | e
    · rw [e]
      omega
    · exact Nat.le_trans (hf x (List.mem_cons_of_mem _ e)) (by decide)
  generalize f0 - z + e = w at hmb
  have hob : ∀ y ∈ (-w - 1) :: fr.map (fun x => -x), y.natAbs ≤ 10 ^ 10 + 1 := opp_le (fs := w :: fr) hmb
  repeat walk_at "mir"
  refine wp_addT (sl_of (by simp only [List.length_cons, List.length_nil, List.length_map]; omega)) ?_
  rw [hpt]
  repeat walk_at "mir"
  refine ⟨rfl, wp_is (value4_eq (A := 10 ^ 10) (B := 10) w fr 1 us cs5 (by decide) (by decide) hmb h1u (by omega) (by omega) (by decide)) ?_⟩
  repeat walk_at "mir"
  refine ⟨rfl, wp_is (opposite_eq (A := 10 ^ 10) w fr cs5 (by decide) hmb (by omega)) ?_⟩
  repeat walk_at "mir"
  refine wp_addT (sl_of (by simp only [List.length_cons, List.length_nil, List.length_map]; omega)) ?_
  rw [hpt]
  repeat walk_at "mir"
  refine ⟨rfl, wp_is (value4_eq (A := 10 ^ 10 + 1) (B := 10) (-w - 1) (fr.map fun x => -x) 1 us cs5 (by decide) (by decide) hob h1u (by rw [List.length_map]; omega) (by rw [List.length_map]; omega) (by decide)) ?_⟩
  have hdo : dot ((-w - 1) :: fr.map fun x => -x) (1 :: us) = -dot (w :: fr) (1 :: us) - 1 := dot_opp w fr us
  rw [hdo]
  generalize dot (w :: fr) (1 :: us) = y
  repeat walk_at "mir"
  refine wp_neB ?_
  repeat walk_at "mir"
  refine ifK_t ?_ ?_
  · by_cases hy : 0 ≤ y
    · rw [decide_eq_true hy, decide_eq_false (by omega)]
      rfl
    · rw [decide_eq_false hy, decide_eq_true (by omega)]
      rfl
  · repeat walk_at "mir"
    rw [show y + (-y - 1) = -1 by omega, (f4.trans f5).take]
    exact q _ (sp5.mono (by omega)) (f4.trans f5)
theorem right2 {k n : Nat} {cs cs6 : List HC} {many v0 : Int} {vr : List Int} {a2 a3 a4 a5 a7 : Option Sl} {P : Sl → List HC → Prop} (m0 : 0 ≤ many) (m1 : many ≤ 14) (sp : Spin n k cs6) (f : Frm k cs cs6) (hn : n + 500 < 2 ^ 60)
    (hv : ∀ x ∈ v0 :: vr, x.natAbs ≤ 10 ^ 50) (h0 : 0 ≤ v0) (vl : vr.length = many.toNat) (q : ∀ cs', Spin (n + 200) k cs' → Frm k cs cs' → P (.d (.bool true)) cs') :
    Wp (tail1 [some (.h k), some (.d (.int many)), a2, a3, a4, a5, some (tI (v0 :: vr)), a7, none, none, none, none, none, none, none] cs6) (defK cs.length P) := by
  unfold tail1
  have hG := G_le hv
  repeat walk_at "mir"
  refine ⟨rfl, wp_is (lowest_eq v0 vr cs6 hv (by decide) (by omega) h0) ?_⟩
  repeat walk_at "mir"
  refine ⟨rfl, wp_is (shared_eq (v0 :: vr) cs6 hv (by decide)) ?_⟩
  repeat walk_at "mir"
  refine ifK_b (fun e => ?_) (fun e => ?_)
  · have e0 : G (v0 :: vr) = 0 := by
      have : (G (v0 :: vr) : Int) = 0 := by simpa using e
      omega
    rw [red_zero e0]
    repeat walk_at "mir"
    refine wp_is (eqT _ _) ?_
    repeat walk_at "mir"
    rw [f.take]
    exact q _ (sp.mono (by omega)) f
  · have e0 : G (v0 :: vr) ≠ 0 := fun z => by
      rw [z] at e
      cases e
    have hrm := red_mul (v0 :: vr)
    have hGr := G_red e0
    have hrr := red_red e0
    have hrb := red_le hv
    obtain ⟨y0, yr, er, y1, yl⟩ := red_head (xs := vr) h0
    have hdm := fun fs => dot_mul (G (v0 :: vr) : Int) fs (red (v0 :: vr))
    rw [hrm] at hdm
    rw [er] at hrm hGr hrr hrb hdm ⊢
    generalize G (v0 :: vr) = g at hG e0 hrm hdm e
    repeat walk_at "mir"
    refine wp_seqI (.inr rfl) rfl ⟨sl_of (by rw [List.length_map, List.length_cons]; omega), ?_⟩
    refine wp_lcMap (fun d => match d with | .int i => .int ((g : Int) * i) | _ => .none) (fun d hd => ?_) ?_
    · obtain ⟨i, rfl, hi⟩ := mem_ints hrb hd
      refine ⟨_, rfl, ?_⟩
      repeat walk_at "mir"
      exact wp_mul (mulc (by omega) (by omega)) ⟨rfl, rfl⟩
    rw [mapI (F := fun i => (g : Int) * i) (fun _ => rfl), hrm]
    repeat walk_at "mir"
    refine wp_tuple rfl ?_
    repeat walk_at "mir"
    refine wp_is (neT _ _) ?_
    repeat walk_at "mir"
    refine ⟨rfl, wp_is (shared_eq (y0 :: yr) cs6 hrb (by decide)) ?_⟩
    rw [hGr]
    repeat walk_at "mir"
    refine ⟨rfl, wp_is (lowest_eq y0 yr cs6 hrb (by decide) (by omega) y1) ?_⟩
    rw [hrr]
    repeat walk_at "mir"
    refine wp_is (neT _ _) ?_
    repeat walk_at "mir"
    refine ⟨rfl, plain_wp sp (by omega) m0 m1 (by decide) (by decide) fun d cs7 hd sp7 f7 => ?_⟩
    obtain ⟨fs, rfl, fl, hf⟩ := hd
    obtain ⟨f0, fr, rfl⟩ : ∃ x0 xs', fs = x0 :: xs' := by
      cases fs with
      | nil =>
        rw [List.length_nil] at fl
        omega
      | cons x0 xs' => exact ⟨x0, xs', rfl⟩
    have fl' : fr.length + 1 = (many + 1).toNat := fl
    repeat walk_at "mir"
    refine ⟨rfl, wp_is (value4_eq (A := 1000000) (B := 10 ^ 50) f0 fr v0 vr cs7 (by decide) (by decide) hf hv (by omega) (by omega) h0) ?_⟩
    repeat walk_at "mir"
    refine ⟨rfl, wp_is (value4_eq (A := 1000000) (B := 10 ^ 50) f0 fr y0 yr cs7 (by decide) (by decide) hf hrb (by omega) (by omega) y1) ?_⟩
    have hd2 := dot_le (fs := f0 :: fr) (xs := y0 :: yr) hf hrb (by rw [List.length_cons]; omega)
    rw [hdm]
    refine wp_mul (mulc (by omega) (by omega)) ?_
    repeat walk_at "mir"
    refine ifK_f (by simp) ?_
    repeat walk_at "mir"
    have hfo : ∀ y ∈ (-f0 - 1) :: fr.map (fun x => -x), y.natAbs ≤ 1000000 + 1 := opp_le (fs := f0 :: fr) hf
    refine ⟨rfl, wp_is (opposite_eq (A := 1000000) f0 fr cs7 (by decide) hf (by omega)) ?_⟩
    repeat walk_at "mir"
    refine ⟨rfl, wp_is (opposite_eq (A := 1000000 + 1) (-f0 - 1) (fr.map fun x => -x) cs7 (by decide) hfo (by rw [List.length_map]; omega)) ?_⟩
    have hoo : opp ((-f0 - 1) :: fr.map fun x => -x) = f0 :: fr := opp_opp (f0 :: fr)
    rw [hoo]
    repeat walk_at "mir"
    refine wp_is (neT _ _) ?_
    refine wp_toB ?_
    refine ifK_f rfl ?_
    refine wp_snil (wp_nx ?_)
    exact right3 m0 m1 sp7 (f.trans f7) (by omega) hf (by omega) fun cs' s' f' => q cs' (s'.mono (by omega)) f'
end K04
set_option maxHeartbeats 4000000
namespace K04
open PySem PySem.Spec PyProof.Rows L2 Mir
open Com
local macro_rules | `(tactic| walk_at "mir") => `(tactic| first
  | with_reducible refine wp_seq ?_ | with_reducible refine wp_nx ?_ | with_reducible refine wp_rt ?_ | with_reducible refine wp_bk ?_ | with_reducible refine wp_ct ?_
  | with_reducible refine fk_nx ?_ | with_reducible refine fk_ct ?_ | with_reducible refine fk_rt ?_ | with_reducible refine fk_bk ?_
  | with_reducible refine wp_dd ?_ | with_reducible refine wp_dn ?_
  | ((with_reducible refine wp_vari ?_); refine ⟨_, rfl, ?_⟩) | with_reducible refine wp_c ?_ | with_reducible refine wp_bin ?_
  | with_reducible refine wp_add ?_ | with_reducible refine wp_sub ?_ | with_reducible refine wp_lt ?_ | with_reducible refine wp_le ?_ | with_reducible refine wp_gt ?_ | with_reducible refine wp_ge ?_
  | with_reducible refine wp_eqI ?_ | with_reducible refine wp_neI ?_ | with_reducible refine wp_neg ?_ | with_reducible refine wp_un ?_
  | with_reducible refine wp_cut ?_ | with_reducible refine wp_cutT ?_ | with_reducible refine wp_no ?_ | with_reducible refine wp_part ?_ | with_reducible refine wp_toB ?_ | with_reducible refine wp_test ?_
  | with_reducible refine wp_chain ?_ | with_reducible refine wp_andT ?_ | with_reducible refine wp_orT ?_ | with_reducible refine wp_notT ?_ | with_reducible refine wp_and ?_ | with_reducible refine wp_or ?_ | with_reducible refine wp_not ?_
  | with_reducible refine wp_if ?_ | with_reducible refine wp_sif ?_ | with_reducible refine wp_isi ?_ | with_reducible refine wp_nil ?_ | with_reducible refine wp_cons ?_ | with_reducible refine wp_tup ?_ | with_reducible refine wp_lst ?_
  | with_reducible refine wp_L ?_ | with_reducible refine wp_New ?_ | with_reducible refine wp_call ?_ | with_reducible refine wp_own ?_ | with_reducible refine wp_ownL ?_
  | with_reducible refine wp_abs ?_ | with_reducible refine wp_int ?_ | with_reducible refine wp_intB ?_ | with_reducible refine wp_maxX ?_ | with_reducible refine wp_minX ?_ | with_reducible refine wp_tupleT ?_
  | with_reducible refine wp_isB ?_ | with_reducible refine wp_isNo ?_ | with_reducible refine wp_notB ?_ | with_reducible refine wp_notNo ?_ | with_reducible refine wp_parN ?_ | with_reducible refine wp_rgs ?_ | with_reducible refine wp_c0 ?_ | with_reducible refine wp_listRg ?_ | with_reducible refine wp_binL ?_ | with_reducible refine wp_lenD ?_
  | with_reducible refine wp_snil ?_ | with_reducible refine wp_break ?_ | with_reducible refine wp_cont ?_ | with_reducible refine wp_ret ?_ | with_reducible refine wp_set ?_ | with_reducible refine wp_new ?_ | with_reducible refine wp_par ?_ | with_reducible refine wp_drop ?_
  | with_reducible refine wp_put ?_ | with_reducible refine wp_app ?_ | with_reducible refine wp_rng1 ?_ | with_reducible refine wp_zipX ?_ | with_reducible refine wp_forN ?_ | with_reducible refine wp_seqN ?_ | with_reducible refine wp_zipN ?_ | with_reducible refine wp_enum ?_ | with_reducible refine wp_lc ?_ | with_reducible refine wp_dc ?_ | with_reducible refine wp_for ?_ | with_reducible refine wp_listOf ?_
  | ((with_reducible refine ifK_t ?_ ?_); rfl) | ((with_reducible refine ifK_f ?_ ?_); rfl)
  | ((with_reducible refine ex_id ?_); (first | refine ⟨_, rfl, Nat.le_of_ble_eq_true rfl, ?_⟩ | refine ⟨_, rfl, ?_⟩))
  | refine ⟨_, rfl, Nat.le_of_ble_eq_true rfl, ?_⟩ | refine ⟨_, rfl, ?_⟩)
local macro_rules | `(tactic| walk_at "mis") => `(tactic| first
  | with_reducible refine wp_nx ?_ | with_reducible refine wp_rt ?_ | with_reducible refine wp_bk ?_ | with_reducible refine wp_ct ?_
  | with_reducible refine fk_nx ?_ | with_reducible refine fk_ct ?_ | with_reducible refine fk_rt ?_ | with_reducible refine fk_bk ?_
  | with_reducible refine wp_dd ?_ | with_reducible refine wp_dn ?_
  | ((with_reducible refine wp_vari ?_); refine ⟨_, rfl, ?_⟩) | with_reducible refine wp_c ?_ | with_reducible refine wp_bin ?_
  | with_reducible refine wp_add ?_ | with_reducible refine wp_sub ?_ | with_reducible refine wp_lt ?_ | with_reducible refine wp_le ?_ | with_reducible refine wp_gt ?_ | with_reducible refine wp_ge ?_
  | with_reducible refine wp_eqI ?_ | with_reducible refine wp_neI ?_ | with_reducible refine wp_neg ?_ | with_reducible refine wp_un ?_
  | with_reducible refine wp_cut ?_ | with_reducible refine wp_cutT ?_ | with_reducible refine wp_no ?_ | with_reducible refine wp_part ?_ | with_reducible refine wp_toB ?_ | with_reducible refine wp_test ?_
  | with_reducible refine wp_chain ?_ | with_reducible refine wp_andT ?_ | with_reducible refine wp_orT ?_ | with_reducible refine wp_notT ?_ | with_reducible refine wp_and ?_ | with_reducible refine wp_or ?_ | with_reducible refine wp_not ?_
  | with_reducible refine wp_if ?_ | with_reducible refine wp_sif ?_ | with_reducible refine wp_isi ?_ | with_reducible refine wp_nil ?_ | with_reducible refine wp_cons ?_ | with_reducible refine wp_tup ?_ | with_reducible refine wp_lst ?_
  | with_reducible refine wp_L ?_ | with_reducible refine wp_New ?_ | with_reducible refine wp_call ?_ | with_reducible refine wp_own ?_ | with_reducible refine wp_ownL ?_
  | with_reducible refine wp_abs ?_ | with_reducible refine wp_int ?_ | with_reducible refine wp_intB ?_ | with_reducible refine wp_maxX ?_ | with_reducible refine wp_minX ?_ | with_reducible refine wp_tupleT ?_
  | with_reducible refine wp_isB ?_ | with_reducible refine wp_isNo ?_ | with_reducible refine wp_notB ?_ | with_reducible refine wp_notNo ?_ | with_reducible refine wp_parN ?_ | with_reducible refine wp_rgs ?_ | with_reducible refine wp_c0 ?_ | with_reducible refine wp_listRg ?_ | with_reducible refine wp_binL ?_ | with_reducible refine wp_lenD ?_
  | with_reducible refine wp_snil ?_ | with_reducible refine wp_break ?_ | with_reducible refine wp_cont ?_ | with_reducible refine wp_ret ?_ | with_reducible refine wp_set ?_ | with_reducible refine wp_new ?_ | with_reducible refine wp_par ?_ | with_reducible refine wp_drop ?_
  | with_reducible refine wp_put ?_ | with_reducible refine wp_app ?_ | with_reducible refine wp_rng1 ?_ | with_reducible refine wp_zipX ?_ | with_reducible refine wp_forN ?_ | with_reducible refine wp_seqN ?_ | with_reducible refine wp_zipN ?_ | with_reducible refine wp_enum ?_ | with_reducible refine wp_lc ?_ | with_reducible refine wp_dc ?_ | with_reducible refine wp_for ?_ | with_reducible refine wp_listOf ?_
  | ((with_reducible refine ifK_t ?_ ?_); rfl) | ((with_reducible refine ifK_f ?_ ?_); rfl)
  | ((with_reducible refine ex_id ?_); (first | refine ⟨_, rfl, Nat.le_of_ble_eq_true rfl, ?_⟩ | refine ⟨_, rfl, ?_⟩))
  | refine ⟨_, rfl, Nat.le_of_ble_eq_true rfl, ?_⟩ | refine ⟨_, rfl, ?_⟩)
local macro_rules | `(tactic| walk_at "mir") => `(tactic| with_reducible refine wp_is (pow60 _) ?_)
theorem right_wp {k n : Nat} {cs : List HC} {P : Sl → List HC → Prop} (h : Spin n k cs) (hn : n + 5000 < 2 ^ 60)
    (q : ∀ cs', Spin (n + 1000) k cs' → Frm k cs cs' → P (.d (.bool true)) cs') : Wp (m__law_right [.h k] cs) P := by
  refine wp_def ?_
  show Wp (b__law_right [some (.h k), none, none, none, none, none, none, none, none, none, none, none, none, none, none] cs) _
  unfold b__law_right
  repeat walk_at "mir"
  refine ⟨rfl, among_wp h (by omega) (fun _ _ => rfl) (Nat.le_of_ble_eq_true rfl) (Nat.le_of_ble_eq_true rfl) fun d cs1 hd sp1 f1 => ?_⟩
  obtain ⟨many, rfl, m0, m1⟩ : ∃ i : Int, d = .int i ∧ 0 ≤ i ∧ i ≤ 14 := by
    simp only [List.mem_cons, List.not_mem_nil, or_false] at hd
    rcases hd with e | e | e | e | e | e <;> exact ⟨_, e, by decide, by decide⟩
  clear hd
  repeat walk_at "mir"
  refine ⟨rfl, among_wp sp1 (by omega) (fun _ _ => rfl) (Nat.le_of_ble_eq_true rfl) (Nat.le_of_ble_eq_true rfl) fun d cs2 hd sp2 f2 => ?_⟩
  obtain ⟨size, rfl, z0, z1⟩ : ∃ i : Int, d = .int i ∧ 1 ≤ i ∧ i ≤ 10 ^ 40 := by
    simp only [List.mem_cons, List.not_mem_nil, or_false] at hd
    rcases hd with e | e | e | e <;> exact ⟨_, e, by decide +kernel, by decide +kernel⟩
  clear hd
  have f12 := f1.trans f2
  repeat walk_at "mir"
  refine ⟨rfl, spin_wp sp2 (by omega) (by decide) (by decide) fun p0 cs3 p1 p2 sp3 f3 => ?_⟩
  have f13 := f12.trans f3
  repeat walk_at "mir"
  refine ⟨by omega, by omega, by rw [rngD_len]; exact sl_of (by omega), ?_⟩
  refine wp_lcAll 14 (G := Ints (10 ^ 40)) (C := fun j cs' => Spin (n + 3 + j) k cs' ∧ Frm k cs cs') (n := 0) (by rw [rngD_len]; omega) ⟨sp3, f13⟩ (fun d hd j cs4 hj hC => ?_) fun ds cs4 hl hg hC => ?_
  · obtain ⟨sp4, f4⟩ := hC
    refine ⟨_, rfl, ?_⟩
    repeat walk_at "mir"
    refine wp_mul (mulc (by decide) (by omega)) ?_
    repeat walk_at "mir"
    refine ⟨rfl, spin_wp sp4 (by omega) (by omega) (Nat.lt_trans (lg (n := 200) (by omega) (by decide)) (by decide)) fun b cs5 b0 b1 sp5 f5 => ?_⟩
    repeat walk_at "mir"
    exact ⟨f5.1, _, rfl, ⟨_, rfl, by omega⟩, sp5, f4.trans f5⟩
  obtain ⟨sp4, f4⟩ := hC
  rw [rngD_len] at hl sp4
  obtain ⟨ps, rfl, hps⟩ := ints_of hg
  rw [List.length_map] at hl
  repeat walk_at "mir"
  refine wp_tuple rfl ?_
  repeat walk_at "mir"
  refine wp_addT (sl_of (by simp only [List.length_cons, List.length_nil, List.length_map]; omega)) ?_
  have hpt : ((fun x => PyData.int p0 :: x) [] ++ ps.map PyData.int) = (p0 :: ps).map PyData.int := rfl
  rw [hpt]
  repeat walk_at "mir"
  refine ⟨rfl, among_wp sp4 (by omega) (fun _ _ => rfl) (Nat.le_of_ble_eq_true rfl) (Nat.le_of_ble_eq_true rfl) fun d cs5 hd sp5 f5 => ?_⟩
  obtain ⟨top, rfl, t0, t1⟩ : ∃ i : Int, d = .int i ∧ 1 ≤ i ∧ i ≤ 10 ^ 9 := by
    simp only [List.mem_cons, List.not_mem_nil, or_false] at hd
    rcases hd with e | e | e <;> exact ⟨_, e, by decide +kernel, by decide +kernel⟩
  clear hd
  repeat walk_at "mir"
  refine ⟨rfl, spin_wp sp5 (by omega) (by omega) (Nat.lt_trans (lg (n := 200) (by omega) (by decide)) (by decide)) fun b cs6 b0 b1 sp6 f6 => ?_⟩
  have f16 := (f4.trans f5).trans f6
  repeat walk_at "mir"
  refine wp_seqI (.inr rfl) rfl ⟨sl_of (by rw [List.length_map, List.length_cons]; omega), ?_⟩
  have hpb : ∀ x ∈ p0 :: ps, x.natAbs ≤ 10 ^ 40 := fun x hx => by
    rcases List.mem_cons.mp hx with e | e
    · rw [e]
      omega
    · exact hps x e
  refine wp_lcMap (fun d => match d with | .int i => .int ((1 + b) * i) | _ => .none) (fun d hd => ?_) ?_
  · obtain ⟨i, rfl, hi⟩ := mem_ints hpb hd
    refine ⟨_, rfl, ?_⟩
    repeat walk_at "mir"
    exact wp_mul (mulc (by omega) (by omega)) ⟨rfl, rfl⟩
  rw [mapI (F := fun i => (1 + b) * i) (fun _ => rfl)]
  have hvb : ∀ x ∈ (p0 :: ps).map (fun i => (1 + b) * i), x.natAbs ≤ 10 ^ 50 := fun x hx => by
    obtain ⟨y, hy, rfl⟩ := List.mem_map.mp hx
    refine Nat.le_trans (mul_le (A := 10 ^ 9) (B := 10 ^ 40) (by omega) (hpb y hy)) (by decide)
  have hv0 : 0 ≤ (1 + b) * p0 := Int.mul_nonneg (by omega) p1
  simp only [List.map_cons] at hvb ⊢
  have hvl : (ps.map fun i => (1 + b) * i).length = many.toNat := by rw [List.length_map]; exact hl
  generalize ps.map (fun i => (1 + b) * i) = vr at hvb hvl
  generalize (1 + b) * p0 = v0 at hvb hv0
  repeat walk_at "mir"
  refine wp_tuple rfl ?_
  refine wp_nx ?_
  exact right2 m0 m1 sp6 f16 (by omega) hvb hv0 hvl fun cs' s' f' => q cs' (s'.mono (by omega)) f'
theorem law_true : ∀ ns : List Int, ns.length ≤ 63 → ∃ cs, m_law [.s ns] [] = .ok (.d (.bool true)) cs := fun ns hns => by
  have w : Wp (m_law [.s ns] []) fun sl _ => sl = .d (.bool true) := by
    refine wp_def ?_
    show Wp (b_law [some (.s ns), none, none, none] []) _
    unfold b_law
    refine wp_mid (fun ρ' cs' => ∃ a1 a2, ρ' = [some (.s ns), a1, a2, none]) ?_ fun ρ' cs' hJ => ?_
    · repeat walk_at "mir"
      have hM : ∀ L : Int, 0 ≤ L → 1 ≤ (if (if L < 3 then L else 3) > 1 then (if L < 3 then L else 3) else 1) ∧ (if (if L < 3 then L else 3) > 1 then (if L < 3 then L else 3) else 1) ≤ 3 := fun L hL => by
        split <;> split <;> omega
      have hM := hM (List.map PyData.int ns).length (by omega)
      generalize (if (if ((List.map PyData.int ns).length : Int) < 3 then ((List.map PyData.int ns).length : Int) else 3) > 1 then (if ((List.map PyData.int ns).length : Int) < 3 then ((List.map PyData.int ns).length : Int) else 3) else 1) = M at hM ⊢
      refine ⟨by omega, by omega, ?_⟩
      refine wp_forAll (I := fun j ρ' cs' => ∃ a1 a2, ρ' = [some (.s ns), a1, a2, none]) (n := 0) ⟨_, _, rfl⟩ (fun j d ej ρ' cs2 hI => ?_) fun ρ' cs2 hI => ?_
      · obtain ⟨a1, a2, rfl⟩ := hI
        have hj := (List.getElem?_eq_some_iff.mp ej).1
        rw [rngD_len] at hj
        have ed : d = .int (0 + (j : Int)) := by
          simp only [rngD, List.getElem?_map, List.getElem?_range hj, Option.map_some, Option.some.injEq] at ej
          exact ej.symm
        subst ed
        refine ⟨_, rfl, ?_⟩
        repeat walk_at "mir"
        refine ⟨rfl, spins_wp (by omega) (by omega) fun a b => ?_⟩
        have sp0 : Spin 0 cs2.length (cs2 ++ [.lst [.int a, .int b, .int 0]]) := ⟨a, b, 0, by simp, by decide, by decide⟩
        generalize cs2 ++ [HC.lst [.int a, .int b, .int 0]] = cs3 at sp0
        repeat walk_at "mir"
        refine ⟨rfl, right_wp sp0 (by decide) fun cs4 sp4 f4 => ?_⟩
        repeat walk_at "mir"
        refine ⟨rfl, right_wp sp4 (by decide) fun cs5 sp5 f5 => ?_⟩
        repeat walk_at "mir"
        refine ⟨rfl, right_wp sp5 (by decide) fun cs6 sp6 f6 => ?_⟩
        repeat walk_at "mir"
        exact ⟨_, _, rfl⟩
      · exact hI
    · obtain ⟨a1, a2, rfl⟩ := hJ
      have bd : ∀ {xs : List Int}, (xs.all fun x => decide (x.natAbs ≤ 100)) = true → ∀ x ∈ xs, x.natAbs ≤ 100 := fun h x hx => of_decide_eq_true (List.all_eq_true.mp h x hx)
      have e1 : red [4, 6, -2] = [2, 3, -1] := by decide
      have e2 : red [0, 0] = [0, 0] := by decide
      have e3 : red [0, -9, 6] = [0, -3, 2] := by decide
      have e4 : red [5] = [1] := by decide
      repeat walk_at "mir"
      refine ⟨rfl, wp_is (lowest_eq (B := 100) 4 [6, -2] cs' (bd (by decide)) (by decide) (by decide) (by decide)) ?_⟩
      rw [e1]
      repeat walk_at "mir"
      refine ⟨rfl, wp_is (lowest_eq (B := 100) 0 [0] cs' (bd (by decide)) (by decide) (by decide) (by decide)) ?_⟩
      rw [e2]
      repeat walk_at "mir"
      refine ⟨rfl, wp_is (lowest_eq (B := 100) 0 [-9, 6] cs' (bd (by decide)) (by decide) (by decide) (by decide)) ?_⟩
      rw [e3]
      repeat walk_at "mir"
      refine ⟨rfl, wp_is (lowest_eq (B := 100) 5 [] cs' (bd (by decide)) (by decide) (by decide) (by decide)) ?_⟩
      rw [e4]
      repeat walk_at "mir"
      refine ⟨rfl, wp_is (opposite_eq (A := 100) 3 [-1] cs' (by decide) (bd (by decide)) (by decide)) ?_⟩
      repeat walk_at "mir"
      refine ⟨rfl, wp_is (opposite_eq (A := 100) (-1) [] cs' (by decide) (bd (by decide)) (by decide)) ?_⟩
      repeat walk_at "mir"
      refine wp_is (a := .d (.bool true)) (cs := cs') rfl ?_
      repeat walk_at "mir"
      rfl
  obtain ⟨sl, cs, e, rfl⟩ := w.get
  exact ⟨cs, e⟩
end K04
namespace K04
open PySem PySem.Spec PyProof.Rows L2 Mir
theorem end_ {P : Program} {w : World} {K : PySem.W.Frag} {h : Heap} {mg : Str → Option Value} {fa f : Addr} {oc : Value} {od an : Option Addr} {osl : Array (Option Value)} {kV doc pm cdv ct : Value} (X : K.In h) (G : h.Ns mainGlobals mg) (hfa : mg "law" = some (.ref fa))
    (a : PySem.W.nsIn K mainGlobals "law" = some (some (.ref f))) (l : K.lookup f = some ⟨oc, od, .func (PySem.W.fnOf "law" "law" (defArgs s_law) (defBody s_law) (defScope s_law) .none kV doc pm an cdv ct), osl⟩) (c : PySem.W.codeIn K cdv "law" = true) (k : PySem.W.keepIn K (.ref f) = true) (T : Tops K mg) :
    ∃ fd : FuncData, (∀ (s : Shared) (v : Value), BindsTo s fd ⟨[v], []⟩ [("script", v)]) ∧ ∀ base : Heap, K.In base → base.Ns mainGlobals mg → FnOk P w K mg base CX0 8 fa fd ["script"] (spLaw K) := by
  have e := hfa.symm.trans (PySem.W.mg_of X G a)
  cases e
  exact ⟨PySem.W.fnOf "law" "law" (defArgs s_law) (defBody s_law) (defScope s_law) .none kV doc pm an cdv ct, fun s v => .of_eq rfl, fun base _ _ => law_end (okF_law r0 T (fun_mk (st := s_law) l c k)) law_true⟩
end K04
open PySem PySem.W PyProof.Rows
set_option maxHeartbeats 0 in
theorem PySem.Challenge.cw_fallorflow_k04_whole_lowest_vectors_and_holds : PySem.Challenge.rw_fallorflow_k04_whole_lowest_vectors_and.Holds := by
  w_on; o_law; k_head; (case hw => w_witness2)
  k_fill
  refine L2.walk_of (l := PySem.Challenge.rw_fallorflow_k04_whole_lowest_vectors_and) (n := 63) (k := 8) (x := "script") (CX := fun _ => L2.CX0) (sp := fun w => Mir.spLaw _) rfl (by decide) rfl ⟨rfl, by decide, by decide⟩ (fun w h Y => PySem.W.kIn_of Y) ?F (fun _ _ a ns hl _ hS => ⟨a, ns, rfl, hS, hl, fun _ => rfl⟩) (fun _ _ _ _ _ h => h)
  case F =>
    intro w mg fa h KX G hmg
    refine' K04.end_ KX G hmg ?al ?ll ?cl ?kl (K04.Tops.mk
      (Mir.At.of KX G ?a_is_long_row ?l_is_long_row ?c_is_long_row ?k_is_long_row fun _ _ _ _ _ _ us hl => match us, hl with | [_, _], _ => rfl)
      (Mir.At.of KX G ?a_is_row_within ?l_is_row_within ?c_is_row_within ?k_is_row_within fun _ _ _ _ _ _ us hl => match us, hl with | [_, _, _], _ => rfl)
      (Mir.At.of KX G ?a_is_short_row ?l_is_short_row ?c_is_short_row ?k_is_short_row fun _ _ _ _ _ _ us hl => match us, hl with | [_, _], _ => rfl)
      (Mir.At.of KX G ?a_check_form ?l_check_form ?c_check_form ?k_check_form fun _ _ _ _ _ _ us hl => match us, hl with | [_, _], _ => rfl)
      (Mir.At.of KX G ?a_at_vector ?l_at_vector ?c_at_vector ?k_at_vector fun _ _ _ _ _ _ us hl => match us, hl with | [_, _], _ => rfl)
      (Mir.At.of KX G ?a_opposite_of ?l_opposite_of ?c_opposite_of ?k_opposite_of fun _ _ _ _ _ _ us hl => match us, hl with | [_], _ => rfl)
      (Mir.At.of KX G ?a_reduced ?l_reduced ?c_reduced ?k_reduced fun _ _ _ _ _ _ us hl => match us, hl with | [_], _ => rfl)
      (Mir.At.of KX G ?a__check_any_form ?l__check_any_form ?c__check_any_form ?k__check_any_form fun _ _ _ _ _ _ us hl => match us, hl with | [_], _ => rfl)
      (Mir.At.of KX G ?a__is_vector ?l__is_vector ?c__is_vector ?k__is_vector fun _ _ _ _ _ _ us hl => match us, hl with | [_, _], _ => rfl)
      (Mir.At.of KX G ?a_value_at ?l_value_at ?c_value_at ?k_value_at fun _ _ _ _ _ _ us hl => match us, hl with | [_, _], _ => rfl)
      (Mir.At.of KX G ?a_lowest ?l_lowest ?c_lowest ?k_lowest fun _ _ _ _ _ _ us hl => match us, hl with | [_], _ => rfl)
      (Mir.At.of KX G ?a_opposite ?l_opposite ?c_opposite ?k_opposite fun _ _ _ _ _ _ us hl => match us, hl with | [_], _ => rfl)
      (Mir.At.of KX G ?a__law_spins ?l__law_spins ?c__law_spins ?k__law_spins fun _ _ _ _ _ _ us hl => match us, hl with | [_, _], _ => rfl)
      (Mir.At.of KX G ?a__law_spin ?l__law_spin ?c__law_spin ?k__law_spin fun _ _ _ _ _ _ us hl => match us, hl with | [_, _], _ => rfl)
      (Mir.At.of KX G ?a__law_among ?l__law_among ?c__law_among ?k__law_among fun _ _ _ _ _ _ us hl => match us, hl with | [_, _], _ => rfl)
      (Mir.At.of KX G ?a__law_plain_form ?l__law_plain_form ?c__law_plain_form ?k__law_plain_form fun _ _ _ _ _ _ us hl => match us, hl with | [_, _, _], _ => rfl)
      (Mir.At.of KX G ?a__law_shared ?l__law_shared ?c__law_shared ?k__law_shared fun _ _ _ _ _ _ us hl => match us, hl with | [_], _ => rfl)
      (Mir.At.of KX G ?a__law_right ?l__law_right ?c__law_right ?k__law_right fun _ _ _ _ _ _ us hl => match us, hl with | [_], _ => rfl)
      (Mir.Int.of KX G ?g_TOO_LONG)
      (Mir.Int.of KX G ?g_MOST_UNKNOWNS)
      (PySem.W.mg_of KX G ?i_gcd)
      (PySem.W.mg_none_of KX G ?z_abs)
      (PySem.W.mg_none_of KX G ?z_int)
      (PySem.W.mg_none_of KX G ?z_isinstance)
      (PySem.W.mg_none_of KX G ?z_len)
      (PySem.W.mg_none_of KX G ?z_max)
      (PySem.W.mg_none_of KX G ?z_min)
      (PySem.W.mg_none_of KX G ?z_range)
      (PySem.W.mg_none_of KX G ?z_sum)
      (PySem.W.mg_none_of KX G ?z_tuple)
      (PySem.W.mg_none_of KX G ?z_zip))
    (case al => k_is); (case ll => k_is); (case cl => k_is); (case kl => k_is); (case a_is_long_row => k_is); (case l_is_long_row => k_is); (case c_is_long_row => k_is); (case k_is_long_row => k_is); (case a_is_row_within => k_is); (case l_is_row_within => k_is); (case c_is_row_within => k_is); (case k_is_row_within => k_is); (case a_is_short_row => k_is); (case l_is_short_row => k_is); (case c_is_short_row => k_is); (case k_is_short_row => k_is); (case a_check_form => k_is); (case l_check_form => k_is); (case c_check_form => k_is); (case k_check_form => k_is); (case a_at_vector => k_is); (case l_at_vector => k_is); (case c_at_vector => k_is); (case k_at_vector => k_is); (case a_opposite_of => k_is); (case l_opposite_of => k_is); (case c_opposite_of => k_is); (case k_opposite_of => k_is); (case a_reduced => k_is); (case l_reduced => k_is); (case c_reduced => k_is); (case k_reduced => k_is); (case a__check_any_form => k_is); (case l__check_any_form => k_is); (case c__check_any_form => k_is); (case k__check_any_form => k_is); (case a__is_vector => k_is); (case l__is_vector => k_is); (case c__is_vector => k_is); (case k__is_vector => k_is); (case a_value_at => k_is); (case l_value_at => k_is); (case c_value_at => k_is); (case k_value_at => k_is); (case a_lowest => k_is); (case l_lowest => k_is); (case c_lowest => k_is); (case k_lowest => k_is); (case a_opposite => k_is); (case l_opposite => k_is); (case c_opposite => k_is); (case k_opposite => k_is); (case a__law_spins => k_is); (case l__law_spins => k_is); (case c__law_spins => k_is); (case k__law_spins => k_is); (case a__law_spin => k_is); (case l__law_spin => k_is); (case c__law_spin => k_is); (case k__law_spin => k_is); (case a__law_among => k_is); (case l__law_among => k_is); (case c__law_among => k_is); (case k__law_among => k_is); (case a__law_plain_form => k_is); (case l__law_plain_form => k_is); (case c__law_plain_form => k_is); (case k__law_plain_form => k_is); (case a__law_shared => k_is); (case l__law_shared => k_is); (case c__law_shared => k_is); (case k__law_shared => k_is); (case a__law_right => k_is); (case l__law_right => k_is); (case c__law_right => k_is); (case k__law_right => k_is); (case g_TOO_LONG => k_is); (case g_MOST_UNKNOWNS => k_is); (case i_gcd => k_is); (case z_abs => k_is); (case z_int => k_is); (case z_isinstance => k_is); (case z_len => k_is); (case z_max => k_is); (case z_min => k_is); (case z_range => k_is); (case z_sum => k_is); (case z_tuple => k_is); (case z_zip => k_is)
