import PyProof.Rows.All
import Wide.All
import OpenK.AllK
import Wide.FinOn
import HandS.ForMost
import HandS.Walk
import HandS.TupAny
import HandS.TupMul
import HandS.Wide
import HandS.IsInst
import HandS.Style
import HandS.Star
import HandS.Comp
import HandS.Zip
import HandS.Rev
import HandS.RaiseMore
import HandS.Text
import KE.KDictZip
import KE.KDictList
import HandS.Dict
import HandS.Evl
import HandS.Ends
import PyProof.ReprLen
import HandS.WrittenGet
import HandS.SetKeys
import HandS.SetBool
import PyProof.Rows.SetFrom
import HandS.Deep
import HandS.TupSets
import HandS.SetFor
import HandS.Strs
import HandS.SortInts
import HandS.Conv
import HandS.More
import KE.DataMinMax
import HandS.ExcInit
import KE.KExcIs
import KE.KExcMake
import PySem.Challenge.RW_wherebeen_k10_forms_of_any_value
set_option Elab.async false
section
set_option autoImplicit false
set_option linter.all false
set_option maxRecDepth 100000
set_option maxHeartbeats 4000000
/-! DL0: data over the hand layer: what a value shows (Rp), the slots as data (StOk), what an expression may change (PresE). -/
namespace DL
open PySem PySem.Spec L2
abbrev Prot := Addr → Prop
/-- a list that is read as xs and that no protected address bears, or one of the written part -/
def SqLo (O : Prot) (H : Hp) (a : Addr) (xs : List V) : Prop := H a = some (.lst xs) ∧ ¬ O a
def SqTo (K : PySem.W.Frag) (O : Prot) (H : Hp) (a : Addr) (xs : List V) : Prop := (Rd H a (.tup xs) ∧ ¬ O a) ∨ SqT K (fun _ => none) a xs
def keyD : Key → PyData
  | .inl i => .int i
  | .inr x => .str x
mutual
inductive Rp (K : PySem.W.Frag) (O : Prot) (H : Hp) : V → PyData → Prop
  | non : Rp K O H .non .none
  | bl (b : Bool) : Rp K O H (.bl b) (.bool b)
  | int (i : Int) : Rp K O H (.int i) (.int i)
  | str (x : Str) : Rp K O H (.str x) (.str x)
  | lst {a : Addr} {xs : List V} {ds : List PyData} : SqLo O H a xs → RpA K O H xs ds → Rp K O H (.ref a) (.list ds)
  | tup {a : Addr} {xs : List V} {ds : List PyData} : SqTo K O H a xs → RpA K O H xs ds → Rp K O H (.ref a) (.tuple ds)
  | dic {a : Addr} {kvs : List (Key × V)} {ds : List PyData} : H a = some (.dK kvs) → ¬ O a → RpA K O H (kvs.map Prod.snd) ds → Rp K O H (.ref a) (.dict ((kvs.map fun p => keyD p.1).zip ds))
inductive RpA (K : PySem.W.Frag) (O : Prot) (H : Hp) : List V → List PyData → Prop
  | nil : RpA K O H [] []
  | cons {v : V} {vs : List V} {d : PyData} {ds : List PyData} : Rp K O H v d → RpA K O H vs ds → RpA K O H (v :: vs) (d :: ds)
end
/-- how a heap goes on to another, the protected addresses to others: what was tracked and not protected stays so -/
def Keeps (O : Prot) (H : Hp) (O' : Prot) (H' : Hp) : Prop := ∀ a o, H a = some o → ¬ O a → H' a = some o ∧ ¬ O' a
theorem Keeps.refl (O : Prot) (H : Hp) : Keeps O H O H := fun _ _ e n => ⟨e, n⟩
theorem Keeps.trans {O O' O2 : Prot} {H H' H2 : Hp} (a : Keeps O H O' H') (b : Keeps O' H' O2 H2) : Keeps O H O2 H2 := fun c o e n => let ⟨e', n'⟩ := a c o e n; b c o e' n'
theorem rd_keep {O O' : Prot} {H H' : Hp} (k : Keeps O H O' H') {a : Addr} {u : HO} (h : Rd H a u) (n : ¬ O a) : Rd H' a u ∧ ¬ O' a := by
  rcases h with h | ⟨o, h⟩
  · exact ⟨.inl (k a _ h n).1, (k a _ h n).2⟩
  · exact ⟨.inr ⟨o, (k a _ h n).1⟩, (k a _ h n).2⟩
section
variable {K : PySem.W.Frag} {O O' : Prot} {H H' : Hp}
theorem SqLo.keep (k : Keeps O H O' H') {a : Addr} {xs : List V} (h : SqLo O H a xs) : SqLo O' H' a xs := k a _ h.1 h.2
theorem SqTo.keep (k : Keeps O H O' H') {a : Addr} {xs : List V} (h : SqTo K O H a xs) : SqTo K O' H' a xs := h.imp (fun ⟨r, n⟩ => rd_keep k r n) id
theorem SqLo.sq {a : Addr} {xs : List V} (h : SqLo O H a xs) : SqL K H a xs := .of h.1
theorem SqTo.sq {a : Addr} {xs : List V} (h : SqTo K O H a xs) : SqT K H a xs := by
  rcases h with ⟨h, _⟩ | h
  · exact .inl h
  · rcases h with (h | ⟨_, h⟩) | h
    · cases h
    · cases h
    · exact .inr h
theorem Rp.keep (k : Keeps O H O' H') {v : V} {d : PyData} (h : Rp K O H v d) : Rp K O' H' v d :=
  Rp.rec (motive_1 := fun v d _ => Rp K O' H' v d) (motive_2 := fun vs ds _ => RpA K O' H' vs ds) .non .bl .int .str (fun a _ r => .lst (a.keep k) r) (fun a _ r => .tup (a.keep k) r)
    (fun a n _ r => let q := k _ _ a n; .dic q.1 q.2 r) .nil (fun _ _ a b => .cons a b) h
theorem RpA.keep (k : Keeps O H O' H') {vs : List V} {ds : List PyData} (h : RpA K O H vs ds) : RpA K O' H' vs ds :=
  RpA.rec (motive_1 := fun v d _ => Rp K O' H' v d) (motive_2 := fun vs ds _ => RpA K O' H' vs ds) .non .bl .int .str (fun a _ r => .lst (a.keep k) r) (fun a _ r => .tup (a.keep k) r)
    (fun a n _ r => let q := k _ _ a n; .dic q.1 q.2 r) .nil (fun _ _ a b => .cons a b) h
theorem RpA.length {vs : List V} {ds : List PyData} (h : RpA K O H vs ds) : vs.length = ds.length := by
  induction ds generalizing vs with
  | nil => cases h; rfl
  | cons d ds ih => cases h with | cons _ b => simp [ih b]
theorem RpA.append {vs ws : List V} {ds es : List PyData} (h : RpA K O H vs ds) (g : RpA K O H ws es) : RpA K O H (vs ++ ws) (ds ++ es) := by
  induction ds generalizing vs with
  | nil => cases h; exact g
  | cons d ds ih => cases h with | cons a b => exact .cons a (ih b)
theorem RpA.get {vs : List V} {ds : List PyData} (h : RpA K O H vs ds) {i : Nat} {v : V} (e : vs[i]? = some v) : ∃ d, ds[i]? = some d ∧ Rp K O H v d := by
  induction ds generalizing vs i with
  | nil => cases h; simp at e
  | cons d ds ih => cases h with
    | cons a b => cases i with
      | zero => simp at e; subst e; exact ⟨_, rfl, a⟩
      | succ i => simpa using ih b (i := i) (by simpa using e)
theorem RpA.getD {vs : List V} {ds : List PyData} (h : RpA K O H vs ds) {i : Nat} {d : PyData} (e : ds[i]? = some d) : ∃ v, vs[i]? = some v ∧ Rp K O H v d := by
  induction ds generalizing vs i with
  | nil => simp at e
  | cons d ds ih => cases h with
    | cons a b => cases i with
      | zero => simp at e; subst e; exact ⟨_, rfl, a⟩
      | succ i => simpa using ih b (i := i) (by simpa using e)
theorem RpA.take {vs : List V} {ds : List PyData} (h : RpA K O H vs ds) (n : Nat) : RpA K O H (vs.take n) (ds.take n) := by
  induction ds generalizing vs n with
  | nil => cases h; simp; exact .nil
  | cons d ds ih => cases h with
    | cons a b => cases n with
      | zero => exact .nil
      | succ n => exact .cons a (ih b n)
theorem RpA.drop {vs : List V} {ds : List PyData} (h : RpA K O H vs ds) (n : Nat) : RpA K O H (vs.drop n) (ds.drop n) := by
  induction ds generalizing vs n with
  | nil => cases h; simp; exact .nil
  | cons d ds ih => cases h with
    | cons a b => cases n with
      | zero => exact .cons a b
      | succ n => exact ih b n
theorem RpA.reverse {vs : List V} {ds : List PyData} (h : RpA K O H vs ds) : RpA K O H vs.reverse ds.reverse := by
  induction ds generalizing vs with
  | nil => cases h; exact .nil
  | cons d ds ih => cases h with
    | cons a b => rw [List.reverse_cons, List.reverse_cons]; exact (ih b).append (.cons a .nil)
theorem RpA.all {vs : List V} {ds : List PyData} (hl : vs.length = ds.length) (h : ∀ (i : Nat) (v : V) (d : PyData), vs[i]? = some v → ds[i]? = some d → Rp K O H v d) : RpA K O H vs ds := by
  induction ds generalizing vs with
  | nil => cases vs with
    | nil => exact .nil
    | cons _ _ => simp at hl
  | cons d ds ih => cases vs with
    | nil => simp at hl
    | cons v vs => exact .cons (h 0 v d rfl rfl) (ih (by simpa using hl) fun i v d a b => h (i + 1) v d (by simpa using a) (by simpa using b))
end
end DL
end
section
set_option autoImplicit false
set_option linter.all false
set_option maxRecDepth 100000
set_option maxHeartbeats 4000000
namespace DL
open PySem PySem.Spec L2
/-- a slot: unset; data (own: a list that nothing else bears); the bag; the counter -/
inductive SV where
  | un | dat (own : Bool) (d : PyData) | bag | left
abbrev GS := List SV
/-- what is around a body: addresses that are not to be borne by data, the bag and the counter among them -/
structure FC where
  P : Prot
  bag : Option Addr
  left : Option Addr
def FC.Z (F : FC) : Prot := fun a => F.bag = some a ∨ F.left = some a
def ownAt (σ : St) (Γ : GS) (a : Addr) : Prop := ∃ (i : Nat) (d : PyData), Γ[i]? = some (SV.dat true d) ∧ σ[i]? = some (some (V.ref a))
def Own (F : FC) (σ : St) (Γ : GS) : Prot := fun a => F.P a ∨ ownAt σ Γ a
/-- the bag's numbers: none below zero, not too many -/
def NsOk (ns : List Int) : Prop := ns.length ≤ 40000 ∧ ∀ n ∈ ns, 0 ≤ n
def BagOk (K : PySem.W.Frag) (O : Prot) (H : Hp) (a : Addr) : Prop := ∃ (b0 b1 b2 : Int) (c : V) (ns : List Int),
  H a = some (.lst [.int b0, .int b1, .int b2, c]) ∧ 0 ≤ b0 ∧ 0 ≤ b1 ∧ 0 ≤ b2 ∧ NsOk ns ∧ Rp K O H c (.list (ns.map .int))
def LeftOk (H : Hp) (a : Addr) : Prop := ∃ n : Int, H a = some (.lst [.int n])
def OwnRep (K : PySem.W.Frag) (O : Prot) (H : Hp) (a : Addr) (d : PyData) : Prop :=
  (∃ xs ds, d = .list ds ∧ H a = some (.lst xs) ∧ RpA K O H xs ds) ∨ (∃ kvs ds, d = .dict ((kvs.map fun p : Key × V => keyD p.1).zip ds) ∧ H a = some (.dK kvs) ∧ RpA K O H (kvs.map Prod.snd) ds)
structure StOk (K : PySem.W.Frag) (F : FC) (σ : St) (H : Hp) (Γ : GS) : Prop where
  len : Γ.length = σ.length
  sh : ∀ (i : Nat) (d : PyData), Γ[i]? = some (SV.dat false d) → ∃ v, σ[i]? = some (some v) ∧ Rp K (Own F σ Γ) H v d
  ow : ∀ (i : Nat) (d : PyData), Γ[i]? = some (SV.dat true d) → ∃ a, σ[i]? = some (some (V.ref a)) ∧ ¬ F.P a ∧ OwnRep K (Own F σ Γ) H a d
  inj : ∀ (i j : Nat) (d e : PyData) (a : Addr), Γ[i]? = some (SV.dat true d) → Γ[j]? = some (SV.dat true e) → σ[i]? = some (some (V.ref a)) → σ[j]? = some (some (V.ref a)) → i = j
  bg : ∀ (i : Nat), Γ[i]? = some SV.bag → ∃ a, F.bag = some a ∧ σ[i]? = some (some (V.ref a))
  lf : ∀ (i : Nat), Γ[i]? = some SV.left → ∃ a, F.left = some a ∧ σ[i]? = some (some (V.ref a))
  bagOk : ∀ a, F.bag = some a → F.P a ∧ BagOk K (Own F σ Γ) H a
  leftOk : ∀ a, F.left = some a → F.P a ∧ LeftOk H a
  apart : ∀ a, F.bag = some a → F.left ≠ some a
  trk : ∀ a, F.P a → ∃ o, H a = some o
/-- what an expression may have changed: the bag, the counter, own lists; own lists may have been given away -/
structure PresE (F : FC) (σ : St) (Γ : GS) (H : Hp) (Γ' : GS) (H' : Hp) : Prop where
  same : ∀ a o, H a = some o → ¬ F.Z a → ¬ ownAt σ Γ a → H' a = some o
  own : ∀ a, ownAt σ Γ' a → ownAt σ Γ a
  trk : ∀ a o, H a = some o → ∃ u, H' a = some u
section
variable {K : PySem.W.Frag} {F : FC} {σ : St} {H H' H2 : Hp} {Γ Γ' Γ2 : GS}
theorem PresE.refl : PresE F σ Γ H Γ H := ⟨fun _ _ e _ _ => e, fun _ h => h, fun _ o e => ⟨o, e⟩⟩
theorem PresE.trans (a : PresE F σ Γ H Γ' H') (b : PresE F σ Γ' H' Γ2 H2) : PresE F σ Γ H Γ2 H2 :=
  ⟨fun c o e n m => b.same c o (a.same c o e n m) n fun q => m (a.own c q), fun c q => a.own c (b.own c q), fun c o e => let ⟨u, q⟩ := a.trk c o e; b.trk c u q⟩
theorem PresE.ext (h : Same H H') : PresE F σ Γ H Γ H' := ⟨fun a o e _ _ => h a o e, fun _ h => h, fun a o e => ⟨o, h a o e⟩⟩
theorem StOk.zP (S : StOk K F σ H Γ) {a : Addr} (h : F.Z a) : F.P a := h.elim (fun q => (S.bagOk a q).1) fun q => (S.leftOk a q).1
theorem PresE.keeps (p : PresE F σ Γ H Γ' H') (z : ∀ a, F.Z a → F.P a) : Keeps (Own F σ Γ) H (Own F σ Γ') H' := fun a o e n =>
  ⟨p.same a o e (fun q => n (.inl (z a q))) fun q => n (.inr q), fun q => n (q.imp id (p.own a))⟩
theorem keeps_ext {O : Prot} (h : Same H H') : Keeps O H O H' := fun a o e n => ⟨h a o e, n⟩
theorem OwnRep.keep {O O' : Prot} (k : Keeps O H O' H') {a : Addr} {d : PyData} (h : OwnRep K O H a d) (e : H' a = H a) : OwnRep K O' H' a d := by
  rcases h with ⟨xs, ds, e1, e2, e3⟩ | ⟨kvs, ds, e1, e2, e3⟩
  · exact .inl ⟨xs, ds, e1, e.trans e2, e3.keep k⟩
  · exact .inr ⟨kvs, ds, e1, e.trans e2, e3.keep k⟩
theorem OwnRep.there {O : Prot} {a : Addr} {d : PyData} (h : OwnRep K O H a d) : ∃ o, H a = some o := by
  rcases h with ⟨_, _, _, e, _⟩ | ⟨_, _, _, e, _⟩
  · exact ⟨_, e⟩
  · exact ⟨_, e⟩
theorem BagOk.keep {O O' : Prot} (k : Keeps O H O' H') {a : Addr} (h : BagOk K O H a) (e : H' a = H a) : BagOk K O' H' a := by
  obtain ⟨b0, b1, b2, c, ns, h1, h2, h3, h4, h5, h6⟩ := h
  exact ⟨b0, b1, b2, c, ns, e.trans h1, h2, h3, h4, h5, h6.keep k⟩
/-- new objects alone -/
theorem StOk.ext (S : StOk K F σ H Γ) (h : Same H H') : StOk K F σ H' Γ where
  len := S.len
  sh := fun i d e => let ⟨v, a, b⟩ := S.sh i d e; ⟨v, a, b.keep (keeps_ext h)⟩
  ow := fun i d e => let ⟨a, b, c, g⟩ := S.ow i d e; ⟨a, b, c, g.keep (keeps_ext h) (by obtain ⟨o, q⟩ := g.there; rw [q]; exact h _ _ q)⟩
  inj := S.inj
  bg := S.bg
  lf := S.lf
  bagOk := fun a e => ⟨(S.bagOk a e).1, (S.bagOk a e).2.keep (keeps_ext h) (by obtain ⟨o, q⟩ := S.trk a (S.bagOk a e).1; rw [q]; exact h _ _ q)⟩
  leftOk := fun a e => ⟨(S.leftOk a e).1, let ⟨n, q⟩ := (S.leftOk a e).2; ⟨n, h _ _ q⟩⟩
  apart := S.apart
  trk := fun a e => let ⟨o, q⟩ := S.trk a e; ⟨o, h _ _ q⟩
theorem same_upd {p : Addr} {o : HO} (hp : H p = none) : Same H (upd H p o) := fun b u e => by rw [upd_ne (ne_of_none e hp)]; exact e
theorem StOk.own_there (S : StOk K F σ H Γ) {a : Addr} (h : Own F σ Γ a) : ∃ o, H a = some o := by
  rcases h with h | ⟨i, d, e1, e2⟩
  · exact S.trk a h
  · obtain ⟨b, e3, _, r⟩ := S.ow i d e1
    rw [e2] at e3; cases e3
    exact r.there
theorem StOk.fresh (S : StOk K F σ H Γ) {p : Addr} (hp : H p = none) : ¬ Own F σ Γ p := fun h => by
  obtain ⟨o, e⟩ := S.own_there h
  rw [hp] at e; cases e
/-- an own list is given away -/
def GS.freeze (Γ : GS) (i : Nat) : GS := match Γ[i]? with
  | some (SV.dat true d) => Γ.set i (SV.dat false d)
  | _ => Γ
theorem freeze_own {i : Nat} {a : Addr} (h : ownAt σ (GS.freeze Γ i) a) : ownAt σ Γ a := by
  unfold GS.freeze at h
  split at h
  · rename_i d e
    obtain ⟨j, d', h1, h2⟩ := h
    by_cases hj : i = j
    · subst hj
      have hl : i < Γ.length := (List.getElem?_eq_some_iff.mp e).1
      rw [List.getElem?_set_self hl] at h1; cases h1
    · rw [List.getElem?_set_ne hj] at h1; exact ⟨j, d', h1, h2⟩
  · exact h
theorem PresE.freeze (i : Nat) : PresE F σ Γ H (GS.freeze Γ i) H := ⟨fun _ _ e _ _ => e, fun _ => freeze_own, fun _ o e => ⟨o, e⟩⟩
theorem StOk.freeze (S : StOk K F σ H Γ) (i : Nat) : StOk K F σ H (GS.freeze Γ i) := by
  have kp : Keeps (Own F σ Γ) H (Own F σ (GS.freeze Γ i)) H := (PresE.freeze i).keeps fun a => S.zP
  by_cases hd : ∃ d : PyData, Γ[i]? = some (SV.dat true d)
  · obtain ⟨d, e⟩ := hd
    have hl : i < Γ.length := (List.getElem?_eq_some_iff.mp e).1
    have ef : GS.freeze Γ i = Γ.set i (SV.dat false d) := by unfold GS.freeze; rw [e]
    have ne : ∀ {j : Nat} {z : SV}, z ≠ SV.dat false d → (GS.freeze Γ i)[j]? = some z → j ≠ i ∧ Γ[j]? = some z := fun {j z} nz h => by
      rw [ef] at h
      by_cases hj : i = j
      · subst hj; rw [List.getElem?_set_self hl] at h; cases h; exact absurd rfl nz
      · rw [List.getElem?_set_ne hj] at h; exact ⟨Ne.symm hj, h⟩
    refine ⟨by rw [ef, List.length_set]; exact S.len, fun j d' h => ?_, fun j d' h => ?_, fun j k d1 d2 a h1 h2 h3 h4 => ?_, fun j h => ?_, fun j h => ?_, fun a q => ?_, S.leftOk, S.apart, S.trk⟩
    · by_cases hj : j = i
      · subst hj
        rw [ef, List.getElem?_set_self hl] at h
        cases h
        obtain ⟨a, e1, np, r⟩ := S.ow j d e
        have na : ¬ Own F σ (GS.freeze Γ j) a := by
          rintro (q | ⟨k, d2, q1, q2⟩)
          · exact np q
          · obtain ⟨q3, q4⟩ := ne (z := .dat true d2) (fun z => by cases z) q1
            exact q3 (S.inj k j d2 d a q4 e q2 e1)
        refine ⟨_, e1, ?_⟩
        rcases r with ⟨xs, ds, rfl, h1, h2⟩ | ⟨kvs, ds, rfl, h1, h2⟩
        · exact .lst ⟨h1, na⟩ (h2.keep kp)
        · exact .dic h1 na (h2.keep kp)
      · rw [ef, List.getElem?_set_ne (Ne.symm hj)] at h
        obtain ⟨v, e1, r⟩ := S.sh j d' h
        exact ⟨v, e1, r.keep kp⟩
    · obtain ⟨_, h⟩ := ne (z := .dat true d') (fun z => by cases z) h
      obtain ⟨a, e1, np, r⟩ := S.ow j d' h
      exact ⟨a, e1, np, r.keep kp rfl⟩
    · exact S.inj j k d1 d2 a (ne (fun z => by cases z) h1).2 (ne (fun z => by cases z) h2).2 h3 h4
    · exact S.bg j (ne (fun z => by cases z) h).2
    · exact S.lf j (ne (fun z => by cases z) h).2
    · exact ⟨(S.bagOk a q).1, (S.bagOk a q).2.keep kp rfl⟩
  · have ef : GS.freeze Γ i = Γ := by
      unfold GS.freeze
      split
      · rename_i d e; exact absurd ⟨d, e⟩ hd
      · rfl
    rw [ef]; exact S
/-! ### operands -/
inductive Opd where
  | val (d : PyData) | sl (i : Nat)
def Opd.sv (o : Opd) (Γ : GS) : SV := match o with
  | .val d => .dat false d
  | .sl i => Γ.getD i .un
def SV.wd (s : SV) (k : PyData → Prop) : Prop := match s with
  | .dat _ d => k d
  | _ => False
/-- the operand's data as it is now -/
abbrev Opd.wd (o : Opd) (Γ : GS) (k : PyData → Prop) : Prop := (o.sv Γ).wd k
/-- it is given away -/
def Opd.frz (o : Opd) (Γ : GS) : GS := match o with
  | .val _ => Γ
  | .sl i => GS.freeze Γ i
def OpdOk (K : PySem.W.Frag) (F : FC) (σ : St) (H : Hp) (Γ : GS) (v : V) : Opd → Prop
  | .val d => Rp K (Own F σ Γ) H v d
  | .sl i => σ[i]? = some (some v)
def RpB (K : PySem.W.Frag) (O : Prot) (H : Hp) (v : V) (d : PyData) : Prop := Rp K O H v d ∨ ∃ a, v = .ref a ∧ OwnRep K O H a d
theorem OpdOk.keep {v : V} {o : Opd} (h : OpdOk K F σ H Γ v o) (p : PresE F σ Γ H Γ' H') (S : StOk K F σ H Γ) : OpdOk K F σ H' Γ' v o := by
  cases o with
  | val d => exact Rp.keep (p.keeps fun a => S.zP) h
  | sl i => exact h
theorem wd_iff {s : SV} {k : PyData → Prop} (h : s.wd k) : ∃ b d, s = SV.dat b d ∧ k d := by
  cases s with
  | dat b d => exact ⟨b, d, rfl, h⟩
  | _ => exact h.elim
theorem getD_some {i : Nat} {b : Bool} {d : PyData} (h : Γ.getD i .un = SV.dat b d) : Γ[i]? = some (SV.dat b d) := by
  rw [List.getD_eq_getElem?_getD] at h
  cases e : Γ[i]? with
  | none => rw [e] at h; cases h
  | some z => rw [e] at h; simp at h; rw [h]
theorem OpdOk.rep {v : V} {o : Opd} {k : PyData → Prop} (h : OpdOk K F σ H Γ v o) (S : StOk K F σ H Γ) (q : o.wd Γ k) : ∃ d, RpB K (Own F σ Γ) H v d ∧ k d := by
  obtain ⟨b, d, e, kd⟩ := wd_iff q
  cases o with
  | val d' => cases e; exact ⟨_, .inl h, kd⟩
  | sl i =>
    have e' := getD_some e
    have h' : σ[i]? = some (some v) := h
    cases b with
    | false => obtain ⟨v', e1, r⟩ := S.sh i d e'; rw [h'] at e1; cases e1; exact ⟨d, .inl r, kd⟩
    | true => obtain ⟨a, e1, _, r⟩ := S.ow i d e'; rw [h'] at e1; cases e1; exact ⟨d, .inr ⟨a, rfl, r⟩, kd⟩
theorem StOk.frz (S : StOk K F σ H Γ) (o : Opd) : StOk K F σ H (o.frz Γ) := by
  cases o with
  | val d => exact S
  | sl i => exact S.freeze i
theorem PresE.frz (o : Opd) : PresE F σ Γ H (o.frz Γ) H := by
  cases o with
  | val d => exact .refl
  | sl i => exact .freeze i
theorem freeze_get {i : Nat} {b : Bool} {d : PyData} (e : Γ[i]? = some (SV.dat b d)) : (GS.freeze Γ i)[i]? = some (SV.dat false d) := by
  have hl : i < Γ.length := (List.getElem?_eq_some_iff.mp e).1
  cases b with
  | true => unfold GS.freeze; rw [e]; exact List.getElem?_set_self hl
  | false => unfold GS.freeze; rw [e]; exact e
/-- given away: the data, for good -/
theorem OpdOk.given {v : V} {o : Opd} {k : PyData → Prop} (h : OpdOk K F σ H Γ v o) (S : StOk K F σ H Γ) (q : o.wd Γ k) : ∃ d, Rp K (Own F σ (o.frz Γ)) H v d ∧ k d := by
  obtain ⟨b, d, e, kd⟩ := wd_iff q
  cases o with
  | val d' => cases e; exact ⟨_, h, kd⟩
  | sl i =>
    have e' := freeze_get (getD_some e)
    obtain ⟨v', e1, r⟩ := (S.freeze i).sh i d e'
    have h' : σ[i]? = some (some v) := h
    rw [h'] at e1; cases e1
    exact ⟨d, r, kd⟩
end
/-! ### judgements -/
abbrev DT := GS → (Opd → GS → Prop) → Prop
abbrev DTT := GS → (Bool → GS → Prop) → Prop
abbrev DTA := GS → (List PyData → GS → Prop) → Prop
def SoundE (K : PySem.W.Frag) (t : TE) (dt : DT) : Prop := ∀ (F : FC) (σ : St) (H : Hp) (Γ : GS) (Q : Opd → GS → Prop) (R : VK), StOk K F σ H Γ → dt Γ Q →
  (∀ v o H' Γ', OpdOk K F σ H' Γ' v o → StOk K F σ H' Γ' → PresE F σ Γ H Γ' H' → Q o Γ' → R v H') → t σ H R
def SoundT (K : PySem.W.Frag) (t : TT) (dt : DTT) : Prop := ∀ (F : FC) (σ : St) (H : Hp) (Γ : GS) (Q : Bool → GS → Prop) (R : Bool → Hp → Prop), StOk K F σ H Γ → dt Γ Q →
  (∀ b H' Γ', StOk K F σ H' Γ' → PresE F σ Γ H Γ' H' → Q b Γ' → R b H') → t σ H R
/-- arguments, given away -/
def SoundA (K : PySem.W.Frag) (t : TA) (dt : DTA) : Prop := ∀ (F : FC) (σ : St) (H : Hp) (Γ : GS) (Q : List PyData → GS → Prop) (R : List V → Hp → Prop), StOk K F σ H Γ → dt Γ Q →
  (∀ vs ds H' Γ', RpA K (Own F σ Γ') H' vs ds → StOk K F σ H' Γ' → PresE F σ Γ H Γ' H' → Q ds Γ' → R vs H') → t σ H R
def DX {ι : Type} (Xs : ι → Cx) (K : PySem.W.Frag) (e : Expr) (dt : DT) : Prop := ∃ t, (∀ i, PE (Xs i) e t) ∧ SoundE K t dt
def DXT {ι : Type} (Xs : ι → Cx) (K : PySem.W.Frag) (e : Expr) (dt : DTT) : Prop := ∃ t, (∀ i, PT (Xs i) e t) ∧ SoundT K t dt
def DXW {ι : Type} (Xs : ι → Cx) (K : PySem.W.Frag) (e : Expr) (dt : DTT) : Prop := ∃ t, (∀ i, PW (Xs i) e t) ∧ SoundT K t dt
def DXA {ι : Type} (Xs : ι → Cx) (K : PySem.W.Frag) (es : List Expr) (dt : DTA) : Prop := ∃ t, (∀ i, PA (Xs i) es t) ∧ SoundA K t dt
end DL
end
section
set_option autoImplicit false
set_option linter.all false
set_option maxRecDepth 100000
set_option maxHeartbeats 4000000
namespace DL
open PySem PySem.Spec L2
/-! ### the family of contexts -/
structure EnvOk {ι : Type} (Xs : ι → Cx) (P : Program) (w : World) (K : PySem.W.Frag) (mg : Str → Option Value) (base : Heap) (k : Nat) : Prop where
  prog : ∀ i, (Xs i).prog = P
  w : ∀ i, (Xs i).w = w
  K : ∀ i, (Xs i).K = K
  mg : ∀ i, (Xs i).mg = mg
  base : ∀ i, (Xs i).base = base
  room : ∀ i, Room k (Xs i).A
  guards : ∀ i, (Xs i).A.guards = some []
  calm : ∀ i, (Xs i).calm = true
section
variable {K : PySem.W.Frag} {O : Prot} {H H' : Hp} {v : V}
theorem RpB.int {i : Int} (h : RpB K O H v (.int i)) : v = .int i := by
  rcases h with h | ⟨_, _, ⟨_, _, e, _⟩ | ⟨_, _, e, _⟩⟩
  · cases h; rfl
  · cases e
  · cases e
theorem RpB.str {i : Str} (h : RpB K O H v (.str i)) : v = .str i := by
  rcases h with h | ⟨_, _, ⟨_, _, e, _⟩ | ⟨_, _, e, _⟩⟩
  · cases h; rfl
  · cases e
  · cases e
theorem RpB.bl {i : Bool} (h : RpB K O H v (.bool i)) : v = .bl i := by
  rcases h with h | ⟨_, _, ⟨_, _, e, _⟩ | ⟨_, _, e, _⟩⟩
  · cases h; rfl
  · cases e
  · cases e
theorem RpB.non (h : RpB K O H v .none) : v = .non := by
  rcases h with h | ⟨_, _, ⟨_, _, e, _⟩ | ⟨_, _, e, _⟩⟩
  · cases h; rfl
  · cases e
  · cases e
theorem RpB.lst {ds : List PyData} (h : RpB K O H v (.list ds)) : ∃ a xs, v = .ref a ∧ H a = some (.lst xs) ∧ RpA K O H xs ds := by
  rcases h with h | ⟨a, rfl, ⟨xs, ds', e, h1, h2⟩ | ⟨_, _, e, _⟩⟩
  · cases h with | lst a b => exact ⟨_, _, rfl, a.1, b⟩
  · cases e; exact ⟨a, xs, rfl, h1, h2⟩
  · cases e
theorem RpB.tup {ds : List PyData} (h : RpB K O H v (.tuple ds)) : ∃ a xs, v = .ref a ∧ SqTo K O H a xs ∧ RpA K O H xs ds := by
  rcases h with h | ⟨_, _, ⟨_, _, e, _⟩ | ⟨_, _, e, _⟩⟩
  · cases h with | tup a b => exact ⟨_, _, rfl, a, b⟩
  · cases e
  · cases e
theorem RpB.dic {ks : List (PyData × PyData)} (h : RpB K O H v (.dict ks)) : ∃ (a : Addr) (kvs : List (Key × V)) (ds : List PyData), v = .ref a ∧ H a = some (.dK kvs) ∧ ks = (kvs.map fun p : Key × V => keyD p.1).zip ds ∧ RpA K O H (kvs.map Prod.snd) ds := by
  rcases h with h | ⟨a, rfl, ⟨_, _, e, _⟩ | ⟨kvs, ds, e, h1, h2⟩⟩
  · generalize e : PyData.dict ks = d at h
    cases h with
    | dic a b c => injection e with e; exact ⟨_, _, _, rfl, a, e, c⟩
    | _ => cases e
  · cases e
  · injection e with e; exact ⟨a, kvs, ds, rfl, h1, e, h2⟩
theorem newTup {p : Addr} {xs : List V} {ds : List PyData} (hp : H p = none) (no : ¬ O p) (r : RpA K O H xs ds) : Rp K O (upd H p (.tup xs)) (.ref p) (.tuple ds) :=
  .tup (.inl ⟨.inl upd_same, no⟩) (r.keep (keeps_ext (same_upd hp)))
theorem newLst {p : Addr} {xs : List V} {ds : List PyData} (hp : H p = none) (no : ¬ O p) (r : RpA K O H xs ds) : Rp K O (upd H p (.lst xs)) (.ref p) (.list ds) :=
  .lst ⟨upd_same, no⟩ (r.keep (keeps_ext (same_upd hp)))
theorem no_fresh (hO : ∀ a, O a → ∃ o, H a = some o) {p : Addr} (hp : H p = none) : ¬ O p := fun h => by
  obtain ⟨o, e⟩ := hO p h
  rw [hp] at e; cases e
theorem RpA.nil_iff {xs : List V} {ds : List PyData} (r : RpA K O H xs ds) : xs = [] ↔ ds = [] := by
  have h := r.length
  constructor
  · intro e; subst e; exact List.length_eq_zero_iff.mp h.symm
  · intro e; subst e; exact List.length_eq_zero_iff.mp h
end
/-! ### by values -/
abbrev F1 := PyData → (PyData → Prop) → Prop
abbrev F2 := PyData → PyData → (PyData → Prop) → Prop
def OpS (K : PySem.W.Frag) (r : R2) (f : F2) : Prop := ∀ (O : Prot) (H : Hp) (x y : V) (dx dy : PyData) (Qd : PyData → Prop) (R : VK), (∀ a, O a → ∃ o, H a = some o) → RpB K O H x dx → RpB K O H y dy → f dx dy Qd →
  (∀ v d H', Same H H' → Rp K O H' v d → Qd d → R v H') → r x y H R
def dOp (f : F2) (da db : DT) : DT := fun Γ Q => da Γ fun x Γ1 => db Γ1 fun y Γ2 => x.wd Γ2 fun a => y.wd Γ2 fun b => f a b fun c => Q (.val c) Γ2
section
variable {ι : Type} {Xs : ι → Cx} {P : Program} {w : World} {K : PySem.W.Frag} {mg : Str → Option Value} {base : Heap} {k : Nat} {ea eb ec : Expr} {da db dc : DT} {pos : Pos}
theorem sound_op {r : R2} {f : F2} {ta tb : TE} (hs : OpS K r f) (sa : SoundE K ta da) (sb : SoundE K tb db) : SoundE K (tOp r ta tb) (dOp f da db) := by
  intro F σ H Γ Q R S h kk
  refine sa F σ H Γ _ _ S h fun v o H1 Γ1 ok1 S1 p1 h1 => ?_
  refine sb F σ H1 Γ1 _ _ S1 h1 fun v2 o2 H2 Γ2 ok2 S2 p2 h2 => ?_
  obtain ⟨d1, r1, h3⟩ := (ok1.keep p2 S1).rep S2 h2
  obtain ⟨d2, r2, h4⟩ := ok2.rep S2 h3
  exact hs _ _ _ _ _ _ _ _ (fun a => S2.own_there) r1 r2 h4 fun v d H' sm rp q => kk v (.val d) H' Γ2 rp (S2.ext sm) (p1.trans (p2.trans (.ext sm))) q
theorem dx_op {op : Operator} {r : PySem.W.Frag → R2} {f : F2} (E : EnvOk Xs P w K mg base k) (ho : ∀ X : Cx, Room k X.A → OpR X (binaryOp op) (r X.K)) (hs : OpS K (r K) f) (a : DX Xs K ea da) (b : DX Xs K eb db) : DX Xs K (.BinOp ea op eb pos) (dOp f da db) := by
  obtain ⟨ta, pa, sa⟩ := a
  obtain ⟨tb, pb, sb⟩ := b
  refine ⟨tOp (r K) ta tb, fun i => ?_, sound_op hs sa sb⟩
  rw [← E.K i]
  exact pe_op (ho _ (E.room i)) (pa i) (pb i)
theorem dx_cmp {op : CmpOp} {r : PySem.W.Frag → R2} {f : F2} (E : EnvOk Xs P w K mg base k) (ho : ∀ X : Cx, Room k X.A → OpR X (compareOp op) (r X.K)) (hs : OpS K (r K) f) (a : DX Xs K ea da) (b : DX Xs K eb db) (hm : behindInMarks op eb = false) :
    DX Xs K (.Compare ea [op] [eb] pos) (dOp f da db) := by
  obtain ⟨ta, pa, sa⟩ := a
  obtain ⟨tb, pb, sb⟩ := b
  refine ⟨tOp (r K) ta tb, fun i => ?_, sound_op hs sa sb⟩
  rw [← E.K i]
  exact pe_cmpR (ho _ (E.room i)) (pa i) (pb i) hm
/-- an expression whose value is a bool, as a test -/
def dTst (d : DT) : DTT := fun Γ Q => d Γ fun x Γ1 => match x with
  | .val (.bool b) => Q b Γ1
  | _ => False
theorem sound_tst {t : TE} {d : DT} (s : SoundE K t d) : SoundT K (tTest t) (dTst d) := by
  intro F σ H Γ Q R S h kk
  refine s F σ H Γ _ _ S h fun v o H1 Γ1 ok1 S1 p1 h1 => ?_
  cases o with
  | sl i => exact h1.elim
  | val d => cases d with
    | bool b =>
      have r : Rp K (Own F σ Γ1) H1 v (.bool b) := ok1
      cases r
      exact ⟨b, rfl, kk b H1 Γ1 S1 p1 h1⟩
    | _ => exact h1.elim
theorem dxt_cmp {op : CmpOp} {r : PySem.W.Frag → R2} {f : F2} (E : EnvOk Xs P w K mg base k) (ho : ∀ X : Cx, Room k X.A → OpR X (compareOp op) (r X.K)) (hs : OpS K (r K) f) (a : DX Xs K ea da) (b : DX Xs K eb db) (hm : behindInMarks op eb = false) :
    DXT Xs K (.Compare ea [op] [eb] pos) (dTst (dOp f da db)) := by
  obtain ⟨ta, pa, sa⟩ := a
  obtain ⟨tb, pb, sb⟩ := b
  refine ⟨tTest (tOp (r K) ta tb), fun i => ?_, sound_tst (sound_op hs sa sb)⟩
  rw [← E.K i]
  exact pt_cmpR (ho _ (E.room i)) (pa i) (pb i) hm
theorem dxt_val (a : DX Xs K ea da) (he : ∀ (i : ι) (whole : Sem Value), isTrue ea (Xs i).env whole = (do let v ← whole; standAt ea.pos; holding [v] (truthy v)) := by intro _ _; rfl) : DXT Xs K ea (dTst da) := by
  obtain ⟨ta, pa, sa⟩ := a
  exact ⟨tB ta, fun i => pt_val (pa i) (he i), sound_tst sa⟩
/-- a <= b < c -/
def dChn (f g : F2) (da db dc : DT) : DT := fun Γ Q => da Γ fun x Γ1 => db Γ1 fun y Γ2 => x.wd Γ2 fun a => y.wd Γ2 fun b => f a b fun q => match q with
  | .bool true => dc Γ2 fun z Γ3 => y.wd Γ3 fun b' => z.wd Γ3 fun c => g b' c fun r => Q (.val r) Γ3
  | .bool false => Q (.val (.bool false)) Γ2
  | _ => False
theorem sound_chn {r r' : R2} {f g : F2} {ta tb tc : TE} (hs : OpS K r f) (hs' : OpS K r' g) (sa : SoundE K ta da) (sb : SoundE K tb db) (sc : SoundE K tc dc) : SoundE K (tChain r r' ta tb tc) (dChn f g da db dc) := by
  intro F σ H Γ Q R S h kk
  refine sa F σ H Γ _ _ S h fun v o H1 Γ1 ok1 S1 p1 h1 => ?_
  refine sb F σ H1 Γ1 _ _ S1 h1 fun v2 o2 H2 Γ2 ok2 S2 p2 h2 => ?_
  obtain ⟨d1, r1, h3⟩ := (ok1.keep p2 S1).rep S2 h2
  obtain ⟨d2, r2, h4⟩ := ok2.rep S2 h3
  refine hs _ _ _ _ _ _ _ _ (fun a => S2.own_there) r1 r2 h4 fun v d H' sm rp q => ?_
  have S2' := S2.ext sm
  have p12 := p1.trans (p2.trans (PresE.ext (Γ := Γ2) sm))
  cases d with
  | bool b =>
    cases rp
    refine ⟨b, rfl, ?_⟩
    cases b with
    | false => rw [if_neg (by decide)]; exact kk (.bl false) (.val (.bool false)) H' Γ2 (.bl false) S2' p12 q
    | true =>
      rw [if_pos rfl]
      have ok2' : OpdOk K F σ H' Γ2 v2 o2 := ok2.keep (.ext sm) S2
      refine sc F σ H' Γ2 _ _ S2' q fun v3 o3 H3 Γ3 ok3 S3 p3 h5 => ?_
      obtain ⟨d3, r3, h6⟩ := (ok2'.keep p3 S2').rep S3 h5
      obtain ⟨d4, r4, h7⟩ := ok3.rep S3 h6
      exact hs' _ _ _ _ _ _ _ _ (fun a => S3.own_there) r3 r4 h7 fun v d H4 sm rp q => kk v (.val d) H4 Γ3 rp (S3.ext sm) (p12.trans (p3.trans (.ext sm))) q
  | _ => exact q.elim
theorem dx_chn {op op' : CmpOp} {r r' : PySem.W.Frag → R2} {f g : F2} (E : EnvOk Xs P w K mg base k) (ho : ∀ X : Cx, Room k X.A → OpR X (compareOp op) (r X.K)) (ho' : ∀ X : Cx, Room k X.A → OpR X (compareOp op') (r' X.K)) (hs : OpS K (r K) f) (hs' : OpS K (r' K) g)
    (a : DX Xs K ea da) (b : DX Xs K eb db) (c : DX Xs K ec dc) (hm : lastMarks [op, op'] [eb, ec] = false) : DX Xs K (.Compare ea [op, op'] [eb, ec] pos) (dChn f g da db dc) := by
  obtain ⟨ta, pa, sa⟩ := a
  obtain ⟨tb, pb, sb⟩ := b
  obtain ⟨tc, pc, sc⟩ := c
  refine ⟨tChain (r K) (r' K) ta tb tc, fun i => ?_, sound_chn hs hs' sa sb sc⟩
  rw [← E.K i]
  exact pe_chain (ho _ (E.room i)) (ho' _ (E.room i)) (pa i) (pb i) (pc i) hm
theorem dxt_chn {op op' : CmpOp} {r r' : PySem.W.Frag → R2} {f g : F2} (E : EnvOk Xs P w K mg base k) (ho : ∀ X : Cx, Room k X.A → OpR X (compareOp op) (r X.K)) (ho' : ∀ X : Cx, Room k X.A → OpR X (compareOp op') (r' X.K)) (hs : OpS K (r K) f) (hs' : OpS K (r' K) g)
    (a : DX Xs K ea da) (b : DX Xs K eb db) (c : DX Xs K ec dc) (hm : lastMarks [op, op'] [eb, ec] = false) : DXT Xs K (.Compare ea [op, op'] [eb, ec] pos) (dTst (dChn f g da db dc)) := by
  obtain ⟨ta, pa, sa⟩ := a
  obtain ⟨tb, pb, sb⟩ := b
  obtain ⟨tc, pc, sc⟩ := c
  refine ⟨tTest (tChain (r K) (r' K) ta tb tc), fun i => ?_, sound_tst (sound_chn hs hs' sa sb sc)⟩
  rw [← E.K i]
  exact pt_chain (ho _ (E.room i)) (ho' _ (E.room i)) (pa i) (pb i) (pc i) hm
end
/-! ### names, constants -/
section
variable {ι : Type} {Xs : ι → Cx} {P : Program} {w : World} {K : PySem.W.Frag} {mg : Str → Option Value} {base : Heap} {k : Nat} {pos : Pos}
def dVar (i : Nat) : DT := fun Γ Q => match Γ.getD i .un with
  | .un => False
  | _ => Q (.sl i) Γ
theorem dx_var (j : Nat) {x : Str} (hN : ∀ i, (Xs i).N[j]? = some x := by intro _; rfl) (hv : ∀ i, Vis (Xs i).env.scope x := by intro _; first | exact Or.inl rfl | exact Or.inr (Or.inl rfl) | exact Or.inr (Or.inr rfl))
    (hd : (x == ("__debug__" : Str)) = false := by decide) (hcd : (x == ("__classdict__" : Str)) = false := by decide) : DX Xs K (.Name x pos) (dVar j) := by
  refine ⟨tVar j, fun i => pe_var (hN i) (hv i) hd hcd, ?_⟩
  intro F σ H Γ Q R S h kk
  unfold dVar at h
  have key : ∀ v, σ[j]? = some (some v) → Q (.sl j) Γ → ∃ v, σ[j]? = some (some v) ∧ R v H := fun v e q => ⟨v, e, kk v (.sl j) H Γ e S .refl q⟩
  have gd : ∀ s, Γ.getD j .un = s → s ≠ .un → Γ[j]? = some s := fun s e ne => by
    rw [List.getD_eq_getElem?_getD] at e
    cases q : Γ[j]? with
    | none => rw [q] at e; exact absurd e.symm ne
    | some z => rw [q] at e; simp at e; rw [e]
  revert h
  generalize e : Γ.getD j .un = s
  intro h
  cases s with
  | un => exact h.elim
  | dat b d =>
    have e' := gd _ e (fun z => by cases z)
    cases b with
    | false => obtain ⟨v, e1, _⟩ := S.sh j d e'; exact key v e1 h
    | true => obtain ⟨a, e1, _⟩ := S.ow j d e'; exact key _ e1 h
  | bag => obtain ⟨a, _, e1⟩ := S.bg j (gd _ e (fun z => by cases z)); exact key _ e1 h
  | left => obtain ⟨a, _, e1⟩ := S.lf j (gd _ e (fun z => by cases z)); exact key _ e1 h
def dC (d : PyData) : DT := fun Γ Q => Q (.val d) Γ
theorem sound_c {v : V} {d : PyData} (h : ∀ O H, Rp K O H v d) : SoundE K (tC v) (dC d) := fun F σ H Γ Q R S q kk => kk v (.val d) H Γ (h _ _) S .refl q
theorem dx_int {n j} : DX Xs K (.Constant (.int n) j pos) (dC (.int n)) := ⟨_, fun _ => pe_int, sound_c fun _ _ => .int n⟩
theorem dx_bl {b j} : DX Xs K (.Constant (.bool b) j pos) (dC (.bool b)) := ⟨_, fun _ => pe_bl, sound_c fun _ _ => .bl b⟩
theorem dx_non {j} : DX Xs K (.Constant .none j pos) (dC .none) := ⟨_, fun _ => pe_non, sound_c fun _ _ => .non⟩
theorem dx_str {x j} : DX Xs K (.Constant (.str x) j pos) (dC (.str x)) := ⟨_, fun _ => pe_str, sound_c fun _ _ => .str x⟩
/-! ### argument lists, displays -/
def dNil : DTA := fun Γ Q => Q [] Γ
def dCons (d : DT) (r : DTA) : DTA := fun Γ Q => d Γ fun x Γ1 => x.wd Γ1 fun a => r (x.frz Γ1) fun as Γ2 => Q (a :: as) Γ2
variable {e : Expr} {es : List Expr} {d : DT} {da : DTA}
theorem dxa_nil : DXA Xs K [] dNil := ⟨tNil, fun _ => pa_nil, fun F σ H Γ Q R S h kk => kk [] [] H Γ .nil S .refl h⟩
theorem dxa_cons (a : DX Xs K e d) (r : DXA Xs K es da) (hs : ∀ i, starEach (e :: es) (Xs i).env = (false, eval e (Xs i).env) :: starEach es (Xs i).env := by intro _; rfl) : DXA Xs K (e :: es) (dCons d da) := by
  obtain ⟨ta, pa, sa⟩ := a
  obtain ⟨tr, pr, sr⟩ := r
  refine ⟨tCons ta tr, fun i => pa_cons (pa i) (pr i) (hs i), ?_⟩
  intro F σ H Γ Q R S h kk
  refine sa F σ H Γ _ _ S h fun v o H1 Γ1 ok1 S1 p1 h1 => ?_
  obtain ⟨d1, r1, h2⟩ := ok1.given S1 h1
  have S1' := S1.frz o
  refine sr F σ H1 _ _ _ S1' h2 fun vs ds H2 Γ2 ra S2 p2 h3 => ?_
  exact kk (v :: vs) (d1 :: ds) H2 Γ2 (.cons (r1.keep (p2.keeps fun a => S1'.zP)) ra) S2 (p1.trans ((PresE.frz o).trans p2)) h3
/-- *e: a tuple or a list -/
def dStar (d : DT) (r : DTA) : DTA := fun Γ Q => d Γ fun x Γ1 => x.wd Γ1 fun a => match a with
  | .tuple as | .list as => r Γ1 fun bs Γ2 => Q (as ++ bs) Γ2
  | _ => False
theorem dxa_star {p : Pos} (a : DX Xs K e d) (r : DXA Xs K es da) (E : EnvOk Xs P w K mg base k) (hs : ∀ i, starEach (.Starred e p :: es) (Xs i).env = (true, eval e (Xs i).env) :: starEach es (Xs i).env := by intro _; rfl) : DXA Xs K (.Starred e p :: es) (dStar d da) := by
  obtain ⟨ta, pa, sa⟩ := a
  obtain ⟨tr, pr, sr⟩ := r
  refine ⟨StX.tStar K ta tr, fun i => by rw [← E.K i]; exact StX.pa_star (pa i) (pr i) (hs i), ?_⟩
  intro F σ H Γ Q R S h kk
  refine sa F σ H Γ _ _ S h fun v o H1 Γ1 ok1 S1 p1 h1 => ?_
  obtain ⟨d1, r1, h2⟩ := ok1.rep S1 h1
  have go : ∀ (xs : List V) (as : List PyData), RpA K (Own F σ Γ1) H1 xs as → da Γ1 (fun bs Γ2 => Q (as ++ bs) Γ2) → tr σ H1 fun ys H2 => R (xs ++ ys) H2 := fun xs as ra q => by
    refine sr F σ H1 _ _ _ S1 q fun vs ds H2 Γ2 rb S2 p2 h3 => ?_
    exact kk _ _ H2 Γ2 ((ra.keep (p2.keeps fun a => S1.zP)).append rb) S2 (p1.trans p2) h3
  cases d1 with
  | tuple as => obtain ⟨a, xs, rfl, ht, ra⟩ := r1.tup; exact ⟨a, xs, rfl, .inl ht.sq, go xs as ra h2⟩
  | list as => obtain ⟨a, xs, rfl, ht, ra⟩ := r1.lst; exact ⟨a, xs, rfl, .inr (.of ht), go xs as ra h2⟩
  | _ => exact h2.elim
def dTup (r : DTA) : DT := fun Γ Q => r Γ fun as Γ1 => as.length ≤ sizeLine ∧ Q (.val (.tuple as)) Γ1
def dLst (r : DTA) : DT := fun Γ Q => r Γ fun as Γ1 => as.length ≤ sizeLine ∧ Q (.val (.list as)) Γ1
theorem dx_tup {x1} (r : DXA Xs K es da) : DX Xs K (.Tuple es x1 pos) (dTup da) := by
  obtain ⟨tr, pr, sr⟩ := r
  refine ⟨tTup tr, fun i => pe_tup (pr i), ?_⟩
  intro F σ H Γ Q R S h kk
  refine sr F σ H _ _ _ S h fun vs ds H2 Γ2 ra S2 p2 h3 => ⟨by rw [ra.length]; exact h3.1, fun p hp => ?_⟩
  exact kk _ (.val (.tuple ds)) _ Γ2 (newTup hp (S2.fresh hp) ra) (S2.ext (same_upd hp)) (p2.trans (.ext (same_upd hp))) h3.2
theorem dx_lst (r : DXA Xs K es da) : DX Xs K (.List es pos) (dLst da) := by
  obtain ⟨tr, pr, sr⟩ := r
  refine ⟨tLst tr, fun i => pe_lst (pr i), ?_⟩
  intro F σ H Γ Q R S h kk
  refine sr F σ H _ _ _ S h fun vs ds H2 Γ2 ra S2 p2 h3 => ⟨by rw [ra.length]; exact h3.1, fun p hp => ?_⟩
  exact kk _ (.val (.list ds)) _ Γ2 (newLst hp (S2.fresh hp) ra) (S2.ext (same_upd hp)) (p2.trans (.ext (same_upd hp))) h3.2
end
/-! ### and, or, not, if -/
section
variable {ι : Type} {Xs : ι → Cx} {K : PySem.W.Frag} {a b c : Expr} {rest : List Expr} {da db dc : DT} {ta tb : DTT} {pos : Pos}
def dAndV (da db : DT) : DT := fun Γ Q => da Γ fun x Γ1 => x.wd Γ1 fun v => match v with
  | .bool true => db Γ1 Q
  | .bool false => Q (.val (.bool false)) Γ1
  | _ => False
def dOrV (da db : DT) : DT := fun Γ Q => da Γ fun x Γ1 => x.wd Γ1 fun v => match v with
  | .bool false => db Γ1 Q
  | .bool true => Q (.val (.bool true)) Γ1
  | _ => False
def dNotV (da : DT) : DT := fun Γ Q => da Γ fun x Γ1 => x.wd Γ1 fun v => match v with
  | .bool b => Q (.val (.bool !b)) Γ1
  | _ => False
theorem dx_one {op} (h : DX Xs K a da) : DX Xs K (.BoolOp op [a] pos) da := by
  obtain ⟨t, p, s⟩ := h
  exact ⟨t, fun i => pe_one (p i), s⟩
theorem dx_and (h : DX Xs K a da) (g : DX Xs K (.BoolOp .And (b :: rest) pos) db) : DX Xs K (.BoolOp .And (a :: b :: rest) pos) (dAndV da db) := by
  obtain ⟨t, p, s⟩ := h
  obtain ⟨t2, p2, s2⟩ := g
  refine ⟨tAndV t t2, fun i => pe_and (p i) (p2 i), ?_⟩
  intro F σ H Γ Q R S h kk
  refine s F σ H Γ _ _ S h fun v o H1 Γ1 ok1 S1 p1 h1 => ?_
  obtain ⟨d1, r1, h2⟩ := ok1.rep S1 h1
  cases d1 with
  | bool z =>
    obtain rfl := r1.bl
    refine ⟨z, rfl, ?_⟩
    cases z with
    | true => rw [if_pos rfl]; exact s2 F σ H1 Γ1 _ _ S1 h2 fun v o H' Γ' a b c d => kk v o H' Γ' a b (p1.trans c) d
    | false => rw [if_neg (by decide)]; exact kk _ (.val (.bool false)) H1 Γ1 (.bl false) S1 p1 h2
  | _ => exact h2.elim
theorem dx_or (h : DX Xs K a da) (g : DX Xs K (.BoolOp .Or (b :: rest) pos) db) : DX Xs K (.BoolOp .Or (a :: b :: rest) pos) (dOrV da db) := by
  obtain ⟨t, p, s⟩ := h
  obtain ⟨t2, p2, s2⟩ := g
  refine ⟨tOrV t t2, fun i => pe_or (p i) (p2 i), ?_⟩
  intro F σ H Γ Q R S h kk
  refine s F σ H Γ _ _ S h fun v o H1 Γ1 ok1 S1 p1 h1 => ?_
  obtain ⟨d1, r1, h2⟩ := ok1.rep S1 h1
  cases d1 with
  | bool z =>
    obtain rfl := r1.bl
    refine ⟨z, rfl, ?_⟩
    cases z with
    | false => rw [if_neg (by decide)]; exact s2 F σ H1 Γ1 _ _ S1 h2 fun v o H' Γ' a b c d => kk v o H' Γ' a b (p1.trans c) d
    | true => rw [if_pos rfl]; exact kk _ (.val (.bool true)) H1 Γ1 (.bl true) S1 p1 h2
  | _ => exact h2.elim
theorem dx_not (h : DX Xs K a da) : DX Xs K (.UnaryOp .Not a pos) (dNotV da) := by
  obtain ⟨t, p, s⟩ := h
  refine ⟨tNotV t, fun i => pe_not (p i), ?_⟩
  intro F σ H Γ Q R S h kk
  refine s F σ H Γ _ _ S h fun v o H1 Γ1 ok1 S1 p1 h1 => ?_
  obtain ⟨d1, r1, h2⟩ := ok1.rep S1 h1
  cases d1 with
  | bool z =>
    obtain rfl := r1.bl
    exact ⟨z, rfl, kk _ (.val (.bool !z)) H1 Γ1 (.bl _) S1 p1 h2⟩
  | _ => exact h2.elim
def dIf (t : DTT) (da db : DT) : DT := fun Γ Q => t Γ fun b Γ1 => if b = true then da Γ1 Q else db Γ1 Q
theorem dx_if (h : DXT Xs K c ta) (g : DX Xs K a da) (g2 : DX Xs K b db) : DX Xs K (.IfExp c a b pos) (dIf ta da db) := by
  obtain ⟨t, p, s⟩ := h
  obtain ⟨t1, p1, s1⟩ := g
  obtain ⟨t2, p2, s2⟩ := g2
  refine ⟨tIf t t1 t2, fun i => pe_ifExp (p i) (p1 i) (p2 i), ?_⟩
  intro F σ H Γ Q R S h kk
  refine s F σ H Γ _ _ S h fun z H1 Γ1 S1 pr1 h1 => ?_
  cases z with
  | true => rw [if_pos rfl] at h1 ⊢; exact s1 F σ H1 Γ1 _ _ S1 h1 fun v o H' Γ' a b c d => kk v o H' Γ' a b (pr1.trans c) d
  | false => rw [if_neg (by decide)] at h1 ⊢; exact s2 F σ H1 Γ1 _ _ S1 h1 fun v o H' Γ' a b c d => kk v o H' Γ' a b (pr1.trans c) d
/-! tests -/
def dAnd (t u : DTT) : DTT := fun Γ Q => t Γ fun b Γ1 => if b = true then u Γ1 Q else Q false Γ1
def dOr (t u : DTT) : DTT := fun Γ Q => t Γ fun b Γ1 => if b = true then Q true Γ1 else u Γ1 Q
def dNot (t : DTT) : DTT := fun Γ Q => t Γ fun b Γ1 => Q (!b) Γ1
theorem dxw_and1 (h : DXT Xs K a ta) : DXW Xs K (.BoolOp .And [a] pos) ta := by
  obtain ⟨t, p, s⟩ := h
  exact ⟨t, fun i => pw_and1 (p i), s⟩
theorem dxw_or1 (h : DXT Xs K a ta) : DXW Xs K (.BoolOp .Or [a] pos) ta := by
  obtain ⟨t, p, s⟩ := h
  exact ⟨t, fun i => pw_or1 (p i), s⟩
theorem dxw_and (h : DXT Xs K a ta) (g : DXW Xs K (.BoolOp .And (b :: rest) pos) tb) : DXW Xs K (.BoolOp .And (a :: b :: rest) pos) (dAnd ta tb) := by
  obtain ⟨t, p, s⟩ := h
  obtain ⟨t2, p2, s2⟩ := g
  refine ⟨tAnd t t2, fun i => pw_and (p i) (p2 i), ?_⟩
  intro F σ H Γ Q R S h kk
  refine s F σ H Γ _ _ S h fun z H1 Γ1 S1 pr1 h1 => ?_
  cases z with
  | true => rw [if_pos rfl] at h1 ⊢; exact s2 F σ H1 Γ1 _ _ S1 h1 fun b H' Γ' a c d => kk b H' Γ' a (pr1.trans c) d
  | false => rw [if_neg (by decide)] at h1 ⊢; exact kk false H1 Γ1 S1 pr1 h1
theorem dxw_or (h : DXT Xs K a ta) (g : DXW Xs K (.BoolOp .Or (b :: rest) pos) tb) : DXW Xs K (.BoolOp .Or (a :: b :: rest) pos) (dOr ta tb) := by
  obtain ⟨t, p, s⟩ := h
  obtain ⟨t2, p2, s2⟩ := g
  refine ⟨tOr t t2, fun i => pw_or (p i) (p2 i), ?_⟩
  intro F σ H Γ Q R S h kk
  refine s F σ H Γ _ _ S h fun z H1 Γ1 S1 pr1 h1 => ?_
  cases z with
  | false => rw [if_neg (by decide)] at h1 ⊢; exact s2 F σ H1 Γ1 _ _ S1 h1 fun b H' Γ' a c d => kk b H' Γ' a (pr1.trans c) d
  | true => rw [if_pos rfl] at h1 ⊢; exact kk true H1 Γ1 S1 pr1 h1
theorem dxw_t (h : DXW Xs K a ta) : DXT Xs K a ta := by
  obtain ⟨t, p, s⟩ := h
  exact ⟨t, fun i => (p i).pt, s⟩
theorem dxt_not (h : DXT Xs K a ta) : DXT Xs K (.UnaryOp .Not a pos) (dNot ta) := by
  obtain ⟨t, p, s⟩ := h
  refine ⟨tNot t, fun i => pt_not (p i), ?_⟩
  intro F σ H Γ Q R S h kk
  exact s F σ H Γ _ _ S h fun z H1 Γ1 S1 pr1 h1 => kk (!z) H1 Γ1 S1 pr1 h1
/-- truth -/
def truD : PyData → Option Bool
  | .none => some false
  | .bool b => some b
  | .int i => some (i != 0)
  | .str x => some ((x.length : Int) != 0)
  | .list ds => some (!ds.isEmpty)
  | .tuple ds => some (!ds.isEmpty)
  | .dict _ => none
def shortStr : PyData → Prop
  | .str x => x.length ≤ sizeLine
  | _ => True
def dTru (d : DT) : DTT := fun Γ Q => d Γ fun x Γ1 => x.wd Γ1 fun v => shortStr v ∧ match truD v with
  | some b => Q b Γ1
  | none => False
theorem dxt_tru (hK : ∀ i, (Xs i).K = K) (h : DX Xs K a da) (he : ∀ (i : ι) (whole : Sem Value), isTrue a (Xs i).env whole = (do let v ← whole; standAt a.pos; holding [v] (truthy v)) := by intro _ _; rfl) : DXT Xs K a (dTru da) := by
  obtain ⟨t, p, s⟩ := h
  refine ⟨fun σ H Q => t σ H fun x H' => ∃ k, TruV K x H' k ∧ Q k H', fun i => by rw [← hK i]; exact pt_truth (p i) (he i), ?_⟩
  intro F σ H Γ Q R S h kk
  refine s F σ H Γ _ _ S h fun v o H1 Γ1 ok1 S1 p1 h1 => ?_
  obtain ⟨d1, r1, h2, h3⟩ := ok1.rep S1 h1
  have emp : ∀ {xs : List V} {ds : List PyData}, RpA K (Own F σ Γ1) H1 xs ds → (!ds.isEmpty) = !xs.isEmpty := fun {xs ds} r => by
    have := r.length
    cases xs <;> cases ds <;> simp_all
  cases d1 with
  | none => obtain rfl := r1.non; exact ⟨_, rfl, kk _ H1 Γ1 S1 p1 h3⟩
  | bool b => obtain rfl := r1.bl; exact ⟨_, rfl, kk _ H1 Γ1 S1 p1 h3⟩
  | int b => obtain rfl := r1.int; exact ⟨_, rfl, kk _ H1 Γ1 S1 p1 h3⟩
  | str b => obtain rfl := r1.str; exact ⟨_, ⟨h2, rfl⟩, kk _ H1 Γ1 S1 p1 h3⟩
  | list ds => obtain ⟨x, xs, rfl, h4, h5⟩ := r1.lst; exact ⟨_, .inl ⟨xs, .of h4, emp h5⟩, kk _ H1 Γ1 S1 p1 h3⟩
  | tuple ds => obtain ⟨x, xs, rfl, h4, h5⟩ := r1.tup; exact ⟨_, .inr (.inl ⟨xs, h4.sq, emp h5⟩), kk _ H1 Γ1 S1 p1 h3⟩
  | dict _ => exact h3.elim
end
end DL
end
section
set_option autoImplicit false
set_option linter.all false
set_option maxRecDepth 100000
set_option maxHeartbeats 4000000
namespace DL
open PySem PySem.Spec L2
/-! ### + -/
def fAdd : F2 := fun a b Q => match a, b with
  | .int i, .int j => Q (.int (i + j))
  | .str i, .str j => i.length + j.length ≤ sizeLine ∧ Q (.str (i ++ j))
  | .tuple i, .tuple j => i.length + j.length ≤ sizeLine ∧ Q (.tuple (i ++ j))
  | .list i, .list j => i.length + j.length ≤ sizeLine ∧ Q (.list (i ++ j))
  | _, _ => False
def rAddD (K : PySem.W.Frag) : R2 := fun x y H Q => rI0 (fun i j => .int (i + j)) x y H Q ∨ ((∃ i j, x = .str i ∧ y = .str j ∧ i.length + j.length ≤ sizeLine ∧ Q (.str (i ++ j)) H) ∨ (rCatA K x y H Q ∨ rCat x y H Q))
theorem op_addD {X : Cx} : OpR X (binaryOp .Add) (rAddD X.K) := op_add.or (op_add_str.or (op_catA.or op_cat))
theorem ops_add (K : PySem.W.Frag) : OpS K (rAddD K) fAdd := by
  intro O H x y dx dy Qd R hO rx ry h kk
  unfold fAdd at h
  split at h
  · obtain rfl := rx.int; obtain rfl := ry.int
    exact .inl ⟨_, _, rfl, rfl, kk _ _ H (Same.refl H) (.int _) h⟩
  · obtain rfl := rx.str; obtain rfl := ry.str
    exact .inr (.inl ⟨_, _, rfl, rfl, h.1, kk _ _ H (Same.refl H) (.str _) h.2⟩)
  · obtain ⟨a, xs, rfl, ha, ra⟩ := rx.tup
    obtain ⟨b, ys, rfl, hb, rb⟩ := ry.tup
    refine .inr (.inr (.inl ⟨a, b, xs, ys, rfl, rfl, ha.sq, hb.sq, by rw [ra.length, rb.length]; exact h.1, fun e => ?_, fun _ e => ?_, fun _ _ p hp => ?_⟩))
    · subst e; obtain rfl := ra.nil_iff.mp rfl
      exact kk _ _ H (Same.refl H) (.tup hb rb) h.2
    · subst e; obtain rfl := rb.nil_iff.mp rfl
      have q := h.2; rw [List.append_nil] at q
      exact kk _ _ H (Same.refl H) (.tup ha ra) q
    · exact kk _ _ _ (same_upd hp) (newTup hp (no_fresh hO hp) (ra.append rb)) h.2
  · obtain ⟨a, xs, rfl, ha, ra⟩ := rx.lst
    obtain ⟨b, ys, rfl, hb, rb⟩ := ry.lst
    exact .inr (.inr (.inr ⟨a, b, xs, ys, rfl, rfl, ha, hb, by rw [ra.length, rb.length]; exact h.1, fun p hp => kk _ _ _ (same_upd hp) (newLst hp (no_fresh hO hp) (ra.append rb)) h.2⟩))
  · exact h.elim
/-! ### - * // % -/
def fSub : F2 := fun a b Q => match a, b with
  | .int i, .int j => Q (.int (i - j))
  | _, _ => False
theorem ops_sub (K : PySem.W.Frag) : OpS K (rI0 fun i j => .int (i - j)) fSub := by
  intro O H x y dx dy Qd R hO rx ry h kk
  unfold fSub at h
  split at h
  · obtain rfl := rx.int; obtain rfl := ry.int
    exact ⟨_, _, rfl, rfl, kk _ _ H (Same.refl H) (.int _) h⟩
  · exact h.elim
def fMul : F2 := fun a b Q => match a, b with
  | .int i, .int j => CMul i j ∧ Q (.int (i * j))
  | .list ds, .int j => (-(2 ^ 63) ≤ j ∧ j < 2 ^ 63 ∧ ds.length * j.toNat ≤ sizeLine) ∧ Q (.list (List.replicate j.toNat ds).flatten)
  | .tuple ds, .int j => (ds ≠ [] ∧ 2 ≤ j ∧ j ≤ 1000 ∧ ds.length ≤ 1000) ∧ Q (.tuple (List.replicate j.toNat ds).flatten)
  | _, _ => False
def rMulD (K : PySem.W.Frag) : R2 := fun x y H Q => rI CMul (fun i j => .int (i * j)) x y H Q ∨ (rRep x y H Q ∨ rRepT K x y H Q)
theorem op_mulD {X : Cx} : OpR X (binaryOp .Mult) (rMulD X.K) := op_mul.or (op_rep.or op_repT)
theorem RpA.rep {K : PySem.W.Frag} {O : Prot} {H : Hp} {xs : List V} {ds : List PyData} (r : RpA K O H xs ds) : ∀ n : Nat, RpA K O H (List.replicate n xs).flatten (List.replicate n ds).flatten
  | 0 => .nil
  | n + 1 => by rw [List.replicate_succ, List.replicate_succ, List.flatten_cons, List.flatten_cons]; exact r.append (RpA.rep r n)
theorem ops_mul (K : PySem.W.Frag) : OpS K (rMulD K) fMul := by
  intro O H x y dx dy Qd R hO rx ry h kk
  unfold fMul at h
  split at h
  · obtain rfl := rx.int; obtain rfl := ry.int
    exact .inl ⟨_, _, rfl, rfl, h.1, kk _ _ H (Same.refl H) (.int _) h.2⟩
  · obtain ⟨a, xs, rfl, ha, ra⟩ := rx.lst; obtain rfl := ry.int
    exact .inr (.inl ⟨a, _, xs, rfl, rfl, ha, h.1.1, h.1.2.1, by rw [ra.length]; exact h.1.2.2, fun p hp => kk _ _ _ (same_upd hp) (newLst hp (no_fresh hO hp) (ra.rep _)) h.2⟩)
  · obtain ⟨a, xs, rfl, ha, ra⟩ := rx.tup; obtain rfl := ry.int
    exact .inr (.inr ⟨a, _, xs, rfl, rfl, ha.sq, fun e => h.1.1 (ra.nil_iff.mp e), h.1.2.1, h.1.2.2.1, by rw [ra.length]; exact h.1.2.2.2, fun p hp => kk _ _ _ (same_upd hp) (newTup hp (no_fresh hO hp) (ra.rep _)) h.2⟩)
  · exact h.elim
def fMod : F2 := fun a b Q => match a, b with
  | .int i, .int j => 0 < j ∧ Q (.int (i % j))
  | _, _ => False
theorem ops_mod (K : PySem.W.Frag) : OpS K (rI (fun _ j => 0 < j) fun i j => .int (i % j)) fMod := by
  intro O H x y dx dy Qd R hO rx ry h kk
  unfold fMod at h
  split at h
  · obtain rfl := rx.int; obtain rfl := ry.int
    exact ⟨_, _, rfl, rfl, h.1, kk _ _ H (Same.refl H) (.int _) h.2⟩
  · exact h.elim
def fDiv : F2 := fun a b Q => match a, b with
  | .int i, .int j => (0 < j ∧ j < 1073741824) ∧ Q (.int (i / j))
  | _, _ => False
theorem ops_div (K : PySem.W.Frag) : OpS K (rI CDiv fun i j => .int (i / j)) fDiv := by
  intro O H x y dx dy Qd R hO rx ry h kk
  unfold fDiv at h
  split at h
  · obtain rfl := rx.int; obtain rfl := ry.int
    exact ⟨_, _, rfl, rfl, h.1, kk _ _ H (Same.refl H) (.int _) h.2⟩
  · exact h.elim
def fPow : F2 := fun a b Q => match a, b with
  | .int i, .int j => CPow i j ∧ Q (.int (i ^ j.toNat))
  | _, _ => False
theorem ops_pow (K : PySem.W.Frag) : OpS K (rI CPow fun i j => .int (i ^ j.toNat)) fPow := by
  intro O H x y dx dy Qd R hO rx ry h kk
  unfold fPow at h
  split at h
  · obtain rfl := rx.int; obtain rfl := ry.int
    exact ⟨_, _, rfl, rfl, h.1, kk _ _ H (Same.refl H) (.int _) h.2⟩
  · exact h.elim
/-! ### == != -/
/-- scalars that are told apart by their values -/
def flat2 : PyData → PyData → Bool
  | .none, .none => true | .none, .int _ => true | .int _, .none => true | .none, .bool _ => true | .bool _, .none => true | .none, .str _ => true | .str _, .none => true
  | .int _, .int _ => true | .bool _, .bool _ => true | .str _, .str _ => true
  | .int _, .str _ => true | .str _, .int _ => true | .bool _, .str _ => true | .str _, .bool _ => true
  | _, _ => false
/-- one of both: a list and [], a tuple and () -/
def noItems : PyData → PyData → Bool
  | .list _, .list [] => true
  | .tuple _, .tuple [] => true
  | _, _ => false
def EqOk (a b : PyData) : Prop := flat2 a b = true ∨ (SeqAt.shaped a = true ∧ SeqAt.shaped b = true) ∨ noItems a b = true
def fEq : F2 := fun a b Q => EqOk a b ∧ Q (.bool (PyData.eqv a b))
def fNe : F2 := fun a b Q => EqOk a b ∧ Q (.bool (!PyData.eqv a b))
def rEqE (K : PySem.W.Frag) : R2 := fun x y H Q => ∃ p q xs, x = .ref p ∧ y = .ref q ∧ ((SqL K H p xs ∧ SqL K H q []) ∨ (SqT K H p xs ∧ SqT K H q [])) ∧ Q (.bl xs.isEmpty) H
def rNeE (K : PySem.W.Frag) : R2 := fun x y H Q => ∃ p q xs, x = .ref p ∧ y = .ref q ∧ ((SqL K H p xs ∧ SqL K H q []) ∨ (SqT K H p xs ∧ SqT K H q [])) ∧ Q (.bl !xs.isEmpty) H
theorem vals_nil {us : List Value} (r : Vals [] us) : us = [] := by cases r; rfl
theorem noneAll {α : Type} {n : Nat} {f : Nat → Bool} {a : Array α} (e : n = 0) : (List.range n).all f = true := by subst e; rfl
theorem op_eqE {X : Cx} (hu : X.A.units < cLine) : OpR X (compareOp .Eq) (rEqE X.K) := by
  intro pins s σ H x y v u Q I rx ry h
  obtain ⟨p, q, xs, rfl, rfl, hh, hq⟩ := h
  cases rx; cases ry
  have fin : EP X pins σ Q (.bool xs.isEmpty) s := ⟨.bl _, H, I, rfl, hq⟩
  rcases hh with ⟨h1, h2⟩ | ⟨h1, h2⟩
  · obtain ⟨i1, r1, ⟨o1, n1, a1, b1, _, d1⟩, _⟩ := I.list h1
    obtain ⟨i2, r2, ⟨o2, n2, a2, b2, _, d2⟩, _⟩ := I.list h2
    obtain rfl := vals_nil r2
    have l1 : s.heap.IsList p i1.toArray := ⟨o1, a1, b1, n1, d1⟩
    have l2 : s.heap.IsList q ([] : List Value).toArray := ⟨o2, a2, b2, n2, d2⟩
    have hl := r1.length
    cases xs with
    | nil =>
      obtain rfl := vals_nil r1
      exact SeqAt.RcAt.lists (e := fun _ => true) l1 l2 rfl hu (fun j j1 _ => absurd j1 (by simp)) _ _ _ _ fin
    | cons z zs =>
      cases i1 with
      | nil => cases hl
      | cons w ws => exact SeqAt.RcAt.lists_lengths l1 l2 (by simp) hu _ _ _ _ fin
  · obtain ⟨i1, r1, ⟨o1, a1, b1, n1, d1⟩, _⟩ := I.tuple h1
    obtain ⟨i2, r2, ⟨o2, a2, b2, n2, d2⟩, _⟩ := I.tuple h2
    obtain rfl := vals_nil r2
    have l1 : s.heap.IsTuple p i1.toArray := ⟨o1, a1, b1, n1, d1⟩
    have l2 : s.heap.IsTuple q ([] : List Value).toArray := ⟨o2, a2, b2, n2, d2⟩
    have hl := r1.length
    refine SeqAt.RcAt.tuples (e := fun _ => true) l1 l2 hu (fun j _ j2 => absurd j2 (by simp)) _ _ _ _ ?_
    cases xs with
    | nil => obtain rfl := vals_nil r1; exact fin
    | cons z zs => cases i1 with
      | nil => cases hl
      | cons w ws => exact fin
theorem op_neE {X : Cx} (hu : X.A.units < cLine) : OpR X (compareOp .NotEq) (rNeE X.K) := by
  intro pins s σ H x y v u Q I rx ry h
  obtain ⟨p, q, xs, rfl, rfl, hh, hq⟩ := h
  cases rx; cases ry
  have fin : EP X pins σ Q (.bool !xs.isEmpty) s := ⟨.bl _, H, I, rfl, hq⟩
  rcases hh with ⟨h1, h2⟩ | ⟨h1, h2⟩
  · obtain ⟨i1, r1, ⟨o1, n1, a1, b1, _, d1⟩, _⟩ := I.list h1
    obtain ⟨i2, r2, ⟨o2, n2, a2, b2, _, d2⟩, _⟩ := I.list h2
    obtain rfl := vals_nil r2
    have l1 : s.heap.IsList p i1.toArray := ⟨o1, a1, b1, n1, d1⟩
    have l2 : s.heap.IsList q ([] : List Value).toArray := ⟨o2, a2, b2, n2, d2⟩
    have hl := r1.length
    cases xs with
    | nil =>
      obtain rfl := vals_nil r1
      exact SeqAt.RcNeAt.lists (e := fun _ => true) l1 l2 rfl hu (fun j j1 _ => absurd j1 (by simp)) _ _ _ _ fin
    | cons z zs =>
      cases i1 with
      | nil => cases hl
      | cons w ws => exact SeqAt.RcNeAt.lists_lengths l1 l2 (by simp) hu _ _ _ _ fin
  · obtain ⟨i1, r1, ⟨o1, a1, b1, n1, d1⟩, _⟩ := I.tuple h1
    obtain ⟨i2, r2, ⟨o2, a2, b2, n2, d2⟩, _⟩ := I.tuple h2
    obtain rfl := vals_nil r2
    have l1 : s.heap.IsTuple p i1.toArray := ⟨o1, a1, b1, n1, d1⟩
    have l2 : s.heap.IsTuple q ([] : List Value).toArray := ⟨o2, a2, b2, n2, d2⟩
    have hl := r1.length
    refine SeqAt.RcNeAt.tuples (e := fun _ => true) l1 l2 hu (fun j _ j2 => absurd j2 (by simp)) _ _ _ _ ?_
    cases xs with
    | nil => obtain rfl := vals_nil r1; exact fin
    | cons z zs => cases i1 with
      | nil => cases hl
      | cons w ws => exact fin
def rEqX (K : PySem.W.Frag) : R2 := fun x y H Q => rEq x y H Q ∨ (rEqD K x y H Q ∨ rEqE K x y H Q)
def rNeX (K : PySem.W.Frag) : R2 := fun x y H Q => rNe x y H Q ∨ (rNeD K x y H Q ∨ rNeE K x y H Q)
theorem op_eqX {X : Cx} {k : Nat} (h : Room k X.A) : OpR X (compareOp .Eq) (rEqX X.K) := op_eq.or ((op_eqD h.units).or (op_eqE (by have := h.units; omega)))
theorem op_neX {X : Cx} {k : Nat} (h : Room k X.A) : OpR X (compareOp .NotEq) (rNeX X.K) := op_ne.or ((op_neD h.units).or (op_neE (by have := h.units; omega)))
section
variable {K : PySem.W.Frag} {O : Prot} {H : Hp}
theorem Rp.dp {v : V} {d : PyData} (h : Rp K O H v d) : d.hasDict = false → Dp K H v d :=
  Rp.rec (motive_1 := fun v d _ => d.hasDict = false → Dp K H v d) (motive_2 := fun vs ds _ => PyData.hasDictAll ds = false → DpAll K H vs ds) (fun _ => .non) (fun b _ => .bl b) (fun b _ => .int b) (fun b _ => .str b)
    (fun a _ r e => .lst a.sq (r (by simpa [PyData.hasDict] using e))) (fun a _ r e => .tup a.sq (r (by simpa [PyData.hasDict] using e)))
    (fun _ _ _ _ e => by simp [PyData.hasDict] at e) (fun _ => .nil) (fun _ _ a b e => by
      have e' := e
      simp only [PyData.hasDictAll, Bool.or_eq_false_iff] at e'
      exact .cons (a e'.1) (b e'.2)) h
theorem RpA.dp {vs : List V} {ds : List PyData} (h : RpA K O H vs ds) (e : PyData.hasDictAll ds = false) : DpAll K H vs ds := by
  induction ds generalizing vs with
  | nil => cases h; exact .nil
  | cons d ds ih => cases h with
    | cons a b =>
      simp only [PyData.hasDictAll, Bool.or_eq_false_iff] at e
      exact .cons (a.dp e.1) (ih b e.2)
theorem RpB.dp {v : V} {d : PyData} (h : RpB K O H v d) (e : d.hasDict = false) : Dp K H v d := by
  rcases h with h | ⟨a, rfl, ⟨xs, ds, rfl, h1, h2⟩ | ⟨_, _, rfl, _, _⟩⟩
  · exact h.dp e
  · exact .lst (.of h1) (h2.dp (by simpa [PyData.hasDict] using e))
  · simp [PyData.hasDict] at e
theorem shaped_nodict {d : PyData} (h : SeqAt.shaped d = true) : d.hasDict = false := PyData.hasDict_of_canLay d (SeqAt.canLay_of_shaped h)
end
theorem dec_vv {x y : V} {dx dy : PyData} {K : PySem.W.Frag} {O : Prot} {H : Hp} (rx : RpB K O H x dx) (ry : RpB K O H y dy) (f : flat2 dx dy = true) : scal x y = true ∧ decide (x = y) = PyData.eqv dx dy := by
  cases dx <;> cases dy <;> first
    | (simp [flat2] at f; done)
    | (have e1 := (show x = _ from by first | exact rx.non | exact rx.int | exact rx.bl | exact rx.str)
       have e2 := (show y = _ from by first | exact ry.non | exact ry.int | exact ry.bl | exact ry.str)
       subst e1; subst e2
       refine ⟨rfl, ?_⟩
       first
         | (simp [PyData.eqv]; done)
         | (rw [dec_int]; rfl)
         | (rw [dec_bl]; rfl)
         | (rw [dec_str]; rfl))
theorem no_items {x y : V} {dx dy : PyData} {K : PySem.W.Frag} {O : Prot} {H : Hp} (rx : RpB K O H x dx) (ry : RpB K O H y dy) (f : noItems dx dy = true) :
    ∃ p q xs, x = .ref p ∧ y = .ref q ∧ ((SqL K H p xs ∧ SqL K H q []) ∨ (SqT K H p xs ∧ SqT K H q [])) ∧ xs.isEmpty = PyData.eqv dx dy := by
  unfold noItems at f
  split at f
  · rename_i ds
    obtain ⟨p, xs, rfl, h1, h2⟩ := rx.lst
    obtain ⟨q, ys, rfl, h3, h4⟩ := ry.lst
    cases h4
    exact ⟨p, q, xs, rfl, rfl, .inl ⟨.of h1, .of h3⟩, by cases h2 <;> simp [PyData.eqv, PyData.eqvAll]⟩
  · rename_i ds
    obtain ⟨p, xs, rfl, h1, h2⟩ := rx.tup
    obtain ⟨q, ys, rfl, h3, h4⟩ := ry.tup
    cases h4
    exact ⟨p, q, xs, rfl, rfl, .inr ⟨h1.sq, h3.sq⟩, by cases h2 <;> simp [PyData.eqv, PyData.eqvAll]⟩
  · cases f
theorem ops_eq (K : PySem.W.Frag) : OpS K (rEqX K) fEq := by
  intro O H x y dx dy Qd R hO rx ry h kk
  obtain ⟨ok, q⟩ := h
  rcases ok with f | ⟨s1, s2⟩ | ne
  · obtain ⟨h1, h2⟩ := dec_vv rx ry f
    refine .inl ⟨h1, ?_⟩
    rw [h2]
    exact kk _ _ H (Same.refl H) (.bl _) q
  · exact .inr (.inl ⟨dx, dy, rx.dp (shaped_nodict s1), ry.dp (shaped_nodict s2), s1, s2, kk _ _ H (Same.refl H) (.bl _) q⟩)
  · obtain ⟨p1, p2, xs, e1, e2, hh, he⟩ := no_items rx ry ne
    refine .inr (.inr ⟨p1, p2, xs, e1, e2, hh, ?_⟩)
    rw [he]
    exact kk _ _ H (Same.refl H) (.bl _) q
theorem ops_ne (K : PySem.W.Frag) : OpS K (rNeX K) fNe := by
  intro O H x y dx dy Qd R hO rx ry h kk
  obtain ⟨ok, q⟩ := h
  rcases ok with f | ⟨s1, s2⟩ | ne
  · obtain ⟨h1, h2⟩ := dec_vv rx ry f
    refine .inl ⟨h1, ?_⟩
    rw [h2]
    exact kk _ _ H (Same.refl H) (.bl _) q
  · exact .inr (.inl ⟨dx, dy, rx.dp (shaped_nodict s1), ry.dp (shaped_nodict s2), s1, s2, kk _ _ H (Same.refl H) (.bl _) q⟩)
  · obtain ⟨p1, p2, xs, e1, e2, hh, he⟩ := no_items rx ry ne
    refine .inr (.inr ⟨p1, p2, xs, e1, e2, hh, ?_⟩)
    rw [he]
    exact kk _ _ H (Same.refl H) (.bl _) q
/-! ### < <= > >= -/
def fInt (p : Int → Int → Bool) : F2 := fun a b Q => match a, b with
  | .int i, .int j => Q (.bool (p i j))
  | _, _ => False
theorem ops_int (K : PySem.W.Frag) (p : Int → Int → Bool) : OpS K (rI0 fun i j => .bl (p i j)) (fInt p) := by
  intro O H x y dx dy Qd R hO rx ry h kk
  unfold fInt at h
  split at h
  · obtain rfl := rx.int; obtain rfl := ry.int
    exact ⟨_, _, rfl, rfl, kk _ _ H (Same.refl H) (.bl _) h⟩
  · exact h.elim
def fLt : F2 := fInt fun i j => decide (i < j)
def fGt : F2 := fInt fun i j => decide (j < i)
def fGe : F2 := fInt fun i j => decide (j ≤ i)
def rLeD (K : PySem.W.Frag) : R2 := fun x y H Q => rI0 (fun i j => .bl (decide (i ≤ j))) x y H Q ∨ (∃ i j, x = .str i ∧ y = .str j ∧ Q (.bl (!decide (j.cps.toList < i.cps.toList))) H)
def strLe (i j : Str) : Bool := !decide (j.cps.toList < i.cps.toList)
def fLe : F2 := fun a b Q => match a, b with
  | .int i, .int j => Q (.bool (decide (i ≤ j)))
  | .str i, .str j => Q (.bool (strLe i j))
  | _, _ => False
theorem op_leD {X : Cx} : OpR X (compareOp .LtE) (rLeD X.K) := op_le.or op_le_str
theorem ops_le (K : PySem.W.Frag) : OpS K (rLeD K) fLe := by
  intro O H x y dx dy Qd R hO rx ry h kk
  unfold fLe at h
  split at h
  · obtain rfl := rx.int; obtain rfl := ry.int
    exact .inl ⟨_, _, rfl, rfl, kk _ _ H (Same.refl H) (.bl _) h⟩
  · obtain rfl := rx.str; obtain rfl := ry.str
    exact .inr ⟨_, _, rfl, rfl, kk _ _ H (Same.refl H) (.bl _) h⟩
  · exact h.elim
/-! ### is None, in -/
def isNoneD : PyData → Bool
  | .none => true
  | _ => false
def fIs : F2 := fun a b Q => match b with
  | .none => Q (.bool (isNoneD a))
  | _ => False
def fIsNot : F2 := fun a b Q => match b with
  | .none => Q (.bool (!isNoneD a))
  | _ => False
theorem isnone_v {K : PySem.W.Frag} {O : Prot} {H : Hp} {x : V} {d : PyData} (r : RpB K O H x d) : decide (x = .non) = isNoneD d := by
  cases d with
  | none => rw [r.non]; rfl
  | bool b => rw [r.bl]; rfl
  | int b => rw [r.int]; rfl
  | str b => rw [r.str]; rfl
  | list b => obtain ⟨a, xs, rfl, _⟩ := r.lst; rfl
  | tuple b => obtain ⟨a, xs, rfl, _⟩ := r.tup; rfl
  | dict b => obtain ⟨a, xs, ys, rfl, _⟩ := r.dic; rfl
theorem ops_is (K : PySem.W.Frag) : OpS K (fun x y H Q => y = .non ∧ Q (.bl (decide (x = .non))) H) fIs := by
  intro O H x y dx dy Qd R hO rx ry h kk
  unfold fIs at h
  split at h
  · obtain rfl := ry.non
    refine ⟨rfl, ?_⟩
    rw [isnone_v rx]
    exact kk _ _ H (Same.refl H) (.bl _) h
  · exact h.elim
theorem ops_isnot (K : PySem.W.Frag) : OpS K (fun x y H Q => y = .non ∧ Q (.bl (!decide (x = .non))) H) fIsNot := by
  intro O H x y dx dy Qd R hO rx ry h kk
  unfold fIsNot at h
  split at h
  · obtain rfl := ry.non
    refine ⟨rfl, ?_⟩
    rw [isnone_v rx]
    exact kk _ _ H (Same.refl H) (.bl _) h
  · exact h.elim
def flatD : PyData → Bool
  | .none => true | .bool _ => true | .int _ => true | .str _ => true
  | _ => false
def inD (x : PyData) (ds : List PyData) : Bool := ds.any fun y => PyData.eqv y x
def strIn (i j : Str) : Bool := !(Builtin.Str.occurrences j i 0 j.length 1).isEmpty
def fIn (neg : Bool) : F2 := fun a b Q => match b with
  | .list ds => (flatD a = true ∧ ds.all flatD = true) ∧ Q (.bool (if neg then !inD a ds else inD a ds))
  | .tuple ds => (flatD a = true ∧ ds.all flatD = true) ∧ Q (.bool (if neg then !inD a ds else inD a ds))
  | .str j => match a with
    | .str i => Q (.bool (if neg then !strIn i j else strIn i j))
    | _ => False
  | _ => False
theorem flat_v {K : PySem.W.Frag} {O : Prot} {H : Hp} {x : V} {d : PyData} (r : RpB K O H x d) (f : flatD d = true) : flatV x = true := by
  cases d with
  | none => rw [r.non]; rfl
  | bool b => rw [r.bl]; rfl
  | int b => rw [r.int]; rfl
  | str b => rw [r.str]; rfl
  | _ => simp [flatD] at f
theorem eqV_d {K : PySem.W.Frag} {O : Prot} {H : Hp} {x y : V} {dx dy : PyData} (rx : RpB K O H x dx) (ry : RpB K O H y dy) (fx : flatD dx = true) (fy : flatD dy = true) : eqV x y = PyData.eqv dx dy := by
  cases dx <;> cases dy <;> first
    | (simp [flatD] at fx; done)
    | (simp [flatD] at fy; done)
    | (have e1 := (show x = _ from by first | exact rx.non | exact rx.int | exact rx.bl | exact rx.str)
       have e2 := (show y = _ from by first | exact ry.non | exact ry.int | exact ry.bl | exact ry.str)
       subst e1; subst e2
       rfl)
theorem in_d {K : PySem.W.Frag} {O : Prot} {H : Hp} {x : V} {d : PyData} (r : RpB K O H x d) (f : flatD d = true) : ∀ {vs : List V} {ds : List PyData}, RpA K O H vs ds → ds.all flatD = true → vs.all flatV = true ∧ inV x vs = inD d ds := by
  intro vs ds h fa
  induction ds generalizing vs with
  | nil => cases h; exact ⟨rfl, rfl⟩
  | cons e ds ih => cases h with
    | cons a b =>
      rw [List.all_cons, Bool.and_eq_true] at fa
      obtain ⟨h1, h2⟩ := ih b fa.2
      refine ⟨by rw [List.all_cons, h1, flat_v (.inl a) fa.1]; rfl, ?_⟩
      unfold inV inD at h2 ⊢
      rw [List.any_cons, List.any_cons, h2, eqV_d (.inl a) r fa.1 f]
def rInX (K : PySem.W.Frag) (neg : Bool) : R2 := fun x y H Q => rIn K neg x y H Q ∨ (∃ i j, x = .str i ∧ y = .str j ∧ Q (.bl (if neg then !(!(Builtin.Str.occurrences j i 0 j.length 1).isEmpty) else (!(Builtin.Str.occurrences j i 0 j.length 1).isEmpty))) H)
theorem op_inX {X : Cx} : OpR X (compareOp .In) (rInX X.K false) := op_in_seq.or fun pins s σ H x y v u Q I rx ry h => op_in_str pins s σ H x y v u Q I rx ry h
theorem op_notinX {X : Cx} : OpR X (compareOp .NotIn) (rInX X.K true) := op_notIn_seq.or fun pins s σ H x y v u Q I rx ry h => op_notIn_str pins s σ H x y v u Q I rx ry h
theorem ops_in (K : PySem.W.Frag) (neg : Bool) : OpS K (rInX K neg) (fIn neg) := by
  intro O H x y dx dy Qd R hO rx ry h kk
  unfold fIn at h
  split at h
  · obtain ⟨⟨f1, f2⟩, q⟩ := h
    obtain ⟨a, ys, rfl, hb, rb⟩ := ry.lst
    obtain ⟨h1, h2⟩ := in_d rx f1 rb f2
    refine .inl ⟨a, ys, rfl, .inl (.of hb), flat_v rx f1, h1, ?_⟩
    rw [h2]
    exact kk _ _ H (Same.refl H) (.bl _) q
  · obtain ⟨⟨f1, f2⟩, q⟩ := h
    obtain ⟨a, ys, rfl, hb, rb⟩ := ry.tup
    obtain ⟨h1, h2⟩ := in_d rx f1 rb f2
    refine .inl ⟨a, ys, rfl, .inr hb.sq, flat_v rx f1, h1, ?_⟩
    rw [h2]
    exact kk _ _ H (Same.refl H) (.bl _) q
  · split at h
    · obtain rfl := rx.str; obtain rfl := ry.str
      exact .inr ⟨_, _, rfl, rfl, kk _ _ H (Same.refl H) (.bl _) h⟩
    · exact h.elim
  · exact h.elim
/-! ### x[i], x[a:b] -/
def fIx : F2 := fun a b Q => match a, b with
  | .list ds, .int i => match atI ds i with
    | some d => Q d
    | none => False
  | .tuple ds, .int i => match atI ds i with
    | some d => Q d
    | none => False
  | .str x, .int i => x.length ≤ sizeLine ∧ match atI x.cps.toList i with
    | some c => Q (.str ⟨#[c]⟩)
    | none => False
  | _, _ => False
theorem RpA.atI {K : PySem.W.Frag} {O : Prot} {H : Hp} {xs : List V} {ds : List PyData} (r : RpA K O H xs ds) {i : Int} {d : PyData} (e : L2.atI ds i = some d) : ∃ v, L2.atI xs i = some v ∧ Rp K O H v d := by
  unfold L2.atI at e ⊢
  rw [r.length]
  cases q : ixN ds.length i with
  | none => rw [q] at e; cases e
  | some j =>
    rw [q] at e
    exact r.getD e
theorem ops_ix (K : PySem.W.Frag) : OpS K (rIx K) fIx := by
  intro O H x y dx dy Qd R hO rx ry h kk
  unfold fIx at h
  split at h
  · split at h
    · rename_i e
      obtain ⟨a, xs, rfl, ha, ra⟩ := rx.lst; obtain rfl := ry.int
      obtain ⟨v, e1, r1⟩ := ra.atI e
      exact .inl ⟨a, xs, _, v, rfl, rfl, .of ha, e1, kk _ _ H (Same.refl H) r1 h⟩
    · exact h.elim
  · split at h
    · rename_i e
      obtain ⟨a, xs, rfl, ha, ra⟩ := rx.tup; obtain rfl := ry.int
      obtain ⟨v, e1, r1⟩ := ra.atI e
      exact .inr (.inl ⟨a, xs, _, v, rfl, rfl, ha.sq, e1, kk _ _ H (Same.refl H) r1 h⟩)
    · exact h.elim
  · obtain ⟨hz, h⟩ := h
    split at h
    · rename_i c e
      obtain rfl := rx.str; obtain rfl := ry.int
      exact .inr (.inr ⟨_, _, c, rfl, rfl, hz, e, kk _ _ H (Same.refl H) (.str _) h⟩)
    · exact h.elim
  · exact h.elim
section
variable {ι : Type} {Xs : ι → Cx} {P : Program} {w : World} {K : PySem.W.Frag} {mg : Str → Option Value} {base : Heap} {k : Nat} {ea eb ec : Expr} {da db dc : DT} {pos p2 : Pos}
theorem dx_ix (E : EnvOk Xs P w K mg base k) (a : DX Xs K ea da) (b : DX Xs K eb db) (hs : PlainIx eb := by intro _ _; rfl) : DX Xs K (.Subscript ea eb pos) (dOp fIx da db) := by
  obtain ⟨ta, pa, sa⟩ := a
  obtain ⟨tb, pb, sb⟩ := b
  refine ⟨tOp (rIx K) ta tb, fun i => ?_, sound_op (ops_ix K) sa sb⟩
  rw [← E.K i]
  exact pe_ix ix_seq (pa i) (pb i) hs
/-- a part of a slice -/
abbrev DTO := GS → (Option Int → GS → Prop) → Prop
def SoundO (K : PySem.W.Frag) (t : TO) (dt : DTO) : Prop := ∀ (F : FC) (σ : L2.St) (H : Hp) (Γ : GS) (Q : Option Int → GS → Prop) (R : Option Int → Hp → Prop), StOk K F σ H Γ → dt Γ Q →
  (∀ o H' Γ', StOk K F σ H' Γ' → PresE F σ Γ H Γ' H' → Q o Γ' → R o H') → t σ H R
def DXO {ι : Type} (Xs : ι → Cx) (K : PySem.W.Frag) (e : Option Expr) (dt : DTO) : Prop := ∃ t, (∀ i, PO (Xs i) e t) ∧ SoundO K t dt
def dNoP : DTO := fun Γ Q => Q none Γ
def dPart (d : DT) : DTO := fun Γ Q => d Γ fun x Γ1 => x.wd Γ1 fun v => match v with
  | .int i => Q (some i) Γ1
  | _ => False
theorem dxo_none : DXO Xs K none dNoP := ⟨tNoPart, fun _ => po_none, fun F σ H Γ Q R S h kk => kk none H Γ S .refl h⟩
theorem dxo_some (a : DX Xs K ea da) : DXO Xs K (some ea) (dPart da) := by
  obtain ⟨t, p, s⟩ := a
  refine ⟨tPart t, fun i => po_some (p i), ?_⟩
  intro F σ H Γ Q R S h kk
  refine s F σ H Γ _ _ S h fun v o H1 Γ1 ok1 S1 p1 h1 => ?_
  obtain ⟨d1, r1, h2⟩ := ok1.rep S1 h1
  cases d1 with
  | int i => obtain rfl := r1.int; exact ⟨i, rfl, kk _ H1 Γ1 S1 p1 h2⟩
  | _ => exact h2.elim
def cutD (xs : List PyData) (lo hi : Option Int) : List PyData := (xs.drop (HT.sIx xs.length 0 lo)).take (HT.sIx xs.length xs.length hi - HT.sIx xs.length 0 lo)
theorem RpA.cut {O : Prot} {H : Hp} {xs : List V} {ds : List PyData} (r : RpA K O H xs ds) (lo hi : Option Int) : RpA K O H (cutV xs lo hi) (cutD ds lo hi) := by
  unfold cutV cutD
  rw [r.length]
  exact (r.drop _).take _
theorem cut_whole {ds : List PyData} {lo hi : Option Int} (h : HT.sIx ds.length 0 lo = 0 ∧ HT.sIx ds.length ds.length hi = ds.length) : cutD ds lo hi = ds := by
  unfold cutD
  rw [h.1, h.2, List.drop_zero, Nat.sub_zero, List.take_length]
def dSl (da : DT) (l u : DTO) : DT := fun Γ Q => da Γ fun x Γ1 => l Γ1 fun lo Γ2 => u Γ2 fun hi Γ3 => x.wd Γ3 fun v => match v with
  | .list ds => Q (.val (.list (cutD ds lo hi))) Γ3
  | .tuple ds => Q (.val (.tuple (cutD ds lo hi))) Γ3
  | _ => False
theorem dx_slice {lo hi : Option Expr} {dl dh : DTO} (E : EnvOk Xs P w K mg base k) (a : DX Xs K ea da) (l : DXO Xs K lo dl) (u : DXO Xs K hi dh) : DX Xs K (.Subscript ea (.Slice lo hi none p2) pos) (dSl da dl dh) := by
  obtain ⟨ta, pa, sa⟩ := a
  obtain ⟨tl, pl, sl⟩ := l
  obtain ⟨tu, pu, su⟩ := u
  refine ⟨tSl (fun x lo hi H Q => rSlL K x lo hi H Q ∨ rSlA K x lo hi H Q) ta tl tu, fun i => ?_, ?_⟩
  · rw [← E.K i]
    exact pe_slice (sl_list.or sl_tupA) (pa i) (pl i) (pu i)
  intro F σ H Γ Q R S h kk
  refine sa F σ H Γ _ _ S h fun v o H1 Γ1 ok1 S1 p1 h1 => ?_
  refine sl F σ H1 Γ1 _ _ S1 h1 fun lo H2 Γ2 S2 p2 h2 => ?_
  refine su F σ H2 Γ2 _ _ S2 h2 fun hi H3 Γ3 S3 p3 h3 => ?_
  obtain ⟨d1, r1, h4⟩ := ((ok1.keep p2 S1).keep p3 S2).rep S3 h3
  have p13 := p1.trans (p2.trans p3)
  cases d1 with
  | list ds =>
    obtain ⟨a, xs, rfl, ha, ra⟩ := r1.lst
    exact .inl ⟨a, xs, rfl, .of ha, fun p hp => kk _ (.val (.list (cutD ds lo hi))) _ Γ3 (newLst hp (S3.fresh hp) (ra.cut lo hi)) (S3.ext (same_upd hp)) (p13.trans (.ext (same_upd hp))) h4⟩
  | tuple ds =>
    obtain ⟨a, xs, rfl, ha, ra⟩ := r1.tup
    refine .inr ⟨a, xs, rfl, ha.sq, fun e => ?_, fun _ p hp => kk _ (.val (.tuple (cutD ds lo hi))) _ Γ3 (newTup hp (S3.fresh hp) (ra.cut lo hi)) (S3.ext (same_upd hp)) (p13.trans (.ext (same_upd hp))) h4⟩
    rw [ra.length] at e
    have h5 : Q (Opd.val (.tuple (cutD ds lo hi))) Γ3 := h4
    rw [cut_whole e] at h5
    exact kk _ (.val (.tuple ds)) H3 Γ3 (.tup ha ra) S3 p13 h5
  | _ => exact h4.elim
end
/-! ### built-in functions by values -/
abbrev FA := List PyData → (PyData → Prop) → Prop
def CallS (K : PySem.W.Frag) (r : List V → Hp → VK → Prop) (f : FA) : Prop := ∀ (O : Prot) (H : Hp) (vs : List V) (ds : List PyData) (Qd : PyData → Prop) (R : VK), (∀ a, O a → ∃ o, H a = some o) → RpA K O H vs ds → f ds Qd →
  (∀ v d H', Same H H' → Rp K O H' v d → Qd d → R v H') → r vs H R
def dCB (f : FA) (da : DTA) : DT := fun Γ Q => da Γ fun as Γ1 => f as fun c => Q (.val c) Γ1
section
variable {ι : Type} {Xs : ι → Cx} {P : Program} {w : World} {K : PySem.W.Frag} {mg : Str → Option Value} {base : Heap} {k : Nat} {e : Expr} {es : List Expr} {da : DTA} {pos p : Pos} {x : Str} {id T : String}
theorem sound_cb {r : List V → Hp → VK → Prop} {f : FA} {t : TA} (hs : CallS K r f) (s : SoundA K t da) : SoundE K (tCB r t) (dCB f da) := by
  intro F σ H Γ Q R S h kk
  refine s F σ H Γ _ _ S h fun vs ds H1 Γ1 ra S1 p1 h1 => ?_
  exact hs _ _ _ _ _ _ (fun a => S1.own_there) ra h1 fun v d H' sm rp q => kk v (.val d) H' Γ1 rp (S1.ext sm) (p1.trans (.ext sm)) q
theorem dx_callB {r : PySem.W.Frag → List V → Hp → VK → Prop} {f : FA} (E : EnvOk Xs P w K mg base k) (hc : ∀ X : Cx, X.calm = true → CallR X (.builtin id) (r X.K)) (hs : CallS K (r K) f) (hg : ∀ i, Gl (Xs i) x) (hm : mg x = none) (hv : bootBuiltins x = some (.builtin id)) (ha : DXA Xs K (e :: es) da)
    (hn : x ≠ "__name__" := by decide) (hdb : (x == ("__debug__" : Str)) = false := by decide) (he : ∀ i, starEach (e :: es) (Xs i).env = (false, eval e (Xs i).env) :: starEach es (Xs i).env := by intro _; rfl) (hpl : ∀ i, (backTo pos (starEach es (Xs i).env)).any (·.1) = false := by intro _; rfl) :
    DX Xs K (.Call (.Name x p) (e :: es) [] pos) (dCB f da) := by
  obtain ⟨t, pa, s⟩ := ha
  refine ⟨tCB (r K) t, fun i => ?_, sound_cb hs s⟩
  rw [← E.K i]
  exact pe_callB (hc _ (E.calm i)) (hg i) (by rw [E.mg i]; exact hm) hv (pa i) hn hdb (he i) (hpl i)
theorem dx_callTy {r : PySem.W.Frag → List V → Hp → VK → Prop} {f : FA} (E : EnvOk Xs P w K mg base k) (hc : ∀ X : Cx, X.calm = true → CallR X (.type T) (r X.K)) (hs : CallS K (r K) f) (hg : ∀ i, Gl (Xs i) x) (hm : mg x = none) (hv : bootBuiltins x = some (.type T)) (ha : DXA Xs K (e :: es) da)
    (hn : x ≠ "__name__" := by decide) (hdb : (x == ("__debug__" : Str)) = false := by decide) (he : ∀ i, starEach (e :: es) (Xs i).env = (false, eval e (Xs i).env) :: starEach es (Xs i).env := by intro _; rfl) (hpl : ∀ i, (backTo pos (starEach es (Xs i).env)).any (·.1) = false := by intro _; rfl) :
    DX Xs K (.Call (.Name x p) (e :: es) [] pos) (dCB f da) := by
  obtain ⟨t, pa, s⟩ := ha
  refine ⟨tCB (r K) t, fun i => ?_, sound_cb hs s⟩
  rw [← E.K i]
  exact pe_callTy (hc _ (E.calm i)) (hg i) (by rw [E.mg i]; exact hm) hv (pa i) hn hdb (he i) (hpl i)
end
/-- one argument, not given away: len, isinstance .. -/
def Call1S (K : PySem.W.Frag) (r : List V → Hp → VK → Prop) (f : F1) : Prop := ∀ (O : Prot) (H : Hp) (v : V) (d : PyData) (Qd : PyData → Prop) (R : VK), (∀ a, O a → ∃ o, H a = some o) → RpB K O H v d → f d Qd →
  (∀ v d H', Same H H' → Rp K O H' v d → Qd d → R v H') → r [v] H R
def dC1 (f : F1) (d : DT) : DT := fun Γ Q => d Γ fun x Γ1 => x.wd Γ1 fun v => f v fun c => Q (.val c) Γ1
section
variable {ι : Type} {Xs : ι → Cx} {P : Program} {w : World} {K : PySem.W.Frag} {mg : Str → Option Value} {base : Heap} {k : Nat} {e : Expr} {d : DT} {pos p : Pos} {x : Str} {id T : String}
theorem sound_c1 {r : List V → Hp → VK → Prop} {f : F1} {t : TE} (hs : Call1S K r f) (s : SoundE K t d) : SoundE K (tCB r (tCons t tNil)) (dC1 f d) := by
  intro F σ H Γ Q R S h kk
  refine s F σ H Γ _ _ S h fun v o H1 Γ1 ok1 S1 p1 h1 => ?_
  obtain ⟨d1, r1, h2⟩ := ok1.rep S1 h1
  exact hs _ _ _ _ _ _ (fun a => S1.own_there) r1 h2 fun v d H' sm rp q => kk v (.val d) H' Γ1 rp (S1.ext sm) (p1.trans (.ext sm)) q
theorem dx_call1B {r : PySem.W.Frag → List V → Hp → VK → Prop} {f : F1} (E : EnvOk Xs P w K mg base k) (hc : ∀ X : Cx, X.calm = true → Room k X.A → X.A.guards = some [] → CallR X (.builtin id) (r X.K)) (hs : Call1S K (r K) f) (hg : ∀ i, Gl (Xs i) x) (hm : mg x = none) (hv : bootBuiltins x = some (.builtin id)) (ha : DX Xs K e d)
    (hn : x ≠ "__name__" := by decide) (hdb : (x == ("__debug__" : Str)) = false := by decide) (he : ∀ i, starEach [e] (Xs i).env = (false, eval e (Xs i).env) :: starEach [] (Xs i).env := by intro _; rfl) :
    DX Xs K (.Call (.Name x p) [e] [] pos) (dC1 f d) := by
  obtain ⟨t, pa, s⟩ := ha
  refine ⟨tCB (r K) (tCons t tNil), fun i => ?_, sound_c1 hs s⟩
  rw [← E.K i]
  exact pe_callB (hc _ (E.calm i) (E.room i) (E.guards i)) (hg i) (by rw [E.mg i]; exact hm) hv (pa_cons (pa i) pa_nil (he i)) hn hdb (he i) rfl
theorem dx_call1Ty {r : PySem.W.Frag → List V → Hp → VK → Prop} {f : F1} (E : EnvOk Xs P w K mg base k) (hc : ∀ X : Cx, X.calm = true → CallR X (.type T) (r X.K)) (hs : Call1S K (r K) f) (hg : ∀ i, Gl (Xs i) x) (hm : mg x = none) (hv : bootBuiltins x = some (.type T)) (ha : DX Xs K e d)
    (hn : x ≠ "__name__" := by decide) (hdb : (x == ("__debug__" : Str)) = false := by decide) (he : ∀ i, starEach [e] (Xs i).env = (false, eval e (Xs i).env) :: starEach [] (Xs i).env := by intro _; rfl) :
    DX Xs K (.Call (.Name x p) [e] [] pos) (dC1 f d) := by
  obtain ⟨t, pa, s⟩ := ha
  refine ⟨tCB (r K) (tCons t tNil), fun i => ?_, sound_c1 hs s⟩
  rw [← E.K i]
  exact pe_callTy (hc _ (E.calm i)) (hg i) (by rw [E.mg i]; exact hm) hv (pa_cons (pa i) pa_nil (he i)) hn hdb (he i) rfl
end
/-- len -/
def fLen : F1 := fun d Q => match d with
  | .str x => x.length ≤ sizeLine ∧ Q (.int x.length)
  | .list ds => Q (.int ds.length)
  | .tuple ds => Q (.int ds.length)
  | _ => False
def rLenD (K : PySem.W.Frag) : List V → Hp → VK → Prop := fun xs H Q => ∃ x n, xs = [x] ∧ LenV K x H n ∧ Q (.int n) H
theorem call_lenD {X : Cx} : CallR X (.builtin "len") (rLenD X.K) := call_len
theorem cs_len (K : PySem.W.Frag) : Call1S K (rLenD K) fLen := by
  intro O H v d Qd R hO r h kk
  unfold fLen at h
  split at h
  · obtain rfl := r.str; exact ⟨_, _, rfl, ⟨h.1, rfl⟩, kk _ _ H (Same.refl H) (.int _) h.2⟩
  · obtain ⟨a, xs, rfl, ha, ra⟩ := r.lst; exact ⟨_, _, rfl, .inl ⟨xs, .of ha, rfl⟩, by rw [ra.length]; exact kk _ _ H (Same.refl H) (.int _) h⟩
  · obtain ⟨a, xs, rfl, ha, ra⟩ := r.tup; exact ⟨_, _, rfl, .inr ⟨xs, ha.sq, rfl⟩, by rw [ra.length]; exact kk _ _ H (Same.refl H) (.int _) h⟩
  · exact h.elim
/-- list(x) -/
def fList : F1 := fun d Q => match d with
  | .list ds => Q (.list ds)
  | .tuple ds => Q (.list ds)
  | _ => False
def rListD (K : PySem.W.Frag) : List V → Hp → VK → Prop := fun xs H Q => ∃ p ys, xs = [.ref p] ∧ (SqL K H p ys ∨ SqT K H p ys) ∧ ∀ l, H l = none → Q (.ref l) (upd H l (.lst ys))
theorem call_listD {X : Cx} : CallR X (.type "list") (rListD X.K) := call_list_of
theorem cs_list (K : PySem.W.Frag) : Call1S K (rListD K) fList := by
  intro O H v d Qd R hO r h kk
  unfold fList at h
  split at h
  · obtain ⟨a, xs, rfl, ha, ra⟩ := r.lst
    exact ⟨a, xs, rfl, .inl (.of ha), fun p hp => kk _ _ _ (same_upd hp) (newLst hp (no_fresh hO hp) ra) h⟩
  · obtain ⟨a, xs, rfl, ha, ra⟩ := r.tup
    exact ⟨a, xs, rfl, .inr ha.sq, fun p hp => kk _ _ _ (same_upd hp) (newLst hp (no_fresh hO hp) ra) h⟩
  · exact h.elim
/-- tuple(x) -/
def fTuple : F1 := fun d Q => match d with
  | .list ds => Q (.tuple ds)
  | .tuple ds => Q (.tuple ds)
  | _ => False
def rTupD (K : PySem.W.Frag) : List V → Hp → VK → Prop := fun xs H Q => ∃ p ys, xs = [.ref p] ∧ ((SqL K H p ys ∧ ∀ l, H l = none → Q (.ref l) (upd H l (.tup ys))) ∨ (SqT K H p ys ∧ Q (.ref p) H))
theorem call_tupD {X : Cx} : CallR X (.type "tuple") (rTupD X.K) := call_tuple_of
theorem cs_tuple (K : PySem.W.Frag) : Call1S K (rTupD K) fTuple := by
  intro O H v d Qd R hO r h kk
  unfold fTuple at h
  split at h
  · obtain ⟨a, xs, rfl, ha, ra⟩ := r.lst
    exact ⟨a, xs, rfl, .inl ⟨.of ha, fun p hp => kk _ _ _ (same_upd hp) (newTup hp (no_fresh hO hp) ra) h⟩⟩
  · obtain ⟨a, xs, rfl, ha, ra⟩ := r.tup
    exact ⟨a, xs, rfl, .inr ⟨ha.sq, kk _ _ H (Same.refl H) (.tup ha ra) h⟩⟩
  · exact h.elim
/-- int(x) -/
def fToInt : F1 := fun d Q => match d with
  | .int i => Q (.int i)
  | .bool b => Q (.int (if b then 1 else 0))
  | _ => False
def rIntD (K : PySem.W.Frag) : List V → Hp → VK → Prop := fun xs H Q => (∃ i, xs = [.int i] ∧ Q (.int i) H) ∨ ∃ k, xs = [.bl k] ∧ Q (.int (if k then 1 else 0)) H
theorem call_intD {X : Cx} : CallR X (.type "int") (rIntD X.K) := call_int1
theorem cs_int (K : PySem.W.Frag) : Call1S K (rIntD K) fToInt := by
  intro O H v d Qd R hO r h kk
  unfold fToInt at h
  split at h
  · obtain rfl := r.int; exact .inl ⟨_, rfl, kk _ _ H (Same.refl H) (.int _) h⟩
  · obtain rfl := r.bl; exact .inr ⟨_, rfl, kk _ _ H (Same.refl H) (.int _) h⟩
  · exact h.elim
/-- any, all of a list of bools -/
def boolsD : List PyData → Option (List Bool)
  | [] => some []
  | .bool b :: r => (boolsD r).map (b :: ·)
  | _ :: _ => none
def fAll : F1 := fun d Q => match d with
  | .list ds => match boolsD ds with
    | some bs => Q (.bool (bs.all id))
    | none => False
  | _ => False
def fAny : F1 := fun d Q => match d with
  | .list ds => match boolsD ds with
    | some bs => Q (.bool (bs.any id))
    | none => False
  | _ => False
theorem RpA.bools {K : PySem.W.Frag} {O : Prot} {H : Hp} {xs : List V} {ds : List PyData} (r : RpA K O H xs ds) {bs : List Bool} (e : boolsD ds = some bs) : xs = bs.map V.bl := by
  induction ds generalizing xs bs with
  | nil => cases r; cases e; rfl
  | cons d ds ih =>
    cases r with
    | cons a b =>
      cases d with
      | bool z =>
        cases a
        unfold boolsD at e
        obtain ⟨bs', e1, e2⟩ := Option.map_eq_some_iff.mp e
        subst e2
        rw [ih b e1]; rfl
      | _ => cases e
theorem cs_all (K : PySem.W.Frag) : Call1S K (rAll K) fAll := by
  intro O H v d Qd R hO r h kk
  unfold fAll at h
  split at h
  · split at h
    · rename_i bs e
      obtain ⟨a, xs, rfl, ha, ra⟩ := r.lst
      exact ⟨a, bs, rfl, by rw [← ra.bools e]; exact .of ha, kk _ _ H (Same.refl H) (.bl _) h⟩
    · exact h.elim
  · exact h.elim
theorem cs_any (K : PySem.W.Frag) : Call1S K (rAny K) fAny := by
  intro O H v d Qd R hO r h kk
  unfold fAny at h
  split at h
  · split at h
    · rename_i bs e
      obtain ⟨a, xs, rfl, ha, ra⟩ := r.lst
      exact ⟨a, bs, rfl, by rw [← ra.bools e]; exact .of ha, kk _ _ H (Same.refl H) (.bl _) h⟩
    · exact h.elim
  · exact h.elim
/-- isinstance(x, T) for T among int, bool, str, tuple -/
def tyD : PyData → String
  | .none => "NoneType" | .bool _ => "bool" | .int _ => "int" | .str _ => "str" | .list _ => "list" | .tuple _ => "tuple" | .dict _ => "dict"
def isTy (T : String) (d : PyData) : Bool := tyD d == T || (T == "int" && tyD d == "bool")
theorem tyD_of {K : PySem.W.Frag} {O : Prot} {H : Hp} {v : V} {d : PyData} (r : RpB K O H v d) : TyX K H v (.type (tyD d)) := by
  cases d with
  | none => rw [r.non]; exact .base .non
  | bool b => rw [r.bl]; exact .base (.bl b)
  | int b => rw [r.int]; exact .base (.int b)
  | str b => rw [r.str]; exact .base (.str b)
  | list b => obtain ⟨a, xs, rfl, ha, _⟩ := r.lst; exact .base (.lst ha)
  | tuple b =>
    obtain ⟨a, xs, rfl, ha, _⟩ := r.tup
    rcases ha with ⟨ha | ⟨o, ha⟩, _⟩ | (ha | ⟨_, ha⟩) | ⟨o, its, n, h1, h2, _⟩
    · exact .base (.tup ha)
    · exact .fTuple ha
    · cases ha
    · cases ha
    · exact .kTuple h1 h2
  | dict b => obtain ⟨a, xs, ys, rfl, ha, _⟩ := r.dic; exact .base (.dK ha)
theorem kit_d (K : PySem.W.Frag) (T : String) (hT : T = "int" ∨ T = "bool" ∨ T = "str" ∨ T = "tuple" ∨ T = "list") (d : PyData) : PySem.W.kitOne K (.type (tyD d)) (.type T) = some (isTy T d) := by
  have m : tyD d ∈ ["NoneType", "bool", "int", "str", "list", "tuple", "dict"] := by cases d <;> simp [tyD]
  have key : ∀ s ∈ ["NoneType", "bool", "int", "str", "list", "tuple", "dict"], ∀ t ∈ ["int", "bool", "str", "tuple", "list"], kitB s t = some (s == t || (t == "int" && s == "bool")) := by decide +kernel
  exact kit_ty (key _ m T (by rcases hT with rfl | rfl | rfl | rfl | rfl <;> simp))
def dIsT (T : String) (d : DT) : DT := fun Γ Q => d Γ fun x Γ1 => x.wd Γ1 fun v => Q (.val (.bool (isTy T v))) Γ1
section
variable {ι : Type} {Xs : ι → Cx} {P : Program} {w : World} {K : PySem.W.Frag} {mg : Str → Option Value} {base : Heap} {k : Nat} {e : Expr} {d : DT} {pos p p2 : Pos} {y : Str}
theorem dx_isT (T : String) (hT : T = "int" ∨ T = "bool" ∨ T = "str" ∨ T = "tuple" ∨ T = "list") (E : EnvOk Xs P w K mg base k) (hg : ∀ i, Gl (Xs i) "isinstance") (hm : mg "isinstance" = none) (hg2 : ∀ i, Gl (Xs i) y) (hm2 : mg y = none) (hv2 : bootBuiltins y = some (.type T)) (ha : DX Xs K e d)
    (hn : y ≠ "__name__" := by decide) (hdb : (y == ("__debug__" : Str)) = false := by decide)
    (he : ∀ i, starEach [e, .Name y p2] (Xs i).env = (false, eval e (Xs i).env) :: starEach [.Name y p2] (Xs i).env := by intro _; rfl) :
    DX Xs K (.Call (.Name "isinstance" p) [e, .Name y p2] [] pos) (dIsT T d) := by
  obtain ⟨t, pa, s⟩ := ha
  refine ⟨tCB (rIsi K) (tCons t (tCons (tC (.ty T)) tNil)), fun i => ?_, ?_⟩
  · rw [← E.K i]
    exact pe_callB call_isi (hg i) (by rw [E.mg i]; exact hm) (by decide +kernel) (pa_cons (pa i) (pa_cons (pe_bltn (hg2 i) (by rw [E.mg i]; exact hm2) hv2 rfl hn hdb) pa_nil rfl) (he i)) (by decide) (by decide) (he i) rfl
  intro F σ H Γ Q R S h kk
  refine s F σ H Γ _ _ S h fun v o H1 Γ1 ok1 S1 p1 h1 => ?_
  obtain ⟨d1, r1, h2⟩ := ok1.rep S1 h1
  exact ⟨v, _, _, _, _, rfl, .ty T, tyD_of r1, kit_d K T hT d1, kk _ (.val _) H1 Γ1 (.bl _) S1 p1 h2⟩
end
end DL
end
section
set_option autoImplicit false
set_option linter.all false
set_option maxRecDepth 100000
set_option maxHeartbeats 4000000
namespace DL
open PySem PySem.Spec L2
/-- what a statement may have changed -/
structure PresS (F : FC) (σ : L2.St) (Γ : GS) (H : Hp) (σ' : L2.St) (Γ' : GS) (H' : Hp) : Prop where
  same : ∀ a o, H a = some o → ¬ F.Z a → ¬ ownAt σ Γ a → H' a = some o ∧ ¬ ownAt σ' Γ' a
section
variable {K : PySem.W.Frag} {F : FC} {σ σ' σ2 : L2.St} {H H' H2 : Hp} {Γ Γ' Γ2 : GS}
theorem PresE.s (p : PresE F σ Γ H Γ' H') : PresS F σ Γ H σ Γ' H' := ⟨fun a o e n m => ⟨p.same a o e n m, fun q => m (p.own a q)⟩⟩
theorem PresS.refl : PresS F σ Γ H σ Γ H := PresE.refl.s
theorem PresS.trans (a : PresS F σ Γ H σ' Γ' H') (b : PresS F σ' Γ' H' σ2 Γ2 H2) : PresS F σ Γ H σ2 Γ2 H2 := ⟨fun c o e n m => let ⟨e', m'⟩ := a.same c o e n m; b.same c o e' n m'⟩
theorem PresS.own (h : ∀ a, ownAt σ' Γ' a → ownAt σ Γ a) : PresS F σ Γ H σ' Γ' H := ⟨fun a o e n m => ⟨e, fun q => m (h a q)⟩⟩
theorem PresS.keeps (p : PresS F σ Γ H σ' Γ' H') (z : ∀ a, F.Z a → F.P a) : Keeps (Own F σ Γ) H (Own F σ' Γ') H' := fun a o e n =>
  let ⟨e', m'⟩ := p.same a o e (fun q => n (.inl (z a q))) fun q => n (.inr q)
  ⟨e', fun q => q.elim (fun q => n (.inl q)) m'⟩
theorem Rp.anti {O O' : Prot} {v : V} {d : PyData} (h : Rp K O H v d) (k : ∀ a, O' a → O a) : Rp K O' H v d := h.keep fun a o e n => ⟨e, fun q => n (k a q)⟩
theorem RpA.anti {O O' : Prot} {v : List V} {d : List PyData} (h : RpA K O H v d) (k : ∀ a, O' a → O a) : RpA K O' H v d := h.keep fun a o e n => ⟨e, fun q => n (k a q)⟩
theorem keeps_anti {O O' : Prot} (k : ∀ a, O' a → O a) : Keeps O H O' H := fun a o e n => ⟨e, fun q => n (k a q)⟩
theorem own_nil {a : Addr} : ¬ ownAt [] [] a := fun ⟨i, d, e, _⟩ => by simp at e
/-- the slots forgotten -/
theorem StOk.nil (S : StOk K F σ H Γ) : StOk K F [] H [] where
  len := rfl
  sh := fun i d e => by simp at e
  ow := fun i d e => by simp at e
  inj := fun i j d e a h => by simp at h
  bg := fun i e => by simp at e
  lf := fun i e => by simp at e
  bagOk := fun a e => ⟨(S.bagOk a e).1, (S.bagOk a e).2.keep (keeps_anti fun b q => q.elim .inl fun q => (own_nil q).elim) rfl⟩
  leftOk := S.leftOk
  apart := S.apart
  trk := S.trk
theorem own_put {i : Nat} {v : V} {d : PyData} {a : Addr} (hl : Γ.length = σ.length) (h : ownAt (σ.set i (some v)) (Γ.set i (SV.dat false d)) a) : ownAt σ Γ a := by
  obtain ⟨j, d', h1, h2⟩ := h
  by_cases hj : i = j
  · subst hj
    by_cases hi : i < Γ.length
    · rw [List.getElem?_set_self hi] at h1; cases h1
    · rw [List.getElem?_eq_none (by rw [List.length_set]; omega)] at h1; cases h1
  · rw [List.getElem?_set_ne hj] at h1 h2; exact ⟨j, d', h1, h2⟩
/-- a slot is stored -/
theorem StOk.put (S : StOk K F σ H Γ) (i : Nat) {v : V} {d : PyData} (r : Rp K (Own F σ Γ) H v d) : StOk K F (σ.set i (some v)) H (Γ.set i (SV.dat false d)) := by
  have ow := fun a => own_put (i := i) (v := v) (d := d) (a := a) S.len
  have kp : Keeps (Own F σ Γ) H (Own F (σ.set i (some v)) (Γ.set i (SV.dat false d))) H := keeps_anti fun a q => q.imp id (ow a)
  have ne : ∀ {j : Nat} {z : SV}, z ≠ SV.dat false d → (Γ.set i (SV.dat false d))[j]? = some z → i ≠ j ∧ Γ[j]? = some z := fun {j z} nz h => by
    by_cases hj : i = j
    · subst hj
      by_cases hi : i < Γ.length
      · rw [List.getElem?_set_self hi] at h; cases h; exact absurd rfl nz
      · rw [List.getElem?_eq_none (by rw [List.length_set]; omega)] at h; cases h
    · rw [List.getElem?_set_ne hj] at h; exact ⟨hj, h⟩
  refine ⟨by rw [List.length_set, List.length_set]; exact S.len, fun j d' h => ?_, fun j d' h => ?_, fun j k d1 d2 a h1 h2 h3 h4 => ?_, fun j h => ?_, fun j h => ?_, fun a q => ?_, S.leftOk, S.apart, S.trk⟩
  · by_cases hj : i = j
    · subst hj
      have hi : i < Γ.length := by
        have := (List.getElem?_eq_some_iff.mp h).1
        rwa [List.length_set] at this
      rw [List.getElem?_set_self hi] at h; cases h
      exact ⟨v, by rw [List.getElem?_set_self (by rw [← S.len]; exact hi)], r.keep kp⟩
    · rw [List.getElem?_set_ne hj] at h ⊢
      obtain ⟨v', e, r'⟩ := S.sh j d' h
      exact ⟨v', e, r'.keep kp⟩
  · obtain ⟨hj, h⟩ := ne (fun z => by cases z) h
    obtain ⟨a, e1, np, r'⟩ := S.ow j d' h
    exact ⟨a, by rw [List.getElem?_set_ne hj]; exact e1, np, r'.keep kp rfl⟩
  · obtain ⟨hj, h1⟩ := ne (fun z => by cases z) h1
    obtain ⟨hk, h2⟩ := ne (fun z => by cases z) h2
    rw [List.getElem?_set_ne hj] at h3
    rw [List.getElem?_set_ne hk] at h4
    exact S.inj j k d1 d2 a h1 h2 h3 h4
  · obtain ⟨hj, h⟩ := ne (fun z => by cases z) h
    obtain ⟨a, e1, e2⟩ := S.bg j h
    exact ⟨a, e1, by rw [List.getElem?_set_ne hj]; exact e2⟩
  · obtain ⟨hj, h⟩ := ne (fun z => by cases z) h
    obtain ⟨a, e1, e2⟩ := S.lf j h
    exact ⟨a, e1, by rw [List.getElem?_set_ne hj]; exact e2⟩
  · exact ⟨(S.bagOk a q).1, (S.bagOk a q).2.keep kp rfl⟩
theorem own_un {i : Nat} {a : Addr} {v : Option V} (h : ownAt (σ.set i v) (Γ.set i SV.un) a) : ownAt σ Γ a := by
  obtain ⟨j, d', h1, h2⟩ := h
  by_cases hj : i = j
  · subst hj
    by_cases hi : i < Γ.length
    · rw [List.getElem?_set_self hi] at h1; cases h1
    · rw [List.getElem?_eq_none (by rw [List.length_set]; omega)] at h1; cases h1
  · rw [List.getElem?_set_ne hj] at h1 h2; exact ⟨j, d', h1, h2⟩
/-- a slot is forgotten -/
theorem StOk.unset (S : StOk K F σ H Γ) (i : Nat) (v : Option V) : StOk K F (σ.set i v) H (Γ.set i SV.un) := by
  have kp : Keeps (Own F σ Γ) H (Own F (σ.set i v) (Γ.set i SV.un)) H := keeps_anti fun a q => q.imp id own_un
  have ne : ∀ {j : Nat} {z : SV}, z ≠ SV.un → (Γ.set i SV.un)[j]? = some z → i ≠ j ∧ Γ[j]? = some z := fun {j z} nz h => by
    by_cases hj : i = j
    · subst hj
      by_cases hi : i < Γ.length
      · rw [List.getElem?_set_self hi] at h; cases h; exact absurd rfl nz
      · rw [List.getElem?_eq_none (by rw [List.length_set]; omega)] at h; cases h
    · rw [List.getElem?_set_ne hj] at h; exact ⟨hj, h⟩
  refine ⟨by rw [List.length_set, List.length_set]; exact S.len, fun j d' h => ?_, fun j d' h => ?_, fun j k d1 d2 a h1 h2 h3 h4 => ?_, fun j h => ?_, fun j h => ?_, fun a q => ?_, S.leftOk, S.apart, S.trk⟩
  · obtain ⟨hj, h⟩ := ne (fun z => by cases z) h
    obtain ⟨v', e, r'⟩ := S.sh j d' h
    exact ⟨v', by rw [List.getElem?_set_ne hj]; exact e, r'.keep kp⟩
  · obtain ⟨hj, h⟩ := ne (fun z => by cases z) h
    obtain ⟨a, e1, np, r'⟩ := S.ow j d' h
    exact ⟨a, by rw [List.getElem?_set_ne hj]; exact e1, np, r'.keep kp rfl⟩
  · obtain ⟨hj, h1⟩ := ne (fun z => by cases z) h1
    obtain ⟨hk, h2⟩ := ne (fun z => by cases z) h2
    rw [List.getElem?_set_ne hj] at h3
    rw [List.getElem?_set_ne hk] at h4
    exact S.inj j k d1 d2 a h1 h2 h3 h4
  · obtain ⟨hj, h⟩ := ne (fun z => by cases z) h
    obtain ⟨a, e1, e2⟩ := S.bg j h
    exact ⟨a, e1, by rw [List.getElem?_set_ne hj]; exact e2⟩
  · obtain ⟨hj, h⟩ := ne (fun z => by cases z) h
    obtain ⟨a, e1, e2⟩ := S.lf j h
    exact ⟨a, e1, by rw [List.getElem?_set_ne hj]; exact e2⟩
  · exact ⟨(S.bagOk a q).1, (S.bagOk a q).2.keep kp rfl⟩
/-- an own slot is stored: p is borne by nothing -/
def FC.plus (F : FC) (p : Addr) : FC := { F with P := fun a => F.P a ∨ a = p }
theorem StOk.own_ne {p : Addr} (S : StOk K (F.plus p) σ H Γ) : ¬ ownAt σ Γ p := fun ⟨i, d, e1, e2⟩ => by
  obtain ⟨a, e3, np, _⟩ := S.ow i d e1
  rw [e2] at e3; cases e3
  exact np (.inr rfl)
/-- p is protected no longer -/
theorem StOk.minus {p : Addr} (S : StOk K (F.plus p) σ H Γ) (hz : ¬ F.Z p) (zP : ∀ a, F.Z a → F.P a) (trk : ∀ a, F.P a → ∃ o, H a = some o) : StOk K F σ H Γ := by
  have kp : Keeps (Own (F.plus p) σ Γ) H (Own F σ Γ) H := keeps_anti fun a q => q.imp .inl id
  exact ⟨S.len, fun i d e => let ⟨v, a, b⟩ := S.sh i d e; ⟨v, a, b.keep kp⟩, fun i d e => let ⟨a, b, c, g⟩ := S.ow i d e; ⟨a, b, fun q => c (.inl q), g.keep kp rfl⟩, S.inj, S.bg, S.lf,
    fun a q => ⟨zP a (.inl q), (S.bagOk a q).2.keep kp rfl⟩, fun a q => ⟨zP a (.inr q), (S.leftOk a q).2⟩, S.apart, trk⟩
theorem own_putO {i : Nat} {p : Addr} {d : PyData} {a : Addr} (h : ownAt (σ.set i (some (.ref p))) (Γ.set i (SV.dat true d)) a) : a = p ∨ ownAt σ Γ a := by
  obtain ⟨j, d', h1, h2⟩ := h
  by_cases hj : i = j
  · subst hj
    by_cases hi : i < σ.length
    · rw [List.getElem?_set_self hi] at h2; cases h2; exact .inl rfl
    · rw [List.getElem?_eq_none (by rw [List.length_set]; omega)] at h2; cases h2
  · rw [List.getElem?_set_ne hj] at h1 h2; exact .inr ⟨j, d', h1, h2⟩
theorem StOk.putOwn {p : Addr} (S : StOk K (F.plus p) σ H Γ) (i : Nat) {d : PyData} (np : ¬ F.P p) (zP : ∀ a, F.Z a → F.P a) (r : OwnRep K (Own (F.plus p) σ Γ) H p d) :
    StOk K F (σ.set i (some (.ref p))) H (Γ.set i (SV.dat true d)) := by
  have kp : Keeps (Own (F.plus p) σ Γ) H (Own F (σ.set i (some (.ref p))) (Γ.set i (SV.dat true d))) H := keeps_anti fun a q => by
    rcases q with q | q
    · exact .inl (.inl q)
    · rcases own_putO q with rfl | q
      · exact .inl (.inr rfl)
      · exact .inr q
  have ne : ∀ {j : Nat} {z : SV}, z ≠ SV.dat true d → (Γ.set i (SV.dat true d))[j]? = some z → i ≠ j ∧ Γ[j]? = some z := fun {j z} nz h => by
    by_cases hj : i = j
    · subst hj
      by_cases hi : i < Γ.length
      · rw [List.getElem?_set_self hi] at h; cases h; exact absurd rfl nz
      · rw [List.getElem?_eq_none (by rw [List.length_set]; omega)] at h; cases h
    · rw [List.getElem?_set_ne hj] at h; exact ⟨hj, h⟩
  have at_ : ∀ {j : Nat} {e : PyData} {a : Addr}, (Γ.set i (SV.dat true d))[j]? = some (SV.dat true e) → (σ.set i (some (V.ref p)))[j]? = some (some (V.ref a)) → (j = i ∧ a = p) ∨ (i ≠ j ∧ Γ[j]? = some (SV.dat true e) ∧ σ[j]? = some (some (V.ref a))) := fun {j e a} h1 h2 => by
    by_cases hj : i = j
    · subst hj
      have hi : i < Γ.length := by
        have := (List.getElem?_eq_some_iff.mp h1).1
        rwa [List.length_set] at this
      rw [List.getElem?_set_self (by rw [← S.len]; exact hi)] at h2; cases h2
      exact .inl ⟨rfl, rfl⟩
    · rw [List.getElem?_set_ne hj] at h1 h2; exact .inr ⟨hj, h1, h2⟩
  refine ⟨by rw [List.length_set, List.length_set]; exact S.len, fun j d' h => ?_, fun j d' h => ?_, fun j k d1 d2 a h1 h2 h3 h4 => ?_, fun j h => ?_, fun j h => ?_, fun a q => ?_, fun a q => ⟨zP a (.inr q), (S.leftOk a q).2⟩, S.apart, fun a q => S.trk a (.inl q)⟩
  · obtain ⟨hj, h⟩ := ne (fun z => by cases z) h
    obtain ⟨v', e, r'⟩ := S.sh j d' h
    exact ⟨v', by rw [List.getElem?_set_ne hj]; exact e, r'.keep kp⟩
  · by_cases hj : i = j
    · subst hj
      have hi : i < Γ.length := by
        have := (List.getElem?_eq_some_iff.mp h).1
        rwa [List.length_set] at this
      rw [List.getElem?_set_self hi] at h; cases h
      exact ⟨p, by rw [List.getElem?_set_self (by rw [← S.len]; exact hi)], np, r.keep kp rfl⟩
    · rw [List.getElem?_set_ne hj] at h ⊢
      obtain ⟨a, e1, np', r'⟩ := S.ow j d' h
      exact ⟨a, e1, fun q => np' (.inl q), r'.keep kp rfl⟩
  · rcases at_ h1 h3 with ⟨rfl, rfl⟩ | ⟨n1, h1', h3'⟩
    · rcases at_ h2 h4 with ⟨rfl, _⟩ | ⟨n2, h2', h4'⟩
      · rfl
      · exact (S.own_ne ⟨_, _, h2', h4'⟩).elim
    · rcases at_ h2 h4 with ⟨rfl, rfl⟩ | ⟨n2, h2', h4'⟩
      · exact (S.own_ne ⟨_, _, h1', h3'⟩).elim
      · exact S.inj j k d1 d2 a h1' h2' h3' h4'
  · obtain ⟨hj, h⟩ := ne (fun z => by cases z) h
    obtain ⟨a, e1, e2⟩ := S.bg j h
    exact ⟨a, e1, by rw [List.getElem?_set_ne hj]; exact e2⟩
  · obtain ⟨hj, h⟩ := ne (fun z => by cases z) h
    obtain ⟨a, e1, e2⟩ := S.lf j h
    exact ⟨a, e1, by rw [List.getElem?_set_ne hj]; exact e2⟩
  · exact ⟨zP a (.inl q), (S.bagOk a q).2.keep kp rfl⟩
theorem StOk.plus {p : Addr} {o : HO} (S : StOk K F σ H Γ) (hp : H p = none) : StOk K (F.plus p) σ (upd H p o) Γ := by
  have kp : Keeps (Own F σ Γ) H (Own (F.plus p) σ Γ) (upd H p o) := fun a u e n => ⟨same_upd hp a u e, fun q => by
    rcases q with (q | q) | q
    · exact n (.inl q)
    · subst q; rw [hp] at e; cases e
    · exact n (.inr q)⟩
  have S' := S.ext (same_upd (o := o) hp)
  refine ⟨S.len, fun i d e => let ⟨v, a, b⟩ := S.sh i d e; ⟨v, a, b.keep kp⟩, fun i d e => ?_, S.inj, S.bg, S.lf, fun a q => ?_, fun a q => ⟨.inl (S'.leftOk a q).1, (S'.leftOk a q).2⟩, S.apart, fun a q => ?_⟩
  · obtain ⟨a, b, c, g⟩ := S.ow i d e
    obtain ⟨u, q⟩ := g.there
    exact ⟨a, b, fun z => Or.elim z c (fun z => by subst z; rw [hp] at q; exact nomatch q), g.keep kp (by rw [q]; exact same_upd hp _ _ q)⟩
  · obtain ⟨u, z⟩ := S.trk a (S.bagOk a q).1
    exact ⟨.inl (S.bagOk a q).1, (S.bagOk a q).2.keep kp (by rw [z]; exact same_upd hp _ _ z)⟩
  · rcases q with q | q
    · exact S'.trk a q
    · subst q; exact ⟨o, upd_same⟩
end
/-! ### own lists -/
abbrev DF := GS → (List PyData → GS → Prop) → Prop
/-- an expression that makes a new list -/
def SoundF (K : PySem.W.Frag) (t : TE) (dt : DF) : Prop := ∀ (F : FC) (σ : L2.St) (H : Hp) (Γ : GS) (Q : List PyData → GS → Prop) (R : VK), StOk K F σ H Γ → dt Γ Q →
  (∀ p xs ds H' Γ', ¬ F.P p → H p = none → StOk K (F.plus p) σ H' Γ' → H' p = some (.lst xs) → RpA K (Own (F.plus p) σ Γ') H' xs ds → PresE F σ Γ H Γ' H' → (∀ a, F.P a → ∃ o, H' a = some o) → Q ds Γ' → R (.ref p) H') → t σ H R
def DXF {ι : Type} (Xs : ι → Cx) (K : PySem.W.Frag) (e : Expr) (dt : DF) : Prop := ∃ t, (∀ i, PE (Xs i) e t) ∧ SoundF K t dt
def dFr (f : DF) : DT := fun Γ Q => f Γ fun ds Γ1 => Q (.val (.list ds)) Γ1
theorem sound_fr {K : PySem.W.Frag} {t : TE} {f : DF} (s : SoundF K t f) : SoundE K t (dFr f) := by
  intro F σ H Γ Q R S h kk
  refine s F σ H Γ _ _ S h fun p xs ds H' Γ' np hp S' e r pr tk q => ?_
  have hz : ¬ F.Z p := fun z => np (S.zP z)
  refine kk _ (.val (.list ds)) H' Γ' (show Rp K (Own F σ Γ') H' (.ref p) (.list ds) from .lst ⟨e, fun z => Or.elim z np S'.own_ne⟩ (r.anti fun a q => Or.imp .inl id q)) (S'.minus hz (fun a => S.zP) tk) pr q
theorem dx_fr {ι : Type} {Xs : ι → Cx} {K : PySem.W.Frag} {e : Expr} {f : DF} (h : DXF Xs K e f) : DX Xs K e (dFr f) := by
  obtain ⟨t, p, s⟩ := h
  exact ⟨t, p, sound_fr s⟩
section
variable {ι : Type} {Xs : ι → Cx} {P : Program} {w : World} {K : PySem.W.Frag} {mg : Str → Option Value} {base : Heap} {k : Nat} {es : List Expr} {da : DTA} {ea eb : Expr} {d1 d2 : DT} {pos : Pos}
def fLst (r : DTA) : DF := fun Γ Q => r Γ fun as Γ1 => as.length ≤ sizeLine ∧ Q as Γ1
/-- a fresh address, laid at once -/
theorem fr_new {F : FC} {σ : L2.St} {H H1 : Hp} {Γ Γ1 : GS} {Q : List PyData → GS → Prop} {R : VK} {xs : List V} {ds : List PyData} (S1 : StOk K F σ H1 Γ1) (p1 : PresE F σ Γ H Γ1 H1) (ra : RpA K (Own F σ Γ1) H1 xs ds) (q : Q ds Γ1)
    (kk : ∀ p xs ds H' Γ', ¬ F.P p → H p = none → StOk K (F.plus p) σ H' Γ' → H' p = some (.lst xs) → RpA K (Own (F.plus p) σ Γ') H' xs ds → PresE F σ Γ H Γ' H' → (∀ a, F.P a → ∃ o, H' a = some o) → Q ds Γ' → R (.ref p) H') (p : Addr) (hp : H1 p = none) : R (.ref p) (upd H1 p (.lst xs)) := by
  refine kk p xs ds _ Γ1 (fun z => by obtain ⟨o, e⟩ := S1.trk p z; rw [hp] at e; cases e) ?_ (S1.plus hp) upd_same (ra.keep fun a o e n => ⟨same_upd hp a o e, fun z => ?_⟩) (p1.trans (.ext (same_upd hp))) (fun a z => let ⟨o, e⟩ := S1.trk a z; ⟨o, same_upd hp a o e⟩) q
  · cases e : H p with
    | none => rfl
    | some o => obtain ⟨u, z⟩ := p1.trk p o e; rw [hp] at z; cases z
  · rcases z with (z | z) | z
    · exact n (.inl z)
    · subst z; rw [hp] at e; cases e
    · exact n (.inr z)
theorem dxf_lst (r : DXA Xs K es da) : DXF Xs K (.List es pos) (fLst da) := by
  obtain ⟨tr, pr, sr⟩ := r
  refine ⟨tLst tr, fun i => pe_lst (pr i), ?_⟩
  intro F σ H Γ Q R S h kk
  refine sr F σ H _ _ _ S h fun vs ds H2 Γ2 ra S2 p2 h3 => ⟨by rw [ra.length]; exact h3.1, fun p hp => ?_⟩
  exact fr_new S2 p2 ra h3.2 kk p hp
def fCat (d1 d2 : DT) : DF := fun Γ Q => d1 Γ fun x Γ1 => d2 Γ1 fun y Γ2 => x.wd Γ2 fun a => y.wd Γ2 fun b => match a, b with
  | .list i, .list j => i.length + j.length ≤ sizeLine ∧ Q (i ++ j) Γ2
  | _, _ => False
theorem dxf_cat (a : DX Xs K ea d1) (b : DX Xs K eb d2) : DXF Xs K (.BinOp ea .Add eb pos) (fCat d1 d2) := by
  obtain ⟨ta, pa, sa⟩ := a
  obtain ⟨tb, pb, sb⟩ := b
  refine ⟨tOp rCat ta tb, fun i => pe_op op_cat (pa i) (pb i), ?_⟩
  intro F σ H Γ Q R S h kk
  refine sa F σ H Γ _ _ S h fun v o H1 Γ1 ok1 S1 p1 h1 => ?_
  refine sb F σ H1 Γ1 _ _ S1 h1 fun v2 o2 H2 Γ2 ok2 S2 p2 h2 => ?_
  obtain ⟨d1, r1, h3⟩ := (ok1.keep p2 S1).rep S2 h2
  obtain ⟨d2, r2, h4⟩ := ok2.rep S2 h3
  split at h4
  · obtain ⟨a, xs, rfl, ha, ra⟩ := r1.lst
    obtain ⟨b, ys, rfl, hb, rb⟩ := r2.lst
    exact ⟨a, b, xs, ys, rfl, rfl, ha, hb, by rw [ra.length, rb.length]; exact h4.1, fun p hp => fr_new S2 (p1.trans p2) (ra.append rb) h4.2 kk p hp⟩
  · exact h4.elim
end
/-- a method that changes an own list and hands back a value -/
def MutS (K : PySem.W.Frag) (r : V → List V → Hp → VK → Prop) (f : List PyData → List PyData → (List PyData → PyData → Prop) → Prop) : Prop :=
  ∀ (O : Prot) (H : Hp) (l : Addr) (xs vs : List V) (ds as : List PyData) (Qd : List PyData → PyData → Prop) (R : VK), H l = some (.lst xs) → RpA K O H xs ds → RpA K O H vs as → f ds as Qd →
    (∀ ys es v ret, RpA K O H ys es → Rp K O H v ret → Qd es ret → R v (upd H l (.lst ys))) → r (.ref l) vs H R
def isOwnL (s : SV) : Prop := match s with
  | .dat true (.list _) => True
  | _ => False
def dMut (i : Nat) (f : List PyData → List PyData → (List PyData → PyData → Prop) → Prop) (da : DTA) : DT := fun Γ Q => isOwnL (Γ.getD i .un) ∧ da Γ fun as Γ1 => match Γ1.getD i .un with
  | .dat true (.list ds) => f ds as fun es ret => Q (.val ret) (Γ1.set i (SV.dat true (.list es)))
  | _ => False
section
variable {K : PySem.W.Frag} {F : FC} {σ : L2.St} {H : Hp} {Γ : GS}
theorem own_mut {i : Nat} {d d' : PyData} (e : Γ[i]? = some (SV.dat true d)) {a : Addr} (h : ownAt σ (Γ.set i (SV.dat true d')) a) : ownAt σ Γ a := by
  obtain ⟨j, d2, h1, h2⟩ := h
  by_cases hj : i = j
  · subst hj; exact ⟨i, d, e, h2⟩
  · rw [List.getElem?_set_ne hj] at h1; exact ⟨j, d2, h1, h2⟩
theorem own_mut' {i : Nat} {d d' : PyData} (e : Γ[i]? = some (SV.dat true d)) {a : Addr} (h : ownAt σ Γ a) : ownAt σ (Γ.set i (SV.dat true d')) a := by
  obtain ⟨j, d2, h1, h2⟩ := h
  by_cases hj : i = j
  · subst hj; exact ⟨i, d', List.getElem?_set_self (List.getElem?_eq_some_iff.mp e).1, h2⟩
  · exact ⟨j, d2, by rw [List.getElem?_set_ne hj]; exact h1, h2⟩
theorem StOk.mut (S : StOk K F σ H Γ) {i : Nat} {l : Addr} {d : PyData} {ys : List V} {es : List PyData} (e : Γ[i]? = some (SV.dat true d)) (hs : σ[i]? = some (some (.ref l))) (r : RpA K (Own F σ Γ) H ys es) :
    StOk K F σ (upd H l (.lst ys)) (Γ.set i (SV.dat true (.list es))) ∧ PresE F σ Γ H (Γ.set i (SV.dat true (.list es))) (upd H l (.lst ys)) := by
  obtain ⟨l', hl', np, rep⟩ := S.ow i d e
  rw [hs] at hl'; cases hl'
  have hi : i < Γ.length := (List.getElem?_eq_some_iff.mp e).1
  have ol : ownAt σ Γ l := ⟨i, d, e, hs⟩
  have nl : ∀ a, ¬ ownAt σ Γ a → a ≠ l := fun a n z => n (z ▸ ol)
  have zl : ∀ a, F.P a → a ≠ l := fun a h z => np (z ▸ h)
  have pr : PresE F σ Γ H (Γ.set i (SV.dat true (.list es))) (upd H l (.lst ys)) := ⟨fun a o q _ n => by rw [upd_ne (nl a n)]; exact q, fun a q => own_mut e q, fun a o q => by
    by_cases hal : a = l
    · subst hal; exact ⟨_, upd_same⟩
    · exact ⟨o, by rw [upd_ne hal]; exact q⟩⟩
  have kp := pr.keeps fun a => S.zP
  refine ⟨⟨by rw [List.length_set]; exact S.len, fun j d' h => ?_, fun j d' h => ?_, fun j k d1 d2 a h1 h2 h3 h4 => ?_, fun j h => ?_, fun j h => ?_, fun a q => ?_, fun a q => ?_, S.apart, fun a q => ?_⟩, pr⟩
  · by_cases hj : i = j
    · subst hj; rw [List.getElem?_set_self hi] at h; cases h
    · rw [List.getElem?_set_ne hj] at h
      obtain ⟨v, q, r'⟩ := S.sh j d' h
      exact ⟨v, q, r'.keep kp⟩
  · by_cases hj : i = j
    · subst hj
      rw [List.getElem?_set_self hi] at h; cases h
      exact ⟨l, hs, np, .inl ⟨ys, es, rfl, upd_same, r.keep kp⟩⟩
    · rw [List.getElem?_set_ne hj] at h
      obtain ⟨a, q, np', r'⟩ := S.ow j d' h
      have hal : a ≠ l := fun z => hj (S.inj i j d d' l e h hs (by rw [← z]; exact q))
      exact ⟨a, q, np', r'.keep kp (upd_ne hal)⟩
  · have g : ∀ {m : Nat} {d3 : PyData}, (Γ.set i (SV.dat true (.list es)))[m]? = some (SV.dat true d3) → ∃ d4, Γ[m]? = some (SV.dat true d4) := fun {m d3} h => by
      by_cases hm : i = m
      · subst hm; exact ⟨d, e⟩
      · rw [List.getElem?_set_ne hm] at h; exact ⟨d3, h⟩
    obtain ⟨_, g1⟩ := g h1
    obtain ⟨_, g2⟩ := g h2
    exact S.inj j k _ _ a g1 g2 h3 h4
  · by_cases hj : i = j
    · subst hj; rw [List.getElem?_set_self hi] at h; cases h
    · rw [List.getElem?_set_ne hj] at h; exact S.bg j h
  · by_cases hj : i = j
    · subst hj; rw [List.getElem?_set_self hi] at h; cases h
    · rw [List.getElem?_set_ne hj] at h; exact S.lf j h
  · exact ⟨(S.bagOk a q).1, (S.bagOk a q).2.keep kp (upd_ne (zl a (S.bagOk a q).1))⟩
  · obtain ⟨n, z⟩ := (S.leftOk a q).2
    exact ⟨(S.leftOk a q).1, n, by rw [upd_ne (zl a (S.leftOk a q).1)]; exact z⟩
  · obtain ⟨o, z⟩ := S.trk a q
    exact ⟨o, by rw [upd_ne (zl a q)]; exact z⟩
theorem sound_mut {r : V → List V → Hp → VK → Prop} {f : List PyData → List PyData → (List PyData → PyData → Prop) → Prop} {t : TA} {da : DTA} (i : Nat) (hm : MutS K r f) (s : SoundA K t da) :
    SoundE K (tBM K "list" r (tVar i) t) (dMut i f da) := by
  intro F σ H Γ Q R S h kk
  obtain ⟨ho, h⟩ := h
  have own0 : ∃ ds, Γ.getD i .un = SV.dat true (.list ds) := by
    revert ho
    generalize Γ.getD i .un = z
    intro ho
    unfold isOwnL at ho
    split at ho
    · exact ⟨_, rfl⟩
    · exact ho.elim
  obtain ⟨ds0, e0⟩ := own0
  obtain ⟨l, hl, _, rep0⟩ := S.ow i _ (getD_some e0)
  have lst0 : ∃ xs, H l = some (.lst xs) := by
    rcases rep0 with ⟨xs, _, _, q, _⟩ | ⟨_, _, q, _⟩
    · exact ⟨xs, q⟩
    · cases q
  obtain ⟨xs0, hx0⟩ := lst0
  refine ⟨.ref l, hl, .inl ⟨rfl, xs0, .of hx0⟩, ?_⟩
  refine s F σ H Γ _ _ S h fun vs as H1 Γ1 ra S1 p1 h1 => ?_
  have h1' : ∃ ds, Γ1.getD i .un = SV.dat true (.list ds) ∧ f ds as fun es ret => Q (.val ret) (Γ1.set i (SV.dat true (.list es))) := by
    revert h1
    generalize Γ1.getD i .un = z
    intro h1
    split at h1
    · exact ⟨_, rfl, h1⟩
    · exact h1.elim
  obtain ⟨ds, e1, h2⟩ := h1'
  have e1' := getD_some e1
  obtain ⟨l', hl', _, rep⟩ := S1.ow i _ e1'
  rw [hl] at hl'; cases hl'
  rcases rep with ⟨xs, ds', q, hx, rx⟩ | ⟨_, _, q, _⟩
  · cases q
    refine hm _ H1 l xs vs ds as _ R hx rx ra h2 fun ys es v ret ry rv q => ?_
    obtain ⟨S2, p2⟩ := S1.mut e1' hl ry
    exact kk v (.val ret) _ _ (rv.keep (p2.keeps fun a => S1.zP)) S2 (p1.trans p2) q
  · cases q
end
def mAppend : List PyData → List PyData → (List PyData → PyData → Prop) → Prop := fun ds as Q => match as with
  | [a] => ds.length < sizeLine ∧ Q (ds ++ [a]) .none
  | _ => False
theorem ms_append (K : PySem.W.Frag) : MutS K rAppend mAppend := by
  intro O H l xs vs ds as Qd R hl rx ra h kk
  unfold mAppend at h
  split at h
  · cases ra with | cons r1 r2 => cases r2; exact ⟨l, xs, _, rfl, rfl, hl, by rw [rx.length]; exact h.1, kk _ _ _ _ (rx.append (.cons r1 .nil)) .non h.2⟩
  · exact h.elim
def mExtend : List PyData → List PyData → (List PyData → PyData → Prop) → Prop := fun ds as Q => match as with
  | [.list bs] => ds.length + bs.length ≤ sizeLine ∧ Q (ds ++ bs) .none
  | _ => False
theorem ms_extend (K : PySem.W.Frag) : MutS K rExtend mExtend := by
  intro O H l xs vs ds as Qd R hl rx ra h kk
  unfold mExtend at h
  split at h
  · cases ra with | cons r1 r2 =>
      cases r2
      obtain ⟨b, zs, rfl, hb, rb⟩ := RpB.lst (.inl r1)
      exact ⟨l, b, xs, zs, rfl, rfl, hl, hb, by rw [rx.length, rb.length]; exact h.1, kk _ _ _ _ (rx.append rb) .non h.2⟩
  · exact h.elim
def mInsert : List PyData → List PyData → (List PyData → PyData → Prop) → Prop := fun ds as Q => match as with
  | [.int i, a] => (ds.length < sizeLine ∧ 0 ≤ i ∧ i < 2 ^ 63) ∧ Q (ds.take i.toNat ++ [a] ++ ds.drop i.toNat) .none
  | _ => False
def rInsert : V → List V → Hp → VK → Prop := fun x vs H Q => ∃ (l : Addr) (xs : List V) (i : Int) (y : V), x = .ref l ∧ vs = [.int i, y] ∧ H l = some (.lst xs) ∧ xs.length < sizeLine ∧ 0 ≤ i ∧ i < 2 ^ 63 ∧
    Q .non (upd H l (.lst (xs.take i.toNat ++ [y] ++ xs.drop i.toNat)))
theorem ms_insert (K : PySem.W.Frag) : MutS K rInsert mInsert := by
  intro O H l xs vs ds as Qd R hl rx ra h kk
  unfold mInsert at h
  split at h
  · cases ra with | cons r1 r2 =>
      cases r2 with | cons r3 r4 =>
        cases r4
        cases r1
        exact ⟨l, xs, _, _, rfl, rfl, hl, by rw [rx.length]; exact h.1.1, h.1.2.1, h.1.2.2, kk _ _ _ _ (((rx.take _).append (.cons r3 .nil)).append (rx.drop _)) .non h.2⟩
  · exact h.elim
def mPop : List PyData → List PyData → (List PyData → PyData → Prop) → Prop := fun ds as Q => as = [] ∧ match ds.getLast? with
  | some d => Q ds.dropLast d
  | none => False
theorem RpA.dropLast {K : PySem.W.Frag} {O : Prot} {H : Hp} {xs : List V} {ds : List PyData} (r : RpA K O H xs ds) : RpA K O H xs.dropLast ds.dropLast := by
  rw [List.dropLast_eq_take, List.dropLast_eq_take, r.length]
  exact r.take _
theorem ms_pop (K : PySem.W.Frag) : MutS K rPop mPop := by
  intro O H l xs vs ds as Qd R hl rx ra h kk
  obtain ⟨rfl, h⟩ := h
  cases ra
  split at h
  · rename_i d e
    rw [List.getLast?_eq_getElem?] at e
    obtain ⟨v, e1, rv⟩ := rx.getD e
    exact ⟨l, xs, v, rfl, rfl, hl, by rw [rx.length]; exact e1, kk _ _ _ _ rx.dropLast rv h⟩
  · exact h.elim
def mReverse : List PyData → List PyData → (List PyData → PyData → Prop) → Prop := fun ds as Q => as = [] ∧ Q ds.reverse .none
theorem ms_reverse (K : PySem.W.Frag) : MutS K rReverse mReverse := by
  intro O H l xs vs ds as Qd R hl rx ra h kk
  obtain ⟨rfl, h⟩ := h
  cases ra
  exact ⟨l, xs, rfl, rfl, hl, kk _ _ _ _ rx.reverse .non h⟩
section
variable {ι : Type} {Xs : ι → Cx} {P : Program} {w : World} {K : PySem.W.Frag} {mg : Str → Option Value} {base : Heap} {k : Nat} {e : Expr} {es : List Expr} {da : DTA} {apos cpos pos : Pos} {x name : Str} {id : String} {r : V → List V → Hp → VK → Prop}
  {f : List PyData → List PyData → (List PyData → PyData → Prop) → Prop}
/-- x.m(e, ..), x a slot that holds an own list -/
theorem dx_mut (j : Nat) (E : EnvOk Xs P w K mg base k) (slot : Slot "list" name id) (hty : typeOf (.builtin id) = pure (.type "method_descriptor")) (hm : ∀ X : Cx, MtR X id r) (ms : MutS K r f) (ha : DXA Xs K (e :: es) da)
    (hN : ∀ i, (Xs i).N[j]? = some x := by intro _; rfl) (hv : ∀ i, Vis (Xs i).env.scope x := by intro _; first | exact Or.inl rfl | exact Or.inr (Or.inl rfl) | exact Or.inr (Or.inr rfl))
    (hd : (x == ("__debug__" : Str)) = false := by decide) (hcd : (x == ("__classdict__" : Str)) = false := by decide)
    (hbase : ∀ i, attributeBase (.Name x pos) name (Xs i).env (eval (.Name x pos) (Xs i).env) = eval (.Name x pos) (Xs i).env := by intro _; rfl)
    (hfew : ∀ i, ((backTo cpos (starEach (e :: es) (Xs i).env)).all (fun x => !x.1) && (backToKw cpos (keywordEach [] (Xs i).env)).all (fun x => x.1.isSome)
      && decide ((e :: es).length + ([] : List Keyword).length + (if ([] : List Keyword).isEmpty then 0 else 1) < 30)) = true := by intro _; rfl)
    (hline : (apos.endLine == cpos.line) = true := by rfl) (hs : ∀ i, starEach (e :: es) (Xs i).env = (false, eval e (Xs i).env) :: starEach es (Xs i).env := by intro _; rfl) (hplain : ∀ i, (backTo cpos (starEach es (Xs i).env)).any (·.1) = false := by intro _; rfl) :
    DX Xs K (.Call (.Attribute (.Name x pos) name apos) (e :: es) [] cpos) (dMut j f da) := by
  obtain ⟨t, pa, s⟩ := ha
  refine ⟨tBM K "list" r (tVar j) t, fun i => ?_, sound_mut j ms s⟩
  rw [← E.K i]
  exact pe_bm PySem.F.plainAttrs_list slot hty (hm _) (pe_var (hN i) (hv i) hd hcd) (pa i) (hbase i) (hfew i) hline (hs i) (hplain i)
theorem dx_mut0 (j : Nat) (E : EnvOk Xs P w K mg base k) (slot : Slot "list" name id) (hty : typeOf (.builtin id) = pure (.type "method_descriptor")) (hm : ∀ X : Cx, MtR X id r) (ms : MutS K r f)
    (hN : ∀ i, (Xs i).N[j]? = some x := by intro _; rfl) (hv : ∀ i, Vis (Xs i).env.scope x := by intro _; first | exact Or.inl rfl | exact Or.inr (Or.inl rfl) | exact Or.inr (Or.inr rfl))
    (hd : (x == ("__debug__" : Str)) = false := by decide) (hcd : (x == ("__classdict__" : Str)) = false := by decide)
    (hbase : ∀ i, attributeBase (.Name x pos) name (Xs i).env (eval (.Name x pos) (Xs i).env) = eval (.Name x pos) (Xs i).env := by intro _; rfl)
    (hline : (apos.endLine == cpos.line) = true := by rfl) :
    DX Xs K (.Call (.Attribute (.Name x pos) name apos) [] [] cpos) (dMut j f dNil) := by
  refine ⟨tBM K "list" r (tVar j) tNil, fun i => ?_, sound_mut j ms (fun F σ H Γ Q R S h kk => kk [] [] H Γ .nil S .refl h)⟩
  rw [← E.K i]
  exact pe_bm0 PySem.F.plainAttrs_list slot hty (hm _) (pe_var (hN i) (hv i) hd hcd) (hbase i) hline
end
end DL
end
section
set_option autoImplicit false
set_option linter.all false
set_option maxRecDepth 100000
set_option maxHeartbeats 4000000
namespace DL
open PySem PySem.Spec L2
/-! ### statements -/
structure DEnds where
  nx : GS → Prop
  rt : PyData → Prop
  bk : GS → Prop := fun _ => False
  ct : GS → Prop := fun _ => False
abbrev DTS := DEnds → GS → Prop
structure EndsOk (K : PySem.W.Frag) (F : FC) (σ : L2.St) (Γ : GS) (H : Hp) (D : DEnds) (E : Ends) : Prop where
  nx : ∀ σ' H' Γ', StOk K F σ' H' Γ' → PresS F σ Γ H σ' Γ' H' → D.nx Γ' → E.nx σ' H'
  rt : ∀ v d H', Rp K F.P H' v d → StOk K F [] H' [] → PresS F σ Γ H [] [] H' → D.rt d → E.rt v H'
  bk : ∀ σ' H' Γ', StOk K F σ' H' Γ' → PresS F σ Γ H σ' Γ' H' → D.bk Γ' → E.bk σ' H'
  ct : ∀ σ' H' Γ', StOk K F σ' H' Γ' → PresS F σ Γ H σ' Γ' H' → D.ct Γ' → E.ct σ' H'
theorem EndsOk.after {K : PySem.W.Frag} {F : FC} {σ σ1 : L2.St} {Γ Γ1 : GS} {H H1 : Hp} {D : DEnds} {E : Ends} (e : EndsOk K F σ Γ H D E) (p : PresS F σ Γ H σ1 Γ1 H1) : EndsOk K F σ1 Γ1 H1 D E :=
  ⟨fun a b c s q => e.nx a b c s (p.trans q), fun a b c r s q => e.rt a b c r s (p.trans q), fun a b c s q => e.bk a b c s (p.trans q), fun a b c s q => e.ct a b c s (p.trans q)⟩
def SoundS (K : PySem.W.Frag) (t : TS) (dt : DTS) : Prop := ∀ (F : FC) (σ : L2.St) (H : Hp) (Γ : GS) (D : DEnds) (E : Ends), StOk K F σ H Γ → dt D Γ → EndsOk K F σ Γ H D E → t E σ H
def DXS {ι : Type} (Xs : ι → Cx) (K : PySem.W.Frag) (s : Stmt) (dt : DTS) : Prop := ∃ t, (∀ i, PS (Xs i) s t) ∧ SoundS K t dt
def DXSs {ι : Type} (Xs : ι → Cx) (K : PySem.W.Frag) (s : List Stmt) (dt : DTS) : Prop := ∃ t, (∀ i, PSs (Xs i) s t) ∧ SoundS K t dt
section
variable {ι : Type} {Xs : ι → Cx} {P : Program} {w : World} {K : PySem.W.Frag} {mg : Str → Option Value} {base : Heap} {k : Nat} {s : Stmt} {rest : List Stmt} {t u : DTS} {e : Expr} {d : DT} {pos : Pos}
def dNext : DTS := fun D Γ => D.nx Γ
def dSeq (t u : DTS) : DTS := fun D Γ => t { D with nx := u D } Γ
theorem dss_nil : DXSs Xs K [] dNext := ⟨_, fun _ => pss_nil, fun F σ H Γ D E S h ee => ee.nx σ H Γ S .refl h⟩
theorem dss_cons (a : DXS Xs K s t) (b : DXSs Xs K rest u) : DXSs Xs K (s :: rest) (dSeq t u) := by
  obtain ⟨ta, pa, sa⟩ := a
  obtain ⟨tb, pb, sb⟩ := b
  refine ⟨tSeq ta tb, fun i => pss_cons (pa i) (pb i), ?_⟩
  intro F σ H Γ D E S h ee
  exact sa F σ H Γ _ _ S h ⟨fun σ' H' Γ' S' p q => sb F σ' H' Γ' D E S' q (ee.after p), ee.rt, ee.bk, ee.ct⟩
theorem dss_one (a : DXS Xs K s t) : DXSs Xs K [s] t := by
  obtain ⟨ta, pa, sa⟩ := a
  exact ⟨ta, fun i => pss_one (pa i), sa⟩
def dNever : DTS := fun _ _ => False
theorem ds_never : DXS Xs K s dNever := ⟨_, fun _ => ps_never, fun _ _ _ _ _ _ _ h _ => h.elim⟩
theorem dss_never : DXSs Xs K rest dNever := ⟨_, fun _ => pss_never, fun _ _ _ _ _ _ _ h _ => h.elim⟩
theorem ds_pass : DXS Xs K (.Pass pos) dNext := ⟨_, fun _ => ps_pass, fun F σ H Γ D E S h ee => ee.nx σ H Γ S .refl h⟩
def dIfS (c : DTT) (a b : DTS) : DTS := fun D Γ => c Γ fun z Γ1 => if z = true then a D Γ1 else b D Γ1
theorem ds_if {c : Expr} {a b : List Stmt} {dc : DTT} (hc : DXT Xs K c dc) (ha : DXSs Xs K a t) (hb : DXSs Xs K b u) : DXS Xs K (.If c a b pos) (dIfS dc t u) := by
  obtain ⟨tc, pc, sc⟩ := hc
  obtain ⟨ta, pa, sa⟩ := ha
  obtain ⟨tb, pb, sb⟩ := hb
  refine ⟨tIfS tc ta tb, fun i => ps_if (pc i) (pa i) (pb i), ?_⟩
  intro F σ H Γ D E S h ee
  refine sc F σ H Γ _ _ S h fun z H1 Γ1 S1 p1 h1 => ?_
  cases z with
  | true => rw [if_pos rfl] at h1 ⊢; exact sa F σ H1 Γ1 D E S1 h1 (ee.after p1.s)
  | false => rw [if_neg (by decide)] at h1 ⊢; exact sb F σ H1 Γ1 D E S1 h1 (ee.after p1.s)
def dExpr (d : DT) : DTS := fun D Γ => d Γ fun _ Γ1 => D.nx Γ1
theorem ds_expr (a : DX Xs K e d) (hs : ∀ i, swapsWith e none pos.line (Xs i).env = pure false := by intro _; rfl) : DXS Xs K (.Expr e pos) (dExpr d) := by
  obtain ⟨ta, pa, sa⟩ := a
  refine ⟨tDrop ta, fun i => ps_expr (pa i) (hs i), ?_⟩
  intro F σ H Γ D E S h ee
  exact sa F σ H Γ _ _ S h fun v o H1 Γ1 ok1 S1 p1 h1 => ee.nx σ H1 Γ1 S1 p1.s h1
theorem own_nil_iff {F : FC} {a : Addr} (h : Own F [] [] a) : F.P a := Or.elim h id fun q => (own_nil q).elim
theorem rt_ok {F : FC} {σ : L2.St} {H : Hp} {Γ : GS} {D : DEnds} {E : Ends} {v : V} {o : Opd} {x : PyData → Prop} (S : StOk K F σ H Γ) (ok : OpdOk K F σ H Γ v o) (h : o.wd Γ x) (ee : EndsOk K F σ Γ H D E) (hx : ∀ d, x d → D.rt d) : E.rt v H := by
  obtain ⟨d, r, q⟩ := ok.given S h
  refine ee.rt v d H (r.anti fun a z => .inl z) S.nil ?_ (hx d q)
  exact ⟨fun a o e n m => ⟨e, own_nil⟩⟩
def dRet (d : DT) : DTS := fun D Γ => d Γ fun x Γ1 => x.wd Γ1 fun v => D.rt v
theorem ds_ret (a : DX Xs K e d) : DXS Xs K (.Return (some e) pos) (dRet d) := by
  obtain ⟨ta, pa, sa⟩ := a
  refine ⟨tRet ta, fun i => ps_ret (pa i), ?_⟩
  intro F σ H Γ D E S h ee
  exact sa F σ H Γ _ _ S h fun v o H1 Γ1 ok1 S1 p1 h1 => rt_ok S1 ok1 h1 (ee.after p1.s) fun _ q => q
/-! targets -/
abbrev DTG := PyData → GS → (GS → Prop) → Prop
/-- js: the slots that may be stored -/
def SoundG (K : PySem.W.Frag) (js : List Nat) (g : TG) (dg : DTG) : Prop := ∀ (F : FC) (σ : L2.St) (H : Hp) (Γ : GS) (v : V) (d : PyData) (Q : GS → Prop) (R : L2.St → Hp → Prop), StOk K F σ H Γ → Rp K (Own F σ Γ) H v d → dg d Γ Q →
  (∀ σ' Γ', StOk K F σ' H Γ' → (∀ a, ownAt σ' Γ' a → ownAt σ Γ a) → σ'.length = σ.length → (∀ j, j ∉ js → σ'[j]? = σ[j]?) → Q Γ' → R σ' H) → g v σ H R
def DG {ι : Type} (Xs : ι → Cx) (K : PySem.W.Frag) (js : List Nat) (tg : Expr) (dg : DTG) : Prop := ∃ g, (∀ i, PG (Xs i) tg g) ∧ SoundG K js g dg
def gDat (i : Nat) : DTG := fun d Γ Q => Q (Γ.set i (SV.dat false d))
theorem sound_gname (i : Nat) : SoundG K [i] (gName i) (gDat i) := by
  intro F σ H Γ v d Q R S r h kk
  refine kk _ _ (S.put i r) (fun a q => own_put S.len q) (by rw [List.length_set]) (fun j hj => ?_) h
  exact List.getElem?_set_ne (fun e => hj (by rw [e]; exact List.mem_cons_self ..))
theorem dg_name (j : Nat) {x : Str} (hn : ∀ i, (Xs i).N.Nodup) (hN : ∀ i, (Xs i).N[j]? = some x := by intro _; rfl) (hx : ∀ i, Loc (Xs i).env.scope x := by intro _; first | exact Or.inl rfl | exact Or.inr rfl)
    (hf : ∀ i, (Xs i).fn x = true ∨ (Xs i).env.scope.names.lookup x = some .local := by intro _; first | exact .inl rfl | exact .inr rfl) : DG Xs K [j] (.Name x pos) (gDat j) :=
  ⟨gName j, fun i => pg_name (hn i) (hN i) (hx i) (hf i), sound_gname j⟩
/-- (a, b, ..) -/
abbrev DTGs := List PyData → GS → (GS → Prop) → Prop
def SoundGs (K : PySem.W.Frag) (js : List Nat) (g : TGs) (dg : DTGs) : Prop := ∀ (F : FC) (σ : L2.St) (H : Hp) (Γ : GS) (vs : List V) (ds : List PyData) (Q : GS → Prop) (R : L2.St → Hp → Prop), StOk K F σ H Γ → RpA K (Own F σ Γ) H vs ds → dg ds Γ Q →
  (∀ σ' Γ', StOk K F σ' H Γ' → (∀ a, ownAt σ' Γ' a → ownAt σ Γ a) → σ'.length = σ.length → (∀ j, j ∉ js → σ'[j]? = σ[j]?) → Q Γ' → R σ' H) → g vs σ H R
def DGs {ι : Type} (Xs : ι → Cx) (K : PySem.W.Frag) (js : List Nat) (ts : List Expr) (dg : DTGs) : Prop := ∃ g, (∀ i, PGs (Xs i) ts g) ∧ SoundGs K js g dg
def gsNil : DTGs := fun ds Γ Q => ds = [] ∧ Q Γ
def gsCons (g : DTG) (r : DTGs) : DTGs := fun ds Γ Q => match ds with
  | d :: ds => g d Γ fun Γ1 => r ds Γ1 Q
  | [] => False
theorem dgs_nil : DGs Xs K [] [] gsNil := ⟨gNil, fun _ => pgs_nil, fun F σ H Γ vs ds Q R S r h kk => by
  obtain ⟨rfl, h⟩ := h
  cases r
  exact ⟨rfl, kk σ Γ S (fun _ q => q) rfl (fun _ _ => rfl) h⟩⟩
theorem dgs_cons {js ks : List Nat} {tg : Expr} {ts : List Expr} {g : DTG} {r : DTGs} (a : DG Xs K js tg g) (b : DGs Xs K ks ts r)
    (hs : ∀ i, (assignEach (tg :: ts) (Xs i).env).map (·.2) = assign tg (Xs i).env :: (assignEach ts (Xs i).env).map (·.2) := by intro _; rfl) : DGs Xs K (js ++ ks) (tg :: ts) (gsCons g r) := by
  obtain ⟨ta, pa, sa⟩ := a
  obtain ⟨tb, pb, sb⟩ := b
  refine ⟨gCons ta tb, fun i => pgs_cons (pa i) (pb i) (hs i), ?_⟩
  intro F σ H Γ vs ds Q R S r h kk
  unfold gsCons at h
  split at h
  · cases r with
    | cons r1 r2 =>
      refine ⟨_, _, rfl, ?_⟩
      refine sa F σ H Γ _ _ _ _ S r1 h fun σ1 Γ1 S1 p1 l1 k1 q1 => ?_
      refine sb F σ1 H Γ1 _ _ _ _ S1 (r2.keep ((PresS.own p1).keeps fun a => S.zP)) q1 fun σ2 Γ2 S2 p2 l2 k2 q2 => ?_
      exact kk σ2 Γ2 S2 (fun a q => p1 a (p2 a q)) (l2.trans l1) (fun j hj => (k2 j fun z => hj (List.mem_append_right _ z)).trans (k1 j fun z => hj (List.mem_append_left _ z))) q2
  · exact h.elim
def gTupD (n : Nat) (g : DTGs) : DTG := fun d Γ Q => match d with
  | .tuple ds => ds.length = n ∧ g ds Γ Q
  | _ => False
theorem dg_tup {js : List Nat} {ts : List Expr} {kt : Nat} {g : DTGs} {n : Nat} (E : EnvOk Xs P w K mg base k) (a : DGs Xs K js ts g) (hn : ∀ i, (assignEach ts (Xs i).env).length = n := by intro _; rfl) (hst : ∀ i, (assignEach ts (Xs i).env).findIdx? (·.1) = none := by intro _; rfl) :
    DG Xs K js (.Tuple ts kt pos) (gTupD n g) := by
  obtain ⟨ta, pa, sa⟩ := a
  refine ⟨gTup K n ta, fun i => by rw [← E.K i]; exact pg_tup (E.calm i) (pa i) (hn i) (hst i), ?_⟩
  intro F σ H Γ v d Q R S r h kk
  unfold gTupD at h
  split at h
  · obtain ⟨a, xs, rfl, ha, ra⟩ := RpB.tup (.inl r)
    exact ⟨a, xs, rfl, ha.sq, by rw [ra.length]; exact h.1, sa F σ H Γ _ _ _ _ S ra h.2 kk⟩
  · exact h.elim
def dAsg (d : DT) (g : DTG) : DTS := fun D Γ => d Γ fun x Γ1 => x.wd Γ1 fun v => g v (x.frz Γ1) D.nx
theorem sound_asg {te : TE} {g : TG} {dg : DTG} {js : List Nat} (se : SoundE K te d) (sg : SoundG K js g dg) : SoundS K (tAsg te g) (dAsg d dg) := by
  intro F σ H Γ D E S h ee
  refine se F σ H Γ _ _ S h fun v o H1 Γ1 ok1 S1 p1 h1 => ?_
  obtain ⟨d1, r1, h2⟩ := ok1.given S1 h1
  refine sg F σ H1 _ v d1 _ _ (S1.frz o) r1 h2 fun σ' Γ' S' p' _ _ q => ?_
  exact ee.nx σ' H1 Γ' S' ((p1.s.trans (PresE.frz o).s).trans (PresS.own p')) q
theorem ds_set (j : Nat) {x : Str} {pos' : Pos} (hn : ∀ i, (Xs i).N.Nodup) (a : DX Xs K e d) (hN : ∀ i, (Xs i).N[j]? = some x := by intro _; rfl) (hx : ∀ i, Loc (Xs i).env.scope x := by intro _; first | exact Or.inl rfl | exact Or.inr rfl)
    (hs : ∀ i, swapsWith e (some (.Name x pos')) pos.line (Xs i).env = pure false := by intro _; rfl) (hf : ∀ i, (Xs i).fn x = true ∨ (Xs i).env.scope.names.lookup x = some .local := by intro _; first | exact .inl rfl | exact .inr rfl) :
    DXS Xs K (.Assign [.Name x pos'] e pos) (dAsg d (gDat j)) := by
  obtain ⟨ta, pa, sa⟩ := a
  exact ⟨_, fun i => ps_set (hn i) (hN i) (hx i) (pa i) (hs i) (hf i), sound_asg sa (sound_gname j)⟩
theorem ds_asg {js : List Nat} {tg : Expr} {dg : DTG} (a : DX Xs K e d) (g : DG Xs K js tg dg) (hs : ∀ i, swapsWithSole [tg] e pos.line (Xs i).env = pure false := by intro _; rfl) (hw : ∀ i, swappedStores [tg] e (Xs i).env = pure none := by intro _; rfl)
    (h1 : ∀ i, (assignEach [tg] (Xs i).env).map (·.2) = [assign tg (Xs i).env] := by intro _; rfl) : DXS Xs K (.Assign [tg] e pos) (dAsg d dg) := by
  obtain ⟨ta, pa, sa⟩ := a
  obtain ⟨tg, pg, sg⟩ := g
  exact ⟨_, fun i => ps_asg (pa i) (pg i) (hs i) (hw i) (h1 i), sound_asg sa sg⟩
/-- x = a new list, x its only bearer -/
def dOwn (f : DF) (j : Nat) : DTS := fun D Γ => f Γ fun ds Γ1 => D.nx (Γ1.set j (SV.dat true (.list ds)))
theorem sound_own {te : TE} {f : DF} (j : Nat) (se : SoundF K te f) : SoundS K (tAsg te (gName j)) (dOwn f j) := by
  intro F σ H Γ D E S h ee
  refine se F σ H Γ _ _ S h fun p xs ds H' Γ' np hp S' e r pr tk q => ?_
  refine ee.nx _ H' _ (S'.putOwn j np (fun a => S.zP) (.inl ⟨xs, ds, rfl, e, r⟩)) ⟨fun a o ea n m => ⟨pr.same a o ea n m, fun z => ?_⟩⟩ q
  rcases own_putO z with rfl | z
  · rw [hp] at ea; cases ea
  · exact m (pr.own a z)
theorem ds_own (j : Nat) {x : Str} {pos' : Pos} {f : DF} (hn : ∀ i, (Xs i).N.Nodup) (a : DXF Xs K e f) (hN : ∀ i, (Xs i).N[j]? = some x := by intro _; rfl) (hx : ∀ i, Loc (Xs i).env.scope x := by intro _; first | exact Or.inl rfl | exact Or.inr rfl)
    (hs : ∀ i, swapsWith e (some (.Name x pos')) pos.line (Xs i).env = pure false := by intro _; rfl) (hf : ∀ i, (Xs i).fn x = true ∨ (Xs i).env.scope.names.lookup x = some .local := by intro _; first | exact .inl rfl | exact .inr rfl) :
    DXS Xs K (.Assign [.Name x pos'] e pos) (dOwn f j) := by
  obtain ⟨ta, pa, sa⟩ := a
  exact ⟨_, fun i => ps_set (hn i) (hN i) (hx i) (pa i) (hs i) (hf i), sound_own j sa⟩
/-! ### what is walked -/
def WalkD (K : PySem.W.Frag) (O1 : Prot) (H1 : Hp) (J : It) (ds : List PyData) : Prop := ∀ (O : Prot) (H : Hp), Keeps O1 H1 O H → (∀ a, O a → ∃ o, H a = some o) →
  (∀ i, i < ds.length → J.go i H) ∧ J.stop ds.length H ∧ ∀ i x H', i < ds.length → J.yld i H x H' → Same H H' ∧ ∃ d, ds[i]? = some d ∧ Rp K O H' x d
abbrev DI := GS → (List PyData → GS → Prop) → Prop
def SoundI (K : PySem.W.Frag) (wi : TI) (di : DI) : Prop := ∀ (F : FC) (σ : L2.St) (H : Hp) (Γ : GS) (Q : List PyData → GS → Prop) (R : It → Hp → Prop), StOk K F σ H Γ → di Γ Q →
  (∀ J ds H' Γ', StOk K F σ H' Γ' → PresE F σ Γ H Γ' H' → WalkD K (Own F σ Γ') H' J ds → Q ds Γ' → R J H') → wi σ H R
def DXI {ι : Type} (Xs : ι → Cx) (K : PySem.W.Frag) (tg e : Expr) (di : DI) : Prop := ∃ wi, (∀ i, PI (Xs i) tg e wi) ∧ SoundI K wi di
theorem PI.or {X : Cx} {tg e : Expr} {w1 w2 : TI} (a : PI X tg e w1) (b : PI X tg e w2) : PI X tg e (fun σ H R => w1 σ H R ∨ w2 σ H R) :=
  ⟨fun pins s σ H R I h => h.elim (a.run pins s σ H R I) (b.run pins s σ H R I)⟩
def signs (x : Str) : List PyData := x.cps.toList.map fun c => .str ⟨#[c]⟩
/-- the items of a list, a tuple, the signs of a text -/
def dSeqI (d : DT) : DI := fun Γ Q => d Γ fun x Γ1 => x.wd Γ1 fun v => match v with
  | .list ds => Q ds (x.frz Γ1)
  | .tuple ds => Q ds (x.frz Γ1)
  | .str s => Q (signs s) (x.frz Γ1)
  | _ => False
theorem walk_lst {K : PySem.W.Frag} {O : Prot} {H : Hp} {a : Addr} {xs : List V} {ds : List PyData} (h : H a = some (.lst xs)) (n : ¬ O a) (r : RpA K O H xs ds) : WalkD K O H (Itl K a) ds := by
  intro O' H' kp _
  have e := (kp a _ h n).1
  have w := walk_list (K := K) (a := a) (xs := xs)
  have r' := r.keep kp
  rw [← r.length]
  refine ⟨fun i hi => w.goes i H' hi (.of e), w.stops H' (.of e), fun i x H2 hi y => ?_⟩
  obtain ⟨rfl, q⟩ := w.yields i H' x H2 hi (.of e) y
  obtain ⟨d, e1, e2⟩ := r'.get q
  exact ⟨Same.refl _, d, e1, e2⟩
theorem SqTo.stay {K : PySem.W.Frag} {O O' : Prot} {H H' : Hp} {a : Addr} {xs : List V} (h : SqTo K O H a xs) (kp : Keeps O H O' H') : SqT K H' a xs := (h.keep kp).sq
theorem walk_tp {K : PySem.W.Frag} {O : Prot} {H : Hp} {a : Addr} {xs : List V} {ds : List PyData} (h : SqTo K O H a xs) (r : RpA K O H xs ds) : WalkD K O H (Itt K a) ds := by
  intro O' H' kp _
  have e := h.stay kp
  have w := walk_tup (K := K) (a := a) (xs := xs)
  have r' := r.keep kp
  rw [← r.length]
  refine ⟨fun i hi => w.goes i H' hi e, w.stops H' e, fun i x H2 hi y => ?_⟩
  obtain ⟨rfl, q⟩ := w.yields i H' x H2 hi e y
  obtain ⟨d, e1, e2⟩ := r'.get q
  exact ⟨Same.refl _, d, e1, e2⟩
theorem walk_st {K : PySem.W.Frag} {O : Prot} {H : Hp} (s : Str) : WalkD K O H (Its s) (signs s) := by
  intro O' H' kp _
  have w := walk_str (z := s)
  have hl : (signs s).length = s.cps.size := by unfold signs; rw [List.length_map, Array.length_toList]
  rw [hl]
  refine ⟨fun i hi => w.goes i H' hi trivial, w.stops H' trivial, fun i x H2 hi y => ?_⟩
  obtain ⟨rfl, c, q, rfl⟩ := w.yields i H' x H2 hi trivial y
  refine ⟨Same.refl _, .str ⟨#[c]⟩, ?_, .str _⟩
  unfold signs
  rw [List.getElem?_map, Array.getElem?_toList, q]; rfl
def iSeq (K : PySem.W.Frag) (tl : TE) : TI := fun σ H R => tl σ H fun x H1 => (∃ a xs, x = .ref a ∧ SqL K H1 a xs ∧ R (Itl K a) H1) ∨ (∃ a xs, x = .ref a ∧ SqT K H1 a xs ∧ R (Itt K a) H1) ∨ ∃ s, x = .str s ∧ R (Its s) H1
theorem pi_seqD {X : Cx} {tg l : Expr} {tl : TE} (hl : PE X l tl) : PI X tg l (iSeq X.K tl) := by
  refine ⟨fun pins s σ H R I h => ?_⟩
  refine thn (hl.run pins s σ H _ I h) fun v s1 ⟨x, H1, I1, r1, q1⟩ => ?_
  rcases q1 with ⟨a, xs, rfl, hq, q⟩ | ⟨a, xs, rfl, hq, q⟩ | ⟨x, rfl, q⟩
  · cases r1
    obtain ⟨its, rv, p, hz⟩ := I1.list hq
    exact wpAny_pyIter_list p.isList (pi_one (tk := s1.toks) I1 _ (turn_list a _) ⟨_, Heap.get?_push_size _ rfl, rfl, rfl⟩ q)
  · cases r1
    obtain ⟨its, rv, p, hz⟩ := I1.tuple hq
    exact wpAny_pyIter_tuple p (pi_one (tk := s1.toks) I1 _ (turn_tuple a _) ⟨_, Heap.get?_push_size _ rfl, rfl, rfl⟩ q)
  · obtain ⟨t, rfl⟩ := r1
    cases ha : x.cps.all (· < 128)
    · exact wpAny_pyIter_wide ha (pi_one (tk := s1.toks) I1 _ (turn_str _ x t "str_iterator" (.inr rfl)) ⟨_, Heap.get?_push_size _ rfl, rfl, rfl⟩ q)
    · exact wpAny_pyIter_ascii ha (pi_one (tk := s1.toks) I1 _ (turn_str _ x t "str_ascii_iterator" (.inl rfl)) ⟨_, Heap.get?_push_size _ rfl, rfl, rfl⟩ q)
theorem dxi_seq {tg : Expr} (E : EnvOk Xs P w K mg base k) (a : DX Xs K e d) : DXI Xs K tg e (dSeqI d) := by
  obtain ⟨ta, pa, sa⟩ := a
  refine ⟨iSeq K ta, fun i => by rw [← E.K i]; exact pi_seqD (pa i), ?_⟩
  intro F σ H Γ Q R S h kk
  refine sa F σ H Γ _ _ S h fun v o H1 Γ1 ok1 S1 p1 h1 => ?_
  obtain ⟨d1, r1, h2⟩ := ok1.given S1 h1
  have S2 := S1.frz o
  have p2 := p1.trans (PresE.frz o)
  cases d1 with
  | list ds =>
    cases r1 with
    | lst hq ra => exact .inl ⟨_, _, rfl, .of hq.1, kk _ ds H1 _ S2 p2 (walk_lst hq.1 hq.2 ra) h2⟩
  | tuple ds =>
    cases r1 with
    | tup hq ra => exact .inr (.inl ⟨_, _, rfl, hq.sq, kk _ ds H1 _ S2 p2 (walk_tp hq ra) h2⟩)
  | str x =>
    cases r1
    exact .inr (.inr ⟨x, rfl, kk _ (signs x) H1 _ S2 p2 (walk_st x) h2⟩)
  | _ => exact h2.elim
/-- range(n) -/
def rangeD (lo : Int) (n : Nat) : List PyData := (List.range n).map fun i => .int (lo + (i : Nat))
theorem walk_rg {K : PySem.W.Frag} {O : Prot} {H : Hp} (lo : Int) (n : Nat) : WalkD K O H (Itr lo n) (rangeD lo n) := by
  intro O' H' kp _
  have w := walk_range (lo := lo) (n := n)
  have hl : (rangeD lo n).length = n := by unfold rangeD; rw [List.length_map, List.length_range]
  rw [hl]
  refine ⟨fun i hi => w.goes i H' hi trivial, w.stops H' trivial, fun i x H2 hi y => ?_⟩
  obtain ⟨rfl, rfl⟩ := w.yields i H' x H2 hi trivial y
  refine ⟨Same.refl _, .int (lo + (i : Nat)), ?_, .int _⟩
  unfold rangeD
  rw [List.getElem?_map, List.getElem?_range hi]; rfl
def dRng1 (da : DTA) : DI := fun Γ Q => da Γ fun as Γ1 => match as with
  | [.int j] => (-(2 ^ 62) ≤ j ∧ j < 2 ^ 62) ∧ Q (rangeD 0 j.toNat) Γ1
  | _ => False
def dRng2 (da : DTA) : DI := fun Γ Q => da Γ fun as Γ1 => match as with
  | [.int i, .int j] => (-(2 ^ 62) ≤ i ∧ i < 2 ^ 62 ∧ -(2 ^ 62) ≤ j ∧ j < 2 ^ 62) ∧ Q (rangeD i (j - i).toNat) Γ1
  | _ => False
theorem dxi_range1 {tg a : Expr} {da : DTA} {p : Pos} (E : EnvOk Xs P w K mg base k) (hg : ∀ i, Gl (Xs i) "range") (hm : mg "range" = none) (ha : DXA Xs K [a] da) (hs : ∀ i, starEach [a] (Xs i).env = [(false, eval a (Xs i).env)] := by intro _; rfl) :
    DXI Xs K tg (.Call (.Name "range" p) [a] [] pos) (dRng1 da) := by
  obtain ⟨t, pa, s⟩ := ha
  refine ⟨iRng1 t, fun i => pi_range1 (hg i) (by rw [E.mg i]; exact hm) (pa i) (hs i), ?_⟩
  intro F σ H Γ Q R S h kk
  refine s F σ H Γ _ _ S h fun vs ds H1 Γ1 ra S1 p1 h1 => ?_
  split at h1
  · cases ra with | cons r1 r2 => cases r1; cases r2; exact ⟨_, rfl, h1.1.1, h1.1.2, kk _ _ H1 Γ1 S1 p1 (walk_rg 0 _) h1.2⟩
  · exact h1.elim
theorem dxi_range2 {tg a b : Expr} {da : DTA} {p : Pos} (E : EnvOk Xs P w K mg base k) (hg : ∀ i, Gl (Xs i) "range") (hm : mg "range" = none) (ha : DXA Xs K [a, b] da) (hs : ∀ i, starEach [a, b] (Xs i).env = [(false, eval a (Xs i).env), (false, eval b (Xs i).env)] := by intro _; rfl)
    (hs2 : ∀ i, starEach [b] (Xs i).env = [(false, eval b (Xs i).env)] := by intro _; rfl) : DXI Xs K tg (.Call (.Name "range" p) [a, b] [] pos) (dRng2 da) := by
  obtain ⟨t, pa, s⟩ := ha
  refine ⟨iRng2 t, fun i => pi_range2 (hg i) (by rw [E.mg i]; exact hm) (pa i) (hs i) (hs2 i), ?_⟩
  intro F σ H Γ Q R S h kk
  refine s F σ H Γ _ _ S h fun vs ds H1 Γ1 ra S1 p1 h1 => ?_
  split at h1
  · cases ra with | cons r1 r2 => cases r1; cases r2 with | cons r3 r4 => cases r3; cases r4; exact ⟨_, _, rfl, h1.1, kk _ _ H1 Γ1 S1 p1 (walk_rg _ _) h1.2⟩
  · exact h1.elim
/-- zip of two lists, of two tuples -/
def zipD (xs ys : List PyData) : List PyData := List.zipWith (fun a b => .tuple [a, b]) xs ys
theorem zipD_get {xs ys : List PyData} {i : Nat} {a b : PyData} (h1 : xs[i]? = some a) (h2 : ys[i]? = some b) : (zipD xs ys)[i]? = some (.tuple [a, b]) := by
  unfold zipD
  rw [List.getElem?_zipWith, h1, h2]
theorem zipD_length (xs ys : List PyData) : (zipD xs ys).length = min xs.length ys.length := by unfold zipD; rw [List.length_zipWith]
theorem pair_new {K : PySem.W.Frag} {O : Prot} {H : Hp} {T : Addr} {x y : V} {a b : PyData} (hO : ∀ a, O a → ∃ o, H a = some o) (hT : H T = none) (r1 : Rp K O H x a) (r2 : Rp K O H y b) : Rp K O (upd H T (.tup [x, y])) (.ref T) (.tuple [a, b]) :=
  newTup hT (no_fresh hO hT) (.cons r1 (.cons r2 .nil))
theorem walk_zl {K : PySem.W.Frag} {O : Prot} {H : Hp} {a b : Addr} {xs ys : List V} {ds es : List PyData} (h : H a = some (.lst xs)) (n : ¬ O a) (r : RpA K O H xs ds) (h' : H b = some (.lst ys)) (n' : ¬ O b) (r' : RpA K O H ys es) : WalkD K O H (Itz K a b) (zipD ds es) := by
  intro O' H' kp hO
  have e1 : SqL K H' a xs := .of (kp a _ h n).1
  have e2 : SqL K H' b ys := .of (kp b _ h' n').1
  have w := walk_zip (K := K) (a := a) (b := b) (xs := xs) (ys := ys) (n := min xs.length ys.length) rfl
  have hl : (zipD ds es).length = min xs.length ys.length := by rw [zipD_length, r.length, r'.length]
  rw [hl]
  refine ⟨fun i hi => w.goes i H' hi ⟨e1, e2⟩, w.stops H' ⟨e1, e2⟩, fun i x H2 hi y => ?_⟩
  obtain ⟨T, x1, x2, rfl, hT, rfl, g1, g2⟩ := w.yields i H' x H2 hi ⟨e1, e2⟩ y
  obtain ⟨d1, q1, q2⟩ := (r.keep kp).get g1
  obtain ⟨d2, q3, q4⟩ := (r'.keep kp).get g2
  exact ⟨same_upd hT, _, zipD_get q1 q3, pair_new hO hT q2 q4⟩
theorem walk_zt {K : PySem.W.Frag} {O : Prot} {H : Hp} {a b : Addr} {xs ys : List V} {ds es : List PyData} (h : SqTo K O H a xs) (r : RpA K O H xs ds) (h' : SqTo K O H b ys) (r' : RpA K O H ys es) : WalkD K O H (RZ.ItzT K a b) (zipD ds es) := by
  intro O' H' kp hO
  have e1 : SqT K H' a xs := h.stay kp
  have e2 : SqT K H' b ys := h'.stay kp
  have hl : (zipD ds es).length = min xs.length ys.length := by rw [zipD_length, r.length, r'.length]
  rw [hl]
  refine ⟨fun i hi => ?_, ⟨xs, ys, e1, e2, by omega⟩, fun i x H2 hi y => ?_⟩
  · have h1 : i < xs.length := by omega
    have h2 : i < ys.length := by omega
    exact ⟨xs, ys, xs[i], ys[i], e1, e2, by simp [h1], by simp [h2]⟩
  · obtain ⟨T, x1, x2, rfl, hT, rfl, g1, g2⟩ := y
    obtain ⟨d1, q1, q2⟩ := (r.keep kp).get (g1 xs e1)
    obtain ⟨d2, q3, q4⟩ := (r'.keep kp).get (g2 ys e2)
    exact ⟨same_upd hT, _, zipD_get q1 q3, pair_new hO hT q2 q4⟩
def dZip (da : DTA) : DI := fun Γ Q => da Γ fun as Γ1 => match as with
  | [.list xs, .list ys] => Q (zipD xs ys) Γ1
  | [.tuple xs, .tuple ys] => Q (zipD xs ys) Γ1
  | _ => False
theorem dxi_zip {e2 : Expr} {da : DTA} {p tpos : Pos} {elts : List Expr} {kk : Nat} (E : EnvOk Xs P w K mg base k) (hg : ∀ i, Gl (Xs i) "zip") (hm : mg "zip" = none) (ha : DXA Xs K [e, e2] da)
    (hs : ∀ i, starEach [e, e2] (Xs i).env = (false, eval e (Xs i).env) :: starEach [e2] (Xs i).env := by intro _; rfl) (hpl : ∀ i, (backTo pos (starEach [e2] (Xs i).env)).any (·.1) = false := by intro _; rfl) :
    DXI Xs K (.Tuple elts kk tpos) (.Call (.Name "zip" p) [e, e2] [] pos) (dZip da) := by
  obtain ⟨t, pa, s⟩ := ha
  refine ⟨RZ.iZipA K t, fun i => by rw [← E.K i]; exact RZ.pi_zipA (hg i) (by rw [E.mg i]; exact hm) (pa i) (hs i) (hpl i), ?_⟩
  intro F σ H Γ Q R S h kk
  refine s F σ H Γ _ _ S h fun vs ds H1 Γ1 ra S1 p1 h1 => ?_
  split at h1
  · cases ra with | cons r1 r2 => cases r2 with | cons r3 r4 => cases r4; cases r1 with | lst a1 b1 => cases r3 with | lst a2 b2 => exact ⟨_, _, _, _, rfl, .inl ⟨.of a1.1, .of a2.1, kk _ _ H1 Γ1 S1 p1 (walk_zl a1.1 a1.2 b1 a2.1 a2.2 b2) h1⟩⟩
  · cases ra with | cons r1 r2 => cases r2 with | cons r3 r4 => cases r4; cases r1 with | tup a1 b1 => cases r3 with | tup a2 b2 => exact ⟨_, _, _, _, rfl, .inr ⟨a1.sq, a2.sq, kk _ _ H1 Γ1 S1 p1 (walk_zt a1 b1 a2 b2) h1⟩⟩
  · exact h1.elim
/-! ### for, while -/
def forW (g : DTG) (tb : DTS) (D : DEnds) : List PyData → GS → Prop
  | [], Γ => D.nx Γ
  | d :: ds, Γ => g d Γ fun Γ1 => tb { D with nx := forW g tb D ds, ct := forW g tb D ds, bk := D.nx } Γ1
def dFor (di : DI) (g : DTG) (tb : DTS) : DTS := fun D Γ => di Γ fun ds Γ1 => forW g tb D ds Γ1
theorem ds_for {tg iter : Expr} {body : List Stmt} {di : DI} {g : DTG} {tb : DTS} {js : List Nat} (E : EnvOk Xs P w K mg base k) (hi : DXI Xs K tg iter di) (hg : DG Xs K js tg g) (hb : DXSs Xs K body tb)
    (hp : ∀ i, PassesOwn (model (Xs i).prog (Xs i).w) (Xs i).A (Xs i).env (Xs i).xe := by intro _; exact PassesOwn.never) (hs : ∀ (i : ι) (x : Value), foldedSetIterable iter (Xs i).env x = pure x := by intro _ _; rfl) : DXS Xs K (.For tg iter body [] pos) (dFor di g tb) := by
  obtain ⟨wi, pi, si⟩ := hi
  obtain ⟨tg', pg, sg⟩ := hg
  obtain ⟨tbb, pb, sb⟩ := hb
  refine ⟨tFor wi tg' tbb, fun i => ps_for (hp i) (E.calm i) (pi i) (pg i) (pb i) (hs i), ?_⟩
  intro F σ H Γ D Ee S h ee
  refine si F σ H Γ _ _ S h fun J ds H1 Γ1 S1 p1 wd h1 => ?_
  refine ⟨fun i m σ' H' => m = ds.length - i ∧ i ≤ ds.length ∧ ∃ Γ', StOk K F σ' H' Γ' ∧ PresS F σ Γ1 H1 σ' Γ' H' ∧ forW g tb D (ds.drop i) Γ', ⟨ds.length, by simp, Nat.zero_le _, Γ1, S1, .refl, by simpa using h1⟩, ?_⟩
  rintro i m σ' H' ⟨rfl, hle, Γ', S', p', hw⟩
  have wd' := wd _ H' (p'.keeps fun a => S1.zP) (fun a => S'.own_there)
  by_cases hlt : i < ds.length
  · rw [List.drop_eq_getElem_cons hlt] at hw
    refine .inr ⟨wd'.1 i hlt, fun σ2 H2 => ∃ Γ2, StOk K F σ2 H2 Γ2 ∧ PresS F σ Γ1 H1 σ2 Γ2 H2 ∧ forW g tb D (ds.drop (i + 1)) Γ2, fun σ2 H2 ⟨Γ2, a, b, c⟩ => ⟨ds.length - (i + 1), by omega, rfl, hlt, Γ2, a, b, c⟩, fun x H2 y => ?_⟩
    obtain ⟨sm, d, hd, rd⟩ := wd'.2.2 i x H2 hlt y
    have ed : d = ds[i] := by rw [List.getElem?_eq_getElem hlt] at hd; exact (Option.some.inj hd).symm
    subst ed
    have S2 := S'.ext sm
    have p2 : PresS F σ Γ1 H1 σ' Γ' H2 := p'.trans (PresE.ext sm).s
    refine sg F σ' H2 Γ' x _ _ _ S2 rd hw fun σ3 Γ3 S3 p3 _ _ q => ?_
    have p13 := p2.trans (PresS.own p3)
    refine sb F σ3 H2 Γ3 _ _ S3 q ⟨fun σ4 H4 Γ4 S4 p4 q => ⟨Γ4, S4, p13.trans p4, q⟩, fun v d H4 r S4 p4 q => ?_, fun σ4 H4 Γ4 S4 p4 q => ?_, fun σ4 H4 Γ4 S4 p4 q => ⟨Γ4, S4, p13.trans p4, q⟩⟩
    · exact ee.rt v d H4 r S4 (p1.s.trans (p13.trans p4)) q
    · exact ee.nx σ4 H4 Γ4 S4 (p1.s.trans (p13.trans p4)) q
  · have e : i = ds.length := by omega
    subst e
    rw [List.drop_length] at hw
    exact .inl ⟨wd'.2.1, ee.nx σ' H' Γ' S' (p1.s.trans p') hw⟩
def whileW (c : DTT) (tb : DTS) (D : DEnds) : Nat → GS → Prop
  | 0, _ => False
  | n + 1, Γ => c Γ fun z Γ1 => if z = true then tb { D with nx := whileW c tb D n, ct := whileW c tb D n, bk := D.nx } Γ1 else D.nx Γ1
def dWhile (c : DTT) (tb : DTS) : DTS := fun D Γ => ∃ n, whileW c tb D n Γ
theorem ds_while {c : Expr} {body : List Stmt} {dc : DTT} {tb : DTS} (hc : DXT Xs K c dc) (hb : DXSs Xs K body tb)
    (hp : ∀ i, PassesOwn (model (Xs i).prog (Xs i).w) (Xs i).A (Xs i).env (Xs i).xe := by intro _; exact PassesOwn.never) : DXS Xs K (.While c body [] pos) (dWhile dc tb) := by
  obtain ⟨tc, pc, sc⟩ := hc
  obtain ⟨tbb, pb, sb⟩ := hb
  refine ⟨tWhile tc tbb, fun i => ps_while (hp i) (pc i) (pb i), ?_⟩
  intro F σ H Γ D Ee S h ee
  obtain ⟨n, h⟩ := h
  refine ⟨fun m σ' H' => ∃ Γ', StOk K F σ' H' Γ' ∧ PresS F σ Γ H σ' Γ' H' ∧ whileW dc tb D m Γ', ⟨n, Γ, S, .refl, h⟩, ?_⟩
  rintro m σ' H' ⟨Γ', S', p', hw⟩
  cases m with
  | zero => exact hw.elim
  | succ m =>
    refine sc F σ' H' Γ' _ _ S' hw fun z H1 Γ1 S1 p1 h1 => ?_
    cases z with
    | false => rw [if_neg (by decide)] at h1 ⊢; exact ee.nx σ' H1 Γ1 S1 (p'.trans p1.s) h1
    | true =>
      rw [if_pos rfl] at h1 ⊢
      refine ⟨fun σ2 H2 => ∃ Γ2, StOk K F σ2 H2 Γ2 ∧ PresS F σ Γ H σ2 Γ2 H2 ∧ whileW dc tb D m Γ2, fun σ2 H2 q => ⟨m, Nat.lt_succ_self m, q⟩, ?_⟩
      have p01 := p'.trans p1.s
      exact sb F σ' H1 Γ1 _ _ S1 h1 ⟨fun σ4 H4 Γ4 S4 p4 q => ⟨Γ4, S4, p01.trans p4, q⟩, fun v d H4 r S4 p4 q => ee.rt v d H4 r S4 (p01.trans p4) q, fun σ4 H4 Γ4 S4 p4 q => ee.nx σ4 H4 Γ4 S4 (p01.trans p4) q, fun σ4 H4 Γ4 S4 p4 q => ⟨Γ4, S4, p01.trans p4, q⟩⟩
end
end DL
end
section
set_option autoImplicit false
set_option linter.all false
set_option maxRecDepth 100000
set_option maxHeartbeats 4000000
namespace DL
open PySem PySem.Spec L2
/-! ### comprehensions -/
def blkX {ι : Type} (Xs : ι → Cx) (scope : Scope) : ι × (Shared × Hp × Addr × List (Str × Addr) × List Addr) → Cx :=
  fun p => (Xs p.1).blk p.2.1 p.2.2.1 scope (compEnvC scope p.2.2.2.2.1 p.2.2.2.1 (Xs p.1).env) p.2.2.2.2.2
theorem EnvOk.blk {ι : Type} {Xs : ι → Cx} {P : Program} {w : World} {K : PySem.W.Frag} {mg : Str → Option Value} {base : Heap} {k : Nat} (E : EnvOk Xs P w K mg base k) (scope : Scope) : EnvOk (blkX Xs scope) P w K mg base k :=
  ⟨fun p => E.prog p.1, fun p => E.w p.1, fun p => E.K p.1, fun p => E.mg p.1, fun p => E.base p.1, fun p => E.room p.1, fun p => E.guards p.1, fun p => E.calm p.1⟩
def DXP {ι : Type} (Xs : ι → Cx) (K : PySem.W.Frag) (ifs : List Expr) (dt : DTT) : Prop := ∃ t, (∀ i, PTs (Xs i) ifs t) ∧ SoundT K t dt
def dYes : DTT := fun Γ Q => Q true Γ
section
variable {ι : Type} {Xs : ι → Cx} {K : PySem.W.Frag} {c : Expr} {dc : DTT}
theorem dxp_nil : DXP Xs K [] dYes := ⟨tYes, fun _ => pts_nil, fun F σ H Γ Q R S h kk => kk true H Γ S .refl h⟩
theorem dxp_one (a : DXT Xs K c dc) : DXP Xs K [c] dc := by
  obtain ⟨t, p, s⟩ := a
  exact ⟨t, fun i => pts_one (p i), s⟩
end
def wipeG (Γ : GS) : List Nat → GS
  | [] => Γ
  | v :: vs => (wipeG Γ vs).set v .un
def keepSV : SV → SV
  | .dat true _ => .un
  | s => s
def backG (Γ Γ2 : GS) : List Nat → GS
  | [] => Γ2
  | v :: vs => (backG Γ Γ2 vs).set v (keepSV (Γ.getD v .un))
section
variable {K : PySem.W.Frag} {F : FC} {σ σ2 : L2.St} {H H2 : Hp} {Γ Γ2 : GS}
theorem wipe_get {j : Nat} : ∀ {vs : List Nat}, j ∉ vs → (wipe σ vs)[j]? = σ[j]?
  | [], _ => rfl
  | v :: vs, h => by
    unfold wipe
    rw [List.getElem?_set_ne (fun e => h (by rw [e]; exact List.mem_cons_self ..)), wipe_get fun z => h (List.mem_cons_of_mem _ z)]
theorem wipe_eq {a b : L2.St} : ∀ {vs : List Nat}, a.length = b.length → (∀ j, j ∉ vs → a[j]? = b[j]?) → wipe a vs = wipe b vs := by
  intro vs hl h
  apply List.ext_getElem?
  intro j
  by_cases hj : j ∈ vs
  · have g : ∀ (c : L2.St) {vs : List Nat}, j ∈ vs → j < c.length → (wipe c vs)[j]? = some none := by
      intro c vs hm hlt
      induction vs with
      | nil => cases hm
      | cons v vs ih =>
        unfold wipe
        by_cases e : v = j
        · subst e; rw [List.getElem?_set_self (by rw [wipe_length]; exact hlt)]
        · rw [List.getElem?_set_ne e]
          rcases List.mem_cons.mp hm with q | q
          · exact absurd q.symm e
          · exact ih q
    by_cases hlt : j < a.length
    · rw [g a hj hlt, g b hj (by rw [← hl]; exact hlt)]
    · rw [List.getElem?_eq_none (by rw [wipe_length]; omega), List.getElem?_eq_none (by rw [wipe_length]; omega)]
  · rw [wipe_get hj, wipe_get hj, h j hj]
theorem wipe_wipe : ∀ {vs : List Nat}, wipe (wipe σ vs) vs = wipe σ vs := fun {vs} => wipe_eq (wipe_length σ vs) fun j hj => wipe_get hj
theorem own_wipe {a : Addr} : ∀ {vs : List Nat}, ownAt (wipe σ vs) (wipeG Γ vs) a → ownAt σ Γ a
  | [], h => h
  | v :: vs, h => own_wipe (vs := vs) (own_un h)
theorem StOk.wipe (S : StOk K F σ H Γ) : ∀ vs : List Nat, StOk K F (L2.wipe σ vs) H (wipeG Γ vs)
  | [] => S
  | v :: vs => (StOk.wipe S vs).unset v none
theorem backG_length : ∀ vs : List Nat, (backG Γ Γ2 vs).length = Γ2.length
  | [] => rfl
  | v :: vs => by unfold backG; rw [List.length_set, backG_length vs]
theorem backG_out {j : Nat} : ∀ {vs : List Nat}, j ∉ vs → (backG Γ Γ2 vs)[j]? = Γ2[j]?
  | [], _ => rfl
  | v :: vs, h => by
    unfold backG
    rw [List.getElem?_set_ne (fun e => h (by rw [e]; exact List.mem_cons_self ..)), backG_out fun z => h (List.mem_cons_of_mem _ z)]
theorem backG_in {j : Nat} : ∀ {vs : List Nat}, j ∈ vs → j < Γ2.length → (backG Γ Γ2 vs)[j]? = some (keepSV (Γ.getD j .un))
  | [], h, _ => by cases h
  | v :: vs, h, hl => by
    unfold backG
    by_cases e : v = j
    · subst e; rw [List.getElem?_set_self (by rw [backG_length]; exact hl)]
    · rw [List.getElem?_set_ne e]
      rcases List.mem_cons.mp h with q | q
      · exact absurd q.symm e
      · exact backG_in q hl
theorem keepSV_of {s z : SV} (h : keepSV s = z) (n : z ≠ SV.un) : s = z := by
  cases s with
  | dat b d => cases b with
    | true => exact absurd h.symm n
    | false => exact h
  | _ => exact h
theorem keepSV_no {s : SV} {d : PyData} : keepSV s ≠ SV.dat true d := by
  cases s with
  | dat b d => cases b <;> exact fun h => by cases h
  | _ => exact fun h => by cases h
theorem getD_of {i : Nat} {z : SV} (h : Γ.getD i .un = z) (n : z ≠ SV.un) : Γ[i]? = some z := by
  rw [List.getD_eq_getElem?_getD] at h
  cases q : Γ[i]? with
  | none => rw [q] at h; exact absurd h.symm n
  | some y => rw [q] at h; simp at h; rw [h]
/-- behind a turn of a comprehension -/
theorem StOk.back {vs : List Nat} (S : StOk K F σ H Γ) (S2 : StOk K F σ2 H2 Γ2) (p : PresS F σ Γ H σ2 Γ2 H2) (hl : σ2.length = σ.length) (hw : ∀ j, j ∉ vs → σ2[j]? = σ[j]?) :
    StOk K F σ H2 (backG Γ Γ2 vs) ∧ ∀ a, ownAt σ (backG Γ Γ2 vs) a → ownAt σ2 Γ2 a := by
  have split : ∀ {j : Nat} {z : SV}, z ≠ SV.un → (backG Γ Γ2 vs)[j]? = some z → (j ∉ vs ∧ Γ2[j]? = some z ∧ σ2[j]? = σ[j]?) ∨ (j ∈ vs ∧ Γ[j]? = some z) := fun {j z} nz h => by
    by_cases hj : j ∈ vs
    · have hlt : j < Γ2.length := by
        have := (List.getElem?_eq_some_iff.mp h).1
        rwa [backG_length] at this
      rw [backG_in hj hlt] at h
      exact .inr ⟨hj, getD_of (keepSV_of (Option.some.inj h) nz) nz⟩
    · rw [backG_out hj] at h; exact .inl ⟨hj, h, hw j hj⟩
  have own_out : ∀ {j : Nat} {d : PyData}, (backG Γ Γ2 vs)[j]? = some (SV.dat true d) → j ∉ vs := fun {j d} h hj => by
    have hlt : j < Γ2.length := by
      have := (List.getElem?_eq_some_iff.mp h).1
      rwa [backG_length] at this
    rw [backG_in hj hlt] at h
    exact keepSV_no (Option.some.inj h)
  have ow : ∀ a, ownAt σ (backG Γ Γ2 vs) a → ownAt σ2 Γ2 a := fun a ⟨j, d, h1, h2⟩ => by
    have hj := own_out h1
    rw [backG_out hj] at h1
    exact ⟨j, d, h1, (hw j hj).trans h2⟩
  have kp : Keeps (Own F σ2 Γ2) H2 (Own F σ (backG Γ Γ2 vs)) H2 := keeps_anti fun a q => Or.imp id (ow a) q
  have kp0 := p.keeps fun a => S.zP
  refine ⟨⟨by rw [backG_length, S2.len, hl], fun j d h => ?_, fun j d h => ?_, fun j k d1 d2 a h1 h2 h3 h4 => ?_, fun j h => ?_, fun j h => ?_, fun a q => ?_, S2.leftOk, S2.apart, S2.trk⟩, ow⟩
  · rcases split (by intro z; cases z) h with ⟨_, g, e⟩ | ⟨_, g⟩
    · obtain ⟨v, e1, r⟩ := S2.sh j d g; exact ⟨v, e ▸ e1, r.keep kp⟩
    · obtain ⟨v, e1, r⟩ := S.sh j d g; exact ⟨v, e1, (r.keep kp0).keep kp⟩
  · have hj := own_out h
    rw [backG_out hj] at h
    obtain ⟨a, e1, np, r⟩ := S2.ow j d h
    exact ⟨a, (hw j hj) ▸ e1, np, r.keep kp rfl⟩
  · have hj := own_out h1
    have hk := own_out h2
    rw [backG_out hj] at h1
    rw [backG_out hk] at h2
    exact S2.inj j k d1 d2 a h1 h2 ((hw j hj).trans h3) ((hw k hk).trans h4)
  · rcases split (by intro z; cases z) h with ⟨_, g, e⟩ | ⟨_, g⟩
    · obtain ⟨a, e1, e2⟩ := S2.bg j g; exact ⟨a, e1, e ▸ e2⟩
    · exact S.bg j g
  · rcases split (by intro z; cases z) h with ⟨_, g, e⟩ | ⟨_, g⟩
    · obtain ⟨a, e1, e2⟩ := S2.lf j g; exact ⟨a, e1, e ▸ e2⟩
    · exact S.lf j g
  · exact ⟨(S2.bagOk a q).1, (S2.bagOk a q).2.keep kp rfl⟩
/-- a protected object that nothing bears is changed -/
theorem StOk.updP {p : Addr} {o : HO} (S : StOk K F σ H Γ) (hp : F.P p) (hz : ¬ F.Z p) : StOk K F σ (upd H p o) Γ := by
  have kp : Keeps (Own F σ Γ) H (Own F σ Γ) (upd H p o) := fun a u e n => ⟨(upd_ne (fun z : a = p => n (.inl (by rw [z]; exact hp)))).trans e, n⟩
  refine ⟨S.len, fun i d e => let ⟨v, a, b⟩ := S.sh i d e; ⟨v, a, b.keep kp⟩, fun i d e => ?_, S.inj, S.bg, S.lf, fun a q => ?_, fun a q => ?_, S.apart, fun a q => ?_⟩
  · obtain ⟨a, b, c, g⟩ := S.ow i d e
    exact ⟨a, b, c, g.keep kp (upd_ne (fun z : a = p => c (by rw [z]; exact hp)))⟩
  · exact ⟨(S.bagOk a q).1, (S.bagOk a q).2.keep kp (upd_ne (fun z : a = p => hz (by rw [← z]; exact .inl q)))⟩
  · obtain ⟨n, e⟩ := (S.leftOk a q).2
    exact ⟨(S.leftOk a q).1, n, (upd_ne (fun z : a = p => hz (by rw [← z]; exact .inr q))).trans e⟩
  · by_cases e : a = p
    · subst e; exact ⟨o, upd_same⟩
    · obtain ⟨u, z⟩ := S.trk a q; exact ⟨u, by rw [upd_ne e]; exact z⟩
end
def lcW (g : DTG) (tt : DTT) (te : DT) (vs : List Nat) (Q : List PyData → GS → Prop) : List PyData → List PyData → GS → Prop
  | [], acc, Γ => Q acc Γ
  | d :: ds, acc, Γ => g d (wipeG Γ vs) fun Γ1 => tt Γ1 fun b Γ2 => if b = true then te Γ2 fun y Γ3 => y.wd Γ3 fun a => acc.length < sizeLine ∧ lcW g tt te vs Q ds (acc ++ [a]) (backG Γ (y.frz Γ3) vs) else lcW g tt te vs Q ds acc (backG Γ Γ2 vs)
def dLc (di : DI) (g : DTG) (tt : DTT) (te : DT) (vs : List Nat) : DF := fun Γ Q => di Γ fun ds Γ1 => lcW g tt te vs Q ds [] Γ1
theorem sound_lc {K : PySem.W.Frag} {wi : TI} {g : TG} {tt : TT} {te : TE} {di : DI} {dg : DTG} {dtt : DTT} {dte : DT} {js vs : List Nat} (si : SoundI K wi di) (sg : SoundG K js g dg) (st : SoundT K tt dtt) (se : SoundE K te dte) (hjs : ∀ j ∈ js, j ∈ vs) :
    SoundF K (tLc wi g tt te vs) (dLc di dg dtt dte vs) := by
  intro F σ H Γ Q R S h kk
  refine si F σ H Γ _ _ S h fun J ds H1 Γ1 S1 p1 wd h1 => ?_
  intro D hD
  have nP : ¬ F.P D := fun z => by obtain ⟨o, e⟩ := S1.trk D z; rw [hD] at e; cases e
  have nZ : ¬ (F.plus D).Z D := fun z => nP (S1.zP z)
  have hH : H D = none := by
    cases e : H D with
    | none => rfl
    | some o => obtain ⟨u, z⟩ := p1.trk D o e; rw [hD] at z; cases z
  refine ⟨fun i m H' => m = ds.length - i ∧ i ≤ ds.length ∧ ∃ Γ' acc as, StOk K (F.plus D) σ H' Γ' ∧ PresE F σ Γ1 H1 Γ' H' ∧ H' D = some (.lst acc) ∧ RpA K (Own (F.plus D) σ Γ') H' acc as ∧ lcW dg dtt dte vs Q (ds.drop i) as Γ',
    ⟨ds.length, by simp, Nat.zero_le _, Γ1, [], [], S1.plus hD, .ext (same_upd hD), upd_same, .nil, by simpa using h1⟩, ?_⟩
  rintro i m H' ⟨rfl, hle, Γ', acc, as, S', p', hacc, racc, hw⟩
  have kpw : Keeps (Own F σ Γ1) H1 (Own (F.plus D) σ Γ') H' := fun a o e n => by
    have nz : ¬ F.Z a := fun z => n (.inl (S1.zP z))
    have no : ¬ ownAt σ Γ1 a := fun z => n (.inr z)
    refine ⟨p'.same a o e nz no, fun z => ?_⟩
    rcases z with (z | z) | z
    · exact n (.inl z)
    · subst z; rw [hD] at e; cases e
    · exact no (p'.own a z)
  have wd' := wd _ H' kpw (fun a => S'.own_there)
  by_cases hlt : i < ds.length
  · rw [List.drop_eq_getElem_cons hlt] at hw
    refine .inr ⟨wd'.1 i hlt, fun H2 => ∃ Γ2 acc as, StOk K (F.plus D) σ H2 Γ2 ∧ PresE F σ Γ1 H1 Γ2 H2 ∧ H2 D = some (.lst acc) ∧ RpA K (Own (F.plus D) σ Γ2) H2 acc as ∧ lcW dg dtt dte vs Q (ds.drop (i + 1)) as Γ2,
      fun H2 q => ⟨ds.length - (i + 1), by omega, rfl, hlt, q⟩, fun x H2 y => ?_⟩
    obtain ⟨sm, d, hd, rd⟩ := wd'.2.2 i x H2 hlt y
    have ed : d = ds[i] := by rw [List.getElem?_eq_getElem hlt] at hd; exact (Option.some.inj hd).symm
    subst ed
    have S2 := S'.ext sm
    have Sw := S2.wipe vs
    have rdw : Rp K (Own (F.plus D) (wipe σ vs) (wipeG Γ' vs)) H2 x ds[i] := rd.anti fun a q => Or.imp id own_wipe q
    refine sg (F.plus D) (wipe σ vs) H2 (wipeG Γ' vs) x _ _ _ Sw rdw hw fun σ3 Γ3 S3 own3 hl3 hk3 q3 => ?_
    have out3 : ∀ j, j ∉ vs → σ3[j]? = σ[j]? := fun j hj => (hk3 j fun z => hj (hjs j z)).trans (wipe_get hj)
    have len3 : σ3.length = σ.length := hl3.trans (wipe_length σ vs)
    refine ⟨(wipe_eq (by rw [hl3]) fun j hj => hk3 j fun z => hj (hjs j z)).trans wipe_wipe, ?_⟩
    refine st (F.plus D) σ3 H2 Γ3 _ _ S3 q3 fun b H4 Γ4 S4 p4 q4 => ?_
    have own4 : ∀ a, ownAt σ3 Γ4 a → ownAt σ Γ' a := fun a z => own_wipe (own3 a (p4.own a z))
    -- from ahead of the turn to here
    have same4 : ∀ a o, H' a = some o → ¬ F.Z a → ¬ ownAt σ Γ' a → H4 a = some o := fun a o e nz no => p4.same a o (sm a o e) nz fun z => no (own_wipe (own3 a z))
    have trk4 : ∀ a o, H' a = some o → ∃ u, H4 a = some u := fun a o e => p4.trk a o (sm a o e)
    cases b with
    | false =>
      rw [if_neg (by decide)] at q4 ⊢
      have ps : PresS (F.plus D) σ Γ' H' σ3 Γ4 H4 := ⟨fun a o e nz no => ⟨same4 a o e nz no, fun z => no (own4 a z)⟩⟩
      obtain ⟨S5, own5⟩ := S'.back S4 ps len3 out3
      have pE : PresE F σ Γ' H' (backG Γ' Γ4 vs) H4 := ⟨same4, fun a z => own4 a (own5 a z), trk4⟩
      have hD4 : H4 D = some (.lst acc) := same4 D _ hacc nZ S'.own_ne
      exact ⟨_, acc, as, S5, p'.trans pE, hD4, racc.keep fun a o e n => ⟨same4 a o e (fun z => n (.inl (S'.zP z))) fun z => n (.inr z), fun z => n (Or.imp id (fun z => own4 a (own5 a z)) z)⟩, q4⟩
    | true =>
      rw [if_pos rfl] at q4 ⊢
      refine se (F.plus D) σ3 H4 Γ4 _ _ S4 q4 fun v o H5 Γ5 ok5 S5 p5 q5 => ?_
      obtain ⟨a5, r5, hlen, q6⟩ := ok5.given S5 q5
      have S6 := S5.frz o
      have p6 := p5.trans (PresE.frz o)
      have own6 : ∀ a, ownAt σ3 (o.frz Γ5) a → ownAt σ Γ' a := fun a z => own4 a (p6.own a z)
      have same6 : ∀ a o, H' a = some o → ¬ F.Z a → ¬ ownAt σ Γ' a → H5 a = some o := fun a u e nz no => p6.same a u (same4 a u e nz no) nz fun z => no (own4 a z)
      have trk6 : ∀ a o, H' a = some o → ∃ u, H5 a = some u := fun a u e => let ⟨u2, z⟩ := trk4 a u e; p6.trk a u2 z
      have ps : PresS (F.plus D) σ Γ' H' σ3 (o.frz Γ5) H5 := ⟨fun a u e nz no => ⟨same6 a u e nz no, fun z => no (own6 a z)⟩⟩
      obtain ⟨S7, own7⟩ := S'.back S6 ps len3 out3
      have hD5 : H5 D = some (.lst acc) := same6 D _ hacc nZ S'.own_ne
      have PD : (F.plus D).P D := .inr rfl
      have S8 := S7.updP (o := .lst (acc ++ [v])) PD nZ
      have kpD : Keeps (Own (F.plus D) σ (backG Γ' (o.frz Γ5) vs)) H5 (Own (F.plus D) σ (backG Γ' (o.frz Γ5) vs)) (upd H5 D (.lst (acc ++ [v]))) := fun a u e n => ⟨(upd_ne (fun z : a = D => n (.inl (by rw [z]; exact PD)))).trans e, n⟩
      have pE : PresE F σ Γ1 H1 (backG Γ' (o.frz Γ5) vs) (upd H5 D (.lst (acc ++ [v]))) := by
        refine ⟨fun a u e nz no => ?_, fun a z => p'.own a (own6 a (own7 a z)), fun a u e => ?_⟩
        · have ne : a ≠ D := fun z => by subst z; rw [hD] at e; cases e
          rw [upd_ne ne]
          exact same6 a u (p'.same a u e nz no) nz fun z => no (p'.own a z)
        · by_cases ne : a = D
          · subst ne; exact ⟨_, upd_same⟩
          · rw [upd_ne ne]
            obtain ⟨u2, z⟩ := p'.trk a u e
            exact trk6 a u2 z
      refine ⟨acc, hD5, by rw [racc.length]; exact hlen, _, acc ++ [v], as ++ [a5], S8, pE, upd_same, ?_, q6⟩
      refine RpA.append ?_ (.cons ?_ .nil)
      · exact (racc.keep fun a u e n => ⟨same6 a u e (fun z => n (.inl (S'.zP z))) fun z => n (.inr z), fun z => n (Or.imp id (fun z => own6 a (own7 a z)) z)⟩).keep kpD
      · exact (r5.anti fun a z => Or.imp id (own7 a) z).keep kpD
  · have e : i = ds.length := by omega
    subst e
    rw [List.drop_length] at hw
    refine .inl ⟨wd'.2.1, ?_⟩
    refine kk D acc as H' Γ' nP hH S' hacc racc (p1.trans p') (fun a z => ?_) hw
    obtain ⟨o, e⟩ := S1.trk a z
    exact p'.trk a o e
section
variable {ι : Type} {Xs : ι → Cx} {P : Program} {w : World} {K : PySem.W.Frag} {mg : Str → Option Value} {base : Heap} {k : Nat} {elt tg iter : Expr} {ifs : List Expr} {scope : Scope} {pos : Pos} {di : DI} {dg : DTG} {dtt : DTT} {dte : DT} {js : List Nat}
theorem dxf_lc (own : List (Str × Nat)) (E : EnvOk Xs P w K mg base k) (hn : ∀ i, (Xs i).N.Nodup) (hi : DXI Xs K tg iter di) (ok : ∀ i, BlkOk (Xs i).N (Xs i).env.scope scope own) (hg : DG (blkX Xs scope) K js tg dg) (ht : DXP (blkX Xs scope) K ifs dtt) (he : DX (blkX Xs scope) K elt dte)
    (hjs : ∀ j ∈ js, j ∈ own.map (·.2) := by decide) (hs : ∀ (i : ι) (x : Value), foldedSetIterable iter (Xs i).env x = pure x := by intro _ _; rfl) : DXF Xs K (.ListComp elt [⟨tg, iter, ifs, 0⟩] scope pos) (dLc di dg dtt dte (own.map (·.2))) := by
  obtain ⟨wi, pi, si⟩ := hi
  obtain ⟨g, pg, sg⟩ := hg
  obtain ⟨tt, pt, st⟩ := ht
  obtain ⟨te, pe, se⟩ := he
  exact ⟨_, fun i => pe_lc (E.calm i) (hn i) (pi i) (ok i) (fun s H C cl fp => pg (i, s, H, C, cl, fp)) (fun s H C cl fp => pt (i, s, H, C, cl, fp)) (fun s H C cl fp => pe (i, s, H, C, cl, fp)) (hs i), sound_lc si sg st se hjs⟩
/-- y = [..] on one line: stored by the comprehension itself -/
theorem ds_setLc (own : List (Str × Nat)) (j : Nat) {y : Str} {py spos : Pos} (E : EnvOk Xs P w K mg base k) (hn : ∀ i, (Xs i).N.Nodup) (hi : DXI Xs K tg iter di) (ok : ∀ i, BlkOk (Xs i).N (Xs i).env.scope scope own) (hg : DG (blkX Xs scope) K js tg dg) (ht : DXP (blkX Xs scope) K ifs dtt) (he : DX (blkX Xs scope) K elt dte)
    (hsw : ∀ i, swapsWith (.ListComp elt [⟨tg, iter, ifs, 0⟩] scope pos) (some (.Name y py)) spos.line (Xs i).env = pure true)
    (hN : ∀ i, (Xs i).N[j]? = some y := by intro _; rfl) (hyl : ∀ i, (Xs i).env.scope.names.lookup y = some .local := by intro _; rfl)
    (hjs : ∀ j ∈ js, j ∈ own.map (·.2) := by decide) (hs : ∀ (i : ι) (x : Value), foldedSetIterable iter (Xs i).env x = pure x := by intro _ _; rfl) : DXS Xs K (.Assign [.Name y py] (.ListComp elt [⟨tg, iter, ifs, 0⟩] scope pos) spos) (dAsg (dFr (dLc di dg dtt dte (own.map (·.2)))) (gDat j)) := by
  obtain ⟨wi, pi, si⟩ := hi
  obtain ⟨g, pg, sg⟩ := hg
  obtain ⟨tt, pt, st⟩ := ht
  obtain ⟨te, pe, se⟩ := he
  exact ⟨_, fun i => ps_setLc (E.calm i) (hn i) (hN i) (hyl i) (hsw i) (pi i) (ok i) (fun s H C cl fp => pg (i, s, H, C, cl, fp)) (fun s H C cl fp => pt (i, s, H, C, cl, fp)) (fun s H C cl fp => pe (i, s, H, C, cl, fp)) (hs i), sound_asg (sound_fr (sound_lc si sg st se hjs)) (sound_gname j)⟩
theorem ds_setLcO (own : List (Str × Nat)) (j : Nat) {y : Str} {py spos : Pos} (E : EnvOk Xs P w K mg base k) (hn : ∀ i, (Xs i).N.Nodup) (hi : DXI Xs K tg iter di) (ok : ∀ i, BlkOk (Xs i).N (Xs i).env.scope scope own) (hg : DG (blkX Xs scope) K js tg dg) (ht : DXP (blkX Xs scope) K ifs dtt) (he : DX (blkX Xs scope) K elt dte)
    (hsw : ∀ i, swapsWith (.ListComp elt [⟨tg, iter, ifs, 0⟩] scope pos) (some (.Name y py)) spos.line (Xs i).env = pure true)
    (hN : ∀ i, (Xs i).N[j]? = some y := by intro _; rfl) (hyl : ∀ i, (Xs i).env.scope.names.lookup y = some .local := by intro _; rfl)
    (hjs : ∀ j ∈ js, j ∈ own.map (·.2) := by decide) (hs : ∀ (i : ι) (x : Value), foldedSetIterable iter (Xs i).env x = pure x := by intro _ _; rfl) : DXS Xs K (.Assign [.Name y py] (.ListComp elt [⟨tg, iter, ifs, 0⟩] scope pos) spos) (dOwn (dLc di dg dtt dte (own.map (·.2))) j) := by
  obtain ⟨wi, pi, si⟩ := hi
  obtain ⟨g, pg, sg⟩ := hg
  obtain ⟨tt, pt, st⟩ := ht
  obtain ⟨te, pe, se⟩ := he
  exact ⟨_, fun i => ps_setLc (E.calm i) (hn i) (hN i) (hyl i) (hsw i) (pi i) (ok i) (fun s H C cl fp => pg (i, s, H, C, cl, fp)) (fun s H C cl fp => pt (i, s, H, C, cl, fp)) (fun s H C cl fp => pe (i, s, H, C, cl, fp)) (hs i), sound_own j (sound_lc si sg st se hjs)⟩
end
end DL
end
section
set_option autoImplicit false
set_option linter.all false
set_option maxRecDepth 100000
set_option maxHeartbeats 4000000
namespace DL
open PySem PySem.Spec L2
/-! ### defs whose callers show nothing being printed (repr asks it) -/
structure FnG (P : Program) (w : World) (K : PySem.W.Frag) (mg : Str → Option Value) (base : Heap) (k : Nat) (f : Addr) (fd : FuncData) (ps : List Str) (sp : Sp) : Prop where
  len : ∀ vs H Q E, sp vs H Q E → vs.length = ps.length
  run : ∀ (A : Around) (outer : List Env) (s : Shared) (H : Hp) (args : Args) (us : List Value) (vs : List V) (Q : VK), Room k A → A.guards = some [] → Env0 P w K mg base A outer s H → BindsTo s fd args (ps.zip us) → Vals vs us → sp vs H Q E0 →
    codeAny (model P w) A (.call (.ref f) args) (CR CX0 outer P w H s Q E0) s
theorem FnG.mono {P : Program} {w : World} {K : PySem.W.Frag} {mg : Str → Option Value} {base : Heap} {j k : Nat} {f : Addr} {fd : FuncData} {ps : List Str} {sp : Sp} (G : FnG P w K mg base j f fd ps sp) (h : j ≤ k) : FnG P w K mg base k f fd ps sp :=
  ⟨G.len, fun A outer s H args us vs Q hr => G.run A outer s H args us vs Q (hr.mono h)⟩
theorem FnG.imp {P : Program} {w : World} {K : PySem.W.Frag} {mg : Str → Option Value} {base : Heap} {k : Nat} {f : Addr} {fd : FuncData} {ps : List Str} {sp sp' : Sp} (G : FnG P w K mg base k f fd ps sp) (h : ∀ vs H Q E, sp' vs H Q E → sp vs H Q E) : FnG P w K mg base k f fd ps sp' :=
  ⟨fun vs H Q E q => G.len vs H Q E (h _ _ _ _ q), fun A outer s H args us vs Q hr hg e b r q => G.run A outer s H args us vs Q hr hg e b r (h _ _ _ _ q)⟩
section
variable {P : Program} {w : World} {K : PySem.W.Frag} {mg : Str → Option Value} {base : Heap}
abbrev bodyCx (P : Program) (w : World) (K : PySem.W.Frag) (mg : Str → Option Value) (base : Heap) (N : List Str) (qual : Str) (scope : Scope) (f : Addr) (cd : Value) (A : Around) (outer : List Env) (s : Shared) (H : Hp) : Cx :=
  (cxOf CX0 P w K mg base N qual scope f cd A outer s H E0).nox
theorem fnG_of {x qual : Str} {st : Stmt} {f : Addr} {fd : FuncData} {N ps : List Str} {k : Nat} {sp : Sp} (F : Fun K x qual st f fd) (S : FnScope N ps (defScope st)) (len : ∀ vs H Q E, sp vs H Q E → vs.length = ps.length)
    (hb : ∀ (cd : Value) (A : Around) (outer : List Env) (s : Shared) (H : Hp) (vs : List V) (Q : VK), Room k (A.deeper (PyProof.Rows.envOfC qual (defScope st) s.heap.objs.size f cd)) → A.guards = some [] → sp vs H Q E0 →
      ∃ t, PSs (bodyCx P w K mg base N qual (defScope st) f cd A outer s H) (defBody st) t ∧ t { nx := fun _ H' => Q .non H', rt := Q } (L2.start N vs) H) : FnG P w K mg base (k + 1) f fd ps sp := by
  obtain ⟨o1, o2, v1, v2, v3, v4, cdv, ct, sl, e, lk, hcd⟩ := F.ex
  subst e
  refine ⟨len, fun A outer s H args us vs Q hr gu e0 bd rv h => ?_⟩
  have hl : vs.length = ps.length := len _ _ _ _ h
  have KX : K.In s.heap := e0.mod.kin.keeps fun b o q => (e0.bs b o q).1
  have lim : s.heap.NoLimit := e0.mod.nolimit.keeps fun b o q => (e0.bs b o q).1
  have kinds : ∀ y ∈ ps.zip us, (defScope st).names.lookup y.1 = some .local ∨ ((defScope st).names.lookup y.1 = some .cell ∧ ((cellsFrom (s.heap.objs.size + 1) (defScope st).names []).lookup y.1).isSome = true) := by
    rintro ⟨nm, vl⟩ hy
    exact (S.par nm (List.of_mem_zip hy).1).imp id fun q => ⟨q, PySem.W.cellsFrom_some _ _ _ (.inl q)⟩
  refine codeAny_call_function hr.depth (KX _ _ lk) rfl S.co S.gen rfl (PySem.W.codeRec_of KX hcd) (bd _ _ _ _ (wpAny_newFunctionEnv_cells S.kind kinds fun env he s1 xin => ?_))
  subst he
  refine ⟨lim.keeps xin.toInCall.keep, codeAny_func ?_⟩
  obtain ⟨t, pt, ht⟩ := hb cdv A outer s H vs Q (hr.deeper _) gu h
  have I1 : Inv (cxOf CX0 P w K mg base N qual (defScope st) f cdv A outer s H E0) [] (L2.start N vs) H s1 := inv_start S hr.hd e0 hl rv xin
  refine wpAny_mono ((PSs.nox pt).run [] s1 (L2.start N vs) H _ I1 ht) (fun fl s2 h2 => ?_) fun _ _ h2 => h2
  have fin : ∀ {σ2 : L2.St} {H2 : Hp} {v : V} {u : Value}, Inv (cxOf CX0 P w K mg base N qual (defScope st) f cdv A outer s H E0) [] σ2 H2 s2 → RelV v u → Q v H2 → CE outer P w H s Q u s2 :=
    fun {σ2 H2 v u} J rvu q => ⟨v, H2, J.os, J.bare, J.base, J.hok, rvu, q⟩
  cases fl with
  | next => obtain ⟨σ2, H2, J, q⟩ := h2; exact fin (v := V.non) (u := Value.none) J rfl q
  | ret u => obtain ⟨v, σ2, H2, J, rvu, q⟩ := h2; exact fin J rvu q
  | brk => obtain ⟨_, _, _, q⟩ := h2; exact q.elim
  | cont => obtain ⟨_, _, _, q⟩ := h2; exact q.elim
end
section
variable {X : Cx} {k : Nat} {f : Addr} {fd : FuncData} {ps : List Str} {sp : Sp} {x : Str} {p pos : Pos} {e : Expr} {es : List Expr} {t : TA}
theorem pe_callG (G : FnG X.prog X.w X.K X.mg X.base k f fd ps sp) (hr : Room k X.A) (gu : X.A.guards = some []) (hg : Gl X x) (hm : X.mg x = some (.ref f)) (hk : PySem.W.keepIn X.K (.ref f) = true) (hb : Binds X.K fd ps []) (ha : PA X (e :: es) t)
    (hdb : (x == ("__debug__" : Str)) = false := by decide) (he : starEach (e :: es) X.env = (false, eval e X.env) :: starEach es X.env := by rfl) (hpl : (backTo pos (starEach es X.env)).any (·.1) = false := by rfl) :
    PE X (.Call (.Name x p) (e :: es) [] pos) (fun σ H Q => t σ H fun vs H1 => sp vs H1 Q E0) := by
  refine ⟨fun pins s σ H Q I h => wpAny_Call_Name_kw (ld_glob I hg hm (PySem.W.callWith_K (h₀ := X.base) I.ok.mod.kin hk (thn (ha.run pos pins s σ H _ I h) fun us s1 ⟨vs, H1, I1, rv, q⟩ => ⟨I1.kIn, ?_⟩) he hpl) hdb)⟩
  have hl : us.length = ps.length := rv.length.symm.trans (G.len _ _ _ _ q)
  have bd := hb s1 us I1.kIn (by rw [List.append_nil]; exact hl)
  rw [List.append_nil] at bd
  refine wpAny_call (codeAny_mono (G.run X.A X.stack s1 H1 ⟨us, []⟩ us vs Q hr gu I1.env0 bd rv q) fun r s2 h2 => ?_)
  cases r with
  | error _ => exact False.elim h2
  | ok fl => cases fl with
    | ret u => exact I1.after h2
    | next => exact False.elim h2
    | brk => exact False.elim h2
    | cont => exact False.elim h2
end
/-! ### promises over data -/
inductive AV where
  | d (x : PyData) | bag | left
def AV.sv : AV → SV
  | .d x => .dat false x
  | .bag => .bag
  | .left => .left
def AvOk (K : PySem.W.Frag) (F : FC) (H : Hp) (v : V) : AV → Prop
  | .d x => Rp K F.P H v x
  | .bag => ∃ a, F.bag = some a ∧ v = .ref a
  | .left => ∃ a, F.left = some a ∧ v = .ref a
abbrev SpD := List AV → (PyData → Prop) → Prop
def spD (K : PySem.W.Frag) (sp : SpD) : Sp := fun vs H Q _ => ∃ (F : FC) (avs : List AV) (Qd : PyData → Prop), StOk K F [] H [] ∧ Paired (AvOk K F H) vs avs ∧ sp avs Qd ∧
  ∀ v d H', Rp K F.P H' v d → StOk K F [] H' [] → (∀ a o, H a = some o → ¬ F.Z a → H' a = some o) → Qd d → Q v H'
def startG (n : Nat) (avs : List AV) : GS := avs.map AV.sv ++ List.replicate (n - avs.length) .un
theorem paired_get {α β : Type} {R : α → β → Prop} : ∀ {xs : List α} {ys : List β}, Paired R xs ys → ∀ {i : Nat} {y : β}, ys[i]? = some y → ∃ x, xs[i]? = some x ∧ R x y
  | _, _, .nil, i, y, e => by simp at e
  | _, _, .cons r t, 0, y, e => by simp at e; subst e; exact ⟨_, rfl, r⟩
  | _, _, .cons r t, i + 1, y, e => by simpa using paired_get t (i := i) (by simpa using e)
theorem paired_length {α β : Type} {R : α → β → Prop} : ∀ {xs : List α} {ys : List β}, Paired R xs ys → xs.length = ys.length
  | _, _, .nil => rfl
  | _, _, .cons _ t => by simp [paired_length t]
theorem startG_get {n : Nat} {avs : List AV} {i : Nat} {s : SV} (h : (startG n avs)[i]? = some s) : s = .un ∨ ∃ a, avs[i]? = some a ∧ s = a.sv := by
  unfold startG at h
  by_cases hi : i < avs.length
  · rw [List.getElem?_append_left (by rw [List.length_map]; exact hi), List.getElem?_map] at h
    cases e : avs[i]? with
    | none => rw [e] at h; cases h
    | some a => rw [e] at h; exact .inr ⟨a, rfl, (Option.some.inj h).symm⟩
  · rw [List.getElem?_append_right (by rw [List.length_map]; omega), List.getElem?_replicate] at h
    split at h
    · exact .inl (Option.some.inj h).symm
    · cases h
theorem start_get {N : List Str} {vs : List V} {i : Nat} {v : V} (h : vs[i]? = some v) : (L2.start N vs)[i]? = some (some v) := by
  unfold L2.start
  have hi : i < vs.length := (List.getElem?_eq_some_iff.mp h).1
  rw [List.getElem?_append_left (by rw [List.length_map]; exact hi), List.getElem?_map, h]; rfl
theorem start_ok {K : PySem.W.Frag} {F : FC} {H : Hp} {N : List Str} {vs : List V} {avs : List AV} (S : StOk K F [] H []) (r : Paired (AvOk K F H) vs avs) : StOk K F (L2.start N vs) H (startG N.length avs) := by
  have hl := paired_length r
  have no : ∀ a, ¬ ownAt (L2.start N vs) (startG N.length avs) a := fun a ⟨i, d, e, _⟩ => by
    rcases startG_get e with z | ⟨av, _, z⟩
    · cases z
    · cases av <;> cases z
  have ow : ∀ a, Own F (L2.start N vs) (startG N.length avs) a → F.P a := fun a q => Or.elim q id fun q => (no a q).elim
  have kp : Keeps (Own F [] []) H (Own F (L2.start N vs) (startG N.length avs)) H := keeps_anti fun a q => .inl (ow a q)
  refine ⟨by unfold L2.start startG; simp [hl], fun i d h => ?_, fun i d h => ?_, fun i j d e a h => ?_, fun i h => ?_, fun i h => ?_, fun a q => ⟨(S.bagOk a q).1, (S.bagOk a q).2.keep kp rfl⟩, S.leftOk, S.apart, S.trk⟩
  · rcases startG_get h with z | ⟨av, e, z⟩
    · cases z
    · cases av with
      | d x => cases z; obtain ⟨v, e1, e2⟩ := paired_get r e; exact ⟨v, start_get e1, Rp.anti e2 ow⟩
      | _ => cases z
  · rcases startG_get h with z | ⟨av, e, z⟩
    · cases z
    · cases av <;> cases z
  · rcases startG_get h with z | ⟨av, e, z⟩
    · cases z
    · cases av <;> cases z
  · rcases startG_get h with z | ⟨av, e, z⟩
    · cases z
    · cases av with
      | bag => obtain ⟨v, e1, a, e2, e3⟩ := paired_get r e; exact ⟨a, e2, by rw [← e3]; exact start_get e1⟩
      | _ => cases z
  · rcases startG_get h with z | ⟨av, e, z⟩
    · cases z
    · cases av with
      | left => obtain ⟨v, e1, a, e2, e3⟩ := paired_get r e; exact ⟨a, e2, by rw [← e3]; exact start_get e1⟩
      | _ => cases z
theorem FC.P_of_nil {F : FC} {a : Addr} (h : Own F [] [] a) : F.P a := Or.elim h id fun q => (own_nil q).elim
/-- a def, by its body over data -/
theorem fnD_of {P : Program} {w : World} {K : PySem.W.Frag} {mg : Str → Option Value} {base : Heap} {x qual : Str} {st : Stmt} {f : Addr} {fd : FuncData} {N ps : List Str} {k : Nat} {sp : SpD} (F : Fun K x qual st f fd) (S : FnScope N ps (defScope st)) (hlen : ∀ avs Q, sp avs Q → avs.length = ps.length)
    (hb : ∀ (cd : Value) (A : Around) (outer : List Env) (s : Shared) (H : Hp), EnvOk (fun _ : Unit => bodyCx P w K mg base N qual (defScope st) f cd A outer s H) P w K mg base k →
      ∃ dt, DXSs (fun _ : Unit => bodyCx P w K mg base N qual (defScope st) f cd A outer s H) K (defBody st) dt ∧ ∀ avs Q, sp avs Q → dt { nx := fun _ => Q .none, rt := Q } (startG N.length avs)) :
    FnG P w K mg base (k + 1) f fd ps (spD K sp) := by
  refine fnG_of F S (fun vs H Q E ⟨F, avs, Qd, _, r, h, _⟩ => (paired_length r).trans (hlen avs Qd h)) fun cd A outer s H vs Q hr gu ⟨Fc, avs, Qd, S0, r, h, kk⟩ => ?_
  obtain ⟨dt, ⟨t, pt, st'⟩, hd⟩ := hb cd A outer s H ⟨fun _ => rfl, fun _ => rfl, fun _ => rfl, fun _ => rfl, fun _ => rfl, fun _ => hr, fun _ => gu, fun _ => rfl⟩
  refine ⟨t, pt (), ?_⟩
  have S1 := start_ok (N := N) S0 r
  have fr : ∀ {σ' : L2.St} {Γ' : GS} {H' : Hp}, PresS Fc (L2.start N vs) (startG N.length avs) H σ' Γ' H' → ∀ a o, H a = some o → ¬ Fc.Z a → H' a = some o := fun p a o e nz => (p.same a o e nz fun ⟨i, d, e, _⟩ => by
    rcases startG_get e with z | ⟨av, _, z⟩
    · cases z
    · cases av <;> cases z).1
  refine st' Fc (L2.start N vs) H (startG N.length avs) _ _ S1 (hd avs Qd h) ⟨fun σ' H' Γ' S' p q => ?_, fun v d H' rv S' p q => ?_, fun σ' H' Γ' S' p q => q.elim, fun σ' H' Γ' S' p q => q.elim⟩
  · exact kk .non .none H' .non S'.nil (fr p) q
  · exact kk v d H' rv S' (fr p) q
/-! ### calls -/
abbrev DTV := GS → (List AV → GS → Prop) → Prop
def SoundV (K : PySem.W.Frag) (t : TA) (dt : DTV) : Prop := ∀ (F : FC) (σ : L2.St) (H : Hp) (Γ : GS) (Q : List AV → GS → Prop) (R : List V → Hp → Prop), StOk K F σ H Γ → dt Γ Q →
  (∀ vs avs H' Γ', Paired (AvOk K { F with P := Own F σ Γ' } H') vs avs → StOk K F σ H' Γ' → PresE F σ Γ H Γ' H' → Q avs Γ' → R vs H') → t σ H R
def DXV {ι : Type} (Xs : ι → Cx) (K : PySem.W.Frag) (es : List Expr) (dt : DTV) : Prop := ∃ t, (∀ i, PA (Xs i) es t) ∧ SoundV K t dt
def SV.av (s : SV) (k : AV → Prop) : Prop := match s with
  | .dat _ d => k (.d d)
  | .bag => k .bag
  | .left => k .left
  | .un => False
def vNil : DTV := fun Γ Q => Q [] Γ
def vCons (d : DT) (r : DTV) : DTV := fun Γ Q => d Γ fun x Γ1 => (x.sv Γ1).av fun a => r (x.frz Γ1) fun as Γ2 => Q (a :: as) Γ2
theorem AvOk.keep {K : PySem.W.Frag} {F : FC} {σ : L2.St} {H H' : Hp} {Γ Γ' : GS} {v : V} {a : AV} (h : AvOk K { F with P := Own F σ Γ } H v a) (k : Keeps (Own F σ Γ) H (Own F σ Γ') H') : AvOk K { F with P := Own F σ Γ' } H' v a := by
  cases a with
  | d x => exact Rp.keep k h
  | bag => exact h
  | left => exact h
theorem OpdOk.av {K : PySem.W.Frag} {F : FC} {σ : L2.St} {H : Hp} {Γ : GS} {v : V} {o : Opd} {k : AV → Prop} (h : OpdOk K F σ H Γ v o) (S : StOk K F σ H Γ) (q : (o.sv Γ).av k) : ∃ a, AvOk K { F with P := Own F σ (o.frz Γ) } H v a ∧ k a := by
  have hd : ∀ {b : Bool} {d : PyData}, o.sv Γ = .dat b d → k (.d d) → ∃ a, AvOk K { F with P := Own F σ (o.frz Γ) } H v a ∧ k a := fun {b d} e kd => by
    obtain ⟨d', r, e'⟩ := h.given S (k := fun x => x = d) (by show (o.sv Γ).wd _; rw [e]; exact rfl)
    subst e'
    exact ⟨.d d', r, kd⟩
  cases e : o.sv Γ with
  | un => rw [e] at q; exact q.elim
  | dat b d => rw [e] at q; exact hd e q
  | bag =>
    rw [e] at q
    cases o with
    | val _ => cases e
    | sl i =>
      obtain ⟨a, e1, e2⟩ := S.bg i (getD_of e (by intro z; cases z))
      have h' : σ[i]? = some (some v) := h
      rw [h'] at e2; cases e2
      exact ⟨.bag, ⟨a, e1, rfl⟩, q⟩
  | left =>
    rw [e] at q
    cases o with
    | val _ => cases e
    | sl i =>
      obtain ⟨a, e1, e2⟩ := S.lf i (getD_of e (by intro z; cases z))
      have h' : σ[i]? = some (some v) := h
      rw [h'] at e2; cases e2
      exact ⟨.left, ⟨a, e1, rfl⟩, q⟩
section
variable {ι : Type} {Xs : ι → Cx} {P : Program} {w : World} {K : PySem.W.Frag} {mg : Str → Option Value} {base : Heap} {k j : Nat} {e : Expr} {es : List Expr} {d : DT} {da : DTV} {pos p : Pos} {x : Str} {f : Addr} {fd : FuncData} {ps : List Str} {sp : SpD}
theorem dxv_nil : DXV Xs K [] vNil := ⟨tNil, fun _ => pa_nil, fun F σ H Γ Q R S h kk => kk [] [] H Γ .nil S .refl h⟩
theorem dxv_cons (a : DX Xs K e d) (r : DXV Xs K es da) (hs : ∀ i, starEach (e :: es) (Xs i).env = (false, eval e (Xs i).env) :: starEach es (Xs i).env := by intro _; rfl) : DXV Xs K (e :: es) (vCons d da) := by
  obtain ⟨ta, pa, sa⟩ := a
  obtain ⟨tr, pr, sr⟩ := r
  refine ⟨tCons ta tr, fun i => pa_cons (pa i) (pr i) (hs i), ?_⟩
  intro F σ H Γ Q R S h kk
  refine sa F σ H Γ _ _ S h fun v o H1 Γ1 ok1 S1 p1 h1 => ?_
  obtain ⟨a1, r1, h2⟩ := ok1.av S1 h1
  have S1' := S1.frz o
  refine sr F σ H1 _ _ _ S1' h2 fun vs as H2 Γ2 ra S2 p2 h3 => ?_
  exact kk (v :: vs) (a1 :: as) H2 Γ2 (.cons (r1.keep (p2.keeps fun a => S1'.zP)) ra) S2 (p1.trans ((PresE.frz o).trans p2)) h3
/-- what a callee sees of the slots -/
theorem StOk.out {F : FC} {σ : L2.St} {H : Hp} {Γ : GS} (S : StOk K F σ H Γ) : StOk K { F with P := Own F σ Γ } [] H [] := by
  have kp : Keeps (Own F σ Γ) H (Own { F with P := Own F σ Γ } [] []) H := keeps_anti fun a q => FC.P_of_nil q
  exact ⟨rfl, fun i d e => by simp at e, fun i d e => by simp at e, fun i j d e a h => by simp at h, fun i e => by simp at e, fun i e => by simp at e,
    fun a q => ⟨.inl (S.bagOk a q).1, (S.bagOk a q).2.keep kp rfl⟩, fun a q => ⟨.inl (S.leftOk a q).1, (S.leftOk a q).2⟩, S.apart, fun a q => S.own_there q⟩
/-- behind a call -/
theorem StOk.again {F : FC} {σ : L2.St} {H H' : Hp} {Γ : GS} (S : StOk K F σ H Γ) (S' : StOk K { F with P := Own F σ Γ } [] H' []) (fr : ∀ a o, H a = some o → ¬ F.Z a → H' a = some o) : StOk K F σ H' Γ ∧ PresE F σ Γ H Γ H' := by
  have nz : ∀ a, ¬ F.P a → ¬ F.Z a := fun a n z => n (S.zP z)
  have kp : Keeps (Own F σ Γ) H (Own F σ Γ) H' := fun a o e n => ⟨fr a o e (nz a fun q => n (.inl q)), n⟩
  have kp2 : Keeps (Own { F with P := Own F σ Γ } [] []) H' (Own F σ Γ) H' := keeps_anti fun a q => .inl q
  refine ⟨⟨S.len, fun i d e => let ⟨v, a, b⟩ := S.sh i d e; ⟨v, a, b.keep kp⟩, fun i d e => ?_, S.inj, S.bg, S.lf, fun a q => ⟨(S.bagOk a q).1, (S'.bagOk a q).2.keep kp2 rfl⟩, fun a q => ⟨(S.leftOk a q).1, (S'.leftOk a q).2⟩, S.apart, fun a q => S'.trk a (.inl q)⟩,
    ⟨fun a o e n _ => fr a o e n, fun _ q => q, fun a o e => ?_⟩⟩
  · obtain ⟨a, b, c, g⟩ := S.ow i d e
    obtain ⟨u, q⟩ := g.there
    exact ⟨a, b, c, g.keep kp (by rw [q]; exact fr a u q (nz a c))⟩
  · by_cases z : F.Z a
    · exact S'.trk a (.inl (S.zP z))
    · exact ⟨o, fr a o e z⟩
def dCall (sp : SpD) (da : DTV) : DT := fun Γ Q => da Γ fun avs Γ1 => sp avs fun d => Q (.val d) Γ1
theorem dx_call (E : EnvOk Xs P w K mg base k) (G : FnG P w K mg base j f fd ps (spD K sp)) (hjk : j ≤ k) (hm : mg x = some (.ref f)) (hk : PySem.W.keepIn K (.ref f) = true) (hb : Binds K fd ps []) (ha : DXV Xs K (e :: es) da) (hg : ∀ i, Gl (Xs i) x := by intro _; rfl)
    (hdb : (x == ("__debug__" : Str)) = false := by decide) (he : ∀ i, starEach (e :: es) (Xs i).env = (false, eval e (Xs i).env) :: starEach es (Xs i).env := by intro _; rfl) (hpl : ∀ i, (backTo pos (starEach es (Xs i).env)).any (·.1) = false := by intro _; rfl) :
    DX Xs K (.Call (.Name x p) (e :: es) [] pos) (dCall sp da) := by
  obtain ⟨t, pa, s⟩ := ha
  refine ⟨fun σ H Q => t σ H fun vs H1 => spD K sp vs H1 Q E0, fun i => ?_, ?_⟩
  · have e1 := E.prog i; have e2 := E.w i; have e3 := E.K i; have e4 := E.mg i; have e5 := E.base i
    have G' : FnG (Xs i).prog (Xs i).w (Xs i).K (Xs i).mg (Xs i).base k f fd ps (spD (Xs i).K sp) := by rw [e1, e2, e3, e4, e5]; exact G.mono hjk
    have r := pe_callG G' (E.room i) (E.guards i) (hg i) (by rw [e4]; exact hm) (by rw [e3]; exact hk) (by rw [e3]; exact hb) (pa i) (p := p) (pos := pos) hdb (he i) (hpl i)
    rw [e3] at r
    exact r
  intro F σ H Γ Q R S h kk
  refine s F σ H Γ _ _ S h fun vs avs H1 Γ1 ra S1 p1 h1 => ?_
  refine ⟨{ F with P := Own F σ Γ1 }, avs, _, S1.out, ra, h1, fun v d H' rv S' fr q => ?_⟩
  obtain ⟨S2, p2⟩ := S1.again S' fr
  exact kk v (.val d) H' Γ1 rv S2 (p1.trans p2) q
end
end DL
end
section
set_option autoImplicit false
set_option linter.all false
set_option maxRecDepth 100000
set_option maxHeartbeats 4000000
namespace DL
open PySem PySem.Spec L2
/-- a def of the module that stands under its name -/
structure DefOk (K : PySem.W.Frag) (mg : Str → Option Value) (x : Str) (st : Stmt) (ps : List Str) : Prop where
  ex : ∃ (f : Addr) (fd : FuncData), Fun K x x st f fd ∧ mg x = some (.ref f) ∧ Binds K fd ps []
/-- .. and keeps a promise over data -/
structure FnB (P : Program) (w : World) (K : PySem.W.Frag) (mg : Str → Option Value) (base : Heap) (k : Nat) (x : Str) (ps : List Str) (sp : SpD) : Prop where
  ex : ∃ (f : Addr) (fd : FuncData), FnG P w K mg base k f fd ps (spD K sp) ∧ mg x = some (.ref f) ∧ PySem.W.keepIn K (.ref f) = true ∧ Binds K fd ps []
section
variable {P : Program} {w : World} {K : PySem.W.Frag} {mg : Str → Option Value} {base : Heap} {k j : Nat} {x : Str} {ps N : List Str} {sp sp' : SpD} {st : Stmt}
theorem FnB.mono (B : FnB P w K mg base j x ps sp) (h : j ≤ k) : FnB P w K mg base k x ps sp := by
  obtain ⟨f, fd, a, b, c, d⟩ := B.ex
  exact ⟨f, fd, a.mono h, b, c, d⟩
theorem FnB.imp (B : FnB P w K mg base k x ps sp) (h : ∀ avs Q, sp' avs Q → sp avs Q) : FnB P w K mg base k x ps sp' := by
  obtain ⟨f, fd, a, b, c, d⟩ := B.ex
  exact ⟨f, fd, a.imp fun vs H Q E ⟨F, avs, Qd, s0, r, q, kk⟩ => ⟨F, avs, Qd, s0, r, h _ _ q, kk⟩, b, c, d⟩
theorem fnB_of (D : DefOk K mg x st ps) (S : FnScope N ps (defScope st)) (hlen : ∀ avs Q, sp avs Q → avs.length = ps.length)
    (hb : ∀ (f : Addr) (cd : Value) (A : Around) (outer : List Env) (s : Shared) (H : Hp), EnvOk (fun _ : Unit => bodyCx P w K mg base N x (defScope st) f cd A outer s H) P w K mg base k →
      ∃ dt, DXSs (fun _ : Unit => bodyCx P w K mg base N x (defScope st) f cd A outer s H) K (defBody st) dt ∧ ∀ avs Q, sp avs Q → dt { nx := fun _ => Q .none, rt := Q } (startG N.length avs)) :
    FnB P w K mg base (k + 1) x ps sp := by
  obtain ⟨f, fd, a, b, c⟩ := D.ex
  exact ⟨f, fd, fnD_of a S hlen (hb f), b, a.kp, c⟩
end
section
variable {ι : Type} {Xs : ι → Cx} {P : Program} {w : World} {K : PySem.W.Frag} {mg : Str → Option Value} {base : Heap} {k j : Nat} {e a b c : Expr} {es : List Expr} {d : DT} {da : DTV} {pos p : Pos} {x : Str} {ps : List Str} {sp : SpD}
theorem dx_callb (E : EnvOk Xs P w K mg base k) (B : FnB P w K mg base j x ps sp) (hjk : j ≤ k) (ha : DXV Xs K (e :: es) da) (hg : ∀ i, Gl (Xs i) x := by intro _; rfl)
    (hdb : (x == ("__debug__" : Str)) = false := by decide) (he : ∀ i, starEach (e :: es) (Xs i).env = (false, eval e (Xs i).env) :: starEach es (Xs i).env := by intro _; rfl) (hpl : ∀ i, (backTo pos (starEach es (Xs i).env)).any (·.1) = false := by intro _; rfl) :
    DX Xs K (.Call (.Name x p) (e :: es) [] pos) (dCall sp da) := by
  obtain ⟨f, fd, g, hm, hk, hb⟩ := B.ex
  exact dx_call E g hjk hm hk hb ha hg hdb he hpl
/-- -e -/
def dNeg (d : DT) : DT := fun Γ Q => d Γ fun x Γ1 => x.wd Γ1 fun v => match v with
  | .int i => Q (.val (.int (-i))) Γ1
  | _ => False
theorem dx_neg (h : DX Xs K a d) : DX Xs K (.UnaryOp .USub a pos) (dNeg d) := by
  obtain ⟨t, p, s⟩ := h
  refine ⟨tUn (rU fun i => .int (-i)) t, fun i => pe_un un_neg (p i), ?_⟩
  intro F σ H Γ Q R S h kk
  refine s F σ H Γ _ _ S h fun v o H1 Γ1 ok1 S1 p1 h1 => ?_
  obtain ⟨d1, r1, h2⟩ := ok1.rep S1 h1
  cases d1 with
  | int i => obtain rfl := r1.int; exact ⟨i, rfl, kk _ (.val (.int (-i))) H1 Γ1 (.int _) S1 p1 h2⟩
  | _ => exact h2.elim
/-! ### several names at once -/
theorem keeps_put {F : FC} {σ : L2.St} {H : Hp} {Γ : GS} (S : StOk K F σ H Γ) (i : Nat) (v : V) (d : PyData) : Keeps (Own F σ Γ) H (Own F (σ.set i (some v)) (Γ.set i (SV.dat false d))) H := keeps_anti fun a q => Or.imp id (own_put S.len) q
variable {da2 : DTA}
def dPar (i j : Nat) (da : DTA) : DTS := fun D Γ => da Γ fun as Γ1 => match as with
  | [u, v] => D.nx ((Γ1.set i (SV.dat false u)).set j (SV.dat false v))
  | _ => False
theorem ds_par (i j : Nat) {x y : Str} {px py pt : Pos} {kt k2 pt2} (E : EnvOk Xs P w K mg base k) (hn : ∀ i, (Xs i).N.Nodup) (ha : DXA Xs K [a, b] da2) (hi : ∀ z, (Xs z).N[i]? = some x := by intro _; rfl) (hj : ∀ z, (Xs z).N[j]? = some y := by intro _; rfl) (hij : i ≠ j := by decide)
    (hx : ∀ z, (Xs z).env.scope.names.lookup x = some .local := by intro _; rfl) (hy : ∀ z, (Xs z).env.scope.names.lookup y = some .local := by intro _; rfl)
    (hw : ∀ z, swappedStores [.Tuple [.Name x px, .Name y py] kt pt] (.Tuple [a, b] k2 pt2) (Xs z).env = pure (some [x, y]) := by intro _; rfl)
    (hs : ∀ z, swapsWithSole [.Tuple [.Name x px, .Name y py] kt pt] (.Tuple [a, b] k2 pt2) pos.line (Xs z).env = pure false := by intro _; rfl) :
    DXS Xs K (.Assign [.Tuple [.Name x px, .Name y py] kt pt] (.Tuple [a, b] k2 pt2) pos) (dPar i j da2) := by
  obtain ⟨t, pa, s⟩ := ha
  refine ⟨tPar i j t, fun z => ps_par (E.calm z) (hn z) (hi z) (hj z) hij (hx z) (hy z) (pa z) (hw z) (hs z), ?_⟩
  intro F σ H Γ D Ee S h ee
  refine s F σ H Γ _ _ S h fun vs ds H1 Γ1 ra S1 p1 h1 => ?_
  split at h1
  · cases ra with | cons r1 r2 => cases r2 with | cons r3 r4 =>
      cases r4
      have S2 := S1.put i r1
      have kp := fun v d => keeps_put S1 i v d
      have S3 := S2.put j (r3.keep (kp _ _))
      exact ⟨_, _, rfl, ee.nx _ H1 _ S3 ((p1.s.trans (PresS.own fun a q => own_put S1.len q)).trans (PresS.own fun a q => own_put S2.len q)) h1⟩
  · exact h1.elim
def dPar3 (i j l : Nat) (da : DTA) : DTS := fun D Γ => da Γ fun as Γ1 => match as with
  | [u, v, z] => D.nx (((Γ1.set i (SV.dat false u)).set j (SV.dat false v)).set l (SV.dat false z))
  | _ => False
theorem ds_par3 (i j l : Nat) {x y z : Str} {px py pz pt : Pos} {kt k2 pt2} (E : EnvOk Xs P w K mg base k) (hn : ∀ i, (Xs i).N.Nodup) (ha : DXA Xs K [a, b, c] da2) (hi : ∀ z, (Xs z).N[i]? = some x := by intro _; rfl) (hj : ∀ z, (Xs z).N[j]? = some y := by intro _; rfl) (hl : ∀ w, (Xs w).N[l]? = some z := by intro _; rfl)
    (hij : i ≠ j := by decide) (hil : i ≠ l := by decide) (hjl : j ≠ l := by decide)
    (hx : ∀ w, (Xs w).env.scope.names.lookup x = some .local := by intro _; rfl) (hy : ∀ w, (Xs w).env.scope.names.lookup y = some .local := by intro _; rfl) (hz : ∀ w, (Xs w).env.scope.names.lookup z = some .local := by intro _; rfl)
    (hw : ∀ w, swappedStores [.Tuple [.Name x px, .Name y py, .Name z pz] kt pt] (.Tuple [a, b, c] k2 pt2) (Xs w).env = pure (some [x, y, z]) := by intro _; rfl)
    (hs : ∀ w, swapsWithSole [.Tuple [.Name x px, .Name y py, .Name z pz] kt pt] (.Tuple [a, b, c] k2 pt2) pos.line (Xs w).env = pure false := by intro _; rfl) :
    DXS Xs K (.Assign [.Tuple [.Name x px, .Name y py, .Name z pz] kt pt] (.Tuple [a, b, c] k2 pt2) pos) (dPar3 i j l da2) := by
  obtain ⟨t, pa, s⟩ := ha
  refine ⟨tPar3 i j l t, fun w => ps_par3 (E.calm w) (hn w) (hi w) (hj w) (hl w) hij hil hjl (hx w) (hy w) (hz w) (pa w) (hw w) (hs w), ?_⟩
  intro F σ H Γ D Ee S h ee
  refine s F σ H Γ _ _ S h fun vs ds H1 Γ1 ra S1 p1 h1 => ?_
  split at h1
  · cases ra with | cons r1 r2 => cases r2 with | cons r3 r4 => cases r4 with | cons r5 r6 =>
      cases r6
      have S2 := S1.put i r1
      have kp := fun v d => keeps_put S1 i v d
      have S3 := S2.put j (r3.keep (kp _ _))
      have S4 := S3.put l ((r5.keep (kp _ _)).keep (keeps_put S2 j _ _))
      exact ⟨_, _, _, rfl, ee.nx _ H1 _ S4 (((p1.s.trans (PresS.own fun a q => own_put S1.len q)).trans (PresS.own fun a q => own_put S2.len q)).trans (PresS.own fun a q => own_put S3.len q)) h1⟩
  · exact h1.elim
end
/-! ### texts of data -/
section
variable {X : Cx} {pins : List (Addr × Obj)} {σ : L2.St} {H : Hp} {s : Shared}
def fRepr : F1 := fun d Q => (d.showable = true ∧ d.hasDict = false ∧ d.depth ≤ 60 ∧ d.shown.length ≤ sizeLine) ∧ Q (.str d.shown)
def rRepr (K : PySem.W.Frag) : List V → Hp → VK → Prop := fun xs H Q => ∃ v d, xs = [v] ∧ Dp K H v d ∧ (d.showable = true ∧ d.hasDict = false ∧ d.depth ≤ 60 ∧ d.shown.length ≤ sizeLine) ∧ Q (.str d.shown) H
theorem call_repr (hr : ∃ k, Room k X.A) (gu : X.A.guards = some []) : CallR X (.builtin "repr") (rRepr X.K) := by
  intro pins s σ H xs us Q I r h
  obtain ⟨v, d, rfl, dp, ⟨h1, h2, h3, h4⟩, q⟩ := h
  obtain ⟨u, rfl, ru⟩ := r.one
  obtain ⟨k, hr⟩ := hr
  have hu := hr.units
  obtain ⟨as, rd⟩ := Dp.reads I d v u dp ru
  have ob : ∀ a, u = .ref a → wpAny (model X.prog X.w) X.A (call (.builtin "repr") [u]) (EP X pins σ Q) X.xe s := fun a e => by
    subst e
    refine repr_of_reads' rd h1 (PyData.noDict_hsm h2) gu (by omega) (fun _ _ e => e) (fun h' t tk hk => ?_) h4
    exact ⟨.str d.shown, H, I.kept hk, ⟨_, rfl⟩, q⟩
  cases rd with
  | none => exact PySem.P.repr_of_none ⟨.str _, H, I.tok _, ⟨_, rfl⟩, q⟩
  | bool b => exact PySem.P.repr_of_bool ⟨.str _, H, I.tok _, ⟨_, rfl⟩, q⟩
  | int i t => exact PySem.P.repr_of_int (by simpa [PyData.showable] using h1) ⟨.str _, H, I.tok _, ⟨_, rfl⟩, q⟩
  | str x t => exact PySem.P.repr_of_str ⟨.str _, H, I.tok _, ⟨_, rfl⟩, q⟩ h4
  | list a b c d => exact ob _ rfl
  | tuple a b c d => exact ob _ rfl
  | dict a b c d e => exact ob _ rfl
theorem cs_repr (K : PySem.W.Frag) : Call1S K (rRepr K) fRepr := by
  intro O H v d Qd R hO r h kk
  exact ⟨v, d, rfl, r.dp h.1.2.1, h.1, kk _ _ H (Same.refl H) (.str _) h.2⟩
end
theorem boot_repr : bootBuiltins "repr" = some (.builtin "repr") := by decide +kernel
theorem boot_isinst : bootBuiltins "isinstance" = some (.builtin "isinstance") := by decide +kernel
theorem boot_all : bootBuiltins "all" = some (.builtin "all") := by decide +kernel
theorem boot_any : bootBuiltins "any" = some (.builtin "any") := by decide +kernel
theorem boot_lenD : bootBuiltins "len" = some (.builtin "len") := by decide +kernel
theorem boot_tuple : bootBuiltins "tuple" = some (.type "tuple") := by decide +kernel
theorem boot_listT : bootBuiltins "list" = some (.type "list") := by decide +kernel
theorem boot_intT : bootBuiltins "int" = some (.type "int") := by decide +kernel
theorem boot_strT : bootBuiltins "str" = some (.type "str") := by decide +kernel
theorem boot_boolT : bootBuiltins "bool" = some (.type "bool") := by decide +kernel
/-! ### sep.join(list of texts) -/
def strsD : List PyData → Option (List Str)
  | [] => some []
  | .str b :: r => (strsD r).map (b :: ·)
  | _ :: _ => none
theorem RpA.strs {K : PySem.W.Frag} {O : Prot} {H : Hp} {xs : List V} {ds : List PyData} (r : RpA K O H xs ds) {bs : List Str} (e : strsD ds = some bs) : xs = bs.map V.str := by
  induction ds generalizing xs bs with
  | nil => cases r; cases e; rfl
  | cons d ds ih =>
    cases r with
    | cons a b =>
      cases d with
      | str z =>
        cases a
        unfold strsD at e
        obtain ⟨bs', e1, e2⟩ := Option.map_eq_some_iff.mp e
        subst e2
        rw [ih b e1]; rfl
      | _ => cases e
def fJoin (a : Str) : F1 := fun d Q => match d with
  | .list ds => match strsD ds with
    | some ys => (ys.map (·.length)).sum + ys.length * a.length ≤ 16777216 ∧ Q (.str (Txt.join a ys))
    | none => False
  | _ => False
def rJoin (K : PySem.W.Frag) : V → List V → Hp → VK → Prop := fun x xs H Q => ∃ a p, ∃ ys : List Str, x = .str a ∧ xs = [.ref p] ∧ (SqL K H p (ys.map V.str) ∨ SqT K H p (ys.map V.str)) ∧
    (ys.map (·.length)).sum + ys.length * a.length ≤ 16777216 ∧ Q (.str (Txt.join a ys)) H
section
variable {ι : Type} {Xs : ι → Cx} {P : Program} {w : World} {K : PySem.W.Frag} {mg : Str → Option Value} {base : Heap} {k : Nat} {e : Expr} {d : DT} {pos p apos : Pos} {n : Nat}
theorem dx_join {a : Str} (E : EnvOk Xs P w K mg base k) (h : DX Xs K e d) (hbase : ∀ i, attributeBase (.Constant (.str a) n p) "join" (Xs i).env (eval (.Constant (.str a) n p) (Xs i).env) = eval (.Constant (.str a) n p) (Xs i).env := by intro _; rfl)
    (hs : ∀ i, starEach [e] (Xs i).env = [(false, eval e (Xs i).env)] := by intro _; rfl) (hline : (apos.endLine == pos.line) = true := by rfl) : DX Xs K (.Call (.Attribute (.Constant (.str a) n p) "join" apos) [e] [] pos) (dC1 (fJoin a) d) := by
  obtain ⟨t, pa, s⟩ := h
  refine ⟨tM1 (rJoin K) (tC (.str a)) t, fun i => ?_, ?_⟩
  · rw [← E.K i]
    exact pe_m1 PySem.F.slot_str_join PySem.F.type_str_join mt_join pe_str (pa i) (hs i) (hbase i) hline
  intro F σ H Γ Q R S h kk
  refine ⟨⟨a, rfl⟩, ?_⟩
  refine s F σ H Γ _ _ S h fun v o H1 Γ1 ok1 S1 p1 h1 => ?_
  obtain ⟨d1, r1, h2⟩ := ok1.rep S1 h1
  unfold fJoin at h2
  split at h2
  · split at h2
    · rename_i ys e1
      obtain ⟨q, xs, rfl, hq, rq⟩ := r1.lst
      have e3 := rq.strs e1
      subst e3
      exact ⟨a, q, ys, rfl, rfl, .inl (.of hq), h2.1, kk _ (.val (.str (Txt.join a ys))) H1 Γ1 (.str _) S1 p1 h2.2⟩
    · exact h2.elim
  · exact h2.elim
end
end DL
end
section
set_option autoImplicit false
set_option linter.all false
set_option maxRecDepth 100000
set_option maxHeartbeats 4000000
/-! list(zip(xs, ys)): a walk that keeps what each tuple holds -/
namespace DL
open PySem PySem.Spec L2
section
variable {P : Program} {w : World}
structure ZAd where
  z : Addr
  TI : Addr
  TO : Addr
  i1 : Addr
  i2 : Addr
  l1 : Addr
  l2 : Addr
abbrev ZAd.moves (q : ZAd) (c : Addr) : Prop := c = q.z ∨ c = q.TO ∨ c = q.i1 ∨ c = q.i2
def ZSt (q : ZAd) (xs ys : Array Value) (S : Addr) (i : Nat) (g : Heap) : Prop :=
  (IsPair g q.TI (.ref q.i1) (.ref q.i2) ∧ ∃ o, g.get? q.TO = some o) ∧ g.IsListIter q.i1 q.l1 i ∧ g.IsListIter q.i2 q.l2 i ∧ g.IsList q.l1 xs ∧ g.IsList q.l2 ys ∧
    ((IsZip g q.z q.TI q.TO .none ∧ ∃ a b, IsPair g q.TO a b) ∨ ∃ T f ob, IsZipHeld g q.z q.TI q.TO T f ∧ g.get? T = some ob ∧ ¬ q.moves T ∧ T ≠ S)
/-- the tuples that have been made: told apart, all behind n0 -/
def ZGot (q : ZAd) (n0 : Nat) (xs ys : Array Value) (S : Addr) (g : Heap) (acc : Array Value) : Prop :=
  ∃ ts : List Addr, acc.toList = ts.map Value.ref ∧ ts.Nodup ∧ ∀ (j : Nat) (T : Addr), ts[j]? = some T → ∃ x y, IsPair g T x y ∧ xs[j]? = some x ∧ ys[j]? = some y ∧ ¬ q.moves T ∧ T ≠ S ∧ n0 ≤ T
theorem ZGot.go {q : ZAd} {n0 : Nat} {xs ys acc : Array Value} {S : Addr} {g g' : Heap} (h : ZGot q n0 xs ys S g acc) (k : ∀ c o, ¬ q.moves c → c ≠ S → g.get? c = some o → g'.get? c = some o) : ZGot q n0 xs ys S g' acc := by
  obtain ⟨ts, e1, nd, al⟩ := h
  refine ⟨ts, e1, nd, fun j T e => ?_⟩
  obtain ⟨x, y, e2, e3, e4, e5, e6, e7⟩ := al j T e
  exact ⟨x, y, k T _ e5 e6 e2, e3, e4, e5, e6, e7⟩
theorem ZGot.push {q : ZAd} {n0 : Nat} {xs ys acc : Array Value} {S T : Addr} {g g' : Heap} {x y : Value} (h : ZGot q n0 xs ys S g acc) (k : ∀ c o, ¬ q.moves c → c ≠ S → g.get? c = some o → g'.get? c = some o) (ge : g.objs.size ≤ T) (hT : IsPair g' T x y) (hx : xs[acc.size]? = some x) (hy : ys[acc.size]? = some y) (n1 : ¬ q.moves T) (n2 : T ≠ S) (n3 : n0 ≤ T) : ZGot q n0 xs ys S g' (acc.push (.ref T)) := by
  obtain ⟨ts, e1, nd, al⟩ := h
  have el : ts.length = acc.size := by rw [← Array.length_toList, e1, List.length_map]
  refine ⟨ts ++ [T], by rw [Array.toList_push, e1]; simp, ?_, fun j U e => ?_⟩
  · rw [List.nodup_append]
    refine ⟨nd, by simp, fun a ha b hb => ?_⟩
    rw [List.mem_singleton] at hb
    subst hb
    obtain ⟨j, hj⟩ := List.getElem?_of_mem ha
    obtain ⟨_, _, p, _⟩ := al j a hj
    exact Nat.ne_of_lt (Nat.lt_of_lt_of_le (Heap.lt_size p) ge)
  · by_cases hj : j < ts.length
    · rw [List.getElem?_append_left hj] at e
      obtain ⟨x', y', e2, e3, e4, e5, e6, e7⟩ := al j U e
      exact ⟨x', y', k U _ e5 e6 e2, e3, e4, e5, e6, e7⟩
    · rw [List.getElem?_append_right (by omega)] at e
      have : j - ts.length = 0 := by
        rcases Nat.eq_zero_or_pos (j - ts.length) with z | z
        · exact z
        · rw [List.getElem?_eq_none (by simp; omega)] at e; cases e
      rw [this] at e
      cases e
      have ej : j = acc.size := by omega
      subst ej
      exact ⟨x, y, hT, hx, hy, n1, n2, n3⟩
def noS (q : ZAd) (S : Addr) : Prop := S ≠ q.z ∧ S ≠ q.TI ∧ S ≠ q.TO ∧ S ≠ q.i1 ∧ S ≠ q.i2 ∧ S ≠ q.l1 ∧ S ≠ q.l2
theorem noS.off {q : ZAd} {S : Addr} (h : noS q S) : ¬ q.moves S := by
  obtain ⟨b1, b2, b3, b4, b5, b6, b7⟩ := h
  rintro (e | e | e | e)
  · exact b1 e
  · exact b3 e
  · exact b4 e
  · exact b5 e
theorem zst_frame {q : ZAd} {xs ys : Array Value} {i : Nat} {g g' : Heap} {S : Addr} (hS : noS q S) (h : ZSt q xs ys S i g)
    (k : ∀ c o, c ≠ S → g.get? c = some o → g'.get? c = some o) : ZSt q xs ys S i g' := by
  obtain ⟨⟨a1, o, a0⟩, a2, a3, a4, a5, a6⟩ := h
  obtain ⟨b1, b2, b3, b4, b5, b6, b7⟩ := hS
  refine ⟨⟨k _ _ b2.symm a1, o, k _ _ b3.symm a0⟩, a2.at fun o e => k _ o b4.symm e, a3.at fun o e => k _ o b5.symm e, a4.at fun o e => k _ o b6.symm e, a5.at fun o e => k _ o b7.symm e, ?_⟩
  rcases a6 with ⟨c1, u, v, c2⟩ | ⟨T, f, ob, c1, c2, c3, c4⟩
  · exact .inl ⟨k _ _ b1.symm c1, u, v, k _ _ b3.symm c2⟩
  · exact .inr ⟨T, f, ob, k _ _ b1.symm c1, k _ _ c4 c2, c3, c4⟩
variable {A : Around} {q : ZAd} {xs ys : Array Value} {R : Result → Shared → Prop}
/-- one draw -/
theorem z_draw {s : Shared} {i : Nat} {Ee : Value → Shared → Prop} {Q : Option Value → Shared → Prop} (D : ZipApart q.z q.TI q.TO q.i1 q.i2 q.l1 q.l2) (S : Addr) (hSl : S < s.heap.objs.size) (hlt : i < min xs.size ys.size) (st : ZSt q xs ys S i s.heap)
    (hQ : ∀ g T x y, ZSt q xs ys S (i + 1) g → IsPair g T x y → xs[i]? = some x → ys[i]? = some y → ¬ q.moves T → T ≠ S → T = s.heap.objs.size → s.heap.objs.size ≤ g.objs.size → (∀ c o, ¬ q.moves c → s.heap.get? c = some o → g.get? c = some o) → Q (some (.ref T)) { s with heap := g }) :
    wpAny (model P w) A (pyNext (.ref q.z)) Q Ee s := by
  obtain ⟨⟨a1, ot, a0⟩, a2, a3, a4, a5, a6⟩ := st
  have ex := Array.getElem?_eq_getElem (Nat.lt_of_lt_of_le hlt (Nat.min_le_left ..))
  have ey := Array.getElem?_eq_getElem (Nat.lt_of_lt_of_le hlt (Nat.min_le_right ..))
  have fresh : ∀ {c o}, s.heap.get? c = some o → s.heap.objs.size ≠ c := fun e => Nat.ne_of_gt (Heap.lt_size e)
  have f1 : s.heap.objs.size ≠ q.i1 := let ⟨_, e, _⟩ := a2; fresh e
  have f2 : s.heap.objs.size ≠ q.i2 := let ⟨_, e, _⟩ := a3; fresh e
  have fS : s.heap.objs.size ≠ S := Nat.ne_of_gt hSl
  rcases a6 with ⟨c1, u, v, c2⟩ | ⟨T, f, ob, c1, c2, c3, c4⟩
  · refine wpAny_pyNext_zip_item D c1 a1 c2 a2 a3 a4 a5 ex ey fun g b1 b2 b3 b4 b5 bs kp => ?_
    have nm : ¬ q.moves s.heap.objs.size := by
      rintro (e | e | e | e)
      · exact fresh c1 e
      · exact fresh c2 e
      · exact f1 e
      · exact f2 e
    exact hQ g s.heap.objs.size _ _ ⟨⟨kp _ _ D.TIz D.TITO D.TIi1 D.TIi2 a1, _, b2⟩, b3, b4, a4.at fun o e => kp _ o D.l1z D.l1TO D.l1i1 D.l1i2 e, a5.at fun o e => kp _ o D.l2z D.l2TO D.l2i1 D.l2i2 e, .inr ⟨s.heap.objs.size, false, _, b1, b5, nm, fS⟩⟩ b5 ex ey nm fS rfl (by rw [bs]; exact Nat.le_succ _)
      fun c o hc e => kp c o (fun z => hc (.inl z)) (fun z => hc (.inr (.inl z))) (fun z => hc (.inr (.inr (.inl z)))) (fun z => hc (.inr (.inr (.inr z)))) e
  · refine wpAny_pyNext_zip_item_held D c1 c2 a1 a2 a3 a4 a5 ex ey fun g b1 b3 b4 b5 bs kp => ?_
    have nm : ¬ q.moves s.heap.objs.size := by
      rintro (e | e | e | e)
      · exact fresh c1 e
      · exact fresh a0 e
      · exact f1 e
      · exact f2 e
    exact hQ g s.heap.objs.size _ _ ⟨⟨kp _ _ D.TIz D.TIi1 D.TIi2 a1, _, kp _ _ D.TOz D.TOi1 D.TOi2 a0⟩, b3, b4, a4.at fun o e => kp _ o D.l1z D.l1i1 D.l1i2 e, a5.at fun o e => kp _ o D.l2z D.l2i1 D.l2i2 e,
      .inr ⟨T, true, ob, b1, kp _ _ (fun z => c3 (.inl z)) (fun z => c3 (.inr (.inr (.inl z)))) (fun z => c3 (.inr (.inr (.inr z)))) c2, c3, c4⟩⟩ b5 ex ey nm fS rfl (by rw [bs]; exact Nat.le_succ _)
      fun c o hc e => kp c o (fun z => hc (.inl z)) (fun z => hc (.inr (.inr (.inl z)))) (fun z => hc (.inr (.inr (.inr z)))) e
theorem z_end {s : Shared} {i : Nat} {Ee : Value → Shared → Prop} {Q : Option Value → Shared → Prop} (noExc : A.handled = none) (D : ZipApart q.z q.TI q.TO q.i1 q.i2 q.l1 q.l2) (S : Addr) (hge : min xs.size ys.size ≤ i) (st : ZSt q xs ys S i s.heap)
    (hQ : ∀ g, (∀ c o, ¬ q.moves c → s.heap.get? c = some o → g.get? c = some o) → Q none { s with heap := g }) : wpAny (model P w) A (pyNext (.ref q.z)) Q Ee s := by
  obtain ⟨⟨a1, ot, a0⟩, a2, a3, a4, a5, a6⟩ := st
  have stop : xs[i]? = none ∨ ys[i]? = none := by
    rcases Nat.le_total xs.size ys.size with le | le
    · exact .inl (Array.getElem?_eq_none (by rw [Nat.min_eq_left le] at hge; exact hge))
    · exact .inr (Array.getElem?_eq_none (by rw [Nat.min_eq_right le] at hge; exact hge))
  rcases a6 with ⟨c1, u, v, c2⟩ | ⟨T, f, ob, c1, c2, c3, c4⟩
  · exact wpAny_pyNext_zip_end noExc D c1 a1 c2 a2 a3 a4 a5 stop fun g kp => hQ g fun c o hc e => kp c o (fun z => hc (.inl z)) (fun z => hc (.inr (.inl z))) (fun z => hc (.inr (.inr (.inl z)))) (fun z => hc (.inr (.inr (.inr z)))) e
  · exact wpAny_pyNext_zip_end_held noExc D c1 c2 a1 a2 a3 a4 a5 stop fun g kp => hQ g fun c o hc e => kp c o (fun z => hc (.inl z)) (fun z => hc (.inr (.inr (.inl z)))) (fun z => hc (.inr (.inr (.inr z)))) e
abbrev lstOb (a : Array Value) (c : Nat) : Obj := { cls := .type "list", dict := none, data := .seq a c, slots := #[] }
/-- the rest of the walk, from the list being built -/
theorem z_loop (noExc : A.in1.handled = none) (D : ZipApart q.z q.TI q.TO q.i1 q.i2 q.l1 q.l2) (S : Addr) (hS : noS q S) (few : min xs.size ys.size ≤ sizeLine) (res : Value) (g0 : Heap) (n0 : Nat) :
    ∀ (m i : Nat) (s : Shared) (acc : Array Value) (c : Nat), min xs.size ys.size - i = m → i ≤ min xs.size ys.size → ZSt q xs ys S i s.heap → s.heap.get? S = some (lstOb acc c) → acc.size = i → ZGot q n0 xs ys S s.heap acc → n0 ≤ s.heap.objs.size →
      (∀ b o, ¬ q.moves b → b ≠ S → g0.get? b = some o → s.heap.get? b = some o) →
      (∀ g acc' c', (∀ b o, ¬ q.moves b → b ≠ S → g0.get? b = some o → g.get? b = some o) → g.get? S = some (lstOb acc' c') → acc'.size = min xs.size ys.size → ZGot q n0 xs ys S g acc' → R (.ok (.ret res)) { s with heap := g }) →
      codeAny (model P w) A (.builtin "list.extend.loop" ⟨[.ref S, .ref q.z, res], []⟩) R s := by
  intro m
  induction m with
  | zero =>
    intro i s acc c em le st atS sz got big kp0 fin
    refine codeAny_builtin F.entry_extend_loop ?_
    rw [Around.under_plainId F.plain_extend_loop _]
    show wpAny _ A.in1 (pyNext (.ref q.z) >>= _) _ _ s
    refine wpAny_bind (z_end noExc D S (by omega) st fun g kp => wpAny_pure ?_)
    exact fin g acc c (fun b o nb bS e => kp b o nb (kp0 b o nb bS e)) (kp S _ hS.off atS) (by omega) (got.go fun b o nb _ e => kp b o nb e)
  | succ m ih =>
    intro i s acc c em le st atS sz got big kp0 fin
    refine codeAny_builtin F.entry_extend_loop ?_
    rw [Around.under_plainId F.plain_extend_loop _]
    show wpAny _ A.in1 (pyNext (.ref q.z) >>= _) _ _ s
    refine wpAny_bind (z_draw D S (Heap.lt_size atS) (by omega) st fun g T x y st2 hT ex ey nm nS eT grown kp => ?_)
    have atS2 := kp S _ hS.off atS
    show wpAny _ A.in1 (updateSeq S (·.push (.ref T)) >>= _) _ _ _
    refine wpAny_bind (wpAny_updateSeq (s := { s with heap := g }) atS2 rfl (wpAny_pure ⟨plainId_quiet F.plain_extend_loop _, ?_⟩) (by rw [sz]; omega) (by show (acc.push _).size ≤ sizeLine + 1; rw [Array.size_push]; omega))
    have other : ∀ b o, b ≠ S → g.get? b = some o → (g.update S (Obj.mapSeq (·.push (.ref T)))).get? b = some o := fun b o nb e => (Heap.get?_update_other _ _ (Ne.symm nb)).trans e
    refine ih (i + 1) _ (acc.push (.ref T)) _ (by omega) (by omega) (zst_frame hS st2 other) (Heap.get?_update_self _ atS2 rfl) (by rw [Array.size_push, sz]) ?_ (by rw [Heap.size_update]; exact Nat.le_trans big grown) (fun b o nb bS e => other b o bS (kp b o nb (kp0 b o nb bS e))) fun g2 acc' c' k2 e2 z2 got2 => ?_
    · exact (got.push (fun b o nb _ e => kp b o nb e) (by rw [eT]; exact Nat.le_refl _) hT (by rw [sz]; exact ex) (by rw [sz]; exact ey) nm nS (by rw [eT]; exact big)).go fun b o nb bS e => other b o bS e
    · exact fin g2 acc' c' k2 e2 z2 got2
theorem zip_nolen : typeLookup (.type "zip") "__len__" = pure none := by rw [typeLookup_type, builtinLookup_eq_fast]; kernel_rfl
theorem zip_nohint : typeLookup (.type "zip") "__length_hint__" = pure none := by rw [typeLookup_type, builtinLookup_eq_fast]; kernel_rfl
theorem z_hint {s : Shared} {z : Addr} {Ee : Value → Shared → Prop} {Q : Bool → Shared → Prop} (ty : s.TypeIs (.ref z) "zip") (k : Q true s) : wpAny (model P w) A (Builtin.List.listLengthHint (.ref z)) Q Ee s := by
  unfold Builtin.List.listLengthHint
  refine wpAny_bind (wpAny_specialOf (name := Str.ofString "__len__") ty zip_nolen ?_)
  show wpAny _ _ (specialOf (.ref z) "__length_hint__" >>= _) _ _ s
  exact wpAny_bind (wpAny_specialOf (name := Str.ofString "__length_hint__") ty zip_nohint (wpAny_pure k))
/-- the new list takes all that the zip tells -/
theorem z_fill (noExc : A.in1.handled = none) (D : ZipApart q.z q.TI q.TO q.i1 q.i2 q.l1 q.l2) (S : Addr) (hS : noS q S) (few : min xs.size ys.size ≤ sizeLine) {s : Shared} (res : Value) (c0 n0 : Nat) (big : n0 ≤ s.heap.objs.size) (st : ZSt q xs ys S 0 s.heap) (ty : s.TypeIs (.ref q.z) "zip") (f0 : Value) (hz : IsZip s.heap q.z q.TI q.TO f0)
    (atS : s.heap.get? S = some (lstOb #[] c0))
    (fin : ∀ g acc c, (∀ b o, ¬ q.moves b → b ≠ S → s.heap.get? b = some o → g.get? b = some o) → g.get? S = some (lstOb acc c) → acc.size = min xs.size ys.size → ZGot q n0 xs ys S g acc → R (.ok (.ret res)) { s with heap := g }) :
    wpAny (model P w) A.in1 (Builtin.List.listExtendWith (.ref S) (.ref q.z) res)
      (fun f s2 => match f with | .done d => R (.ok d) s2 | .again code => code.quiet = true ∧ codeAny (model P w) A code R s2) (fun e s2 => R (.error e) s2) s := by
  unfold Builtin.List.listExtendWith
  refine wpAny_bind (wpAny_typeOf (T := "zip") ty ?_)
  have sr : Builtin.List.listSameRef (.ref S) (.ref q.z) = false := by simp [Builtin.List.listSameRef, hS.1]
  have t1 : (Value.type "zip" == Value.type "list") = false := by decide
  have t2 : (Value.type "zip" == Value.type "tuple") = false := by decide
  simp only [sr, t1, t2, Bool.or_false, Bool.false_eq_true, if_false]
  refine wpAny_bind (wpAny_pyIter_zip hz ?_)
  refine wpAny_bind (wpAny_holding (z_hint ty ?_))
  refine wpAny_ite_split (fun _ => ?_) (fun no => absurd (by decide) no)
  refine wpAny_bind (wpAny_rule ?_)
  refine wpAny_bind ?_
  show wpAny _ _ (updateSeq S (·.push .none) >>= fun _ => updateSeq S (·.pop)) _ _ _
  refine wpAny_bind (wpAny_updateSeq atS rfl ?_)
  have at2 := Heap.get?_update_self (Obj.mapSeq (·.push Value.none)) atS rfl
  refine wpAny_updateSeq (hz := by seq_fits) at2 rfl ?_
  have at3 := Heap.get?_update_self (Obj.mapSeq (·.pop)) at2 rfl
  have other : ∀ b o, b ≠ S → s.heap.get? b = some o → ((s.heap.update S (Obj.mapSeq (·.push Value.none))).update S (Obj.mapSeq (·.pop))).get? b = some o := fun b o nb e =>
    (Heap.get?_update_other _ _ (Ne.symm nb)).trans ((Heap.get?_update_other _ _ (Ne.symm nb)).trans e)
  refine wpAny_pure ⟨plainId_quiet F.plain_extend_loop _, ?_⟩
  exact z_loop noExc D S hS few res s.heap n0 _ 0 _ #[] _ rfl (Nat.zero_le _) (zst_frame hS st other) at3 rfl ⟨[], rfl, .nil, fun j v e => by simp at e⟩ (by rw [Heap.size_update, Heap.size_update]; exact big) (fun b o _ bS e => other b o bS e) fun g acc c k2 e2 z2 got => fin g acc c k2 e2 z2 got
theorem zst_all {q : ZAd} {xs ys : Array Value} {S : Addr} {g g' : Heap} (a0 : IsPair g q.TI (.ref q.i1) (.ref q.i2) ∧ IsPair g q.TO .none .none) (a1 : IsZip g q.z q.TI q.TO .none) (a2 : g.IsListIter q.i1 q.l1 0) (a3 : g.IsListIter q.i2 q.l2 0) (a4 : g.IsList q.l1 xs) (a5 : g.IsList q.l2 ys)
    (k : ∀ c o, g.get? c = some o → g'.get? c = some o) : ZSt q xs ys S 0 g' :=
  ⟨⟨k _ _ a0.1, _, k _ _ a0.2⟩, a2.at fun o e => k _ o e, a3.at fun o e => k _ o e, a4.at fun o e => k _ o e, a5.at fun o e => k _ o e, .inl ⟨k _ _ a1, _, _, k _ _ a0.2⟩⟩
/-- list(z), z a zip that nobody has asked yet -/
theorem call_list_zip {s : Shared} {Ee : Value → Shared → Prop} {Q : Value → Shared → Prop} (noExc : A.in1.in1.handled = none) (D : ZipApart q.z q.TI q.TO q.i1 q.i2 q.l1 q.l2) (few : min xs.size ys.size ≤ sizeLine) (lt : ∀ c, (c = q.z ∨ c = q.TI ∨ c = q.TO ∨ c = q.i1 ∨ c = q.i2 ∨ c = q.l1 ∨ c = q.l2) → c < s.heap.objs.size)
    (a0 : IsPair s.heap q.TI (.ref q.i1) (.ref q.i2) ∧ IsPair s.heap q.TO .none .none) (a1 : IsZip s.heap q.z q.TI q.TO .none) (a2 : s.heap.IsListIter q.i1 q.l1 0) (a3 : s.heap.IsListIter q.i2 q.l2 0) (a4 : s.heap.IsList q.l1 xs) (a5 : s.heap.IsList q.l2 ys)
    (fin : ∀ g acc c, (∀ b o, ¬ q.moves b → s.heap.get? b = some o → g.get? b = some o) → g.get? s.heap.objs.size = some (lstOb acc c) → acc.size = min xs.size ys.size → ZGot q s.heap.objs.size xs ys s.heap.objs.size g acc → Q (.ref s.heap.objs.size) { s with heap := g }) :
    wpAny (model P w) A (call (.type "list") [.ref q.z]) Q Ee s := by
  have hS : noS q s.heap.objs.size := by
    refine ⟨?_, ?_, ?_, ?_, ?_, ?_, ?_⟩ <;> exact Nat.ne_of_gt (lt _ (by simp))
  refine callType_codes (Q₁ := fun ob s2 => ob = .ref s.heap.objs.size ∧ s2 = { s with heap := s.heap.push (lstOb #[] 0) }) PySem.F.called_list (PySem.F.typeCall_list_1 _) PySem.F.entry_list_init (code_list_new _ ⟨rfl, rfl⟩) fun ob s2 e2 => ?_
  obtain ⟨rfl, rfl⟩ := e2
  have atS : (s.heap.push (lstOb #[] 0)).get? s.heap.objs.size = some (lstOb #[] 0) := Heap.get?_push_size _ rfl
  refine ⟨⟨_, atS, rfl⟩, PySem.F.args_list_init_2 _ _, ?_⟩
  show wpAny _ _ (do let old ← Builtin.List.listItems (.ref s.heap.objs.size); Builtin.List.listUpdate (.ref s.heap.objs.size) (fun _ => #[]); letGo old.toList.reverse; Builtin.List.listExtendWith (.ref s.heap.objs.size) (.ref q.z) .none) _ _ _
  refine wpAny_bind ?_
  unfold Builtin.List.listItems
  refine wpAny_bind (wpAny_seqItems atS rfl (wpAny_pure ?_))
  show wpAny _ _ (updateSeq s.heap.objs.size (fun _ => #[]) >>= fun _ => letGo (#[] : Array Value).toList.reverse >>= fun _ => Builtin.List.listExtendWith (.ref s.heap.objs.size) (.ref q.z) .none) _ _ _
  refine wpAny_bind (wpAny_updateSeq atS rfl ?_)
  have at2 := Heap.get?_update_self (Obj.mapSeq (fun _ => (#[] : Array Value))) atS rfl
  have other : ∀ b o, s.heap.get? b = some o → ((s.heap.push (lstOb #[] 0)).update s.heap.objs.size (Obj.mapSeq (fun _ => (#[] : Array Value)))).get? b = some o := fun b o e =>
    (Heap.get?_update_other _ _ (Nat.ne_of_gt (Heap.lt_size e))).trans (Heap.get?_push_of_some _ e)
  refine wpAny_bind (wpAny_letGo ?_)
  refine z_fill (A := A.in1) noExc D _ hS few .none _ s.heap.objs.size (by rw [Heap.size_update, Heap.size_push]; exact Nat.le_succ _) (zst_all a0 a1 a2 a3 a4 a5 other) ⟨_, other _ _ a1, rfl⟩ .none (other _ _ a1) at2 fun g acc c k2 e2 z2 got => ?_
  exact ⟨rfl, fin g acc c (fun b o nb e => k2 b o nb (Nat.ne_of_lt (Heap.lt_size e)) (other b o e)) e2 z2 got⟩
end
/-! ### list(zip(e, e2)), both lists -/
theorem refs_vals : ∀ l : List Addr, Vals (l.map V.ref) (l.map Value.ref)
  | [] => .nil
  | _ :: r => .cons rfl (refs_vals r)
def addT : List (Addr × V × V) → Hp → Hp
  | [], H => H
  | (T, x, y) :: r, H => upd (addT r H) T (.tup [x, y])
theorem addT_off {l : List (Addr × V × V)} {H : Hp} {a : Addr} (h : ∀ p ∈ l, p.1 ≠ a) : addT l H a = H a := by
  induction l with
  | nil => rfl
  | cons p r ih =>
    obtain ⟨T, x, y⟩ := p
    show upd (addT r H) T (.tup [x, y]) a = _
    rw [upd_ne (Ne.symm (h (T, x, y) (by simp)))]
    exact ih fun p hp => h p (List.mem_cons_of_mem _ hp)
theorem addT_on {l : List (Addr × V × V)} {H : Hp} (nd : (l.map (·.1)).Nodup) {p : Addr × V × V} (hp : p ∈ l) : addT l H p.1 = some (.tup [p.2.1, p.2.2]) := by
  induction l with
  | nil => cases hp
  | cons q r ih =>
    obtain ⟨T, x, y⟩ := q
    rw [List.map_cons, List.nodup_cons] at nd
    show upd (addT r H) T (.tup [x, y]) p.1 = _
    rcases List.mem_cons.mp hp with e | e
    · subst e; exact upd_same
    · have ne : p.1 ≠ T := fun z => nd.1 (by show T ∈ _; rw [← z]; exact List.mem_map.mpr ⟨p, e, rfl⟩)
      rw [upd_ne ne]
      exact ih nd.2 e
theorem addT_inv {l : List (Addr × V × V)} {H : Hp} {b : Addr} {o : HO} (h : addT l H b = some o) : (∃ p ∈ l, p.1 = b ∧ o = .tup [p.2.1, p.2.2]) ∨ H b = some o := by
  induction l with
  | nil => exact .inr h
  | cons q r ih =>
    obtain ⟨T, x, y⟩ := q
    have h' : upd (addT r H) T (.tup [x, y]) b = some o := h
    by_cases e : b = T
    · subst e
      rw [upd_same] at h'
      cases h'
      exact .inl ⟨_, List.mem_cons_self .., rfl, rfl⟩
    · rw [upd_ne e] at h'
      rcases ih h' with ⟨p, m, r⟩ | q
      · exact .inl ⟨p, List.mem_cons_of_mem _ m, r⟩
      · exact .inr q
/-- what list(zip) gives: a fresh list of fresh pairs -/
def tLZ (K : PySem.W.Frag) (ta : TA) : TE := fun σ H Q => ta σ H fun vs H1 => ∃ a b xs ys, vs = [.ref a, .ref b] ∧ SqL K H1 a xs ∧ SqL K H1 b ys ∧ min xs.length ys.length ≤ sizeLine ∧
  ∀ (ps : List (Addr × V × V)) (p : Addr), ps.length = min xs.length ys.length → (ps.map (·.1)).Nodup → (∀ q ∈ ps, H1 q.1 = none ∧ q.1 ≠ p) → H1 p = none → (∀ (j : Nat) (q : Addr × V × V), ps[j]? = some q → xs[j]? = some q.2.1 ∧ ys[j]? = some q.2.2) →
    Q (.ref p) (upd (addT ps H1) p (.lst (ps.map fun q => .ref q.1)))
theorem pe_lz {X : Cx} {e e2 : Expr} {ta : TA} {p p2 pos pos2 : Pos} (hc : X.calm = true) (hg0 : Gl X "list") (hm0 : X.mg "list" = none) (hg : Gl X "zip") (hm : X.mg "zip" = none) (ha : PA X [e, e2] ta)
    (hs : starEach [e, e2] X.env = (false, eval e X.env) :: starEach [e2] X.env := by rfl) (hpl : (backTo pos (starEach [e2] X.env)).any (·.1) = false := by rfl)
    (hs2 : starEach [.Call (.Name "zip" p) [e, e2] [] pos] X.env = (false, eval (.Call (.Name "zip" p) [e, e2] [] pos) X.env) :: starEach [] X.env := by rfl) :
    PE X (.Call (.Name "list" p2) [.Call (.Name "zip" p) [e, e2] [] pos] [] pos2) (tLZ X.K ta) := by
  refine ⟨fun pins s σ H Q I h => ?_⟩
  refine PyProof.Rows.Call_ (ld_blt I hg0 hm0 boot_listT (PyProof.Rows.callWith_type1 (PyProof.Rows.args_cons (PyProof.Rows.Call_ (ld_blt I hg hm PyProof.Rows.boot_zip (PyProof.Rows.callWith_type1 (thn (ha.run pos pins s σ H _ I h) fun us s1 ⟨vs, H1, I1, r1, q1⟩ => ?_) hs hpl))) hs2) hs2 rfl))
  obtain ⟨a, b, xs, ys, ex, hqx, hqy, few, q_fin⟩ := q1
  subst ex
  cases r1 with
  | cons r rr =>
    cases rr with
    | cons r' rr =>
      cases rr
      cases r
      cases r'
      obtain ⟨its, rv, p1, z1⟩ := I1.list hqx
      obtain ⟨its2, rv2, p2, z2⟩ := I1.list hqy
      have la : a < s1.heap.objs.size := p1.lt
      have lb : b < s1.heap.objs.size := p2.lt
      have n1 : its.toArray.size = xs.length := by rw [List.size_toArray, ← rv.length]
      have n2 : its2.toArray.size = ys.length := by rw [List.size_toArray, ← rv2.length]
      refine call_zip_2 p1.isList p2.isList fun h' hz hTI hTO h1 h2 hsz hk => PyProof.Rows.args_nil ?_
      let q : ZAd := ⟨s1.heap.objs.size + 4, s1.heap.objs.size + 2, s1.heap.objs.size + 3, s1.heap.objs.size, s1.heap.objs.size + 1, a, b⟩
      have old : ∀ c, c < s1.heap.objs.size → ¬ q.moves c := fun c lc => by
        rintro (e | e | e | e)
        · exact Nat.ne_of_lt (Nat.lt_of_lt_of_le lc (Nat.le_add_right _ _)) e
        · exact Nat.ne_of_lt (Nat.lt_of_lt_of_le lc (Nat.le_add_right _ _)) e
        · exact Nat.ne_of_lt lc e
        · exact Nat.ne_of_lt (Nat.lt_of_lt_of_le lc (Nat.le_add_right _ _)) e
      refine call_list_zip (s := { s1 with heap := h' }) (q := q) (xs := its.toArray) (ys := its2.toArray) (I1.ok.hd hc) (PySem.W.ktu_apart s1.heap.objs.size a b la lb) (by rw [n1, n2]; exact few) (fun c hcm => ?_) ⟨hTI, hTO⟩ hz h1 h2
        (p1.isList.at fun o e => hk _ o e) (p2.isList.at fun o e => hk _ o e) fun g acc c kp atS sz got => ?_
      · show c < h'.objs.size
        rw [hsz]
        rcases hcm with e | e | e | e | e | e | e <;> rw [e]
        · show s1.heap.objs.size + 4 < _; omega
        · show s1.heap.objs.size + 2 < _; omega
        · show s1.heap.objs.size + 3 < _; omega
        · show s1.heap.objs.size < _; omega
        · show s1.heap.objs.size + 1 < _; omega
        · exact Nat.lt_of_lt_of_le la (Nat.le_add_right _ 5)
        · exact Nat.lt_of_lt_of_le lb (Nat.le_add_right _ 5)
      obtain ⟨ts, et, nd, al⟩ := got
      have kept : ∀ b o, s1.heap.get? b = some o → g.get? b = some o := fun b o e => kp b o (old b (Heap.lt_size e)) (hk b o e)
      have lt : ts.length = min xs.length ys.length := by
        rw [← n1, ← n2, ← sz, ← Array.length_toList, et, List.length_map]
      let ps : List (Addr × V × V) := List.zipWith (fun T p => (T, p)) ts (xs.zip ys)
      have lz : (xs.zip ys).length = min xs.length ys.length := List.length_zip ..
      have lps : ps.length = min xs.length ys.length := by rw [List.length_zipWith, lt, lz, Nat.min_self]
      have mps : ps.map (·.1) = ts := by
        apply List.ext_getElem?
        intro j
        rw [List.getElem?_map, List.getElem?_zipWith]
        cases ej : ts[j]? with
        | none => rfl
        | some T =>
          have hj : j < (xs.zip ys).length := by rw [lz, ← lt]; exact (List.getElem?_eq_some_iff.mp ej).1
          rw [List.getElem?_eq_getElem hj]; rfl
      have gps : ∀ (j : Nat) (p : Addr × V × V), ps[j]? = some p → ts[j]? = some p.1 ∧ xs[j]? = some p.2.1 ∧ ys[j]? = some p.2.2 := fun j p e => by
        rw [List.getElem?_zipWith] at e
        cases ej : ts[j]? with
        | none => rw [ej] at e; cases e
        | some T =>
          cases ez : (xs.zip ys)[j]? with
          | none => rw [ej, ez] at e; cases e
          | some xy =>
            rw [ej, ez] at e
            cases e
            have := List.getElem?_zip_eq_some.mp ez
            exact ⟨rfl, this.1, this.2⟩
      have hp : H1 h'.objs.size = none := I1.hok.fresh (by rw [hsz]; omega)
      have off : ∀ p ∈ ps, H1 p.1 = none ∧ p.1 ≠ h'.objs.size ∧ s1.heap.objs.size ≤ p.1 := fun p m => by
        obtain ⟨j, hj⟩ := List.getElem?_of_mem m
        obtain ⟨_, _, _, _, _, _, e1, e2⟩ := al j p.1 (gps j p hj).1
        have e3 : h'.objs.size ≤ p.1 := e2
        rw [hsz] at e3
        exact ⟨I1.hok.fresh (by omega), e1, by omega⟩
      have lsz : s1.heap.objs.size ≤ h'.objs.size := by rw [hsz]; omega
      let H2 : Hp := upd (addT ps H1) h'.objs.size (.lst (ps.map fun q => .ref q.1))
      have same : ∀ b, b < s1.heap.objs.size → H2 b = H1 b := fun b lb => by
        show upd _ _ _ b = _
        rw [upd_ne (Nat.ne_of_lt (Nat.lt_of_lt_of_le lb lsz))]
        exact addT_off fun p m => Nat.ne_of_gt (Nat.lt_of_lt_of_le lb (off p m).2.2)
      have stays : ∀ b o, H1 b = some o → H2 b = some o := fun b o e => (same b (I1.hok.lt e)).trans e
      have I2 : Inv X pins σ H2 { s1 with heap := g, toks := s1.toks } := by
        refine I1.un ⟨fun b o e _ _ _ => kept b o e, fun b o e _ _ _ => ⟨o.slots, kept b o e⟩, fun b o e n _ => (same b (Heap.lt_size e)).trans n, fun b o e _ => ⟨o, kept b o e⟩, fun b xs e => stays b _ e, fun b o u e => stays b _ e, fun b ps e => ⟨#[], by rw [stays b _ e]; simp⟩⟩ fun b o e => ?_
        by_cases eb : b = h'.objs.size
        · subst eb
          have e' : upd (addT ps H1) h'.objs.size _ h'.objs.size = some o := e
          rw [upd_same] at e'
          cases e'
          refine ⟨by rw [List.length_map, lps]; exact few, ts.map Value.ref, c, ?_, ?_⟩
          · have : (ps.map fun q => V.ref q.1) = ts.map V.ref := by rw [← mps, List.map_map]; rfl
            rw [this]; exact refs_vals ts
          · rw [← et]; exact atS
        · have e' : upd (addT ps H1) h'.objs.size _ b = some o := e
          rw [upd_ne eb] at e'
          rcases addT_inv e' with ⟨p, m, e1, e2⟩ | e1
          · subst e1 e2
            obtain ⟨j, hj⟩ := List.getElem?_of_mem m
            obtain ⟨g1, g2, g3⟩ := gps j p hj
            obtain ⟨u, v, pr, eu, ev, _⟩ := al j p.1 g1
            obtain ⟨u', hu, ru⟩ := rv.get g2
            obtain ⟨v', hv, rv'⟩ := rv2.get g3
            have e3 : u = u' := by have : its[j]? = some u := by simpa using eu
                                   rw [hu] at this; cases this; rfl
            have e4 : v = v' := by have : its2[j]? = some v := by simpa using ev
                                   rw [hv] at this; cases this; rfl
            subst e3 e4
            exact ⟨by show 2 ≤ sizeLine; decide, [u, v], .cons ru (.cons rv' .nil), ⟨_, pr, rfl, _, rfl⟩⟩
          · exact (I1.hok.kept kept b o e1).stay (fun _ _ _ q => q) (fun b q => stays b _ q) fun b xs q => stays b _ q
      exact ⟨.ref h'.objs.size, H2, I2, rfl, q_fin ps h'.objs.size lps (by rw [mps]; exact nd) (fun p m => ⟨(off p m).1, (off p m).2.1⟩) hp fun j p e => (gps j p e).2⟩
def dLZ (da : DTA) : DT := fun Γ Q => da Γ fun as Γ1 => match as with
  | [.list xs, .list ys] => min xs.length ys.length ≤ sizeLine ∧ Q (.val (.list (zipD xs ys))) Γ1
  | _ => False
theorem rpA_pairs {K : PySem.W.Frag} {O : Prot} {H : Hp} : ∀ {ps : List (Addr × V × V)} {xs ys : List PyData}, (∀ (j : Nat) (q : Addr × V × V), ps[j]? = some q → ∃ a b, xs[j]? = some a ∧ ys[j]? = some b ∧ Rp K O H (.ref q.1) (.tuple [a, b])) → ps.length = min xs.length ys.length →
    RpA K O H (ps.map fun q => .ref q.1) (zipD xs ys) := by
  intro ps xs ys h hl
  refine RpA.all (by rw [List.length_map, zipD_length]; exact hl) fun i v d e1 e2 => ?_
  rw [List.getElem?_map] at e1
  obtain ⟨q, e3, rfl⟩ := Option.map_eq_some_iff.mp e1
  obtain ⟨a, b, e4, e5, r⟩ := h i q e3
  rw [zipD_get e4 e5] at e2
  cases e2
  exact r
section
variable {ι : Type} {Xs : ι → Cx} {P : Program} {w : World} {K : PySem.W.Frag} {mg : Str → Option Value} {base : Heap} {k : Nat} {e e2 : Expr} {da : DTA} {pos pos2 p p2 : Pos}
theorem dx_lz (E : EnvOk Xs P w K mg base k) (hg0 : ∀ i, Gl (Xs i) "list") (hm0 : mg "list" = none) (hg : ∀ i, Gl (Xs i) "zip") (hm : mg "zip" = none) (ha : DXA Xs K [e, e2] da)
    (hs : ∀ i, starEach [e, e2] (Xs i).env = (false, eval e (Xs i).env) :: starEach [e2] (Xs i).env := by intro _; rfl) (hpl : ∀ i, (backTo pos (starEach [e2] (Xs i).env)).any (·.1) = false := by intro _; rfl)
    (hs2 : ∀ i, starEach [.Call (.Name "zip" p) [e, e2] [] pos] (Xs i).env = (false, eval (.Call (.Name "zip" p) [e, e2] [] pos) (Xs i).env) :: starEach [] (Xs i).env := by intro _; rfl) :
    DX Xs K (.Call (.Name "list" p2) [.Call (.Name "zip" p) [e, e2] [] pos] [] pos2) (dLZ da) := by
  obtain ⟨t, pa, s⟩ := ha
  refine ⟨tLZ K t, fun i => ?_, ?_⟩
  · rw [← E.K i]
    exact pe_lz (E.calm i) (hg0 i) (by rw [E.mg i]; exact hm0) (hg i) (by rw [E.mg i]; exact hm) (pa i) (hs i) (hpl i) (hs2 i)
  intro F σ H Γ Q R S h kk
  refine s F σ H Γ _ _ S h fun vs ds H1 Γ1 ra S1 p1 h1 => ?_
  unfold dLZ at h1
  split at h1
  · rename_i xs ys
    cases ra with | cons r1 r2 => cases r2 with | cons r3 r4 =>
      cases r4
      obtain ⟨a, vx, rfl, hx, rx⟩ := RpB.lst (.inl r1)
      obtain ⟨b, vy, rfl, hy, ry⟩ := RpB.lst (.inl r3)
      refine ⟨a, b, vx, vy, rfl, .of hx, .of hy, by rw [rx.length, ry.length]; exact h1.1, fun ps p hl nd hf hp hc => ?_⟩
      have sm : Same H1 (upd (addT ps H1) p (.lst (ps.map fun q => .ref q.1))) := fun c o e => by
        have n1 : c ≠ p := fun z => by rw [z, hp] at e; cases e
        rw [upd_ne n1, addT_off fun q m z => by rw [← z, (hf q m).1] at e; cases e]
        exact e
      have kp := keeps_ext (O := Own F σ Γ1) sm
      have np : ¬ Own F σ Γ1 p := S1.fresh hp
      refine kk _ (.val (.list (zipD xs ys))) _ Γ1 (.lst ⟨upd_same, np⟩ (rpA_pairs (fun j q ej => ?_) (by rw [hl, rx.length, ry.length]))) (S1.ext sm) (p1.trans (.ext sm)) h1.2
      obtain ⟨c1, c2⟩ := hc j q ej
      obtain ⟨d1, e1, q1⟩ := rx.get c1
      obtain ⟨d2, e3, q2⟩ := ry.get c2
      have m : q ∈ ps := List.mem_of_getElem? ej
      refine ⟨d1, d2, e1, e3, .tup (.inl ⟨.inl ?_, S1.fresh (hf q m).1⟩) (.cons (q1.keep kp) (.cons (q2.keep kp) .nil))⟩
      rw [upd_ne (hf q m).2]
      exact addT_on nd m
  · exact h1.elim
end
end DL
end
section
set_option autoImplicit false
set_option linter.all false
set_option maxRecDepth 100000
set_option maxHeartbeats 4000000
namespace DL
open PySem PySem.Spec L2
/-! ### t[::-1] -/
theorem back_adjust (n : Nat) : Builtin.Slice.sliceAdjust none none (-1) (n : Int) = ((n : Int) - 1, -1) := by
  unfold Builtin.Slice.sliceAdjust
  simp
theorem back_places (n : Nat) : Builtin.Slice.slicePlaces ((n : Int) - 1) (-1) (-1) = n := by
  unfold Builtin.Slice.slicePlaces
  simp
  split <;> omega
theorem fm_congr {α β : Type} {f g : α → Option β} : ∀ {l : List α}, (∀ x ∈ l, f x = g x) → l.filterMap f = l.filterMap g
  | [], _ => rfl
  | x :: r, h => by rw [List.filterMap_cons, List.filterMap_cons, h x (by simp), fm_congr fun y m => h y (List.mem_cons_of_mem _ m)]
theorem back_pick (xs : Array Value) : ((List.range xs.size).filterMap fun (k : Nat) => xs[(((xs.size : Int) - 1) + (k : Int) * (-1)).toNat]?) = xs.toList.reverse := by
  have e : ∀ k ∈ List.range xs.size, (fun (k : Nat) => xs[(((xs.size : Int) - 1) + (k : Int) * (-1)).toNat]?) k = (fun k => some (xs.toList.reverse.getD k .none)) k := fun k hk => by
    have hk' : k < xs.size := List.mem_range.mp hk
    have e1 : (((xs.size : Int) - 1) + (k : Int) * (-1)).toNat = xs.size - 1 - k := by omega
    show xs[_]? = some _
    rw [e1, ← Array.getElem?_toList, List.getD_eq_getElem?_getD, List.getElem?_reverse (by rw [Array.length_toList]; exact hk'), Array.length_toList, List.getElem?_eq_getElem (by rw [Array.length_toList]; omega)]
    rfl
  rw [fm_congr e, show (fun k => some (xs.toList.reverse.getD k Value.none)) = some ∘ (fun k => xs.toList.reverse.getD k Value.none) from rfl, List.filterMap_eq_map]
  apply List.ext_getElem?
  intro j
  rw [List.getElem?_map]
  by_cases hj : j < xs.size
  · rw [List.getElem?_range hj, List.getElem?_eq_getElem (by rw [List.length_reverse, Array.length_toList]; exact hj)]
    simp [List.getD_eq_getElem?_getD, hj]
  · rw [List.getElem?_eq_none (by simp; omega), List.getElem?_eq_none (by simp; omega)]; rfl
section
open PyProof.Rows HT
variable {P : Program} {w : World} {A : Around} {s : Shared}
theorem back_applied {sl : Addr} {n : Nat} {t : Tok} {Ee : Value → Shared → Prop} {Q : Int × Int × Nat → Shared → Prop} (hs : s.heap.IsSliceOf sl .none .none (.int (-1) t)) (k : Q ((n : Int) - 1, -1, n) s) : wpAny (model P w) A (Builtin.Slice.sliceApplied (.ref sl) (pure (n : Int))) Q Ee s := by
  obtain ⟨ob, e1, e2, e3⟩ := id hs
  unfold Builtin.Slice.sliceApplied Builtin.Slice.sliceFields
  refine wpAny_bind (wpAny_bind (wpAny_field e1 e3 (x := .none) rfl (wpAny_bind (wpAny_field e1 e3 (x := .none) rfl (wpAny_bind (wpAny_field e1 e3 (x := .int (-1) t) rfl (wpAny_pure ?_)))))))
  refine wpAny_bind (slicePart_int ?_)
  show wpAny _ _ (if ((-1 : Int) == 0) = true then _ else _) _ _ s
  rw [if_neg (by decide)]
  refine wpAny_bind (slicePart_none (wpAny_bind (slicePart_none (wpAny_bind (wpAny_pure ?_)))))
  show wpAny _ _ (match Builtin.Slice.sliceAdjust none none (-1) (n : Int) with | (lo, hi) => pure (lo, (-1 : Int), Builtin.Slice.slicePlaces lo hi (-1))) _ _ s
  rw [back_adjust n]
  show wpAny _ _ (pure ((n : Int) - 1, (-1 : Int), Builtin.Slice.slicePlaces ((n : Int) - 1) (-1) (-1))) _ _ s
  rw [back_places]
  exact wpAny_pure k
theorem getItem_back {t sl : Addr} {its : Array Value} {tk : Tok} {Ee : Value → Shared → Prop} {Q : Value → Shared → Prop} (ht : IsTup s.heap t its) (hs : s.heap.IsSliceOf sl .none .none (.int (-1) tk)) (hz : its.size ≤ sizeLine)
    (k : Q (.ref s.heap.objs.size) { s with heap := s.heap.push { cls := .type "tuple", data := .seq its.toList.reverse.toArray } }) : wpAny (model P w) A (getItem (.ref t) (.ref sl)) Q Ee s := by
  have okz : sizeOk (.seq its.toList.reverse.toArray) := by
    show its.toList.reverse.toArray.size ≤ sizeLine
    rw [List.size_toArray, List.length_reverse, Array.length_toList]; exact hz
  obtain ⟨ob, e1, e2, e3⟩ := id hs
  have ty : s.TypeIs (.ref sl) "slice" := ⟨ob, e1, e2⟩
  unfold getItem
  try with_reducible refine wpAny_holding ?_
  first | refine wpAny_bind (wpAny_pure ?_) | skip
  refine wpAny_bind (wpAny_sequenceKey ht.typeIs (by decide) ?_)
  refine wpAny_bind (wpAny_callSpecial?_slot (name := Str.ofString "__getitem__") ht.typeIs PyProof.Rows.slot_tuple_getitem (wpAny_call_entry PyProof.Rows.slot_tuple_getitem ht.typeIs entry_tuple_getitem ?_ (args_tuple_getitem _ _)))
  show wpAny _ _ (Builtin.Tuple.tupleItemsOf (.ref t) >>= _) _ _ s
  refine wpAny_bind (tupleItemsOf_ ht ?_)
  refine wpAny_bind (wpAny_typeOf ty ?_)
  rw [if_pos (by decide)]
  refine wpAny_bind (back_applied hs ?_)
  have no : ¬ ((((its.size : Int) - 1) == 0 && (-1 : Int) == 1 && its.size == its.size) = true) := by simp
  show wpAny _ _ (if (((its.size : Int) - 1) == 0 && (-1 : Int) == 1 && its.size == its.size) = true then _ else _) _ _ s
  rw [if_neg no, back_pick]
  first
    | exact wpAny_bind (m := Builtin.Tuple.tupleExact _) (wpAny_newObj_type (wpAny_pure ⟨_, rfl, wpAny_pure k⟩) okz)
    | exact wpAny_bind (m := Builtin.Tuple.tupleExact _) (wpAny_newObj_type (wpAny_bind (wpAny_pure (wpAny_pure ⟨_, rfl, wpAny_pure k⟩))) okz)
    | exact wpAny_bind (wpAny_bind (m := Builtin.Tuple.tupleExact _) (wpAny_newObj_type (wpAny_pure (wpAny_pure ⟨_, rfl, wpAny_pure k⟩)) okz))
    | exact wpAny_bind (wpAny_bind (m := Builtin.Tuple.tupleExact _) (wpAny_newObj_type (wpAny_pure ⟨_, rfl, wpAny_pure k⟩) okz))
end
section
variable {X : Cx}
/-- x[::-1], a list or a tuple: new -/
def tBack (K : PySem.W.Frag) (te : TE) : TE := fun σ H Q => te σ H fun x H1 => (∃ a xs, x = .ref a ∧ SqL K H1 a xs ∧ ∀ p, H1 p = none → Q (.ref p) (upd H1 p (.lst xs.reverse))) ∨ ∃ a xs, x = .ref a ∧ SqT K H1 a xs ∧ ∀ p, H1 p = none → Q (.ref p) (upd H1 p (.tup xs.reverse))
theorem pe_back {e : Expr} {te : TE} {k : Nat} {p1 p2 p3 pos : Pos} (he : PE X e te) : PE X (.Subscript e (.Slice none none (some (.UnaryOp .USub (.Constant (.int 1) k p1) p2)) p3) pos) (tBack X.K te) := by
  refine ⟨fun pins s σ H Q I h => ?_⟩
  refine PyProof.Rows.Subscript_ (thn (he.run pins s σ H _ I h) fun v s1 ⟨x, H1, I1, r1, q1⟩ => ?_)
  have minus : PO X (some (.UnaryOp .USub (.Constant (.int 1) k p1) p2)) (tPart (tUn (rU fun i => .int (-i)) (tC (.int 1)))) := po_some (pe_un un_neg pe_int)
  refine wpAny_Slice (thn (po_none.run pins s1 σ H1 (fun o G => o = none ∧ G = H1) I1 ⟨rfl, rfl⟩) fun vl s2 ⟨o1, G1, I2, k1, eo1, eg1⟩ => ?_)
  subst eo1 eg1
  refine thn (po_none.run pins s2 σ G1 (fun o G => o = none ∧ G = G1) I2 ⟨rfl, rfl⟩) fun vu s3 ⟨o2, G2, I3, k2, eo2, eg2⟩ => ?_
  subst eo2 eg2
  refine thn (minus.run pins s3 σ G2 (fun o G => o = some (-1) ∧ G = G2) I3 ⟨1, rfl, -1, rfl, rfl, rfl⟩) fun vs s4 ⟨o3, G3, I4, k3, eo3, eg3⟩ => ?_
  subst eo3 eg3
  have I5 : Inv X pins σ G3 { s4 with heap := s4.heap.push { cls := .type "slice", data := .fields #[vl, vu, vs] } } := I4.kept (t' := s4.toks) fun b ob q => Heap.get?_push_of_some _ q
  rcases q1 with ⟨a, xs, ex, hx, q⟩ | ⟨a, xs, ex, hx, q⟩
  · subst ex
    cases r1
    obtain ⟨its, r, ht, hz⟩ := I5.list hx
    have hn := r.length
    show wpAny (model X.prog X.w) X.A (PyProof.Rows.subscriptTail e (.Slice none none (some (.UnaryOp .USub (.Constant (.int 1) k p1) p2)) p3) (.ref a) (.ref s4.heap.objs.size)) (EP X pins σ Q) X.xe _
    refine PyProof.Rows.tail_any (ops := [.ref a, .ref s4.heap.objs.size]) ht.isList.typeIs (PySem.slot_list_getitem.lookup) ?_ (by with_unfolding_all rfl)
    refine wpAny_getItem_list_slice ht.isList (Heap.IsSliceOf.new _ vl vu vs) k1 k2 k3 (by decide) ?_ (by rw [List.size_toArray]; omega)
    rw [PySem.W.krv_pick]
    refine ⟨.ref _, _, I5.laid (t' := s4.toks) (o := .lst xs.reverse) (fun b ob q => Heap.get?_push_of_some _ q) (Nat.le_refl _) ?_, rfl, q _ (I5.hok.fresh (Nat.le_refl _))⟩
    exact ⟨by rw [List.length_reverse]; exact hz, _, 0, r.reverse, Heap.get?_push_size _ rfl⟩
  · subst ex
    cases r1
    obtain ⟨its, r, ht, hz⟩ := I5.tuple hx
    have hn := r.length
    show wpAny (model X.prog X.w) X.A (PyProof.Rows.subscriptTail e (.Slice none none (some (.UnaryOp .USub (.Constant (.int 1) k p1) p2)) p3) (.ref a) (.ref s4.heap.objs.size)) (EP X pins σ Q) X.xe _
    refine PyProof.Rows.tail_any (ops := [.ref a, .ref s4.heap.objs.size]) ht.typeIs (PyProof.Rows.slot_tuple_getitem.lookup) ?_ (by with_unfolding_all rfl)
    cases k1
    cases k2
    cases k3
    refine getItem_back ht (Heap.IsSliceOf.new _ _ _ _) (by rw [List.size_toArray]; omega) ?_
    refine ⟨.ref _, _, I5.laid (t' := s4.toks) (o := .tup xs.reverse) (fun b ob q => Heap.get?_push_of_some _ q) (Nat.le_refl _) ?_, rfl, q _ (I5.hok.fresh (Nat.le_refl _))⟩
    exact ⟨by rw [List.length_reverse]; exact hz, _, r.reverse, PyProof.Rows.IsTup.new _ _⟩
end
section
variable {ι : Type} {Xs : ι → Cx} {P : Program} {w : World} {K : PySem.W.Frag} {mg : Str → Option Value} {base : Heap} {k : Nat} {e : Expr} {d : DT} {pos p1 p2 p3 : Pos} {n : Nat}
def fRev : F1 := fun v Q => match v with
  | .list ds => Q (.list ds.reverse)
  | .tuple ds => Q (.tuple ds.reverse)
  | _ => False
theorem dx_rev (E : EnvOk Xs P w K mg base k) (h : DX Xs K e d) : DX Xs K (.Subscript e (.Slice none none (some (.UnaryOp .USub (.Constant (.int 1) n p1) p2)) p3) pos) (dC1 fRev d) := by
  obtain ⟨t, pa, s⟩ := h
  refine ⟨tBack K t, fun i => by rw [← E.K i]; exact pe_back (pa i), ?_⟩
  intro F σ H Γ Q R S h kk
  refine s F σ H Γ _ _ S h fun v o H1 Γ1 ok1 S1 p1 h1 => ?_
  obtain ⟨d1, r1, h2⟩ := ok1.rep S1 h1
  unfold fRev at h2
  split at h2
  · obtain ⟨a, xs, rfl, ha, ra⟩ := r1.lst
    exact .inl ⟨a, xs, rfl, .of ha, fun p hp => kk _ (.val (.list _)) _ Γ1 (newLst hp (S1.fresh hp) ra.reverse) (S1.ext (same_upd hp)) (p1.trans (.ext (same_upd hp))) h2⟩
  · obtain ⟨a, xs, rfl, ha, ra⟩ := r1.tup
    exact .inr ⟨a, xs, rfl, ha.sq, fun p hp => kk _ (.val (.tuple _)) _ Γ1 (newTup hp (S1.fresh hp) ra.reverse) (S1.ext (same_upd hp)) (p1.trans (.ext (same_upd hp))) h2⟩
  · exact h2.elim
/-- {} -/
theorem dx_dict0 : DX Xs K (.Dict [] [] pos) (dC (.dict [])) := by
  refine ⟨tDNewK, fun i => pe_dnewK, ?_⟩
  intro F σ H Γ Q R S h kk
  intro p hp
  exact kk _ (.val (.dict [])) _ Γ (.dic (kvs := []) (ds := []) upd_same (S.fresh hp) .nil) (S.ext (same_upd hp)) (.ext (same_upd hp)) h
/-- {key: value}, both constants -/
theorem dx_dictc {ek ev : Expr} {key : Key} {v : V} {dv : PyData} (hk : ∀ i, PE (Xs i) ek (tC (kV key))) (hv : ∀ i, PE (Xs i) ev (tC v)) (hd : ∀ O H, Rp K O H v dv) : DX Xs K (.Dict [some ek] [ev] pos) (dC (.dict [(keyD key, dv)])) := by
  refine ⟨tDisp [(tC (kV key), tC v)], fun i => pe_disp (pps_cons (hk i) (hv i) pps_nil) rfl rfl (by simp) (by simp), ?_⟩
  intro F σ H Γ Q R S h kk
  intro p hp
  refine ⟨upd_same, [(key, v)], rfl, by simp, ?_⟩
  have e : upd (upd H p (.dK [])) p (.dK (mergeK [] [(key, v)])) = upd H p (.dK [(key, v)]) := by
    funext b
    by_cases hb : b = p
    · subst hb; rw [upd_same, upd_same]; cases key <;> rfl
    · rw [upd_ne hb, upd_ne hb, upd_ne hb]
  show R (.ref p) _
  rw [e]
  exact kk _ (.val (.dict [(keyD key, dv)])) _ Γ (.dic (kvs := [(key, v)]) (ds := [dv]) upd_same (S.fresh hp) (.cons (hd _ _) .nil)) (S.ext (same_upd hp)) (.ext (same_upd hp)) h
theorem dx_dict_si {x : Str} {i : Int} {j j2 : Nat} {q1 q2 : Pos} : DX Xs K (.Dict [some (.Constant (.str x) j q1)] [.Constant (.int i) j2 q2] pos) (dC (.dict [(.str x, .int i)])) := dx_dictc (key := .inr x) (fun _ => pe_str) (fun _ => pe_int) fun _ _ => .int i
theorem dx_dict_in {x : Int} {j j2 : Nat} {q1 q2 : Pos} : DX Xs K (.Dict [some (.Constant (.int x) j q1)] [.Constant .none j2 q2] pos) (dC (.dict [(.int x, .none)])) := dx_dictc (key := .inl x) (fun _ => pe_int) (fun _ => pe_non) fun _ _ => .non
end
/-! ### texts of data, dicts among them -/
/-- no address among those that are told is that of sys.modules, unless a list or a tuple lies there -/
def NoSys (g : Heap) (as : List Addr) : Prop := ∀ b ∈ as, b = sysModules → ∃ o its n, g.get? b = some o ∧ o.data = .seq its n
section
variable {P : Program} {w : World} {g0 : Heap}
mutual
theorem shows_of : ∀ {v : Value} {d : PyData} {as : List Addr}, Reads g0 v d as → d.showable = true → NoSys g0 as → d.shown.length ≤ sizeLine → ∃ bs, ReadAtMost g0 d.depth bs ∧ ReprK P w bs g0 d.depth v d.shown
  | _, _, _, .none, _, _, _ => ⟨[], (fun _ z => nomatch z), by simp only [PyData.shown]; exact ReprK.of_is ReprIs.none _ _ _⟩
  | _, _, _, .bool k, _, _, _ => ⟨[], (fun _ z => nomatch z), by simp only [PyData.shown]; exact ReprK.of_is (ReprIs.bool k) _ _ _⟩
  | _, _, _, .int n u, sw, _, _ => ⟨[], (fun _ z => nomatch z), by simp only [PyData.shown]; exact ReprK.of_is (ReprIs.int u (by simpa [PyData.showable] using sw)) _ _ _⟩
  | _, _, _, .str y u, _, _, le => ⟨[], (fun _ z => nomatch z), by simp only [PyData.shown]; exact ReprK.of_is (ReprIs.str y u (by simpa only [PyData.shown] using le)) _ _ _⟩
  | _, _, _, .list (a := a) (vs := vs) (xs := xs) p1 p2 p3 p4, sw, ns, le => by
    have le' : (listText (PyData.shownAll xs)).length ≤ sizeLine := by simpa only [PyData.shown] using le
    obtain ⟨bs, am, al⟩ := shows_all p4 (by simpa [PyData.showable] using sw) (fun b m => ns b (List.mem_cons_of_mem _ m)) fun t m => Nat.le_trans (listText_mem_le m) le'
    have rd : Reads g0 (.ref a) (.list xs) _ := .list p1 p2 p3 p4
    have out : a ∉ bs := not_mem_of_deeper rd (by simp only [PyData.depth]; omega) am
    refine ⟨a :: bs, ReadAtMost.cons rd (by simp only [PyData.depth]; omega) am, ?_⟩
    simp only [PyData.depth, PyData.shown]
    obtain ⟨l⟩ := vs
    cases l with
    | nil =>
      have p5 : ReadsAll g0 [] xs _ := p4
      cases p5
      simp only [PyData.shownAll, listText_nil]
      exact ReprK.listEmpty p1 p2 p3
    | cons x l => exact ReprK.list p1 p2 p3 out (by simpa using al.length_eq) fun i y e => al.item i y (by simpa using e)
  | _, _, _, .tuple (a := a) (xs := xs) p1 p2 p3 p4, sw, ns, le => by
    have le' : (tupleText (PyData.shownAll xs)).length ≤ sizeLine := by simpa only [PyData.shown] using le
    obtain ⟨bs, am, al⟩ := shows_all p4 (by simpa [PyData.showable] using sw) ns fun t m => Nat.le_trans (tupleText_mem_le m) le'
    have rd : Reads g0 (.ref a) (.tuple xs) _ := .tuple p1 p2 p3 p4
    have out : a ∉ bs := not_mem_of_deeper rd (by simp only [PyData.depth]; omega) am
    refine ⟨a :: bs, ReadAtMost.cons rd (by simp only [PyData.depth]; omega) am, ?_⟩
    simp only [PyData.depth, PyData.shown]
    exact ReprK.tuple p1 p2 p3 out al
  | _, _, _, .dict (a := a) (es := es) (kvs := kvs) (as := as1) (bs := bs1) p1 p2 p3 p4 p5, sw, ns, le => by
    have le' : (dictText (PyData.shownKv kvs)).length ≤ sizeLine := by simpa only [PyData.shown] using le
    obtain ⟨sw1, sw2⟩ := PyData.showableKv_split kvs (by simpa [PyData.showable] using sw)
    obtain ⟨b1, am1, al1⟩ := shows_all p4 sw1 (fun b m => ns b (List.mem_cons_of_mem _ (List.mem_append_left _ m))) fun t m => let ⟨q, mq, lq⟩ := PyData.shownKv_key_le kvs t m; Nat.le_trans lq (Nat.le_trans (dictText_mem_le mq) le')
    obtain ⟨b2, am2, al2⟩ := shows_all p5 sw2 (fun b m => ns b (List.mem_cons_of_mem _ (List.mem_append_right _ m))) fun t m => let ⟨q, mq, lq⟩ := PyData.shownKv_val_le kvs t m; Nat.le_trans lq (Nat.le_trans (dictText_mem_le mq) le')
    have rd : Reads g0 (.ref a) (.dict kvs) _ := .dict p1 p2 p3 p4 p5
    have am : ReadAtMost g0 (PyData.depthKv kvs) (b1 ++ b2) := (am1.mono (PyData.depthAll_keys_le kvs)).append (am2.mono (PyData.depthAll_vals_le kvs))
    have out : a ∉ b1 ++ b2 := not_mem_of_deeper rd (by simp only [PyData.depth]; omega) am
    have sys : (a == sysModules) = false := beq_eq_false_iff_ne.mpr fun e => by
      obtain ⟨o, its, n, e1, e2⟩ := ns a (by simp) e
      rw [p1] at e1; cases e1
      rw [p3] at e2; cases e2
    refine ⟨a :: (b1 ++ b2), ReadAtMost.cons rd (by simp only [PyData.depth]; omega) am, ?_⟩
    simp only [PyData.depth, PyData.shown, PyData.shownKv_eq]
    exact ReprK.dict p1 p2 p3 sys out (ReprEntriesK.of_two es.toList _ _ (al1.more_le (fun b m => List.mem_append_left _ m) (PyData.depthAll_keys_le kvs)) (al2.more_le (fun b m => List.mem_append_right _ m) (PyData.depthAll_vals_le kvs)))
theorem shows_all : ∀ {vs : List Value} {ds : List PyData} {as : List Addr}, ReadsAll g0 vs ds as → PyData.showableAll ds = true → NoSys g0 as → (∀ t ∈ PyData.shownAll ds, t.length ≤ sizeLine) →
    ∃ bs, ReadAtMost g0 (PyData.depthAll ds) bs ∧ ReprAllK P w bs g0 (PyData.depthAll ds) vs (PyData.shownAll ds)
  | _, _, _, .nil, _, _, _ => ⟨[], (fun _ z => nomatch z), by simp only [PyData.shownAll]; exact .nil⟩
  | _, _, _, .cons (d := d) (ds := ds) r rs, sw, ns, le => by
    have sw' : d.showable = true ∧ PyData.showableAll ds = true := by simpa [PyData.showableAll] using sw
    obtain ⟨b1, am1, al1⟩ := shows_of r sw'.1 (fun b m => ns b (List.mem_append_left _ m)) (le _ (by simp only [PyData.shownAll]; exact List.mem_cons_self ..))
    obtain ⟨b2, am2, al2⟩ := shows_all rs sw'.2 (fun b m => ns b (List.mem_append_right _ m)) fun t m => le t (by simp only [PyData.shownAll]; exact List.mem_cons_of_mem _ m)
    refine ⟨b1 ++ b2, fun b m => ?_, ?_⟩
    · simp only [PyData.depthAll]
      rcases List.mem_append.mp m with m | m
      · obtain ⟨d', as', r', le1⟩ := am1 b m
        exact ⟨d', as', r', Nat.le_trans le1 (Nat.le_max_left _ _)⟩
      · obtain ⟨d', as', r', le1⟩ := am2 b m
        exact ⟨d', as', r', Nat.le_trans le1 (Nat.le_max_right _ _)⟩
    · simp only [PyData.depthAll, PyData.shownAll]
      exact .cons ((al1.more fun b m => List.mem_append_left _ m).level_le (Nat.le_max_left _ _)) (al2.more_le (fun b m => List.mem_append_right _ m) (Nat.le_max_right _ _))
end
theorem shows_by {a : Addr} {d : PyData} {as : List Addr} (r : Reads g0 (.ref a) d as) (sw : d.showable = true) (ns : NoSys g0 as) (le : d.shown.length ≤ sizeLine) : ∃ T i, ShowsBy P w g0 a d T i := by
  cases r with
  | list p1 p2 p3 p4 =>
    rename_i ob vs n xs as0
    have le' : (listText (PyData.shownAll xs)).length ≤ sizeLine := by simpa only [PyData.shown] using le
    obtain ⟨bs, am, al⟩ := shows_all (P := P) (w := w) p4 (by simpa [PyData.showable] using sw) (fun b m => ns b (List.mem_cons_of_mem _ m)) fun t m => Nat.le_trans (listText_mem_le m) le'
    have out : a ∉ bs := not_mem_of_deeper (.list p1 p2 p3 p4) (by simp only [PyData.depth]; omega) am
    refine ⟨"list", "list.__repr__", F.slot_list_repr.toG, F.slot_list_str, F.slot_list_format, fun s kp => ⟨ob, kp _ _ p1, p2⟩, fun A E s Q hg hu kp hQ => ?_⟩
    simp only [PyData.depth] at hu
    simp only [PyData.shown] at hQ
    obtain ⟨l⟩ := vs
    cases l with
    | nil =>
      have p5 : ReadsAll g0 [] xs _ := p4
      cases p5
      simp only [PyData.shownAll, listText_nil] at hQ
      exact call_list_repr_empty ⟨ob, kp _ _ p1, p2⟩ (kp _ _ p1) p3 (hQ s.heap _ _ fun _ _ e => e)
    | cons x l => exact call_list_reprK p1 p2 p3 out (by simpa using al.length_eq) (fun i y e => al.item i y (by simpa using e)) hg (fun b _ => Clear.nil b) hu kp hQ le'
  | tuple p1 p2 p3 p4 =>
    rename_i ob vs n xs
    have le' : (tupleText (PyData.shownAll xs)).length ≤ sizeLine := by simpa only [PyData.shown] using le
    obtain ⟨bs, am, al⟩ := shows_all (P := P) (w := w) p4 (by simpa [PyData.showable] using sw) ns fun t m => Nat.le_trans (tupleText_mem_le m) le'
    have out : a ∉ bs := not_mem_of_deeper (.tuple p1 p2 p3 p4) (by simp only [PyData.depth]; omega) am
    refine ⟨"tuple", "tuple.__repr__", F.slot_tuple_repr, F.slot_tuple_str, F.slot_tuple_format, fun s kp => ⟨ob, kp _ _ p1, p2⟩, fun A E s Q hg hu kp hQ => ?_⟩
    simp only [PyData.depth] at hu
    simp only [PyData.shown] at hQ
    exact call_tuple_reprK p1 p2 p3 out al hg (fun b _ => Clear.nil b) hu kp hQ le'
  | dict p1 p2 p3 p4 p5 =>
    rename_i ob es n kvs as1 bs1
    have le' : (dictText (PyData.shownKv kvs)).length ≤ sizeLine := by simpa only [PyData.shown] using le
    obtain ⟨sw1, sw2⟩ := PyData.showableKv_split kvs (by simpa [PyData.showable] using sw)
    obtain ⟨b1, am1, al1⟩ := shows_all (P := P) (w := w) p4 sw1 (fun b m => ns b (List.mem_cons_of_mem _ (List.mem_append_left _ m))) fun t m => let ⟨q, mq, lq⟩ := PyData.shownKv_key_le kvs t m; Nat.le_trans lq (Nat.le_trans (dictText_mem_le mq) le')
    obtain ⟨b2, am2, al2⟩ := shows_all (P := P) (w := w) p5 sw2 (fun b m => ns b (List.mem_cons_of_mem _ (List.mem_append_right _ m))) fun t m => let ⟨q, mq, lq⟩ := PyData.shownKv_val_le kvs t m; Nat.le_trans lq (Nat.le_trans (dictText_mem_le mq) le')
    have am : ReadAtMost g0 (PyData.depthKv kvs) (b1 ++ b2) := (am1.mono (PyData.depthAll_keys_le kvs)).append (am2.mono (PyData.depthAll_vals_le kvs))
    have out : a ∉ b1 ++ b2 := not_mem_of_deeper (.dict p1 p2 p3 p4 p5) (by simp only [PyData.depth]; omega) am
    have sys : (a == sysModules) = false := beq_eq_false_iff_ne.mpr fun e => by
      obtain ⟨o, its, n, e1, e2⟩ := ns a (by simp) e
      rw [p1] at e1; cases e1
      rw [p3] at e2; cases e2
    refine ⟨"dict", "dict.__repr__", F.slot_dict_repr, F.slot_dict_str, F.slot_dict_format, fun s kp => ⟨ob, kp _ _ p1, p2⟩, fun A E s Q hg hu kp hQ => ?_⟩
    simp only [PyData.depth] at hu
    simp only [PyData.shown, PyData.shownKv_eq] at hQ
    exact call_dict_reprK p1 p2 p3 sys out (ReprEntriesK.of_two es.toList _ _ (al1.more_le (fun b m => List.mem_append_left _ m) (PyData.depthAll_keys_le kvs)) (al2.more_le (fun b m => List.mem_append_right _ m) (PyData.depthAll_vals_le kvs))) hg (fun b _ => Clear.nil b) hu kp hQ (by rw [← PyData.shownKv_eq]; exact le')
end
section
variable {X : Cx} {pins : List (Addr × Obj)} {σ : L2.St} {H : Hp} {s : Shared} {O : Prot}
theorem NoSys.append {g : Heap} {as bs : List Addr} (a : NoSys g as) (b : NoSys g bs) : NoSys g (as ++ bs) := fun c m => (List.mem_append.mp m).elim (a c) (b c)
theorem pairs_reads (g : Heap) : ∀ {es : List DictEntry} {vs : List (Key × Value)} {kvs : List (Key × V)} {ds : List PyData}, Pairs (mixKind X.prog X.w) es vs → KV kvs vs → (∀ v u d, RelV v u → (v, d) ∈ (kvs.map Prod.snd).zip ds → ∃ as, Reads g u d as ∧ NoSys g as) → kvs.length = ds.length →
    ∃ as bs, ReadsAll g (es.map (·.key)) (kvs.map fun p => keyD p.1) as ∧ ReadsAll g (es.map (·.val)) ds bs ∧ NoSys g as ∧ NoSys g bs := by
  intro es vs kvs ds p
  induction p generalizing kvs ds with
  | nil =>
    intro r _ hl
    cases r
    cases ds with
    | nil => exact ⟨[], [], .nil, .nil, (fun _ m => nomatch m), fun _ m => nomatch m⟩
    | cons _ _ => simp at hl
  | @cons e kv es vs h1 h2 t ih =>
    intro r hd hl
    cases r with
    | @cons p q ps qs hpq rr =>
      cases ds with
      | nil => simp at hl
      | cons d ds =>
        obtain ⟨as, bs, a1, a2, a3, a4⟩ := ih rr (fun v u d' rv m => hd v u d' rv (List.mem_cons_of_mem _ m)) (by simpa using hl)
        obtain ⟨cs, c1, c2⟩ := hd p.2 e.val d (by rw [h2]; exact hpq.2) (by simp)
        have kr : ∃ cs, Reads g e.key (keyD p.1) cs ∧ cs = [] := by
          rw [hpq.1]
          rcases keyIs_shape h1 with ⟨i, t, e1, e2⟩ | ⟨x, t, e1, e2⟩
          · rw [e1, e2]; exact ⟨_, .int i t, rfl⟩
          · rw [e1, e2]; exact ⟨_, .str x t, rfl⟩
        obtain ⟨ks, k1, rfl⟩ := kr
        exact ⟨_, _, .cons k1 a1, .cons c1 a2, a3, c2.append a4⟩
theorem Rp.readsD (I : Inv X pins σ H s) {v : V} {d : PyData} (h : Rp X.K O H v d) : ∀ u, RelV v u → ∃ as, Reads s.heap u d as ∧ NoSys s.heap as :=
  Rp.rec (motive_1 := fun v d _ => ∀ u, RelV v u → ∃ as, Reads s.heap u d as ∧ NoSys s.heap as) (motive_2 := fun vs ds _ => (∀ us, Vals vs us → ∃ as, ReadsAll s.heap us ds as ∧ NoSys s.heap as) ∧ ∀ v u d, RelV v u → (v, d) ∈ vs.zip ds → ∃ as, Reads s.heap u d as ∧ NoSys s.heap as)
    (fun u r => by cases r; exact ⟨_, .none, fun _ m => nomatch m⟩) (fun b u r => by cases r; exact ⟨_, .bool b, fun _ m => nomatch m⟩) (fun i u r => by obtain ⟨t, rfl⟩ := r; exact ⟨_, .int i t, fun _ m => nomatch m⟩) (fun x u r => by obtain ⟨t, rfl⟩ := r; exact ⟨_, .str x t, fun _ m => nomatch m⟩)
    (fun {a xs ds} ha _ ih u r => by
      cases r
      obtain ⟨its, rv, ⟨o, n, e1, e2, _, e3⟩, _⟩ := I.list ha.sq
      obtain ⟨as, r1, r2⟩ := ih.1 its rv
      refine ⟨_, .list e1 e2 e3 r1, fun b m z => ?_⟩
      rcases List.mem_cons.mp m with rfl | m
      · exact ⟨o, _, _, e1, e3⟩
      · exact r2 b m z)
    (fun {a xs ds} ha _ ih u r => by
      cases r
      obtain ⟨its, rv, ⟨o, e1, e2, n, e3⟩, _⟩ := I.tuple ha.sq
      obtain ⟨as, r1, r2⟩ := ih.1 its rv
      exact ⟨_, .tuple e1 e2 e3 r1, r2⟩)
    (fun {a kvs ds} ha no hr ih u r => by
      cases r
      obtain ⟨z, hd, vs, rel, o, es, ep, e1, e2, e3, _, pr, _⟩ := dk_of I.hok ha
      have hl : kvs.length = ds.length := by have := hr.length; rw [List.length_map] at this; exact this
      obtain ⟨as, bs, r1, r2, n1, n2⟩ := pairs_reads s.heap pr rel ih.2 hl
      have z1 : ((kvs.map fun p => keyD p.1).zip ds).map (·.1) = kvs.map fun p => keyD p.1 := List.map_fst_zip (by rw [List.length_map]; omega)
      have z2 : ((kvs.map fun p => keyD p.1).zip ds).map (·.2) = ds := List.map_snd_zip (by rw [List.length_map]; omega)
      refine ⟨_, .dict e1 e2.1 e3 (by rw [z1]; exact r1) (by rw [z2]; exact r2), fun b m z => ?_⟩
      rcases List.mem_append.mp m with m | m
      · rcases List.mem_cons.mp m with rfl | m
        · rw [z] at hd; simp at hd
        · exact n1 b m z
      · exact n2 b m z)
    ⟨fun us r => by cases r; exact ⟨_, .nil, fun _ m => nomatch m⟩, fun v u d _ m => nomatch m⟩
    (fun _ _ i1 i2 => ⟨fun us r => by
      cases r with
      | cons a b =>
        obtain ⟨as, r1, r2⟩ := i1 _ a
        obtain ⟨bs, r3, r4⟩ := i2.1 _ b
        exact ⟨_, .cons r1 r3, r2.append r4⟩, fun v u d rv m => by
      rcases List.mem_cons.mp m with e | m
      · cases e; exact i1 u rv
      · exact i2.2 v u d rv m⟩) h
def fReprD : F1 := fun d Q => (d.showable = true ∧ d.depth ≤ 60 ∧ d.shown.length ≤ sizeLine) ∧ Q (.str d.shown)
def rReprD (K : PySem.W.Frag) : List V → Hp → VK → Prop := fun xs H Q => ∃ v d O, xs = [v] ∧ RpB K O H v d ∧ (d.showable = true ∧ d.depth ≤ 60 ∧ d.shown.length ≤ sizeLine) ∧ Q (.str d.shown) H
theorem RpB.readsD (I : Inv X pins σ H s) {v : V} {d : PyData} (h : RpB X.K O H v d) {u : Value} (r : RelV v u) : ∃ as, Reads s.heap u d as ∧ NoSys s.heap as := by
  rcases h with h | ⟨a, rfl, ⟨xs, ds, rfl, e1, e2⟩ | ⟨kvs, ds, rfl, e1, e2⟩⟩
  · exact h.readsD I u r
  · exact (Rp.lst (O := fun _ => False) ⟨e1, id⟩ (e2.keep (keeps_anti fun _ z => z.elim))).readsD I u r
  · exact (Rp.dic (O := fun _ => False) e1 id (e2.keep (keeps_anti fun _ z => z.elim))).readsD I u r
theorem call_reprD (hr : ∃ k, Room k X.A) (gu : X.A.guards = some []) : CallR X (.builtin "repr") (rReprD X.K) := by
  intro pins s σ H xs us Q I r h
  obtain ⟨v, d, O, rfl, dp, ⟨h1, h3, h4⟩, q⟩ := h
  obtain ⟨u, rfl, ru⟩ := r.one
  obtain ⟨k, hr⟩ := hr
  have hu := hr.units
  obtain ⟨as, rd, ns⟩ := dp.readsD I ru
  have ob : ∀ a, u = .ref a → wpAny (model X.prog X.w) X.A (call (.builtin "repr") [u]) (EP X pins σ Q) X.xe s := fun a e => by
    subst e
    obtain ⟨T, i, S⟩ := shows_by (P := X.prog) (w := X.w) rd h1 ns h4
    exact call_repr_slot (by omega) (S.typeIs s fun _ _ e => e) S.slotRepr (S.call X.A.in1 X.xe s _ gu (by show X.A.units + 1 + d.depth < cLine; omega) (fun _ _ e => e) fun g x tk hk => ⟨_, _, rfl, .str d.shown, H, I.kept hk, ⟨_, rfl⟩, q⟩)
  cases rd with
  | none => exact PySem.P.repr_of_none ⟨.str _, H, I.tok _, ⟨_, rfl⟩, q⟩
  | bool b => exact PySem.P.repr_of_bool ⟨.str _, H, I.tok _, ⟨_, rfl⟩, q⟩
  | int i t => exact PySem.P.repr_of_int (by simpa [PyData.showable] using h1) ⟨.str _, H, I.tok _, ⟨_, rfl⟩, q⟩
  | str x t => exact PySem.P.repr_of_str ⟨.str _, H, I.tok _, ⟨_, rfl⟩, q⟩ h4
  | list a b c d => exact ob _ rfl
  | tuple a b c d => exact ob _ rfl
  | dict a b c d e => exact ob _ rfl
theorem cs_reprD (K : PySem.W.Frag) : Call1S K (rReprD K) fReprD := by
  intro O H v d Qd R hO r h kk
  exact ⟨v, d, O, rfl, r, h.1, kk _ _ H (Same.refl H) (.str _) h.2⟩
end
end DL
end
section
set_option autoImplicit false
set_option linter.all false
set_option maxRecDepth 100000
set_option maxHeartbeats 4000000
/-! the bag: three numbers, none below zero, and a list of such; the counter: [n] -/
namespace DL
open PySem PySem.Spec L2
theorem get_list {X : Cx} : PGet X (fun o i H Q => ∃ p xs k v, o = .ref p ∧ i = .int k ∧ 0 ≤ k ∧ k < 1000 ∧ H p = some (.lst xs) ∧ xs[k.toNat]? = some v ∧ Q v H) := by
  intro pins s σ H o i ov iv Q I ro ri h
  obtain ⟨p, xs, k, v, rfl, rfl, h0, h1, hp, hv, q⟩ := h
  cases ro
  obtain ⟨t, rfl⟩ := ri
  obtain ⟨its, r, pl, hz⟩ := I.list (.of hp)
  obtain ⟨u, eu, ru⟩ := r.get hv
  exact wpAny_getItem_list pl.isList h0 (by omega) (by simpa using eu) ⟨v, H, I, ru, q⟩
section
variable {K : PySem.W.Frag} {F : FC} {σ : L2.St} {H H' : Hp} {Γ : GS}
/-- the bag or the counter is written -/
theorem StOk.zset (S : StOk K F σ H Γ) {a : Addr} {o : HO} (hz : F.Z a) (hb : ∀ b, F.bag = some b → BagOk K (Own F σ Γ) (upd H a o) b) (hl : ∀ b, F.left = some b → LeftOk (upd H a o) b) : StOk K F σ (upd H a o) Γ ∧ PresE F σ Γ H Γ (upd H a o) := by
  have aP := S.zP hz
  have pr : PresE F σ Γ H Γ (upd H a o) := ⟨fun c u e n _ => by rw [upd_ne (show c ≠ a from fun z => n (by rw [z]; exact hz))]; exact e, fun _ q => q, fun c u e => by
    by_cases h : c = a
    · subst h; exact ⟨_, upd_same⟩
    · exact ⟨u, by rw [upd_ne h]; exact e⟩⟩
  have kp := pr.keeps fun a => S.zP
  refine ⟨⟨S.len, fun i d e => let ⟨v, x, y⟩ := S.sh i d e; ⟨v, x, y.keep kp⟩, fun i d e => ?_, S.inj, S.bg, S.lf, fun b q => ⟨(S.bagOk b q).1, hb b q⟩, fun b q => ⟨(S.leftOk b q).1, hl b q⟩, S.apart, fun b q => ?_⟩, pr⟩
  · obtain ⟨c, x, y, g⟩ := S.ow i d e
    exact ⟨c, x, y, g.keep kp (by rw [upd_ne (show c ≠ a from fun z => y (by rw [z]; exact aP))])⟩
  · obtain ⟨u, e⟩ := S.trk b q
    exact pr.trk b u e
theorem BagOk.put {O : Prot} {a : Addr} (h : BagOk K O H a) (hO : O a) {i : Nat} (hi : i < 3) {n : Int} (hn : 0 ≤ n) : ∃ xs, H a = some (.lst xs) ∧ xs.length = 4 ∧ BagOk K O (upd H a (.lst (xs.set i (.int n)))) a := by
  obtain ⟨b0, b1, b2, c, ns, e, h0, h1, h2, hns, r⟩ := h
  have kp : Keeps O H O (upd H a (.lst ([.int b0, .int b1, .int b2, c].set i (.int n)))) := fun b u eb nb => ⟨by rw [upd_ne (show b ≠ a from fun z => nb (by rw [z]; exact hO))]; exact eb, nb⟩
  refine ⟨_, e, rfl, ?_⟩
  match i, hi with
  | 0, _ => exact ⟨n, b1, b2, c, ns, upd_same, hn, h1, h2, hns, r.keep kp⟩
  | 1, _ => exact ⟨b0, n, b2, c, ns, upd_same, h0, hn, h2, hns, r.keep kp⟩
  | 2, _ => exact ⟨b0, b1, n, c, ns, upd_same, h0, h1, hn, hns, r.keep kp⟩
theorem StOk.bagSet (S : StOk K F σ H Γ) {a : Addr} (hb : F.bag = some a) {i : Nat} (hi : i < 3) {n : Int} (hn : 0 ≤ n) : ∃ xs, H a = some (.lst xs) ∧ xs.length = 4 ∧ StOk K F σ (upd H a (.lst (xs.set i (.int n)))) Γ ∧ PresE F σ Γ H Γ (upd H a (.lst (xs.set i (.int n)))) := by
  obtain ⟨xs, e, l, b⟩ := (S.bagOk a hb).2.put (.inl (S.bagOk a hb).1) hi hn
  refine ⟨xs, e, l, S.zset (.inl hb) (fun c q => ?_) fun c q => ?_⟩
  · rw [hb] at q; cases q; exact b
  · obtain ⟨m, z⟩ := (S.leftOk c q).2
    have ne : c ≠ a := fun z => S.apart a hb (by rw [← z]; exact q)
    exact ⟨m, by rw [upd_ne ne]; exact z⟩
theorem StOk.leftSet (S : StOk K F σ H Γ) {a : Addr} (hb : F.left = some a) (n : Int) : StOk K F σ (upd H a (.lst [.int n])) Γ ∧ PresE F σ Γ H Γ (upd H a (.lst [.int n])) := by
  refine S.zset (.inr hb) (fun c q => ?_) fun c q => ?_
  · have ne : c ≠ a := fun z => S.apart c q (by rw [z]; exact hb)
    exact (S.bagOk c q).2.keep (fun b u eb nb => ⟨by rw [upd_ne (show b ≠ a from fun z => nb (by rw [z]; exact .inl (S.leftOk a hb).1))]; exact eb, nb⟩) (upd_ne ne)
  · rw [hb] at q; cases q; exact ⟨n, upd_same⟩
end
section
variable {ι : Type} {Xs : ι → Cx} {P : Program} {w : World} {K : PySem.W.Frag} {mg : Str → Option Value} {base : Heap} {k : Nat} {e : Expr} {d : DT} {pos p1 p2 : Pos} {n : Nat} {x : Str}
/-- bag[i], i among 0, 1, 2 -/
def dBagN (j : Nat) : DT := fun Γ Q => Γ.getD j .un = .bag ∧ ∀ m : Int, 0 ≤ m → Q (.val (.int m)) Γ
theorem dx_bagN (j i : Nat) (hi : i < 3) {cc : Int} (E : EnvOk Xs P w K mg base k) (hN : ∀ i, (Xs i).N[j]? = some x := by intro _; rfl) (hv : ∀ i, Vis (Xs i).env.scope x := by intro _; first | exact Or.inl rfl | exact Or.inr (Or.inl rfl) | exact Or.inr (Or.inr rfl))
    (hd : (x == ("__debug__" : Str)) = false := by decide) (hcd : (x == ("__classdict__" : Str)) = false := by decide) (hc : cc = (i : Int) := by rfl) (hs : PlainIx (.Constant (.int cc) n p2) := by intro _ _; rfl) : DX Xs K (.Subscript (.Name x p1) (.Constant (.int cc) n p2) pos) (dBagN j) := by
  subst hc
  refine ⟨tOp (rIx K) (tVar j) (tC (.int i)), fun z => by rw [← E.K z]; exact pe_ix ix_seq (pe_var (hN z) (hv z) hd hcd) pe_int hs, ?_⟩
  intro F σ H Γ Q R S h kk
  obtain ⟨eb, q⟩ := h
  obtain ⟨a, e1, e2⟩ := S.bg j (getD_of eb (fun z => by cases z))
  obtain ⟨b0, b1, b2, c, ns, e, h0, h1, h2, hns, r⟩ := (S.bagOk a e1).2
  refine ⟨.ref a, e2, ?_⟩
  have fin : ∀ m : Int, 0 ≤ m → R (.int m) H := fun m hm => kk _ (.val (.int m)) H Γ (.int m) S .refl (q m hm)
  match i, hi with
  | 0, _ => exact .inl ⟨a, _, _, _, rfl, rfl, .of e, rfl, fin b0 h0⟩
  | 1, _ => exact .inl ⟨a, _, _, _, rfl, rfl, .of e, rfl, fin b1 h1⟩
  | 2, _ => exact .inl ⟨a, _, _, _, rfl, rfl, .of e, rfl, fin b2 h2⟩
def dBagL (j : Nat) : DT := fun Γ Q => Γ.getD j .un = .bag ∧ ∀ ns : List Int, NsOk ns → Q (.val (.list (ns.map .int))) Γ
theorem dx_bagL (j : Nat) (E : EnvOk Xs P w K mg base k) (hN : ∀ i, (Xs i).N[j]? = some x := by intro _; rfl) (hv : ∀ i, Vis (Xs i).env.scope x := by intro _; first | exact Or.inl rfl | exact Or.inr (Or.inl rfl) | exact Or.inr (Or.inr rfl))
    (hd : (x == ("__debug__" : Str)) = false := by decide) (hcd : (x == ("__classdict__" : Str)) = false := by decide) (hs : PlainIx (.Constant (.int 3) n p2) := by intro _ _; rfl) : DX Xs K (.Subscript (.Name x p1) (.Constant (.int 3) n p2) pos) (dBagL j) := by
  refine ⟨tOp (rIx K) (tVar j) (tC (.int 3)), fun z => by rw [← E.K z]; exact pe_ix ix_seq (pe_var (hN z) (hv z) hd hcd) pe_int hs, ?_⟩
  intro F σ H Γ Q R S h kk
  obtain ⟨eb, q⟩ := h
  obtain ⟨a, e1, e2⟩ := S.bg j (getD_of eb (fun z => by cases z))
  obtain ⟨b0, b1, b2, c, ns, e, h0, h1, h2, hns, r⟩ := (S.bagOk a e1).2
  exact ⟨.ref a, e2, .inl ⟨a, _, 3, c, rfl, rfl, .of e, rfl, kk _ (.val (.list (ns.map .int))) H Γ r S .refl (q ns hns)⟩⟩
/-- bag[i] = e -/
def dBagSet (j : Nat) (d : DT) : DTS := fun D Γ => d Γ fun y Γ1 => Γ1.getD j .un = .bag ∧ y.wd Γ1 fun v => match v with
  | .int m => 0 ≤ m ∧ D.nx Γ1
  | _ => False
theorem ds_bagSet (j i : Nat) (hi : i < 3) {cc : Int} {tpos : Pos} (E : EnvOk Xs P w K mg base k) (a : DX Xs K e d) (hN : ∀ i, (Xs i).N[j]? = some x := by intro _; rfl) (hv : ∀ i, Vis (Xs i).env.scope x := by intro _; first | exact Or.inl rfl | exact Or.inr (Or.inl rfl) | exact Or.inr (Or.inr rfl))
    (hd : (x == ("__debug__" : Str)) = false := by decide) (hcd : (x == ("__classdict__" : Str)) = false := by decide)
    (hc : cc = (i : Int) := by rfl) (hs : ∀ z, swapsWithSole [.Subscript (.Name x p1) (.Constant (.int cc) n p2) tpos] e pos.line (Xs z).env = pure false := by intro _; rfl) (hw : ∀ z, swappedStores [.Subscript (.Name x p1) (.Constant (.int cc) n p2) tpos] e (Xs z).env = pure none := by intro _; rfl)
    (h1 : ∀ z, (assignEach [.Subscript (.Name x p1) (.Constant (.int cc) n p2) tpos] (Xs z).env).map (·.2) = [assign (.Subscript (.Name x p1) (.Constant (.int cc) n p2) tpos) (Xs z).env] := by intro _; rfl)
    (ha : ∀ z v, assign (.Subscript (.Name x p1) (.Constant (.int cc) n p2) tpos) (Xs z).env v = (do
      let ov ← holding [v] (eval (.Name x p1) (Xs z).env)
      let iv ← holding [v, ov] (eval (.Constant (.int cc) n p2) (Xs z).env)
      standAt tpos
      holding [v, ov, iv] (setItem ov iv v)
      release [v, ov, iv] []) := by intro _ _; rfl) : DXS Xs K (.Assign [.Subscript (.Name x p1) (.Constant (.int cc) n p2) tpos] e pos) (dBagSet j d) := by
  subst hc
  obtain ⟨ta, pa, sa⟩ := a
  refine ⟨tAsg ta (gSub (tVar j) (tC (.int i)) rSetL), fun z => ps_asg (pa z) (pg_sub (pe_var (hN z) (hv z) hd hcd) pe_int set_list (ha z)) (hs z) (hw z) (h1 z), ?_⟩
  intro F σ H Γ D Ee S h ee
  refine sa F σ H Γ _ _ S h fun v o H1 Γ1 ok1 S1 p1 h1 => ?_
  obtain ⟨eb, h2⟩ := h1
  obtain ⟨d1, r1, h3⟩ := ok1.rep S1 h2
  cases d1 with
  | int m =>
    obtain rfl := r1.int
    obtain ⟨a, e1, e2⟩ := S1.bg j (getD_of eb (fun z => by cases z))
    obtain ⟨xs, e3, e4, S2, p2⟩ := S1.bagSet e1 hi h3.1
    refine ⟨.ref a, e2, a, xs, i, i, rfl, rfl, e3, ?_, ee.nx σ _ Γ1 S2 (p1.trans p2).s h3.2⟩
    rw [e4]
    match i, hi with
    | 0, _ => rfl
    | 1, _ => rfl
    | 2, _ => rfl
  | _ => exact h3.elim
/-- bag[i] += e -/
def dBagInc (j : Nat) (d : DT) : DTS := fun D Γ => Γ.getD j .un = .bag ∧ dBagSet j d D Γ
theorem ds_bagInc (j i : Nat) (hi : i < 3) {cc : Int} (E : EnvOk Xs P w K mg base k) (a : DX Xs K e d) {tpos : Pos} (hN : ∀ i, (Xs i).N[j]? = some x := by intro _; rfl) (hv : ∀ i, Vis (Xs i).env.scope x := by intro _; first | exact Or.inl rfl | exact Or.inr (Or.inl rfl) | exact Or.inr (Or.inr rfl))
    (hd : (x == ("__debug__" : Str)) = false := by decide) (hcd : (x == ("__classdict__" : Str)) = false := by decide)
    (hc : cc = (i : Int) := by rfl) (ha : ∀ ov iv new, augStore (.Constant (.int cc) n p2) ov iv new = (do holding [new, ov, iv] (setItem ov iv new); release [new, ov, iv] []; pure .next) := by intros; rfl) : DXS Xs K (.AugAssign (.Subscript (.Name x p1) (.Constant (.int cc) n p2) tpos) .Add e pos) (dBagInc j d) := by
  subst hc
  obtain ⟨ta, pa, sa⟩ := a
  refine ⟨tAugS (tVar j) (tC (.int i)) ta _ (ipI fun i j => i + j) rSetL, fun z => ps_augS (pe_var (hN z) (hv z) hd hcd) pe_int get_list (pa z) ip_add set_list ha, ?_⟩
  intro F σ H Γ D Ee S h ee
  -- the bag's slot is the bag already: no rule changes a slot's sort but those that set it
  obtain ⟨eb0, h⟩ := h
  obtain ⟨a, e1, e2⟩ := S.bg j (getD_of eb0 (fun z => by cases z))
  obtain ⟨b0, b1, b2, c, ns, q0, m0, m1, m2, hns, r⟩ := (S.bagOk a e1).2
  have rest : ∀ b : Int, 0 ≤ b → ta σ H fun y H4 => ipI (fun i j => i + j) (.int b) y H4 fun z H5 => rSetL (.ref a) (.int i) z H5 fun H6 => Ee.nx σ H6 := fun b hb => by
    refine sa F σ H Γ _ _ S h fun v o H1 Γ1 ok1 S1 p1 h1 => ?_
    obtain ⟨eb, h2⟩ := h1
    obtain ⟨d1, r1, h3⟩ := ok1.rep S1 h2
    cases d1 with
    | int m =>
      obtain rfl := r1.int
      obtain ⟨xs, e3, e4, S2, p2⟩ := S1.bagSet e1 hi (show 0 ≤ b + m by have := h3.1; omega)
      refine ⟨b, m, rfl, rfl, a, xs, i, i, rfl, rfl, e3, ?_, ee.nx σ _ Γ1 S2 (p1.trans p2).s h3.2⟩
      rw [e4]
      match i, hi with
      | 0, _ => rfl
      | 1, _ => rfl
      | 2, _ => rfl
    | _ => exact h3.elim
  match i, hi with
  | 0, _ => exact ⟨.ref a, e2, a, _, _, _, rfl, rfl, by decide, by decide, q0, rfl, rest b0 m0⟩
  | 1, _ => exact ⟨.ref a, e2, a, _, _, _, rfl, rfl, by decide, by decide, q0, rfl, rest b1 m1⟩
  | 2, _ => exact ⟨.ref a, e2, a, _, _, _, rfl, rfl, by decide, by decide, q0, rfl, rest b2 m2⟩
/-- left[0] -/
def dLeft (j : Nat) : DT := fun Γ Q => Γ.getD j .un = .left ∧ ∀ m : Int, Q (.val (.int m)) Γ
theorem dx_left (j : Nat) (E : EnvOk Xs P w K mg base k) (hN : ∀ i, (Xs i).N[j]? = some x := by intro _; rfl) (hv : ∀ i, Vis (Xs i).env.scope x := by intro _; first | exact Or.inl rfl | exact Or.inr (Or.inl rfl) | exact Or.inr (Or.inr rfl))
    (hd : (x == ("__debug__" : Str)) = false := by decide) (hcd : (x == ("__classdict__" : Str)) = false := by decide) (hs : PlainIx (.Constant (.int 0) n p2) := by intro _ _; rfl) : DX Xs K (.Subscript (.Name x p1) (.Constant (.int 0) n p2) pos) (dLeft j) := by
  refine ⟨tOp (rIx K) (tVar j) (tC (.int 0)), fun z => by rw [← E.K z]; exact pe_ix ix_seq (pe_var (hN z) (hv z) hd hcd) pe_int hs, ?_⟩
  intro F σ H Γ Q R S h kk
  obtain ⟨eb, q⟩ := h
  obtain ⟨a, e1, e2⟩ := S.lf j (getD_of eb (fun z => by cases z))
  obtain ⟨m, e⟩ := (S.leftOk a e1).2
  exact ⟨.ref a, e2, .inl ⟨a, _, 0, _, rfl, rfl, .of e, rfl, kk _ (.val (.int m)) H Γ (.int m) S .refl (q m)⟩⟩
/-- left[0] -= n -/
def dLeftDec (j : Nat) : DTS := fun D Γ => Γ.getD j .un = .left ∧ D.nx Γ
theorem ds_leftDec (j : Nat) (E : EnvOk Xs P w K mg base k) {tpos : Pos} {c : Int} {n2 : Nat} {p3 : Pos} (hN : ∀ i, (Xs i).N[j]? = some x := by intro _; rfl) (hv : ∀ i, Vis (Xs i).env.scope x := by intro _; first | exact Or.inl rfl | exact Or.inr (Or.inl rfl) | exact Or.inr (Or.inr rfl))
    (hd : (x == ("__debug__" : Str)) = false := by decide) (hcd : (x == ("__classdict__" : Str)) = false := by decide)
    (ha : ∀ ov iv new, augStore (.Constant (.int 0) n p2) ov iv new = (do holding [new, ov, iv] (setItem ov iv new); release [new, ov, iv] []; pure .next) := by intros; rfl) : DXS Xs K (.AugAssign (.Subscript (.Name x p1) (.Constant (.int 0) n p2) tpos) .Sub (.Constant (.int c) n2 p3) pos) (dLeftDec j) := by
  refine ⟨tAugS (tVar j) (tC (.int 0)) (tC (.int c)) _ (ipI fun i j => i - j) rSetL, fun z => ps_augS (pe_var (hN z) (hv z) hd hcd) pe_int get_list pe_int ip_sub set_list ha, ?_⟩
  intro F σ H Γ D Ee S h ee
  obtain ⟨eb, h⟩ := h
  obtain ⟨a, e1, e2⟩ := S.lf j (getD_of eb (fun z => by cases z))
  obtain ⟨m, e⟩ := (S.leftOk a e1).2
  obtain ⟨S2, p2⟩ := S.leftSet e1 (m - c)
  exact ⟨.ref a, e2, a, _, 0, _, rfl, rfl, by decide, by decide, e, rfl, m, c, rfl, rfl, a, _, 0, 0, rfl, rfl, e, rfl, ee.nx σ _ Γ S2 p2.s h⟩
end
end DL
end
section
set_option autoImplicit false
set_option linter.all false
set_option maxRecDepth 100000
set_option maxHeartbeats 4000000
/-! calls whose last argument is a fresh counter [n] -/
namespace DL
open PySem PySem.Spec L2
abbrev FC.cl (F : FC) (p : Addr) (σ : L2.St) (Γ : GS) : FC := { P := Own (F.plus p) σ Γ, bag := F.bag, left := some p }
def SoundVL (K : PySem.W.Frag) (t : TA) (dt : DTV) : Prop := ∀ (F : FC) (σ : L2.St) (H : Hp) (Γ : GS) (Q : List AV → GS → Prop) (R : List V → Hp → Prop), StOk K F σ H Γ → dt Γ Q →
  (∀ vs avs H' Γ' p (n : Int), ¬ F.P p → H p = none → StOk K (F.plus p) σ H' Γ' → H' p = some (.lst [.int n]) → (∀ a, F.P a → ∃ o, H' a = some o) → Paired (AvOk K (F.cl p σ Γ') H') vs avs → PresE F σ Γ H Γ' H' → Q avs Γ' → R vs H') → t σ H R
def DXVL {ι : Type} (Xs : ι → Cx) (K : PySem.W.Frag) (es : List Expr) (dt : DTV) : Prop := ∃ t, (∀ i, PA (Xs i) es t) ∧ SoundVL K t dt
def vLeft : DTV := fun Γ Q => Q [.left] Γ
def noL : AV → Prop
  | .left => False
  | _ => True
def vConsN (d : DT) (r : DTV) : DTV := fun Γ Q => d Γ fun x Γ1 => (x.sv Γ1).av fun a => noL a ∧ r (x.frz Γ1) fun as Γ2 => Q (a :: as) Γ2
section
variable {ι : Type} {Xs : ι → Cx} {P : Program} {w : World} {K : PySem.W.Frag} {mg : Str → Option Value} {base : Heap} {k j : Nat} {e : Expr} {es : List Expr} {d : DT} {da : DTV} {pos p p1 : Pos} {x : Str} {f : Addr} {fd : FuncData} {ps : List Str} {sp : SpD} {c : Int} {n : Nat}
theorem dxvl_last (hs : ∀ i, starEach [.List [.Constant (.int c) n p] p1] (Xs i).env = (false, eval (.List [.Constant (.int c) n p] p1) (Xs i).env) :: starEach [] (Xs i).env := by intro _; rfl)
    (hs2 : ∀ i, starEach [.Constant (.int c) n p] (Xs i).env = (false, eval (.Constant (.int c) n p) (Xs i).env) :: starEach [] (Xs i).env := by intro _; rfl) : DXVL Xs K [.List [.Constant (.int c) n p] p1] vLeft := by
  refine ⟨tCons (tLst (tCons (tC (.int c)) tNil)) tNil, fun i => pa_cons (pe_lst (pa_cons pe_int pa_nil (hs2 i))) pa_nil (hs i), ?_⟩
  intro F σ H Γ Q R S h kk
  refine ⟨by show 1 ≤ sizeLine; decide, fun p hp => ?_⟩
  have nP : ¬ F.P p := fun z => by obtain ⟨o, e⟩ := S.trk p z; rw [hp] at e; cases e
  exact kk [.ref p] [.left] _ Γ p c nP hp (S.plus hp) upd_same (fun a q => let ⟨o, e⟩ := S.trk a q; ⟨o, same_upd hp a o e⟩) (.cons ⟨p, rfl, rfl⟩ .nil) (.ext (same_upd hp)) h
theorem dxvl_cons (a : DX Xs K e d) (r : DXVL Xs K es da) (hs : ∀ i, starEach (e :: es) (Xs i).env = (false, eval e (Xs i).env) :: starEach es (Xs i).env := by intro _; rfl) : DXVL Xs K (e :: es) (vConsN d da) := by
  obtain ⟨ta, pa, sa⟩ := a
  obtain ⟨tr, pr, sr⟩ := r
  refine ⟨tCons ta tr, fun i => pa_cons (pa i) (pr i) (hs i), ?_⟩
  intro F σ H Γ Q R S h kk
  refine sa F σ H Γ _ _ S h fun v o H1 Γ1 ok1 S1 p1 h1 => ?_
  obtain ⟨a1, r1, na, h2⟩ := ok1.av S1 h1
  have S1' := S1.frz o
  refine sr F σ H1 _ _ _ S1' h2 fun vs as H2 Γ2 p n nP hp S2 e2 tk ra p2 h3 => ?_
  have hp0 : H p = none := by
    cases z : H p with
    | none => rfl
    | some u => obtain ⟨u', e'⟩ := p1.trk p u z; rw [hp] at e'; cases e'
  refine kk (v :: vs) (a1 :: as) H2 Γ2 p n nP hp0 S2 e2 tk (.cons ?_ ra) (p1.trans ((PresE.frz o).trans p2)) h3
  have kp : Keeps (Own F σ (o.frz Γ1)) H1 (Own (F.plus p) σ Γ2) H2 := fun b u e n => by
    obtain ⟨e', n'⟩ := p2.keeps (fun a => S1'.zP) b u e n
    refine ⟨e', fun z => ?_⟩
    rcases z with (z | z) | z
    · exact n' (.inl z)
    · subst z; rw [hp] at e; cases e
    · exact n' (.inr z)
  cases a1 with
  | d y => exact Rp.keep kp r1
  | bag => exact r1
  | left => exact na.elim
theorem dx_callL (E : EnvOk Xs P w K mg base k) (B : FnB P w K mg base j x ps sp) (hjk : j ≤ k) (ha : DXVL Xs K (e :: es) da) (hg : ∀ i, Gl (Xs i) x := by intro _; rfl)
    (hdb : (x == ("__debug__" : Str)) = false := by decide) (he : ∀ i, starEach (e :: es) (Xs i).env = (false, eval e (Xs i).env) :: starEach es (Xs i).env := by intro _; rfl) (hpl : ∀ i, (backTo pos (starEach es (Xs i).env)).any (·.1) = false := by intro _; rfl) :
    DX Xs K (.Call (.Name x p) (e :: es) [] pos) (dCall sp da) := by
  obtain ⟨f, fd, G, hm, hk, hb⟩ := B.ex
  obtain ⟨t, pa, s⟩ := ha
  refine ⟨fun σ H Q => t σ H fun vs H1 => spD K sp vs H1 Q E0, fun i => ?_, ?_⟩
  · have e1 := E.prog i; have e2 := E.w i; have e3 := E.K i; have e4 := E.mg i; have e5 := E.base i
    have G' : FnG (Xs i).prog (Xs i).w (Xs i).K (Xs i).mg (Xs i).base k f fd ps (spD (Xs i).K sp) := by rw [e1, e2, e3, e4, e5]; exact G.mono hjk
    have r := pe_callG G' (E.room i) (E.guards i) (hg i) (by rw [e4]; exact hm) (by rw [e3]; exact hk) (by rw [e3]; exact hb) (pa i) (p := p) (pos := pos) hdb (he i) (hpl i)
    rw [e3] at r
    exact r
  intro F σ H Γ Q R S h kk
  refine s F σ H Γ _ _ S h fun vs avs H1 Γ1 p n nP hp S1 e1 tk ra p1 h1 => ?_
  have So := S1.out
  have Sc : StOk K (F.cl p σ Γ1) [] H1 [] := ⟨rfl, fun i d e => by simp at e, fun i d e => by simp at e, fun i j d e a h => by simp at h, fun i e => by simp at e, fun i e => by simp at e,
    fun a q => So.bagOk a q, fun a q => by cases q; exact ⟨.inl (.inr rfl), n, e1⟩, fun a q z => by cases z; exact nP (S.bagOk p q).1, So.trk⟩
  refine ⟨F.cl p σ Γ1, avs, _, Sc, ra, h1, fun v d H' rv S' fr q => ?_⟩
  have zc : ∀ a, (F.cl p σ Γ1).Z a → (F.plus p).P a := fun a z => by
    rcases z with z | z
    · exact .inl (S.bagOk a z).1
    · cases z; exact .inr rfl
  have kp : Keeps (Own (F.plus p) σ Γ1) H1 (Own (F.plus p) σ Γ1) H' := fun a o e n => ⟨fr a o e fun z => n (.inl (zc a z)), n⟩
  have kp2 : Keeps (Own (F.cl p σ Γ1) [] []) H' (Own (F.plus p) σ Γ1) H' := keeps_anti fun a q => .inl q
  have tk' : ∀ a o, H1 a = some o → ∃ u, H' a = some u := fun a o e => by
    by_cases z : (F.cl p σ Γ1).Z a
    · exact S'.trk a (.inl (zc a z))
    · exact ⟨o, fr a o e z⟩
  have nZ : ¬ F.Z p := fun z => nP (S.zP z)
  have S2 : StOk K (F.plus p) σ H' Γ1 := ⟨S1.len, fun i d e => let ⟨v, a, b⟩ := S1.sh i d e; ⟨v, a, b.keep kp⟩, fun i d e => by
      obtain ⟨a, b, c, g⟩ := S1.ow i d e
      obtain ⟨u, q⟩ := g.there
      exact ⟨a, b, c, g.keep kp (by rw [q]; exact fr a u q fun z => c (zc a z))⟩, S1.inj, S1.bg, S1.lf, fun a q => ⟨(S1.bagOk a q).1, (S'.bagOk a q).2.keep kp2 rfl⟩, fun a q => ⟨(S1.leftOk a q).1, by
      obtain ⟨m, em⟩ := (S1.leftOk a q).2
      refine ⟨m, fr a _ em fun z => ?_⟩
      rcases z with z | z
      · exact S.apart a z q
      · cases z; exact nP (S.leftOk p q).1⟩, S1.apart, fun a q => S'.trk a (.inl q)⟩
  have S3 := S2.minus nZ (fun a => S.zP) fun a q => S'.trk a (.inl (.inl q))
  refine kk v (.val d) H' Γ1 (Rp.anti rv fun a q => q.imp .inl id) S3 ⟨fun a o e n m => ?_, p1.own, fun a o e => let ⟨u, z⟩ := p1.trk a o e; tk' a u z⟩ q
  refine fr a o (p1.same a o e n m) fun z => ?_
  rcases z with z | z
  · exact n (.inl z)
  · cases z; rw [hp] at e; cases e
end
end DL
end
section
set_option autoImplicit false
set_option linter.all false
set_option maxRecDepth 100000
set_option maxHeartbeats 4000000
/-! the bag's making, a law's def, the way to the statement -/
namespace DL
open PySem PySem.Spec L2 Evl
def rAbs : List V → Hp → VK → Prop := fun xs H Q => ∃ i, xs = [.int i] ∧ Q (.int (if i < 0 then -i else i)) H
theorem call_absD {X : Cx} : CallR X (.builtin "abs") rAbs := call_abs
theorem boot_abs : bootBuiltins "abs" = some (.builtin "abs") := by decide +kernel
def absAt (xs : List V) (i : Nat) : Int := match xs[i]? with
  | some (.int k) => if k < 0 then -k else k
  | _ => 0
theorem absAt_pos (xs : List V) (i : Nat) : 0 ≤ absAt xs i := by
  unfold absAt
  split
  · split <;> omega
  · omega
def tBag (K : PySem.W.Frag) : TS := tRet (tLst (tCons (tC (.int 0)) (tCons (tC (.int 1234567891)) (tCons (tC (.int 0)) (tCons (tLc (iList K (tSl (rSlL K) (tVar 0) tNoPart (tPart (tC (.int 63))))) (gName 1) tYes (tCB rAbs (tCons (tVar 1) tNil)) [1]) tNil)))))
theorem bag_eval {K : PySem.W.Frag} {H : Hp} {a : Addr} {ns : List Int} (hs : SqL K H a (ns.map V.int)) (hl : ns.length ≤ 40000) {D : Ends}
    (k : ∀ p c (ms : List Int) H', NsOk ms → H' p = some (.lst [.int 0, .int 1234567891, .int 0, .ref c]) → H' c = some (.lst (ms.map V.int)) → p ≠ c → (∀ b o, H b = some o → H' b = some o) → D.rt (.ref p) H') : tBag K D [some (.ref a), none] H := by
  let xs := cutV (ns.map V.int) none (some 63)
  have hx : ∀ (i : Nat) (x : V), xs[i]? = some x → ∃ n : Int, x = .int n := fun i x e => by
    have m : x ∈ xs := List.mem_of_getElem? e
    have m2 : x ∈ ns.map V.int := List.mem_of_mem_drop (List.mem_of_mem_take m)
    obtain ⟨n, _, rfl⟩ := List.mem_map.mp m2
    exact ⟨n, rfl⟩
  have lx : xs.length ≤ 40000 := by
    have := cutV_length (ns.map V.int) none (some 63)
    rw [List.length_map] at this
    exact Nat.le_trans this hl
  have h1 : EvL (tSl (rSlL K) (tVar 0) tNoPart (tPart (tC (.int 63)))) [some (.ref a), none] H xs :=
    el_sl (fun H1 e Q q => ⟨.ref a, rfl, q H1 (Ex.refl _)⟩) (fun H1 e Q q => q H1 (Ex.refl _)) (fun H1 e Q q => ⟨63, rfl, q H1 (Ex.refl _)⟩) hs
  have h2 := el_lcNL (K := K) (j := 1) (vs := [1]) (t := tYes) (te := tCB rAbs (tCons (tVar 1) tNil)) (fun _ => true) (fun i => .int (absAt xs i)) h1 lx (fun x => rfl) (fun i x H1 e1 hi H2 e2 Q q => q H2 (Ex.refl _)) (fun i x H1 e1 hi _ H2 e2 Q q => by
    obtain ⟨n, rfl⟩ := hx i x hi
    refine ⟨.int n, rfl, n, rfl, ?_⟩
    have e : absAt xs i = if n < 0 then -n else n := by unfold absAt; rw [hi]
    rw [← e]
    exact q H2 (Ex.refl _))
  have eg : given xs.length (fun _ => true) (fun i => V.int (absAt xs i)) = ((List.range xs.length).map (absAt xs)).map V.int := by
    unfold given
    rw [List.filter_eq_self.mpr (fun _ _ => rfl), List.map_map]; rfl
  rw [eg] at h2
  have go := h2 H (Ex.refl _) (fun y H2 => ([V.int 0, V.int 1234567891, V.int 0, y] : List V).length ≤ sizeLine ∧ ∀ p, H2 p = none → D.rt (.ref p) (upd H2 p (.lst [V.int 0, V.int 1234567891, V.int 0, y])))
  refine go fun c H2 hc e2 h3 => ⟨by show 4 ≤ sizeLine; decide, fun p hp => ?_⟩
  refine k p c _ _ (show NsOk ((List.range xs.length).map (absAt xs)) from ⟨by rw [List.length_map, List.length_range]; exact lx, fun m hm => by obtain ⟨i, _, rfl⟩ := List.mem_map.mp hm; exact absAt_pos xs i⟩) upd_same (by rw [upd_ne (fun z => by rw [z, hp] at h3; cases h3)]; exact h3) (fun z => by rw [z] at hp; rw [hp] at h3; cases h3) fun b o e => ?_
  have := e2 b o e
  rw [upd_ne (fun z => by rw [z, hp] at this; cases this)]
  exact this
/-- what a law's def promises: true of any script -/
def spLaw (K : PySem.W.Frag) : Sp := fun vs H Q _ => ∃ a, ∃ ns : List Int, vs = [.ref a] ∧ ns.length ≤ 40000 ∧ SqL K H a (ns.map V.int) ∧ ∀ H', Q (.bl true) H'
def spBagMk (K : PySem.W.Frag) : Sp := fun vs H Q _ => ∃ a, ∃ ns : List Int, vs = [.ref a] ∧ ns.length ≤ 40000 ∧ SqL K H a (ns.map V.int) ∧
  ∀ p c (ms : List Int) H', NsOk ms → H' p = some (.lst [.int 0, .int 1234567891, .int 0, .ref c]) → H' c = some (.lst (ms.map V.int)) → p ≠ c → Q (.ref p) H'
theorem bag_fn {P : Program} {w : World} {K : PySem.W.Frag} {mg : Str → Option Value} {base : Heap} {N : List Str} {x : Str} {st : Stmt} {f : Addr} {fd : FuncData} (F : Fun K x x st f fd) (S : FnScope N ["script"] (defScope st)) (hN : ∀ v : V, L2.start N [v] = [some v, none])
    (hb : ∀ (cd : Value) (A : Around) (outer : List Env) (s : Shared) (H : Hp), EnvOk (fun _ : Unit => bodyCx P w K mg base N x (defScope st) f cd A outer s H) P w K mg base 0 → PSs (bodyCx P w K mg base N x (defScope st) f cd A outer s H) (defBody st) (tBag K)) :
    FnG P w K mg base 1 f fd ["script"] (spBagMk K) := by
  refine fnG_of F S (fun vs H Q E ⟨a, ns, e, _⟩ => by rw [e]; rfl) fun cd A outer s H vs Q hr gu ⟨a, ns, e, l, hs, k⟩ => ?_
  subst e
  refine ⟨tBag K, hb cd A outer s H ⟨fun _ => rfl, fun _ => rfl, fun _ => rfl, fun _ => rfl, fun _ => rfl, fun _ => hr, fun _ => gu, fun _ => rfl⟩, ?_⟩
  rw [hN]
  exact bag_eval hs l fun p c ms H' h1 h2 h3 h4 _ => k p c ms H' h1 h2 h3 h4
/-- a law's def: its first statement makes the bag, the rest is over data -/
theorem law_fn {P : Program} {w : World} {K : PySem.W.Frag} {mg : Str → Option Value} {base : Heap} {N : List Str} {x : Str} {st s1 : Stmt} {rest : List Stmt} {f fb : Addr} {fd fdb : FuncData} {k n : Nat} (F : Fun K x x st f fd) (S : FnScope N ["script"] (defScope st)) (hN : ∀ v : V, L2.start N [v] = some v :: none :: List.replicate n none)
    (hbody : defBody st = s1 :: rest) (B : FnG P w K mg base k fb fdb ["script"] (spBagMk K)) (hm : mg "_law_bag" = some (.ref fb))
    (h1 : ∀ (cd : Value) (A : Around) (outer : List Env) (s : Shared) (H : Hp), EnvOk (fun _ : Unit => bodyCx P w K mg base N x (defScope st) f cd A outer s H) P w K mg base k →
      PS (bodyCx P w K mg base N x (defScope st) f cd A outer s H) s1 (tAsg (fun σ H Q => tCons (tVar 0) tNil σ H fun vs H1 => spBagMk K vs H1 Q E0) (gName 1)))
    (h2 : ∀ (cd : Value) (A : Around) (outer : List Env) (s : Shared) (H : Hp), EnvOk (fun _ : Unit => bodyCx P w K mg base N x (defScope st) f cd A outer s H) P w K mg base k →
      ∃ dt, DXSs (fun _ : Unit => bodyCx P w K mg base N x (defScope st) f cd A outer s H) K rest dt ∧ dt { nx := fun _ => False, rt := fun d => d = .bool true } (SV.un :: SV.bag :: List.replicate n SV.un)) :
    FnG P w K mg base (k + 1) f fd ["script"] (spLaw K) := by
  refine fnG_of F S (fun vs H Q E ⟨a, ns, e, _⟩ => by rw [e]; rfl) fun cd A outer s H vs Q hr gu ⟨a, ns, e, l, hs, kq⟩ => ?_
  subst e
  have E : EnvOk (fun _ : Unit => bodyCx P w K mg base N x (defScope st) f cd A outer s H) P w K mg base k := ⟨fun _ => rfl, fun _ => rfl, fun _ => rfl, fun _ => rfl, fun _ => rfl, fun _ => hr, fun _ => gu, fun _ => rfl⟩
  obtain ⟨dt, ⟨t, pt, st'⟩, hd⟩ := h2 cd A outer s H E
  refine ⟨_, by rw [hbody]; exact pss_cons (h1 cd A outer s H E) (pt ()), ?_⟩
  rw [hN]
  refine ⟨.ref a, rfl, a, ns, rfl, l, hs, fun p c ms H' hms hp hc ne => ?_⟩
  let Fb : FC := { P := fun b => b = p, bag := some p, left := none }
  have notOwn : ∀ b, ¬ ownAt (some (V.ref a) :: some (V.ref p) :: List.replicate n none) (SV.un :: SV.bag :: List.replicate n SV.un) b := by
    rintro b ⟨i, d, e, _⟩
    match i with
    | 0 => cases e
    | 1 => cases e
    | i + 2 =>
      have e' : (List.replicate n SV.un)[i]? = some (SV.dat true d) := e
      rw [List.getElem?_replicate] at e'
      split at e' <;> cases e'
  have St0 : StOk K Fb (some (V.ref a) :: some (V.ref p) :: List.replicate n none) H' (SV.un :: SV.bag :: List.replicate n SV.un) := by
    have nod : ∀ (i : Nat) (b : Bool) (d : PyData), (SV.un :: SV.bag :: List.replicate n SV.un)[i]? ≠ some (SV.dat b d) := fun i b d e => by
      match i with
      | 0 => cases e
      | 1 => cases e
      | i + 2 =>
        have e' : (List.replicate n SV.un)[i]? = some (SV.dat b d) := e
        rw [List.getElem?_replicate] at e'
        split at e' <;> cases e'
    refine ⟨by simp, fun i d e => absurd e (nod i _ d), fun i d e => absurd e (nod i _ d), fun i j d e b h => absurd h (nod i _ d), fun i e => ?_, fun i e => ?_, fun b q => ?_, fun b q => (by cases q), fun b q z => (by cases z), fun b q => (by have q' : b = p := q; subst q'; exact ⟨_, hp⟩)⟩
    · match i with
      | 0 => cases e
      | 1 => exact ⟨p, rfl, rfl⟩
      | i + 2 =>
        have e' : (List.replicate n SV.un)[i]? = some SV.bag := e
        rw [List.getElem?_replicate] at e'
        split at e' <;> cases e'
    · match i with
      | 0 => cases e
      | 1 => cases e
      | i + 2 =>
        have e' : (List.replicate n SV.un)[i]? = some SV.left := e
        rw [List.getElem?_replicate] at e'
        split at e' <;> cases e'
    · have q' : p = b := Option.some.inj q
      subst q'
      refine ⟨rfl, 0, 1234567891, 0, .ref c, ms, hp, by decide, by decide, by decide, hms, .lst ⟨hc, ?_⟩ ?_⟩
      · rintro (z | z)
        · exact ne z.symm
        · exact notOwn c z
      · have : ∀ l : List Int, RpA K (Own Fb (some (V.ref a) :: some (V.ref p) :: List.replicate n none) (SV.un :: SV.bag :: List.replicate n SV.un)) H' (l.map V.int) (l.map PyData.int) := fun l => by
          induction l with
          | nil => exact .nil
          | cons m l ih => exact .cons (.int m) ih
        exact this ms
  refine st' Fb _ H' _ _ _ St0 hd ⟨fun σ' H2 Γ' S' p q => q.elim, fun v d H2 rv S' p q => ?_, fun σ' H2 Γ' S' p q => q.elim, fun σ' H2 Γ' S' p q => q.elim⟩
  subst q
  cases rv
  exact kq H2
/-! ### from the law's def to the statement -/
theorem caller_quiet : callerA.guards = some [] := rfl
section
variable {P : Program} {w : World} {K : PySem.W.Frag} {mg mb : Str → Option Value} {k : Nat} {fa a : Addr} {fd : FuncData} {x : Str} {sp : Sp} {s1 : Shared} {vs : List Value} {ns : List Int}
/-- the call at the heap s1, from an abstract heap that knows at most the script -/
theorem go_from (KX : K.In s1.heap) (gl : s1.heap.Ns mainGlobals mg) (bl : s1.heap.Ns builtinsNs mb) (bt : ∀ y : Str, y ≠ "__name__" → mb y = bootBuiltins y) (nl : s1.heap.NoLimit) (gn : s1.gens = #[])
    (sc : s1.heap.get? a = some { cls := .type "list", data := .seq vs.toArray }) (room : Room k callerA) (G : ∀ base : Heap, K.In base → base.Ns mainGlobals mg → FnG P w K mg base k fa fd [x] sp)
    (bind : ∀ (s : Shared) (u : Value), BindsTo s fd ⟨[u], []⟩ [(x, u)]) (H : Hp) (only : Only H) (hok : HOk P w H s1.heap) (just : ∀ b, H b ≠ none → b = a) (notK : H a ≠ none → K.lookup a = none)
    (q : sp [.ref a] H (fun v _ => v = .bl true) E0) :
    codeAny (model P w) callerA (.call (.ref fa) ⟨[.ref a], []⟩) (fun r s2 => r = .ok (.ret (.bool true)) ∧ OldK s1.heap s2.heap ∧ s2.os = s1.os ∧ PyProof.Rows.AllBare s2.gens) s1 := by
  have hidden : ∀ {b : Addr} {o : Obj}, s1.heap.get? b = some o → H b = none → (hidT s1.heap H).get? b = some o := fun e n => hidT_get e n
  have noDict : ∀ {b : Addr} {o : Obj} {es : Array DictEntry} {c : Nat}, s1.heap.get? b = some o → o.data = .dict es c → H b = none := fun {b o es c} e d => by
    cases z : H b with
    | none => rfl
    | some u =>
      obtain rfl : b = a := just b (by rw [z]; exact fun y => nomatch y)
      rw [sc] at e; cases e
      exact nomatch (show Data.seq vs.toArray _ = Data.dict es c from d)
  have names : ∀ {b : Addr} {m : Str → Option Value}, s1.heap.Ns b m → (hidT s1.heap H).Ns b m := fun {b m} ⟨o, es, c, e, d, r⟩ => ⟨o, es, c, hidden e (noDict e d), d, r⟩
  have KB : K.In (hidT s1.heap H) := fun b o e => by
    refine hidden (KX b o e) ?_
    cases z : H b with
    | none => rfl
    | some u =>
      obtain rfl : b = a := just b (by rw [z]; exact fun y => nomatch y)
      have := notK (by rw [z]; exact fun y => nomatch y)
      rw [this] at e; cases e
  obtain ⟨mc, c1, c2⟩ := id nl
  have MB : Mod K mg (hidT s1.heap H) := ⟨KB, names gl, ⟨mb, names bl, bt⟩, mc, names c1, c2⟩
  have start : Env0 P w K mg (hidT s1.heap H) callerA [] s1 H := ⟨rfl, MB, fun b o e => of_hidT e, Nat.le_of_eq (hidT_size _ _), trivial, fun b m => (List.not_mem_nil m).elim, hok, .of_eq gn⟩
  refine codeAny_mono ((G _ KB (names gl)).run callerA [] s1 H ⟨[.ref a], []⟩ [.ref a] [.ref a] _ room caller_quiet start (bind s1 (.ref a)) (.cons rfl .nil) q) fun r s2 z => ?_
  cases r with
  | error _ => exact False.elim z
  | ok fl =>
    cases fl with
    | ret u =>
      obtain ⟨v, H2, same, bare, un, ok2, rv, rfl⟩ := z
      obtain rfl : u = Value.bool true := rv
      refine ⟨rfl, OldK.of_keep fun b o e => ?_, same, bare⟩
      cases y : H b with
      | none => exact un.keep b o e y (List.not_mem_nil) (List.not_mem_nil)
      | some u =>
        rcases only b with n | ⟨ob, xs, n⟩
        · rw [y] at n; exact nomatch n
        · obtain ⟨e1, _⟩ := hok b _ n
          obtain ⟨e2, _⟩ := ok2 b _ (un.frzs b ob _ n)
          rw [e] at e1; cases e1
          exact e2
    | next => exact False.elim z
    | brk => exact False.elim z
    | cont => exact False.elim z
theorem go_call (KX : K.In s1.heap) (gl : s1.heap.Ns mainGlobals mg) (bl : s1.heap.Ns builtinsNs mb) (bt : ∀ y : Str, y ≠ "__name__" → mb y = bootBuiltins y) (nl : s1.heap.NoLimit) (gn : s1.gens = #[])
    (sc : s1.heap.get? a = some { cls := .type "list", data := .seq vs.toArray }) (whole : PyProof.Rows.IntsAre vs ns) (few : ns.length ≤ sizeLine) (room : Room k callerA) (G : ∀ base : Heap, K.In base → base.Ns mainGlobals mg → FnG P w K mg base k fa fd [x] sp)
    (bind : ∀ (s : Shared) (u : Value), BindsTo s fd ⟨[u], []⟩ [(x, u)]) (q : ∀ H : Hp, Only H → SqL K H a (ns.map V.int) → sp [.ref a] H (fun v _ => v = .bl true) E0) :
    codeAny (model P w) callerA (.call (.ref fa) ⟨[.ref a], []⟩) (fun r s2 => r = .ok (.ret (.bool true)) ∧ OldK s1.heap s2.heap ∧ s2.os = s1.os ∧ PyProof.Rows.AllBare s2.gens) s1 := by
  have rv := vals_ints whole
  have len := whole.length
  cases hk : K.lookup a with
  | some o =>
    have e := KX a o hk
    rw [sc] at e
    cases e
    refine go_from KX gl bl bt nl gn sc room G bind (fun _ => none) (fun _ => .inl rfl) (fun b u z => nomatch (show (none : Option HO) = some u from z)) (fun b z => (z rfl).elim) (fun z => (z rfl).elim) (q _ (fun _ => .inl rfl) ?_)
    exact .inr ⟨_, vs.toArray, _, hk, rfl, rfl, rfl, by rw [List.size_toArray, len]; exact few, by simpa using rv⟩
  | none =>
    let G0 : Hp := fun b => if b = a then some (.frz { cls := .type "list", data := .seq vs.toArray } (.lst (ns.map V.int))) else none
    have on : G0 a = some (.frz { cls := .type "list", data := .seq vs.toArray } (.lst (ns.map V.int))) := if_pos rfl
    have off : ∀ b, b ≠ a → G0 b = none := fun b z => if_neg z
    have only : Only G0 := fun b => by
      by_cases z : b = a
      · rw [z]; exact .inr ⟨_, _, on⟩
      · exact .inl (off b z)
    refine go_from KX gl bl bt nl gn sc room G bind G0 only (fun b u z => ?_) (fun b z => ?_) (fun _ => hk) (q _ only (.inl (.inr ⟨_, on⟩)))
    · by_cases y : b = a
      · subst y
        rw [on] at z; cases z
        exact ⟨sc, by rw [List.length_map]; exact few, vs, _, rv, sc⟩
      · rw [off b y] at z; cases z
    · by_cases y : b = a
      · exact y
      · exact absurd (off b y) z
end
/-- what the head leaves, from the law's def -/
theorem walk_law {l : PySem.W.OpenLaw} {n k : Nat} {q : Program} {loose : List Str} {XP : (Str → Option Value) → Heap → Prop} {YP : World → Heap → Prop} {d : DefRec} {K : Params → PySem.W.Frag} {x : Str}
    (hn : l.most = some n) (hn2 : n ≤ 40000) (hdf : d.params.defaults = []) (room : Room k callerA) (hY : ∀ (w : World) (h : Heap), YP w h → (K w.params).In h)
    (F : ∀ (w : World) (mg : Str → Option Value) (fa : Addr) (h : Heap), (K w.params).In h → h.Ns mainGlobals mg → mg d.name = some (.ref fa) →
      ∃ fd : FuncData, (∀ (s : Shared) (u : Value), BindsTo s fd ⟨[u], []⟩ [(x, u)]) ∧ ∀ base : Heap, (K w.params).In base → base.Ns mainGlobals mg → FnG l.prog w (K w.params) mg base k fa fd [x] (spLaw (K w.params))) :
    PySem.W.WalkO q loose XP YP l.row.toRowW d [] (fun f vs => PySem.call f vs) := by
  refine Att.attach_call hn hdf fun w s0 s1 mg mb fa o pm cd doc a vs ns G Y ho hd hcd hmg sc whole few gn => ?_
  have KX := hY w _ Y
  obtain ⟨fd, bind, hF⟩ := F w mg fa _ KX G.T.g hmg
  exact go_call KX G.T.g G.T.b G.T.builtins G.T.nolimit gn sc whole (Nat.le_trans few (Nat.le_trans hn2 (by decide))) room hF bind fun H _ hs => ⟨a, ns, rfl, Nat.le_trans few hn2, hs, fun _ => rfl⟩
end DL
end
section
set_option autoImplicit false
set_option linter.all false
set_option maxRecDepth 100000
set_option maxHeartbeats 4000000
/-! how deep data is, how long its text; loops by their lists -/
namespace DL
open PySem PySem.Spec L2
def Dt (n b : Nat) (d : PyData) : Prop := d.depth ≤ n ∧ d.showable = true ∧ d.shown.length ≤ b
def DtA (n b : Nat) (ds : List PyData) : Prop := PyData.depthAll ds ≤ n ∧ PyData.showableAll ds = true ∧ ((PyData.shownAll ds).map (·.length)).sum + 2 * ds.length ≤ b
section
variable {n m b c : Nat} {d : PyData} {ds es : List PyData}
theorem Dt.mono (h : Dt n b d) (h1 : n ≤ m) (h2 : b ≤ c) : Dt m c d := ⟨Nat.le_trans h.1 h1, h.2.1, Nat.le_trans h.2.2 h2⟩
theorem DtA.mono (h : DtA n b ds) (h1 : n ≤ m) (h2 : b ≤ c) : DtA m c ds := ⟨Nat.le_trans h.1 h1, h.2.1, Nat.le_trans h.2.2 h2⟩
theorem dtA_nil : DtA n b [] := ⟨Nat.zero_le _, rfl, Nat.zero_le _⟩
theorem dtA_cons (h : Dt n b d) (g : DtA n c ds) : DtA n (b + 2 + c) (d :: ds) := by
  refine ⟨Nat.max_le.mpr ⟨h.1, g.1⟩, by simp only [PyData.showableAll, h.2.1, g.2.1, Bool.and_self], ?_⟩
  simp only [PyData.shownAll, List.map_cons, List.sum_cons, List.length_cons]
  have h1 := h.2.2
  have h2 := g.2.2
  omega
theorem DtA.head (h : DtA n b (d :: ds)) : Dt n b d := by
  obtain ⟨h1, h2, h3⟩ := h
  simp only [PyData.shownAll, List.map_cons, List.sum_cons, List.length_cons] at h3
  simp only [PyData.showableAll, Bool.and_eq_true] at h2
  exact ⟨Nat.le_trans (Nat.le_max_left _ _) h1, h2.1, by omega⟩
theorem DtA.tail (h : DtA n b (d :: ds)) : DtA n b ds := by
  obtain ⟨h1, h2, h3⟩ := h
  simp only [PyData.shownAll, List.map_cons, List.sum_cons, List.length_cons] at h3
  simp only [PyData.showableAll, Bool.and_eq_true] at h2
  exact ⟨Nat.le_trans (Nat.le_max_right _ _) h1, h2.2, by omega⟩
theorem DtA.uncons (h : DtA n b (d :: ds)) : ∃ b1 b2, Dt n b1 d ∧ DtA n b2 ds ∧ b1 + 2 + b2 ≤ b := by
  obtain ⟨h1, h2, h3⟩ := h
  simp only [PyData.shownAll, List.map_cons, List.sum_cons, List.length_cons] at h3
  simp only [PyData.showableAll, Bool.and_eq_true] at h2
  exact ⟨d.shown.length, ((PyData.shownAll ds).map (·.length)).sum + 2 * ds.length, ⟨Nat.le_trans (Nat.le_max_left _ _) h1, h2.1, Nat.le_refl _⟩, ⟨Nat.le_trans (Nat.le_max_right _ _) h1, h2.2, Nat.le_refl _⟩, by omega⟩
theorem DtA.append (h : DtA n b ds) (g : DtA n c es) : DtA n (b + c) (ds ++ es) := by
  induction ds generalizing b with
  | nil => exact g.mono (Nat.le_refl _) (Nat.le_add_left _ _)
  | cons d ds ih =>
    obtain ⟨b1, b2, h1, h2, h3⟩ := h.uncons
    exact (dtA_cons h1 (ih h2)).mono (Nat.le_refl _) (by omega)
theorem DtA.mem (h : DtA n b ds) (m : d ∈ ds) : Dt n b d := by
  induction ds with
  | nil => cases m
  | cons e ds ih =>
    rcases List.mem_cons.mp m with rfl | m
    · exact h.head
    · exact ih h.tail m
theorem DtA.drop (h : DtA n b ds) (k : Nat) : DtA n b (ds.drop k) := by
  induction k generalizing ds with
  | zero => simpa using h
  | succ k ih => cases ds with
    | nil => simpa using h
    | cons d ds => simpa using ih h.tail
theorem DtA.take (h : DtA n b ds) (k : Nat) : DtA n b (ds.take k) := by
  induction k generalizing ds b with
  | zero => simp; exact dtA_nil
  | succ k ih => cases ds with
    | nil => simp; exact dtA_nil
    | cons d ds =>
      obtain ⟨b1, b2, h1, h2, h3⟩ := h.uncons
      rw [List.take_succ_cons]
      exact (dtA_cons h1 (ih h2)).mono (Nat.le_refl _) h3
theorem DtA.reverse (h : DtA n b ds) : DtA n b ds.reverse := by
  induction ds generalizing b with
  | nil => exact h
  | cons d ds ih =>
    obtain ⟨b1, b2, h1, h2, h3⟩ := h.uncons
    rw [List.reverse_cons]
    exact ((ih h2).append (dtA_cons h1 (dtA_nil (b := 0)))).mono (Nat.le_refl _) (by omega)
theorem DtA.cut (h : DtA n b ds) (lo hi : Option Int) : DtA n b (cutD ds lo hi) := (h.drop _).take _
theorem dt_tup (h : DtA n b ds) : Dt (n + 1) (b + 3) (.tuple ds) := by
  refine ⟨Nat.succ_le_succ h.1, by simpa [PyData.showable] using h.2.1, ?_⟩
  have h1 := tupleText_len_le (PyData.shownAll ds)
  have h2 := PyData.shownAll_length ds
  have h3 := h.2.2
  simp only [PyData.shown]
  omega
theorem dt_lst (h : DtA n b ds) : Dt (n + 1) (b + 3) (.list ds) := by
  refine ⟨Nat.succ_le_succ h.1, by simpa [PyData.showable] using h.2.1, ?_⟩
  have h1 := listText_len_le (PyData.shownAll ds)
  have h2 := PyData.shownAll_length ds
  have h3 := h.2.2
  simp only [PyData.shown]
  omega
/-- the items of a tuple: no deeper, no longer -/
theorem join_sum : ∀ ts : List Str, (ts.map (·.length)).sum + 2 * ts.length ≤ (Str.join ", " ts).length + 2
  | [] => Nat.zero_le _
  | [x] => by simp [Str.join]
  | x :: y :: r => by
    have ih := join_sum (y :: r)
    have e : (Str.join ", " (x :: y :: r)).length = x.length + 2 + (Str.join ", " (y :: r)).length := by
      show (x ++ (", " : Str) ++ Str.join ", " (y :: r)).length = _
      rw [strLen_append, strLen_append]; rfl
    simp only [List.map_cons, List.sum_cons, List.length_cons] at ih ⊢
    omega
theorem Dt.items (h : Dt n b (.tuple ds)) : DtA (n - 1) b ds := by
  obtain ⟨h1, h2, h3⟩ := h
  refine ⟨by simp only [PyData.depth] at h1; omega, by simpa [PyData.showable] using h2, ?_⟩
  have j := join_sum (PyData.shownAll ds)
  have l := PyData.shownAll_length ds
  have e : (PyData.shown (.tuple ds)).length ≥ (Str.join ", " (PyData.shownAll ds)).length + 2 := by
    simp only [PyData.shown]
    unfold tupleText
    rw [strLen_append, strLen_append]
    have : (("(" : Str)).length = 1 := rfl
    have : ((if (PyData.shownAll ds).length == 1 then ",)" else ")" : String) : Str).length ≥ 1 := by split <;> decide
    omega
  omega
theorem dt_none : Dt n 4 .none := ⟨Nat.zero_le _, rfl, Nat.le_refl _⟩
theorem dt_bool {k : Bool} : Dt n 5 (.bool k) := ⟨Nat.zero_le _, rfl, by cases k <;> decide⟩
theorem dt_str {x : Str} (h : ∀ c ∈ x.cps.toList, c < 16 ^ 8) : Dt n (10 * x.length + 2) (.str x) := ⟨Nat.zero_le _, rfl, StrLaws.reprText_len x h⟩
theorem dt_int {i : Int} (h : i.natAbs < 10 ^ 12) : Dt n 13 (.int i) := ⟨Nat.zero_le _, by
  simp only [PyData.showable, decide_eq_true_eq]
  rcases Nat.eq_zero_or_pos i.natAbs with z | z
  · rw [z]; decide
  · exact Nat.lt_of_lt_of_le ((Nat.log2_lt (by omega)).mpr (Nat.lt_of_lt_of_le h (by decide : 10 ^ 12 ≤ 2 ^ 40))) (by decide), PyData.shown_int_le h⟩
end
/-! the same, and its ints are small -/
mutual
def smI : PyData → Bool
  | .int i => decide (i.natAbs < 1000)
  | .list ds => smA ds
  | .tuple ds => smA ds
  | .none => true
  | .bool _ => true
  | .str x => PyData.canLay0 (.str x)
  | .dict _ => false
def smA : List PyData → Bool
  | [] => true
  | d :: ds => smI d && smA ds
end
def Ds (n b : Nat) (d : PyData) : Prop := Dt n b d ∧ smI d = true
def DsA (n b : Nat) (ds : List PyData) : Prop := DtA n b ds ∧ smA ds = true
section
variable {n m b c : Nat} {d : PyData} {ds es : List PyData}
theorem Ds.mono (h : Ds n b d) (h1 : n ≤ m) (h2 : b ≤ c) : Ds m c d := ⟨h.1.mono h1 h2, h.2⟩
theorem DsA.mono (h : DsA n b ds) (h1 : n ≤ m) (h2 : b ≤ c) : DsA m c ds := ⟨h.1.mono h1 h2, h.2⟩
theorem dsA_nil : DsA n b [] := ⟨dtA_nil, by simp only [smA]⟩
theorem dsA_cons (h : Ds n b d) (g : DsA n c ds) : DsA n (b + 2 + c) (d :: ds) := ⟨dtA_cons h.1 g.1, by simp only [smA, h.2, g.2, Bool.and_self]⟩
theorem ds_tup (h : DsA n b ds) : Ds (n + 1) (b + 3) (.tuple ds) := ⟨dt_tup h.1, by simp only [smI]; exact h.2⟩
theorem ds_none : Ds n 4 .none := ⟨dt_none, by simp only [smI]⟩
theorem ds_str {x : Str} (h : Dt n b (.str x)) (h2 : PyData.canLay0 (.str x) = true) : Ds n b (.str x) := ⟨h, by simp only [smI]; exact h2⟩
theorem ds_int {i : Int} (h : i.natAbs < 1000) : Ds n 13 (.int i) := ⟨dt_int (Nat.lt_of_lt_of_le h (by decide)), by simp only [smI, h, decide_true]⟩
theorem smA_mem : ∀ {ds : List PyData}, smA ds = true → ∀ d ∈ ds, smI d = true
  | [], _, d, m => nomatch m
  | e :: ds, h, d, m => by
    simp only [smA, Bool.and_eq_true] at h
    rcases List.mem_cons.mp m with rfl | m
    · exact h.1
    · exact smA_mem h.2 d m
theorem smA_of : ∀ {ds : List PyData}, (∀ d ∈ ds, smI d = true) → smA ds = true
  | [], _ => by simp only [smA]
  | e :: ds, h => by simp only [smA, Bool.and_eq_true]; exact ⟨h e (List.mem_cons_self ..), smA_of fun d m => h d (List.mem_cons_of_mem _ m)⟩
mutual
theorem smI_lay : ∀ d : PyData, smI d = true → d.canLay0 = true
  | .none, _ => rfl
  | .bool _, _ => rfl
  | .int _, _ => rfl
  | .str x, h => by simpa only [smI] using h
  | .list ds, h => by simp only [PyData.canLay0]; exact smA_lay ds (by simpa only [smI] using h)
  | .tuple ds, h => by simp only [PyData.canLay0]; exact smA_lay ds (by simpa only [smI] using h)
  | .dict _, h => by simp only [smI] at h; cases h
theorem smA_lay : ∀ ds : List PyData, smA ds = true → PyData.canLayAll0 ds = true
  | [], _ => rfl
  | d :: ds, h => by
    simp only [smA, Bool.and_eq_true] at h
    simp only [PyData.canLayAll0, smI_lay d h.1, smA_lay ds h.2, Bool.and_self]
end
theorem Ds.shaped (h : Ds n b d) (hn : n ≤ 64) : SeqAt.shaped d = true := by
  unfold SeqAt.shaped
  rw [smI_lay d h.2, Bool.true_and]
  exact decide_eq_true (Nat.le_trans h.1.1 hn)
theorem sm_tup (h : smI (.tuple ds) = true) : ∀ d ∈ ds, smI d = true := smA_mem (by simpa only [smI] using h)
theorem sm_mk (h : ∀ d ∈ ds, smI d = true) : smI (.tuple ds) = true := by simp only [smI]; exact smA_of h
end
/-! ### loops by their lists -/
theorem lcW_stop {g : DTG} {tt : DTT} {te : DT} {vs : List Nat} {Q : List PyData → GS → Prop} {ds ds' acc acc' : List PyData} {Γ Γ' : GS} (h1 : ds = ds') (h2 : acc = acc') (h3 : Γ = Γ') : lcW g tt te vs Q ds acc Γ = lcW g tt te vs Q ds' acc' Γ' := by subst h1 h2 h3; rfl
theorem forW_stop {g : DTG} {tb : DTS} {D : DEnds} {ds ds' : List PyData} {Γ Γ' : GS} (h1 : ds = ds') (h3 : Γ = Γ') : forW g tb D ds Γ = forW g tb D ds' Γ' := by subst h1 h3; rfl
theorem lcW_of {g : DTG} {tt : DTT} {te : DT} {vs : List Nat} {Q : List PyData → GS → Prop} {Γ : GS} (I : List PyData → List PyData → Prop) (hn : ∀ acc, I [] acc → Q acc Γ)
    (hc : ∀ d ds acc, I (d :: ds) acc → (∀ acc', I ds acc' → lcW g tt te vs Q ds acc' Γ) → lcW g tt te vs Q (d :: ds) acc Γ) : ∀ ds acc, I ds acc → lcW g tt te vs Q ds acc Γ
  | [], acc, h => hn acc h
  | d :: ds, acc, h => hc d ds acc h fun acc' h' => lcW_of I hn hc ds acc' h'
theorem forW_of {g : DTG} {tb : DTS} {D : DEnds} (I : List PyData → GS → Prop) (hn : ∀ Γ, I [] Γ → D.nx Γ)
    (hc : ∀ d ds Γ, I (d :: ds) Γ → (∀ Γ', I ds Γ' → forW g tb D ds Γ') → forW g tb D (d :: ds) Γ) : ∀ ds Γ, I ds Γ → forW g tb D ds Γ
  | [], Γ, h => hn Γ h
  | d :: ds, Γ, h => hc d ds Γ h fun Γ' h' => forW_of I hn hc ds Γ' h'
section
variable {P : Program} {w : World} {K : PySem.W.Frag} {mg : Str → Option Value} {base : Heap} {x : Str} {st : Stmt} {ps : List Str}
/-- a def of which nothing is promised -/
theorem fnB_no (D : DefOk K mg x st ps) : FnB P w K mg base 0 x ps (fun _ _ => False) := by
  obtain ⟨f, fd, a, b, c⟩ := D.ex
  refine ⟨f, fd, ⟨fun vs H Q E ⟨F, avs, Qd, _, _, h, _⟩ => h.elim, fun A outer s H args us vs Q hr hg e bd r ⟨F, avs, Qd, _, _, h, _⟩ => h.elim⟩, b, a.kp, c⟩
end
/-! ### cuts -/
theorem cut_to {ds : List PyData} {m : Int} (h : 0 ≤ m) : cutD ds none (some m) = ds.take m.toNat := by
  unfold cutD HT.sIx
  simp only [List.drop_zero, Nat.sub_zero]
  rw [if_neg (by omega)]
  rcases Nat.le_total m.toNat ds.length with l | l
  · rw [Nat.min_eq_left l]
  · rw [Nat.min_eq_right l, List.take_of_length_le (Nat.le_refl _), List.take_of_length_le l]
theorem cut_from {ds : List PyData} {m : Int} (h : 0 ≤ m) : cutD ds (some m) none = ds.drop m.toNat := by
  unfold cutD HT.sIx
  simp only
  rw [if_neg (by omega), List.take_of_length_le (by rw [List.length_drop]; exact Nat.le_refl _)]
  rcases Nat.le_total m.toNat ds.length with l | l
  · rw [Nat.min_eq_left l]
  · rw [Nat.min_eq_right l, List.drop_of_length_le (Nat.le_refl _), List.drop_of_length_le l]
theorem cut_init {ds : List PyData} : cutD ds none (some (-1)) = ds.dropLast := by
  unfold cutD HT.sIx
  simp only [List.drop_zero, Nat.sub_zero]
  rw [if_pos (by decide), List.dropLast_eq_take]
  congr 1
  omega
/-! ### words for the simplifier -/
def isWb (n : Nat) : PyData → Bool
  | .str x => decide (x.length ≤ n) && x.cps.toList.all (fun c => decide (c < 128))
  | _ => false
theorem isWb_str {n : Nat} {d : PyData} (h : isWb n d = true) : ∃ x, d = .str x ∧ x.length ≤ n ∧ ∀ c ∈ x.cps.toList, c < 128 := by
  cases d with
  | str x =>
    simp only [isWb, Bool.and_eq_true, decide_eq_true_eq, List.all_eq_true] at h
    exact ⟨x, rfl, h.1, h.2⟩
  | _ => cases h
theorem lay_wb {n : Nat} {x : Str} (h : isWb n (.str x) = true) : PyData.canLay0 (.str x) = true := by
  obtain ⟨y, e, _, h2⟩ := isWb_str h
  cases e
  simp only [PyData.canLay0, PyData.strOk]
  rw [Array.all_eq_true]
  intro i hi
  have := h2 x.cps[i] (by simp)
  exact decide_eq_true (by omega)
theorem isWb_mk {n : Nat} {x : Str} (h1 : x.length ≤ n) (h2 : ∀ c ∈ x.cps.toList, c < 128) : isWb n (.str x) = true := by
  simp only [isWb, Bool.and_eq_true, decide_eq_true_eq, List.all_eq_true]
  exact ⟨h1, h2⟩
theorem dt_word {n m : Nat} {d : PyData} (h : isWb n d = true) : Dt m (10 * n + 2) d := by
  obtain ⟨x, rfl, h1, h2⟩ := isWb_str h
  exact (dt_str fun c hc => Nat.lt_of_lt_of_le (h2 c hc) (by decide)).mono (Nat.le_refl _) (by omega)
/-- words put together -/
theorem strs_of {ds : List PyData} (h : ds.all (isWb 1) = true) : ∃ ys, strsD ds = some ys ∧ ys.length = ds.length ∧ (ys.map (·.length)).sum ≤ ds.length ∧ isWb ds.length (.str (Txt.join (Str.ofString "") ys)) = true := by
  have key : ∃ ys, strsD ds = some ys ∧ ys.length = ds.length ∧ (ys.map (·.length)).sum ≤ ds.length ∧ ∀ y ∈ ys, ∀ c ∈ y.cps.toList, c < 128 := by
    induction ds with
    | nil => exact ⟨[], rfl, rfl, Nat.le_refl _, fun y m => nomatch m⟩
    | cons d ds ih =>
      rw [List.all_cons, Bool.and_eq_true] at h
      obtain ⟨x, rfl, h1, h2⟩ := isWb_str h.1
      obtain ⟨ys, e1, e2, e3, e4⟩ := ih h.2
      refine ⟨x :: ys, by simp only [strsD, e1]; rfl, by simp [e2], by simp only [List.map_cons, List.sum_cons, List.length_cons]; omega, fun y m => ?_⟩
      rcases List.mem_cons.mp m with rfl | m
      · exact h2
      · exact e4 y m
  obtain ⟨ys, e1, e2, e3, e4⟩ := key
  have jl : ∀ l : List Str, (Str.join (Str.ofString "") l).length = (l.map (·.length)).sum ∧ ((∀ y ∈ l, ∀ c ∈ y.cps.toList, c < 128) → ∀ c ∈ (Str.join (Str.ofString "") l).cps.toList, c < 128) := by
    intro l
    induction l with
    | nil => exact ⟨rfl, fun _ c m => by cases m⟩
    | cons x r ih =>
      cases r with
      | nil => exact ⟨by simp [Str.join], fun h => h x (by simp)⟩
      | cons y r =>
        have e : Str.join (Str.ofString "") (x :: y :: r) = x ++ Str.ofString "" ++ Str.join (Str.ofString "") (y :: r) := rfl
        refine ⟨?_, fun h c m => ?_⟩
        · rw [e, strLen_append, strLen_append, ih.1]
          have : (Str.ofString "").length = 0 := rfl
          simp only [List.map_cons, List.sum_cons]
          omega
        · rw [e] at m
          have m' : c ∈ (x.cps ++ (Str.ofString "").cps ++ (Str.join (Str.ofString "") (y :: r)).cps).toList := m
          simp only [Array.toList_append, List.mem_append] at m'
          rcases m' with (m' | m') | m'
          · exact h x (by simp) c m'
          · cases m'
          · exact ih.2 (fun z hz => h z (List.mem_cons_of_mem _ hz)) c m'
  refine ⟨ys, e1, e2, e3, isWb_mk ?_ ?_⟩
  · rw [TL.join_eq, (jl ys).1]; exact e3
  · rw [TL.join_eq]; exact (jl ys).2 e4
theorem eqOk_int {i j : Int} : EqOk (.int i) (.int j) := .inl rfl
theorem eqOk_str {i j : Str} : EqOk (.str i) (.str j) := .inl rfl
theorem eqOk_bool {i j : Bool} : EqOk (.bool i) (.bool j) := .inl rfl
theorem eqv_int {i j : Int} : PyData.eqv (.int i) (.int j) = (i == j) := rfl
theorem eqv_str {i j : Str} : PyData.eqv (.str i) (.str j) = (i == j) := rfl
theorem eqv_bool {i j : Bool} : PyData.eqv (.bool i) (.bool j) = (i == j) := rfl
theorem eqOk_nil {ds : List PyData} : EqOk (.list ds) (.list []) := .inr (.inr rfl)
theorem eqv_nil {ds : List PyData} : PyData.eqv (.list ds) (.list []) = ds.isEmpty := by cases ds <;> simp [PyData.eqv, PyData.eqvAll]
theorem eqOk_tnil {ds : List PyData} : EqOk (.tuple ds) (.tuple []) := .inr (.inr rfl)
theorem eqv_tnil {ds : List PyData} : PyData.eqv (.tuple ds) (.tuple []) = ds.isEmpty := by cases ds <;> simp [PyData.eqv, PyData.eqvAll]
theorem at0 {a : PyData} {l : List PyData} : atI (a :: l) 0 = some a := by
  unfold atI ixN
  rw [if_pos (by decide), if_pos (by simp only [List.length_cons]; omega)]; rfl
theorem at1 {a b : PyData} {l : List PyData} : atI (a :: b :: l) 1 = some b := by
  unfold atI ixN
  rw [if_pos (by decide), if_pos (by simp only [List.length_cons]; omega)]; rfl
theorem at2 {a b c : PyData} {l : List PyData} : atI (a :: b :: c :: l) 2 = some c := by
  unfold atI ixN
  rw [if_pos (by decide), if_pos (by simp only [List.length_cons]; omega)]; rfl
theorem at_neg1 {l : List PyData} {a : PyData} : atI (l ++ [a]) (-1) = some a := by
  unfold atI ixN
  rw [if_neg (by decide), if_pos (by simp; omega)]
  have : ((-1 : Int) + ((l ++ [a]).length : Nat)).toNat = l.length := by rw [List.length_append, List.length_singleton]; omega
  rw [this]
  simp
theorem tru_bool {b : Bool} : truD (.bool b) = some b := rfl
theorem short_bool {b : Bool} : shortStr (.bool b) = True := rfl
theorem isTy_int {T : String} {i : Int} : isTy T (.int i) = ("int" == T || (T == "int" && "int" == "bool")) := rfl
theorem isEmpty_nil {α : Type} : ([] : List α).isEmpty = true := rfl
end DL
end
section
set_option autoImplicit false
set_option linter.all false
/-! the readings, one step at a time -/
namespace DL
open PySem PySem.Spec L2
def b2i (b : Bool) : Int := if b then 1 else 0
theorem b2i_t : b2i true = 1 := rfl
theorem b2i_f : b2i false = 0 := rfl
def go (u : DTS) (D : DEnds) (Γ : GS) : Prop := u D Γ
theorem seq_cut {t u : DTS} {D : DEnds} {Γ : GS} {α : Type} (J : α → Prop) (mk : α → GS) (h1 : (∀ ws, J ws → go u D (mk ws)) → t { D with nx := go u D } Γ) (h2 : ∀ ws, J ws → u D (mk ws)) : dSeq t u D Γ := h1 h2
theorem go_cons {u : DTS} {D : DEnds} {s : SV} {Γ : GS} : go u D (s :: Γ) = u D (s :: Γ) := rfl
theorem e_dOp (f : F2) (da db : DT) (Γ : GS) (Q : Opd → GS → Prop) : dOp f da db Γ Q = (da Γ fun x Γ1 => db Γ1 fun y Γ2 => x.wd Γ2 fun a => y.wd Γ2 fun b => f a b fun c => Q (.val c) Γ2) := rfl
theorem e_dTst (d : DT) (Γ : GS) (Q : Bool → GS → Prop) : dTst d Γ Q = (d Γ fun x Γ1 => match x with
  | .val (.bool b) => Q b Γ1
  | _ => False) := rfl
theorem e_dChn (f g : F2) (da db dc : DT) (Γ : GS) (Q : Opd → GS → Prop) : dChn f g da db dc Γ Q = (da Γ fun x Γ1 => db Γ1 fun y Γ2 => x.wd Γ2 fun a => y.wd Γ2 fun b => f a b fun q => match q with
  | .bool true => dc Γ2 fun z Γ3 => y.wd Γ3 fun b' => z.wd Γ3 fun c => g b' c fun r => Q (.val r) Γ3
  | .bool false => Q (.val (.bool false)) Γ2
  | _ => False) := rfl
theorem e_dVar (i : Nat) (Γ : GS) (Q : Opd → GS → Prop) : dVar i Γ Q = (match Γ.getD i .un with
  | .un => False
  | _ => Q (.sl i) Γ) := rfl
theorem e_dC (d : PyData) (Γ : GS) (Q : Opd → GS → Prop) : dC d Γ Q = (Q (.val d) Γ) := rfl
theorem e_dNil (Γ : GS) (Q : List PyData → GS → Prop) : dNil Γ Q = (Q [] Γ) := rfl
theorem e_dCons (d : DT) (r : DTA) (Γ : GS) (Q : List PyData → GS → Prop) : dCons d r Γ Q = (d Γ fun x Γ1 => x.wd Γ1 fun a => r (x.frz Γ1) fun as Γ2 => Q (a :: as) Γ2) := rfl
theorem e_dStar (d : DT) (r : DTA) (Γ : GS) (Q : List PyData → GS → Prop) : dStar d r Γ Q = (d Γ fun x Γ1 => x.wd Γ1 fun a => match a with
  | .tuple as | .list as => r Γ1 fun bs Γ2 => Q (as ++ bs) Γ2
  | _ => False) := rfl
theorem e_dTup (r : DTA) (Γ : GS) (Q : Opd → GS → Prop) : dTup r Γ Q = (r Γ fun as Γ1 => as.length ≤ sizeLine ∧ Q (.val (.tuple as)) Γ1) := rfl
theorem e_dLst (r : DTA) (Γ : GS) (Q : Opd → GS → Prop) : dLst r Γ Q = (r Γ fun as Γ1 => as.length ≤ sizeLine ∧ Q (.val (.list as)) Γ1) := rfl
theorem e_dAndV (da db : DT) (Γ : GS) (Q : Opd → GS → Prop) : dAndV da db Γ Q = (da Γ fun x Γ1 => x.wd Γ1 fun v => match v with
  | .bool true => db Γ1 Q
  | .bool false => Q (.val (.bool false)) Γ1
  | _ => False) := rfl
theorem e_dOrV (da db : DT) (Γ : GS) (Q : Opd → GS → Prop) : dOrV da db Γ Q = (da Γ fun x Γ1 => x.wd Γ1 fun v => match v with
  | .bool false => db Γ1 Q
  | .bool true => Q (.val (.bool true)) Γ1
  | _ => False) := rfl
theorem e_dNotV (da : DT) (Γ : GS) (Q : Opd → GS → Prop) : dNotV da Γ Q = (da Γ fun x Γ1 => x.wd Γ1 fun v => match v with
  | .bool b => Q (.val (.bool !b)) Γ1
  | _ => False) := rfl
theorem e_dIf (t : DTT) (da db : DT) (Γ : GS) (Q : Opd → GS → Prop) : dIf t da db Γ Q = (t Γ fun b Γ1 => if b = true then da Γ1 Q else db Γ1 Q) := rfl
theorem e_dAnd (t u : DTT) (Γ : GS) (Q : Bool → GS → Prop) : dAnd t u Γ Q = (t Γ fun b Γ1 => if b = true then u Γ1 Q else Q false Γ1) := rfl
theorem e_dOr (t u : DTT) (Γ : GS) (Q : Bool → GS → Prop) : dOr t u Γ Q = (t Γ fun b Γ1 => if b = true then Q true Γ1 else u Γ1 Q) := rfl
theorem e_dNot (t : DTT) (Γ : GS) (Q : Bool → GS → Prop) : dNot t Γ Q = (t Γ fun b Γ1 => Q (!b) Γ1) := rfl
theorem e_dTru (d : DT) (Γ : GS) (Q : Bool → GS → Prop) : dTru d Γ Q = (d Γ fun x Γ1 => x.wd Γ1 fun v => shortStr v ∧ match truD v with
  | some b => Q b Γ1
  | none => False) := rfl
theorem e_fAdd (a : PyData) (b : PyData) (Q : PyData → Prop) : fAdd a b Q = (match a, b with
  | .int i, .int j => Q (.int (i + j))
  | .str i, .str j => i.length + j.length ≤ sizeLine ∧ Q (.str (i ++ j))
  | .tuple i, .tuple j => i.length + j.length ≤ sizeLine ∧ Q (.tuple (i ++ j))
  | .list i, .list j => i.length + j.length ≤ sizeLine ∧ Q (.list (i ++ j))
  | _, _ => False) := rfl
theorem e_fSub (a : PyData) (b : PyData) (Q : PyData → Prop) : fSub a b Q = (match a, b with
  | .int i, .int j => Q (.int (i - j))
  | _, _ => False) := rfl
theorem e_fMul (a : PyData) (b : PyData) (Q : PyData → Prop) : fMul a b Q = (match a, b with
  | .int i, .int j => CMul i j ∧ Q (.int (i * j))
  | .list ds, .int j => (-(2 ^ 63) ≤ j ∧ j < 2 ^ 63 ∧ ds.length * j.toNat ≤ sizeLine) ∧ Q (.list (List.replicate j.toNat ds).flatten)
  | .tuple ds, .int j => (ds ≠ [] ∧ 2 ≤ j ∧ j ≤ 1000 ∧ ds.length ≤ 1000) ∧ Q (.tuple (List.replicate j.toNat ds).flatten)
  | _, _ => False) := rfl
theorem e_fMod (a : PyData) (b : PyData) (Q : PyData → Prop) : fMod a b Q = (match a, b with
  | .int i, .int j => 0 < j ∧ Q (.int (i % j))
  | _, _ => False) := rfl
theorem e_fDiv (a : PyData) (b : PyData) (Q : PyData → Prop) : fDiv a b Q = (match a, b with
  | .int i, .int j => (0 < j ∧ j < 1073741824) ∧ Q (.int (i / j))
  | _, _ => False) := rfl
theorem e_fPow (a : PyData) (b : PyData) (Q : PyData → Prop) : fPow a b Q = (match a, b with
  | .int i, .int j => CPow i j ∧ Q (.int (i ^ j.toNat))
  | _, _ => False) := rfl
theorem e_fEq (a : PyData) (b : PyData) (Q : PyData → Prop) : fEq a b Q = (EqOk a b ∧ Q (.bool (PyData.eqv a b))) := rfl
theorem e_fNe (a : PyData) (b : PyData) (Q : PyData → Prop) : fNe a b Q = (EqOk a b ∧ Q (.bool (!PyData.eqv a b))) := rfl
theorem e_fInt (p : Int → Int → Bool) (a : PyData) (b : PyData) (Q : PyData → Prop) : fInt p a b Q = (match a, b with
  | .int i, .int j => Q (.bool (p i j))
  | _, _ => False) := rfl
theorem e_fLe (a : PyData) (b : PyData) (Q : PyData → Prop) : fLe a b Q = (match a, b with
  | .int i, .int j => Q (.bool (decide (i ≤ j)))
  | .str i, .str j => Q (.bool (strLe i j))
  | _, _ => False) := rfl
theorem e_fIs (a : PyData) (b : PyData) (Q : PyData → Prop) : fIs a b Q = (match b with
  | .none => Q (.bool (isNoneD a))
  | _ => False) := rfl
theorem e_fIsNot (a : PyData) (b : PyData) (Q : PyData → Prop) : fIsNot a b Q = (match b with
  | .none => Q (.bool (!isNoneD a))
  | _ => False) := rfl
theorem e_fIn (neg : Bool) (a : PyData) (b : PyData) (Q : PyData → Prop) : fIn neg a b Q = (match b with
  | .list ds => (flatD a = true ∧ ds.all flatD = true) ∧ Q (.bool (if neg then !inD a ds else inD a ds))
  | .tuple ds => (flatD a = true ∧ ds.all flatD = true) ∧ Q (.bool (if neg then !inD a ds else inD a ds))
  | .str j => match a with
    | .str i => Q (.bool (if neg then !strIn i j else strIn i j))
    | _ => False
  | _ => False) := rfl
theorem e_fIx (a : PyData) (b : PyData) (Q : PyData → Prop) : fIx a b Q = (match a, b with
  | .list ds, .int i => match atI ds i with
    | some d => Q d
    | none => False
  | .tuple ds, .int i => match atI ds i with
    | some d => Q d
    | none => False
  | .str x, .int i => x.length ≤ sizeLine ∧ match atI x.cps.toList i with
    | some c => Q (.str ⟨#[c]⟩)
    | none => False
  | _, _ => False) := rfl
theorem e_dNoP (Γ : GS) (Q : Option Int → GS → Prop) : dNoP Γ Q = (Q none Γ) := rfl
theorem e_dPart (d : DT) (Γ : GS) (Q : Option Int → GS → Prop) : dPart d Γ Q = (d Γ fun x Γ1 => x.wd Γ1 fun v => match v with
  | .int i => Q (some i) Γ1
  | _ => False) := rfl
theorem e_dSl (da : DT) (l u : DTO) (Γ : GS) (Q : Opd → GS → Prop) : dSl da l u Γ Q = (da Γ fun x Γ1 => l Γ1 fun lo Γ2 => u Γ2 fun hi Γ3 => x.wd Γ3 fun v => match v with
  | .list ds => Q (.val (.list (cutD ds lo hi))) Γ3
  | .tuple ds => Q (.val (.tuple (cutD ds lo hi))) Γ3
  | _ => False) := rfl
theorem e_dCB (f : FA) (da : DTA) (Γ : GS) (Q : Opd → GS → Prop) : dCB f da Γ Q = (da Γ fun as Γ1 => f as fun c => Q (.val c) Γ1) := rfl
theorem e_dC1 (f : F1) (d : DT) (Γ : GS) (Q : Opd → GS → Prop) : dC1 f d Γ Q = (d Γ fun x Γ1 => x.wd Γ1 fun v => f v fun c => Q (.val c) Γ1) := rfl
theorem e_fLen (d : PyData) (Q : PyData → Prop) : fLen d Q = (match d with
  | .str x => x.length ≤ sizeLine ∧ Q (.int x.length)
  | .list ds => Q (.int ds.length)
  | .tuple ds => Q (.int ds.length)
  | _ => False) := rfl
theorem e_fList (d : PyData) (Q : PyData → Prop) : fList d Q = (match d with
  | .list ds => Q (.list ds)
  | .tuple ds => Q (.list ds)
  | _ => False) := rfl
theorem e_fTuple (d : PyData) (Q : PyData → Prop) : fTuple d Q = (match d with
  | .list ds => Q (.tuple ds)
  | .tuple ds => Q (.tuple ds)
  | _ => False) := rfl
theorem e_fToInt (d : PyData) (Q : PyData → Prop) : fToInt d Q = (match d with
  | .int i => Q (.int i)
  | .bool b => Q (.int (b2i b))
  | _ => False) := rfl
theorem e_fAll (d : PyData) (Q : PyData → Prop) : fAll d Q = (match d with
  | .list ds => match boolsD ds with
    | some bs => Q (.bool (bs.all id))
    | none => False
  | _ => False) := rfl
theorem e_fAny (d : PyData) (Q : PyData → Prop) : fAny d Q = (match d with
  | .list ds => match boolsD ds with
    | some bs => Q (.bool (bs.any id))
    | none => False
  | _ => False) := rfl
theorem e_dIsT (T : String) (d : DT) (Γ : GS) (Q : Opd → GS → Prop) : dIsT T d Γ Q = (d Γ fun x Γ1 => x.wd Γ1 fun v => Q (.val (.bool (isTy T v))) Γ1) := rfl
theorem e_dFr (f : DF) (Γ : GS) (Q : Opd → GS → Prop) : dFr f Γ Q = (f Γ fun ds Γ1 => Q (.val (.list ds)) Γ1) := rfl
theorem e_fLst (r : DTA) (Γ : GS) (Q : List PyData → GS → Prop) : fLst r Γ Q = (r Γ fun as Γ1 => as.length ≤ sizeLine ∧ Q as Γ1) := rfl
theorem e_fCat (d1 d2 : DT) (Γ : GS) (Q : List PyData → GS → Prop) : fCat d1 d2 Γ Q = (d1 Γ fun x Γ1 => d2 Γ1 fun y Γ2 => x.wd Γ2 fun a => y.wd Γ2 fun b => match a, b with
  | .list i, .list j => i.length + j.length ≤ sizeLine ∧ Q (i ++ j) Γ2
  | _, _ => False) := rfl
theorem e_mAppend (ds : List PyData) (as : List PyData) (Q : List PyData → PyData → Prop) : mAppend ds as Q = (match as with
  | [a] => ds.length < sizeLine ∧ Q (ds ++ [a]) .none
  | _ => False) := rfl
theorem e_mExtend (ds : List PyData) (as : List PyData) (Q : List PyData → PyData → Prop) : mExtend ds as Q = (match as with
  | [.list bs] => ds.length + bs.length ≤ sizeLine ∧ Q (ds ++ bs) .none
  | _ => False) := rfl
theorem e_mInsert (ds : List PyData) (as : List PyData) (Q : List PyData → PyData → Prop) : mInsert ds as Q = (match as with
  | [.int i, a] => (ds.length < sizeLine ∧ 0 ≤ i ∧ i < 2 ^ 63) ∧ Q (ds.take i.toNat ++ [a] ++ ds.drop i.toNat) .none
  | _ => False) := rfl
theorem e_mPop (ds : List PyData) (as : List PyData) (Q : List PyData → PyData → Prop) : mPop ds as Q = (as = [] ∧ match ds.getLast? with
  | some d => Q ds.dropLast d
  | none => False) := rfl
theorem e_mReverse (ds : List PyData) (as : List PyData) (Q : List PyData → PyData → Prop) : mReverse ds as Q = (as = [] ∧ Q ds.reverse .none) := rfl
theorem e_dNext (D : DEnds) (Γ : GS) : dNext D Γ = (D.nx Γ) := rfl
theorem e_dSeq (t u : DTS) (D : DEnds) (Γ : GS) : dSeq t u D Γ = (t { D with nx := go u D } Γ) := rfl
theorem e_dNever (z0 : DEnds) (z1 : GS) : dNever z0 z1 = (False) := rfl
theorem e_dIfS (c : DTT) (a b : DTS) (D : DEnds) (Γ : GS) : dIfS c a b D Γ = (c Γ fun z Γ1 => if z = true then a D Γ1 else b D Γ1) := rfl
theorem e_dExpr (d : DT) (D : DEnds) (Γ : GS) : dExpr d D Γ = (d Γ fun _ Γ1 => D.nx Γ1) := rfl
theorem e_dRet (d : DT) (D : DEnds) (Γ : GS) : dRet d D Γ = (d Γ fun x Γ1 => x.wd Γ1 fun v => D.rt v) := rfl
theorem e_gDat (i : Nat) (d : PyData) (Γ : GS) (Q : GS → Prop) : gDat i d Γ Q = (Q (Γ.set i (SV.dat false d))) := rfl
theorem e_gsNil (ds : List PyData) (Γ : GS) (Q : GS → Prop) : gsNil ds Γ Q = (ds = [] ∧ Q Γ) := rfl
theorem e_gsCons (g : DTG) (r : DTGs) (ds : List PyData) (Γ : GS) (Q : GS → Prop) : gsCons g r ds Γ Q = (match ds with
  | d :: ds => g d Γ fun Γ1 => r ds Γ1 Q
  | [] => False) := rfl
theorem e_gTupD (n : Nat) (g : DTGs) (d : PyData) (Γ : GS) (Q : GS → Prop) : gTupD n g d Γ Q = (match d with
  | .tuple ds => ds.length = n ∧ g ds Γ Q
  | _ => False) := rfl
theorem e_dAsg (d : DT) (g : DTG) (D : DEnds) (Γ : GS) : dAsg d g D Γ = (d Γ fun x Γ1 => x.wd Γ1 fun v => g v (x.frz Γ1) D.nx) := rfl
theorem e_dOwn (f : DF) (j : Nat) (D : DEnds) (Γ : GS) : dOwn f j D Γ = (f Γ fun ds Γ1 => D.nx (Γ1.set j (SV.dat true (.list ds)))) := rfl
theorem e_dSeqI (d : DT) (Γ : GS) (Q : List PyData → GS → Prop) : dSeqI d Γ Q = (d Γ fun x Γ1 => x.wd Γ1 fun v => match v with
  | .list ds => Q ds (x.frz Γ1)
  | .tuple ds => Q ds (x.frz Γ1)
  | .str s => Q (signs s) (x.frz Γ1)
  | _ => False) := rfl
theorem e_dRng1 (da : DTA) (Γ : GS) (Q : List PyData → GS → Prop) : dRng1 da Γ Q = (da Γ fun as Γ1 => match as with
  | [.int j] => (-(2 ^ 62) ≤ j ∧ j < 2 ^ 62) ∧ Q (rangeD 0 j.toNat) Γ1
  | _ => False) := rfl
theorem e_dRng2 (da : DTA) (Γ : GS) (Q : List PyData → GS → Prop) : dRng2 da Γ Q = (da Γ fun as Γ1 => match as with
  | [.int i, .int j] => (-(2 ^ 62) ≤ i ∧ i < 2 ^ 62 ∧ -(2 ^ 62) ≤ j ∧ j < 2 ^ 62) ∧ Q (rangeD i (j - i).toNat) Γ1
  | _ => False) := rfl
theorem e_dZip (da : DTA) (Γ : GS) (Q : List PyData → GS → Prop) : dZip da Γ Q = (da Γ fun as Γ1 => match as with
  | [.list xs, .list ys] => Q (zipD xs ys) Γ1
  | [.tuple xs, .tuple ys] => Q (zipD xs ys) Γ1
  | _ => False) := rfl
theorem e_dFor (di : DI) (g : DTG) (tb : DTS) (D : DEnds) (Γ : GS) : dFor di g tb D Γ = (di Γ fun ds Γ1 => forW g tb D ds Γ1) := rfl
theorem e_dWhile (c : DTT) (tb : DTS) (D : DEnds) (Γ : GS) : dWhile c tb D Γ = (∃ n, whileW c tb D n Γ) := rfl
theorem e_dYes (Γ : GS) (Q : Bool → GS → Prop) : dYes Γ Q = (Q true Γ) := rfl
theorem e_dLc (di : DI) (g : DTG) (tt : DTT) (te : DT) (vs : List Nat) (Γ : GS) (Q : List PyData → GS → Prop) : dLc di g tt te vs Γ Q = (di Γ fun ds Γ1 => lcW g tt te vs Q ds [] Γ1) := rfl
theorem e_vNil (Γ : GS) (Q : List AV → GS → Prop) : vNil Γ Q = (Q [] Γ) := rfl
theorem e_vCons (d : DT) (r : DTV) (Γ : GS) (Q : List AV → GS → Prop) : vCons d r Γ Q = (d Γ fun x Γ1 => (x.sv Γ1).av fun a => r (x.frz Γ1) fun as Γ2 => Q (a :: as) Γ2) := rfl
theorem e_dCall (sp : SpD) (da : DTV) (Γ : GS) (Q : Opd → GS → Prop) : dCall sp da Γ Q = (da Γ fun avs Γ1 => sp avs fun d => Q (.val d) Γ1) := rfl
theorem e_dNeg (d : DT) (Γ : GS) (Q : Opd → GS → Prop) : dNeg d Γ Q = (d Γ fun x Γ1 => x.wd Γ1 fun v => match v with
  | .int i => Q (.val (.int (-i))) Γ1
  | _ => False) := rfl
theorem e_dPar (i j : Nat) (da : DTA) (D : DEnds) (Γ : GS) : dPar i j da D Γ = (da Γ fun as Γ1 => match as with
  | [u, v] => D.nx ((Γ1.set i (SV.dat false u)).set j (SV.dat false v))
  | _ => False) := rfl
theorem e_dPar3 (i j l : Nat) (da : DTA) (D : DEnds) (Γ : GS) : dPar3 i j l da D Γ = (da Γ fun as Γ1 => match as with
  | [u, v, z] => D.nx (((Γ1.set i (SV.dat false u)).set j (SV.dat false v)).set l (SV.dat false z))
  | _ => False) := rfl
theorem e_fRepr (d : PyData) (Q : PyData → Prop) : fRepr d Q = ((d.showable = true ∧ d.hasDict = false ∧ d.depth ≤ 60 ∧ d.shown.length ≤ sizeLine) ∧ Q (.str d.shown)) := rfl
theorem e_fJoin (a : Str) (d : PyData) (Q : PyData → Prop) : fJoin a d Q = (match d with
  | .list ds => match strsD ds with
    | some ys => (ys.map (·.length)).sum + ys.length * a.length ≤ 16777216 ∧ Q (.str (Txt.join a ys))
    | none => False
  | _ => False) := rfl
theorem e_dLZ (da : DTA) (Γ : GS) (Q : Opd → GS → Prop) : dLZ da Γ Q = (da Γ fun as Γ1 => match as with
  | [.list xs, .list ys] => min xs.length ys.length ≤ sizeLine ∧ Q (.val (.list (zipD xs ys))) Γ1
  | _ => False) := rfl
theorem e_fRev (v : PyData) (Q : PyData → Prop) : fRev v Q = (match v with
  | .list ds => Q (.list ds.reverse)
  | .tuple ds => Q (.tuple ds.reverse)
  | _ => False) := rfl
theorem e_fReprD (d : PyData) (Q : PyData → Prop) : fReprD d Q = ((d.showable = true ∧ d.depth ≤ 60 ∧ d.shown.length ≤ sizeLine) ∧ Q (.str d.shown)) := rfl
theorem e_dBagN (j : Nat) (Γ : GS) (Q : Opd → GS → Prop) : dBagN j Γ Q = (Γ.getD j .un = .bag ∧ ∀ m : Int, 0 ≤ m → Q (.val (.int m)) Γ) := rfl
theorem e_dBagL (j : Nat) (Γ : GS) (Q : Opd → GS → Prop) : dBagL j Γ Q = (Γ.getD j .un = .bag ∧ ∀ ns : List Int, NsOk ns → Q (.val (.list (ns.map .int))) Γ) := rfl
theorem e_dBagSet (j : Nat) (d : DT) (D : DEnds) (Γ : GS) : dBagSet j d D Γ = (d Γ fun y Γ1 => Γ1.getD j .un = .bag ∧ y.wd Γ1 fun v => match v with
  | .int m => 0 ≤ m ∧ D.nx Γ1
  | _ => False) := rfl
theorem e_dBagInc (j : Nat) (d : DT) (D : DEnds) (Γ : GS) : dBagInc j d D Γ = (Γ.getD j .un = .bag ∧ dBagSet j d D Γ) := rfl
theorem e_dLeft (j : Nat) (Γ : GS) (Q : Opd → GS → Prop) : dLeft j Γ Q = (Γ.getD j .un = .left ∧ ∀ m : Int, Q (.val (.int m)) Γ) := rfl
theorem e_dLeftDec (j : Nat) (D : DEnds) (Γ : GS) : dLeftDec j D Γ = (Γ.getD j .un = .left ∧ D.nx Γ) := rfl
theorem e_vLeft (Γ : GS) (Q : List AV → GS → Prop) : vLeft Γ Q = (Q [.left] Γ) := rfl
theorem e_vConsN (d : DT) (r : DTV) (Γ : GS) (Q : List AV → GS → Prop) : vConsN d r Γ Q = (d Γ fun x Γ1 => (x.sv Γ1).av fun a => noL a ∧ r (x.frz Γ1) fun as Γ2 => Q (a :: as) Γ2) := rfl
theorem e_fLt (a b : PyData) (Q : PyData → Prop) : fLt a b Q = fInt (fun i j => decide (i < j)) a b Q := rfl
theorem e_fGt (a b : PyData) (Q : PyData → Prop) : fGt a b Q = fInt (fun i j => decide (j < i)) a b Q := rfl
theorem e_fGe (a b : PyData) (Q : PyData → Prop) : fGe a b Q = fInt (fun i j => decide (j ≤ i)) a b Q := rfl
theorem e_dMut (i : Nat) (f : List PyData → List PyData → (List PyData → PyData → Prop) → Prop) (da : DTA) (Γ : GS) (Q : Opd → GS → Prop) : dMut i f da Γ Q = (isOwnL (Γ.getD i .un) ∧ da Γ fun as Γ1 => match Γ1.getD i .un with
  | .dat true (.list ds) => f ds as fun es ret => Q (.val ret) (Γ1.set i (SV.dat true (.list es)))
  | _ => False) := rfl
end DL
end
section
set_option autoImplicit false
set_option linter.all false
set_option maxRecDepth 100000
set_option maxHeartbeats 4000000
/-! lengths from the texts of data; types; tests of signs -/
namespace DL
open PySem PySem.Spec L2
theorem sz {n : Nat} (h : n ≤ 1000) : n ≤ sizeLine := Nat.le_trans h (by decide)
theorem reprChar_pos (q c : Nat) : 1 ≤ (Builtin.Str.reprChar q c).length := by
  unfold Builtin.Str.reprChar
  simp only
  repeat' split
  all_goals simp only [List.length_append, List.length_cons, List.length_nil]
  all_goals omega
theorem foldl_repr_more (q : Nat) : ∀ (l : List Nat) (acc : Array Nat), acc.size + l.length ≤ (l.foldl (fun out c => out ++ (Builtin.Str.reprChar q c).toArray) acc).size
  | [], acc => Nat.le_refl _
  | c :: r, acc => by
    have ih := foldl_repr_more q r (acc ++ (Builtin.Str.reprChar q c).toArray)
    have := reprChar_pos q c
    simp only [List.foldl_cons, List.length_cons]
    simp only [Array.size_append, List.size_toArray] at ih
    omega
theorem str_shown (x : Str) : x.length ≤ (PyData.str x).shown.length := by
  rw [PyData.shown_str]
  unfold reprText
  show x.length ≤ ((x.cps.foldl (fun out c => out ++ (Builtin.Str.reprChar (reprQuote x) c).toArray) #[reprQuote x]).push (reprQuote x)).size
  rw [Array.size_push, ← Array.foldl_toList]
  have := foldl_repr_more (reprQuote x) x.cps.toList #[reprQuote x]
  have e : x.cps.toList.length = x.length := by simp [Str.length]
  rw [e] at this
  omega
section
variable {n m b c : Nat} {d : PyData} {ds es : List PyData}
theorem Dt.str_len {x : Str} (h : Dt n b (.str x)) : x.length ≤ b := Nat.le_trans (str_shown x) h.2.2
theorem DtA.len (h : DtA n b ds) : 2 * ds.length ≤ b := by have := h.2.2; omega
theorem Dt.tup_depth (h : Dt n b (.tuple ds)) : 1 ≤ n := by have := h.1; simp only [PyData.depth] at this; omega
theorem Dt.list_depth (h : Dt n b (.list ds)) : 1 ≤ n := by have := h.1; simp only [PyData.depth] at this; omega
/-- around one place -/
theorem DtA.split (h : DtA n b ds) {i : Nat} (e : ds[i]? = some d) : ∃ b1 b2 b3, DtA n b1 (ds.take i) ∧ Dt n b2 d ∧ DtA n b3 (ds.drop (i + 1)) ∧ b1 + (b2 + 2) + b3 ≤ b := by
  induction ds generalizing b i with
  | nil => simp at e
  | cons x ds ih =>
    obtain ⟨b1, b2, h1, h2, h3⟩ := h.uncons
    cases i with
    | zero =>
      simp at e; subst e
      exact ⟨0, b1, b2, dtA_nil, h1, by simpa using h2, by omega⟩
    | succ i =>
      obtain ⟨c1, c2, c3, g1, g2, g3, g4⟩ := ih h2 (by simpa using e)
      exact ⟨b1 + 2 + c1, c2, c3, by rw [List.take_succ_cons]; exact dtA_cons h1 g1, g2, by simpa using g3, by omega⟩
theorem DtA.halves (h : DtA n b ds) (i : Nat) : ∃ b1 b2, DtA n b1 (ds.take i) ∧ DtA n b2 (ds.drop i) ∧ b1 + b2 ≤ b := by
  induction ds generalizing b i with
  | nil => exact ⟨0, 0, by simp; exact dtA_nil, by simp; exact dtA_nil, by omega⟩
  | cons x ds ih =>
    obtain ⟨b1, b2, h1, h2, h3⟩ := h.uncons
    cases i with
    | zero => exact ⟨0, b, by simp; exact dtA_nil, by simpa using h, by omega⟩
    | succ i =>
      obtain ⟨c1, c2, g1, g2, g3⟩ := ih h2 i
      exact ⟨b1 + 2 + c1, c2, by rw [List.take_succ_cons]; exact dtA_cons h1 g1, by simpa using g2, by omega⟩
end
/-- not too long a text -/
def Fit (d : PyData) : Prop := ∃ n b, Dt n b d ∧ b ≤ sizeLine
theorem Dt.fit {n b : Nat} {d : PyData} (h : Dt n b d) (hb : b ≤ sizeLine) : Fit d := ⟨n, b, h, hb⟩
theorem Fit.str {x : Str} (h : Fit (.str x)) : x.length ≤ sizeLine := by obtain ⟨n, b, h, hb⟩ := h; exact Nat.le_trans h.str_len hb
theorem Fit.item {d : PyData} {ds : List PyData} (h : Fit (.tuple ds)) (m : d ∈ ds) : Fit d := by obtain ⟨n, b, h, hb⟩ := h; exact ⟨_, _, h.items.mem m, hb⟩
theorem Fit.len {ds : List PyData} (h : Fit (.tuple ds)) : ds.length ≤ sizeLine := by obtain ⟨n, b, h, hb⟩ := h; have := h.items.len; omega
def ltB (i j : Int) : Bool := decide (i < j)
def gtB (i j : Int) : Bool := decide (j < i)
def geB (i j : Int) : Bool := decide (j ≤ i)
/-! types -/
def isTup : PyData → Bool | .tuple _ => true | _ => false
def isLst : PyData → Bool | .list _ => true | _ => false
def isStr : PyData → Bool | .str _ => true | _ => false
def isBoo : PyData → Bool | .bool _ => true | _ => false
def isInB : PyData → Bool | .int _ => true | .bool _ => true | _ => false
theorem ty_tuple (d : PyData) : isTy "tuple" d = isTup d := by cases d <;> simp [isTy, tyD, isTup]
theorem ty_list (d : PyData) : isTy "list" d = isLst d := by cases d <;> simp [isTy, tyD, isLst]
theorem ty_str (d : PyData) : isTy "str" d = isStr d := by cases d <;> simp [isTy, tyD, isStr]
theorem ty_int (d : PyData) : isTy "int" d = isInB d := by cases d <;> simp [isTy, tyD, isInB]
theorem ty_bool (d : PyData) : isTy "bool" d = isBoo d := by cases d <;> simp [isTy, tyD, isBoo]
/-! statement by statement -/
@[irreducible] def stp (u : DTS) (D : DEnds) (Γ : GS) : Prop := u D Γ
theorem stp_eq {u : DTS} {D : DEnds} {Γ : GS} : stp u D Γ = u D Γ := by unfold stp; rfl
theorem stp_of {u : DTS} {D : DEnds} {Γ : GS} (h : u D Γ) : stp u D Γ := by rw [stp_eq]; exact h
/-- the first statement, then whatever it may leave -/
theorem seq_one {t u : DTS} {D : DEnds} {Γ : GS} {α : Type} (J : α → Prop) (mk : α → GS) (h1 : (∀ ws, J ws → stp u D (mk ws)) → t { D with nx := stp u D } Γ) (h2 : ∀ ws, J ws → u D (mk ws)) : dSeq t u D Γ := by
  have e : stp u D = u D := funext fun Γ => stp_eq
  have h := h1 fun ws j => stp_of (h2 ws j)
  rw [e] at h
  exact h
/-- .. which leaves just this -/
theorem seq_to {t u : DTS} {D : DEnds} {Γ : GS} (Γ' : GS) (h1 : ∀ nx : GS → Prop, nx Γ' → t { D with nx := nx } Γ) (h2 : u D Γ') : dSeq t u D Γ := h1 (u D) h2
/-- an if without else, its test a truth -/
theorem seq_if {c : DTT} {a u : DTS} {D : DEnds} {Γ : GS} (b : Bool) (ht : ∀ Q : Bool → GS → Prop, Q b Γ → c Γ Q) (hy : b = true → a { D with nx := u D } Γ) (hn : b = false → u D Γ) : dSeq (dIfS c a dNext) u D Γ := by
  refine ht _ ?_
  cases b with
  | true => exact hy rfl
  | false => exact hn rfl
theorem one_if {c : DTT} {a : DTS} {D : DEnds} {Γ : GS} (b : Bool) (ht : ∀ Q : Bool → GS → Prop, Q b Γ → c Γ Q) (hy : b = true → a D Γ) (hn : b = false → D.nx Γ) : dIfS c a dNext D Γ := by
  refine ht _ ?_
  cases b with
  | true => exact hy rfl
  | false => exact hn rfl
theorem seq_abs {t u : DTS} {D : DEnds} {Γ : GS} (J : GS → Prop) (h1 : ∀ nx : GS → Prop, (∀ Γ', J Γ' → nx Γ') → t { D with nx := nx } Γ) (h2 : ∀ Γ', J Γ' → u D Γ') : dSeq t u D Γ := h1 (u D) h2
/-- a for by what holds: what is walked, the end, a turn -/
theorem for_inv {di : DI} {g : DTG} {tb : DTS} {D : DEnds} {Γ : GS} (I : List PyData → GS → Prop) (h0 : ∀ F : List PyData → GS → Prop, (∀ ds Γ', I ds Γ' → F ds Γ') → di Γ F) (hn : ∀ Γ, I [] Γ → D.nx Γ)
    (hc : ∀ d ds Γ, I (d :: ds) Γ → ∀ rest : GS → Prop, (∀ Γ', I ds Γ' → rest Γ') → g d Γ fun Γ1 => tb { D with nx := rest, ct := rest, bk := D.nx } Γ1) : dFor di g tb D Γ :=
  h0 (forW g tb D) (forW_of I hn fun d ds Γ h ih => hc d ds Γ h (forW g tb D ds) ih)
/-- .. its test drawn -/
theorem seq_ifd {c : DTT} {a u : DTS} {D : DEnds} {Γ : GS} (P : Bool → Prop) (ht : ∀ Q : Bool → GS → Prop, (∀ b, P b → Q b Γ) → c Γ Q) (hy : P true → a { D with nx := u D } Γ) (hn : P false → u D Γ) : dSeq (dIfS c a dNext) u D Γ := by
  refine ht _ fun b hb => ?_
  cases b with
  | true => exact hy hb
  | false => exact hn hb
/-- a while, by what holds and a number that falls -/
theorem while_of {c : DTT} {tb : DTS} {D : DEnds} (I : Nat → GS → Prop) (step : ∀ m Γ, I m Γ → ∀ rest : GS → Prop, (∀ m' Γ', m' < m → I m' Γ' → rest Γ') → c Γ fun z Γ1 => if z = true then tb { D with nx := rest, ct := rest, bk := D.nx } Γ1 else D.nx Γ1) (m : Nat) (Γ : GS) (h : I m Γ) : dWhile c tb D Γ := by
  have key : ∀ n m Γ, m < n → I m Γ → whileW c tb D n Γ := by
    intro n
    induction n with
    | zero => intro m Γ h; exact absurd h (Nat.not_lt_zero _)
    | succ n ih => intro m Γ hm hI; exact step m Γ hI (whileW c tb D n) fun m' Γ' h1 h2 => ih m' Γ' (by omega) h2
  exact ⟨m + 1, key _ m Γ (Nat.lt_succ_self _) h⟩
/-! comprehensions that only look -/
theorem lc_pure {g : DTG} {tt : DTT} {te : DT} {vs : List Nat} {Q : List PyData → GS → Prop} {Γ : GS} (p : PyData → Bool) (f : PyData → PyData) : ∀ (ds acc : List PyData), acc.length + ds.length ≤ sizeLine →
    (∀ d ∈ ds, ∀ ds' acc, acc.length < sizeLine → (p d = true → lcW g tt te vs Q ds' (acc ++ [f d]) Γ) → (p d = false → lcW g tt te vs Q ds' acc Γ) → lcW g tt te vs Q (d :: ds') acc Γ) → Q (acc ++ (ds.filter p).map f) Γ → lcW g tt te vs Q ds acc Γ
  | [], acc, _, _, q => by rw [List.filter_nil, List.map_nil, List.append_nil] at q; exact q
  | d :: ds, acc, hl, hs, q => by
    rw [List.length_cons] at hl
    refine hs d (List.mem_cons_self ..) ds acc (by omega) (fun e => ?_) (fun e => ?_)
    · refine lc_pure p f ds (acc ++ [f d]) (by rw [List.length_append, List.length_singleton]; omega) (fun d' m => hs d' (List.mem_cons_of_mem _ m)) ?_
      rw [List.filter_cons, if_pos e, List.map_cons] at q
      rw [List.append_assoc]; exact q
    · refine lc_pure p f ds acc (by omega) (fun d' m => hs d' (List.mem_cons_of_mem _ m)) ?_
      rw [List.filter_cons, if_neg (by rw [e]; decide)] at q
      exact q
theorem lc_map {g : DTG} {tt : DTT} {te : DT} {vs : List Nat} {Q : List PyData → GS → Prop} {Γ : GS} (f : PyData → PyData) (ds acc : List PyData) (hl : acc.length + ds.length ≤ sizeLine)
    (hs : ∀ d ∈ ds, ∀ ds' acc, acc.length < sizeLine → lcW g tt te vs Q ds' (acc ++ [f d]) Γ → lcW g tt te vs Q (d :: ds') acc Γ) (q : Q (acc ++ ds.map f) Γ) : lcW g tt te vs Q ds acc Γ :=
  lc_pure (fun _ => true) f ds acc hl (fun d m ds' acc h h1 _ => hs d m ds' acc h (h1 rfl)) (by rw [List.filter_eq_self.mpr (fun _ _ => rfl)]; exact q)
theorem bools_map {α : Type} (h : α → Bool) : ∀ xs : List α, boolsD (xs.map fun x => .bool (h x)) = some (xs.map h)
  | [] => rfl
  | x :: xs => by simp only [List.map_cons, boolsD, bools_map h xs]; rfl
theorem all_map {α : Type} (h : α → Bool) (xs : List α) : (xs.map h).all id = xs.all h := by rw [List.all_map]; rfl
theorem any_map {α : Type} (h : α → Bool) (xs : List α) : (xs.map h).any id = xs.any h := by rw [List.any_map]; rfl
theorem filter_none {α β : Type} (p : α → Bool) (f : α → β) (xs : List α) : ((xs.filter p).map f).isEmpty = xs.all fun x => !p x := by
  induction xs with
  | nil => rfl
  | cons x xs ih => cases e : p x <;> simp [List.filter_cons, e, ← ih]
/-! signs -/
theorem sg_le (a c : Nat) : strLe ⟨#[a]⟩ ⟨#[c]⟩ = decide (a ≤ c) := by
  unfold strLe
  show (!decide ([c] < [a])) = _
  by_cases h : a ≤ c
  · rw [decide_eq_true h]
    have : ¬ ([c] < [a]) := by
      intro z
      rw [List.cons_lt_cons_iff] at z
      rcases z with z | ⟨_, z⟩
      · omega
      · exact absurd z (by simp)
    rw [decide_eq_false this]; rfl
  · rw [decide_eq_false h]
    have : [c] < [a] := by rw [List.cons_lt_cons_iff]; exact .inl (by omega)
    rw [decide_eq_true this]; rfl
theorem sp_le (c : Nat) : strLe (Str.ofString " ") ⟨#[c]⟩ = decide (32 ≤ c) := by rw [show Str.ofString " " = ⟨#[32]⟩ from by decide +kernel]; exact sg_le ..
theorem le_ti (c : Nat) : strLe ⟨#[c]⟩ (Str.ofString "~") = decide (c ≤ 126) := by rw [show Str.ofString "~" = ⟨#[126]⟩ from by decide +kernel]; exact sg_le ..
theorem signs_length (x : Str) : (signs x).length = x.length := by unfold signs; rw [List.length_map, Array.length_toList]; rfl
end DL
end
section
set_option autoImplicit false
set_option linter.all false
set_option maxRecDepth 100000
set_option maxHeartbeats 4000000
/-! dicts of the module, their keys texts: d[k], d.get(k, x) -/
namespace DL
open PySem PySem.Spec L2
structure GTab (K : PySem.W.Frag) (w : World) (a : Addr) (T : Str → Option PyData) : Prop where
  at_ : ∃ es n, K.lookup a = some ⟨.type "dict", none, .dict es n, #[]⟩ ∧ PySem.W.KeysLit w.params es.toList
  ns : (a == sysModules) = false
  hit : ∀ x d, T x = some d → ∃ v, KDct K w a x v ∧ ∀ O H, Rp K O H v d
  miss : ∀ x, T x = none → KMiss K w a x
def dGIx (T : Str → Option PyData) (d : DT) : DT := fun Γ Q => d Γ fun y Γ1 => y.wd Γ1 fun b => match b with
  | .str z => match T z with
    | some d => Q (.val d) Γ1
    | none => False
  | _ => False
def tKGet (K : PySem.W.Frag) (w : World) (a : Addr) (ty tx : TE) : TE := fun σ H Q => ty σ H fun y H2 => tx σ H2 fun z H3 => ∃ k, y = .str k ∧ ((∃ v, KDct K w a k v ∧ Q v H3) ∨ (KMiss K w a k ∧ Q z H3))
theorem pe_kget2 {X : Cx} {x : Str} {e f : Expr} {p apos cpos : Pos} {ty tx : TE} {a : Addr} (hg : Gl X x) (hm : X.mg x = some (.ref a)) (ns : (a == sysModules) = false) (at_ : ∃ es n, X.K.lookup a = some ⟨.type "dict", none, .dict es n, #[]⟩ ∧ PySem.W.KeysLit X.w.params es.toList)
    (he : PE X e ty) (hf : PE X f tx) (m : M2 X (.Name x p) "get" apos e f cpos) (hn : x ≠ "__name__" := by decide) (hdb : (x == ("__debug__" : Str)) = false := by decide) :
    PE X (.Call (.Attribute (.Name x p) "get" apos) [e, f] [] cpos) (tKGet X.K X.w a ty tx) := by
  have ho : PE X (.Name x p) (tC (.ref a)) := pe_glob hg hm rfl (hd := hdb)
  refine ⟨fun pins s σ H Q I h => ?_⟩
  refine wpAny_Call_method m.base m.few m.line PySem.F.plainAttrs_dict PySem.F.slot_dict_get PySem.F.type_dict_get (thn (ho.run pins s σ H (fun v H' => v = .ref a ∧ tKGet X.K X.w a ty tx σ H' Q) I ⟨rfl, h⟩) fun u s1 ⟨v, H1, I1, rx, ex, q1⟩ => ?_)
  subst ex
  obtain rfl : u = Value.ref a := rx
  obtain ⟨es, n, hl, hk⟩ := at_
  have hmap := PySem.W.mapOf_K (prog := X.prog) (w := X.w) I1.kIn hl hk
  refine ⟨hmap.typeIs, fun b q => ?_, ?_⟩
  · cases q
    exact ⟨_, I1.kIn _ _ hl, rfl⟩
  rw [m.trees]
  refine Calls.callWith_builtin rfl (Calls.evalArgs_plain (Calls.spliced_cons (thn (he.run pins s1 σ H1 _ I1 q1) fun iv s2 ⟨y, H2, I2, ry, q2⟩ =>
    Calls.spliced_cons (thn (hf.run pins s2 σ H2 _ I2 q2) fun fv s3 ⟨z, H3, I3, rz, k, ey, q3⟩ => Calls.spliced_nil ?_))))
  subst ey
  obtain ⟨t, rfl⟩ := ry
  have hmap3 := PySem.W.mapOf_K (prog := X.prog) (w := X.w) I3.kIn hl hk
  refine call_meetsIn PySem.F.slot_dict_get hmap3.typeIs PySem.F.entry_dict_get (PySem.F.args_dict_get_3 _ _ _) (meets_dict_get_default (strKind X.prog X.w) a (strKind_is X.prog X.w k t) ns fv) ⟨_, hmap3, ?_⟩
  rcases q3 with ⟨v0, ⟨es', n', u0, hl', hk', e, ru⟩, q⟩ | ⟨⟨es', n', hl', hk', _, e⟩, q⟩
  · rw [PySem.W.find_K hl e]
    exact ⟨v0, H3, I3.tok _, ru, q⟩
  · rw [PySem.W.find_K hl e]
    exact ⟨z, H3, I3.tok _, rz, q⟩
def dGGet (T : Str → Option PyData) (d f : DT) : DT := fun Γ Q => d Γ fun y Γ1 => f Γ1 fun z Γ2 => y.wd Γ2 fun b => match b with
  | .str k => match T k with
    | some d => Q (.val d) Γ2
    | none => Q z Γ2
  | _ => False
section
variable {ι : Type} {Xs : ι → Cx} {P : Program} {w : World} {K : PySem.W.Frag} {mg : Str → Option Value} {base : Heap} {k : Nat} {e f : Expr} {d df : DT} {pos p apos : Pos} {x : Str} {a : Addr} {T : Str → Option PyData}
theorem dx_gix (E : EnvOk Xs P w K mg base k) (hm : mg x = some (.ref a)) (G : GTab K w a T) (h : DX Xs K e d) (hg : ∀ i, Gl (Xs i) x := by intro _; rfl) (hs : PlainIx e := by intro _ _; rfl) (hdb : (x == ("__debug__" : Str)) = false := by decide) : DX Xs K (.Subscript (.Name x p) e pos) (dGIx T d) := by
  obtain ⟨t, pe, s⟩ := h
  refine ⟨tOp (rIxD K w) (tC (.ref a)) t, fun i => ?_, ?_⟩
  · rw [← E.K i, ← E.w i]
    exact pe_ix ix_kdict (pe_glob (hg i) (by rw [E.mg i]; exact hm) rfl (hd := hdb)) (pe i) hs
  intro F σ H Γ Q R S h kk
  refine s F σ H Γ _ _ S h fun v o H1 Γ1 ok1 S1 p1 h1 => ?_
  obtain ⟨d1, r1, h2⟩ := ok1.rep S1 h1
  cases d1 with
  | str z =>
    obtain rfl := r1.str
    simp only at h2
    split at h2
    · rename_i d' e'
      obtain ⟨v', kd, rv⟩ := G.hit z d' e'
      exact ⟨a, z, v', rfl, rfl, kd, kk v' (.val d') H1 Γ1 (rv _ _) S1 p1 h2⟩
    · exact h2.elim
  | _ => exact h2.elim
theorem dx_gget (E : EnvOk Xs P w K mg base k) (hm : mg x = some (.ref a)) (G : GTab K w a T) (h : DX Xs K e d) (h' : DX Xs K f df) (hg : ∀ i, Gl (Xs i) x := by intro _; rfl) (m : ∀ i, M2 (Xs i) (.Name x p) "get" apos e f pos := by intro _; exact ⟨rfl, rfl, rfl, rfl⟩)
    (hn : x ≠ "__name__" := by decide) (hdb : (x == ("__debug__" : Str)) = false := by decide) : DX Xs K (.Call (.Attribute (.Name x p) "get" apos) [e, f] [] pos) (dGGet T d df) := by
  obtain ⟨t, pe, s⟩ := h
  obtain ⟨t2, pe2, s2⟩ := h'
  refine ⟨tKGet K w a t t2, fun i => ?_, ?_⟩
  · have e1 := E.K i
    have e2 := E.w i
    rw [← e1, ← e2]
    exact pe_kget2 (hg i) (by rw [E.mg i]; exact hm) G.ns (by rw [e1, e2]; exact G.at_) (pe i) (pe2 i) (m i) hn hdb
  intro F σ H Γ Q R S h kk
  refine s F σ H Γ _ _ S h fun v o H1 Γ1 ok1 S1 p1 h1 => ?_
  refine s2 F σ H1 Γ1 _ _ S1 h1 fun v2 o2 H2 Γ2 ok2 S2 p2 h2 => ?_
  obtain ⟨d1, r1, h3⟩ := (ok1.keep p2 S1).rep S2 h2
  cases d1 with
  | str z =>
    obtain rfl := r1.str
    simp only at h3
    refine ⟨z, rfl, ?_⟩
    split at h3
    · rename_i d' e'
      obtain ⟨v', kd, rv⟩ := G.hit z d' e'
      exact .inl ⟨v', kd, kk v' (.val d') H2 Γ2 (rv _ _) S2 (p1.trans p2) h3⟩
    · rename_i e'
      exact .inr ⟨G.miss z e', kk v2 o2 H2 Γ2 ok2 S2 (p1.trans p2) h3⟩
  | _ => exact h3.elim
end
/-! such a dict, by its entries -/
def lookT (tab : List (Str × PyData)) (x : Str) : Option PyData := match tab with
  | [] => none
  | p :: r => if (p.1 == x) = true then some p.2 else lookT r x
def EntOk (K : PySem.W.Frag) (e : DictEntry) (p : Str × PyData) : Prop := (∃ t, e.key = .str p.1 t) ∧ ∃ v, RelV v e.val ∧ ∀ O H, Rp K O H v p.2
theorem gtab_of {K : PySem.W.Frag} {w : World} {a : Addr} {es : Array DictEntry} {n : Nat} {tab : List (Str × PyData)} (hl : K.lookup a = some ⟨.type "dict", none, .dict es n, #[]⟩) (hk : PySem.W.KeysLit w.params es.toList) (ns : (a == sysModules) = false)
    (h : Paired (EntOk K) es.toList tab) : GTab K w a (lookT tab) := by
  have key : ∀ (x : Str) {l : List DictEntry} {tab : List (Str × PyData)}, Paired (EntOk K) l tab → l.any (·.refKey) = false ∧ match lookT tab x with
      | some d => ∃ e, l.find? (·.key.isStr x) = some e ∧ ∃ v, RelV v e.val ∧ ∀ O H, Rp K O H v d
      | none => l.find? (·.key.isStr x) = none := by
    intro x l tab h
    induction h with
    | nil => exact ⟨rfl, rfl⟩
    | @cons e p l tab he t ih =>
      obtain ⟨⟨tk, ek⟩, v, rv, rp⟩ := he
      obtain ⟨i1, i2⟩ := ih
      have ei : e.key.isStr x = (p.1 == x) := by rw [ek]; rfl
      refine ⟨?_, ?_⟩
      · rw [List.any_cons, i1, Bool.or_false]
        unfold DictEntry.refKey
        rw [ek]
      · unfold lookT
        rw [List.find?_cons, ei]
        cases z : (p.1 == x) with
        | true => exact ⟨e, rfl, v, rv, rp⟩
        | false => exact i2
  refine ⟨⟨es, n, hl, hk⟩, ns, fun x d e => ?_, fun x e => ?_⟩
  · obtain ⟨k1, k2⟩ := key x h
    rw [e] at k2
    obtain ⟨en, e1, v, rv, rp⟩ := k2
    exact ⟨v, ⟨es, n, en.val, hl, hk, by unfold PySem.W.nsIn; rw [hl]; simp only [e1], rv⟩, rp⟩
  · obtain ⟨k1, k2⟩ := key x h
    rw [e] at k2
    have k3 : es.toList.find? (·.key.isStr x) = none := k2
    exact ⟨es, n, hl, hk, ns, by unfold PySem.W.nsIn; rw [hl]; simp only [k3, k1]; rfl⟩
theorem ent_int {K : PySem.W.Frag} {e : DictEntry} {x : Str} {i : Int} (h1 : ∃ t, e.key = .str x t) (h2 : ∃ t, e.val = .int i t) : EntOk K e (x, .int i) := ⟨h1, .int i, h2, fun O H => .int i⟩
theorem rpa_strs {K : PySem.W.Frag} {O : Prot} {H : Hp} : ∀ xs : List Str, RpA K O H (xs.map V.str) (xs.map PyData.str)
  | [] => .nil
  | x :: xs => .cons (.str x) (rpa_strs xs)
theorem ent_tup {K : PySem.W.Frag} {e : DictEntry} {x : Str} {xs : List Str} {p : Addr} {o : Obj} {its : Array Value} {n : Nat} (h1 : ∃ t, e.key = .str x t) (h2 : e.val = .ref p) (h3 : K.lookup p = some o) (h4 : o.cls = .type "tuple") (h5 : o.data = .seq its n) (h6 : its.size ≤ sizeLine) (h7 : Vals (xs.map V.str) its.toList) :
    EntOk K e (x, .tuple (xs.map PyData.str)) := ⟨h1, .ref p, h2, fun O H => .tup (.inr (.inr ⟨o, its, n, h3, h4, h5, h6, h7⟩)) (rpa_strs xs)⟩
end DL
end
section
set_option autoImplicit false
set_option linter.all false
set_option maxRecDepth 100000
set_option maxHeartbeats 4000000
/-! sets of ints and texts: made of a list, by a comprehension; how many -/
namespace DL
open PySem PySem.Spec L2
/-- what a row of keys tells, each once, as met -/
def hasK (l : List Key) (k : Key) : Bool := l.any fun j => decide (j = k)
def addK (l : List Key) (k : Key) : List Key := if hasK l k = true then l else l ++ [k]
def upK (key : Nat → Key) : Nat → List Key
  | 0 => []
  | i + 1 => addK (upK key i) (key i)
def onceK (l : List Key) : List Key := l.foldl addK []
theorem hasK_add (l : List Key) (k j : Key) : hasK (addK l k) j = (hasK l j || decide (j = k)) := by
  unfold addK
  by_cases h : hasK l k = true
  · rw [if_pos h]
    by_cases e : j = k
    · subst e; rw [h]; rfl
    · rw [decide_eq_false e, Bool.or_false]
  · rw [if_neg h]
    unfold hasK
    rw [List.any_append]
    have : decide (k = j) = decide (j = k) := decide_eq_decide.mpr ⟨Eq.symm, Eq.symm⟩
    simp only [List.any_cons, List.any_nil, Bool.or_false, this]
theorem addK_length (l : List Key) (k : Key) : (addK l k).length = if hasK l k = true then l.length else l.length + 1 := by
  unfold addK; split <;> simp
theorem upK_length (key : Nat → Key) : ∀ i, (upK key i).length ≤ i
  | 0 => Nat.le_refl _
  | i + 1 => by
    have ih := upK_length key i
    show (addK (upK key i) (key i)).length ≤ i + 1
    rw [addK_length]; split <;> omega
theorem onceK_snoc (l : List Key) (k : Key) : onceK (l ++ [k]) = addK (onceK l) k := by unfold onceK; rw [List.foldl_append]; rfl
theorem onceK_length (l : List Key) : (onceK l).length ≤ l.length := by
  have : ∀ (l acc : List Key), (l.foldl addK acc).length ≤ acc.length + l.length := by
    intro l
    induction l with
    | nil => intro acc; simp
    | cons k l ih => intro acc; have := ih (addK acc k); rw [addK_length] at this; rw [List.foldl_cons, List.length_cons]; split at this <;> omega
  have := this l []
  unfold onceK
  simpa using this
theorem upK_take (l : List Key) (d : Key) : ∀ i, i ≤ l.length → upK (fun i => l.getD i d) i = onceK (l.take i)
  | 0, _ => by rw [List.take_zero]; rfl
  | i + 1, h => by
    have ih := upK_take l d i (by omega)
    show addK (upK (fun i => l.getD i d) i) (l.getD i d) = _
    rw [ih]
    have e : l.take (i + 1) = l.take i ++ [l.getD i d] := by
      rw [List.take_succ, List.getD_eq_getElem?_getD, List.getElem?_eq_getElem (by omega)]; rfl
    rw [e, onceK_snoc]
theorem setOf_as {P : Program} {w : World} {h : Heap} {a : Addr} {S S' : Key → Bool} {n n' : Nat} (R : h.SetOf (mixKind P w) a S n) (e : ∀ k, S k = S' k) (en : n = n') : h.SetOf (mixKind P w) a S' n' := by
  obtain rfl : S = S' := funext e
  subst en; exact R
section
variable {P : Program} {w : World} {A : Around} {R : Result → Shared → Prop} {I : Addr} {fp wr : List Addr} {G : Array GenState → Array GenState → Prop} {n : Nat} {Pv : Nat → Value → Prop} {St : Nat → Shared → Prop}
open PyProof.Rows in
theorem upd_loop (W : WalksS P w A.in1 I fp wr G n Pv St) (D : Addr) (nD : D ∉ fp) (key : Nat → Key) (hk : ∀ i v, Pv i v → RelV (kV (key i)) v) (few : n + 1 < scanBound) :
    ∀ (left i : Nat) (s : Shared), n - i = left → i ≤ n → St i s → s.heap.SetOf (mixKind P w) D (hasK (upK key i)) (upK key i).length →
      (∀ s', Moved (D :: wr) G s s' → s'.heap.SetOf (mixKind P w) D (hasK (upK key n)) (upK key n).length → R (.ok (.ret .none)) s') →
      codeAny (model P w) A (.builtin "set.update.loop" ⟨[.ref D, .ref I], []⟩) R s := by
  have nW : D ∉ wr := fun z => nD (W.sub _ z)
  have up : ∀ b ∈ wr, b ∈ D :: wr := fun b z => .tail _ z
  intro left
  induction left with
  | zero =>
    intro i s e hi st hS fin
    obtain rfl : i = n := by omega
    refine codeAny_builtin PyProof.Rows.F.entry_set_update_loop ?_
    rw [Around.under_plainId PyProof.Rows.F.plain_set_update_loop _]
    refine wpAny_bind (m := pyNext (.ref I)) (W.done s _ _ st fun s2 mv => ?_)
    refine wpAny_pure (fin s2 (mv.mono up) ?_)
    obtain ⟨o, es, ep, t, ho, r⟩ := hS
    exact ⟨o, es, ep, t, mv.heap D _ nW ho, r⟩
  | succ left ih =>
    intro i s e hi st hS fin
    have lt : i < n := by omega
    refine codeAny_builtin PyProof.Rows.F.entry_set_update_loop ?_
    rw [Around.under_plainId PyProof.Rows.F.plain_set_update_loop _]
    refine wpAny_bind (m := pyNext (.ref I)) (W.item i s _ _ lt st fun v s2 pv st2 mv => ?_)
    have rk := hk i v pv
    have sc := key_scan rk
    have is := kV_is (P := P) (w := w) rk
    have hS2 : s2.heap.SetOf (mixKind P w) D (hasK (upK key i)) (upK key i).length := by
      obtain ⟨o, es, ep, t, ho, r⟩ := hS
      exact ⟨o, es, ep, t, mv.heap D _ nW ho, r⟩
    refine wpAny_bind (m := holding [v] (setAdd D v)) (wpAny_holding ?_)
    unfold setAdd
    refine wpAny_holding (wpAny_bind ((mixKind P w).pyHash (k := key i) is ?_))
    have room : (upK key i).length + 1 < scanBound := by have := upK_length key i; omega
    refine wpAny_setAddHashed_of (knd := mixKind P w) (s := { s2 with toks := s2.toks + 1 }) is sc hS2 room fun h3 sb hS3 => ?_
    have hS4 := setOf_as (S' := hasK (upK key (i + 1))) (n' := (upK key (i + 1)).length) hS3 (fun k => (hasK_add _ _ _).symm) (addK_length _ _).symm
    refine wpAny_pure ⟨plainId_quiet PyProof.Rows.F.plain_set_update_loop _, ih (i + 1) _ (by omega) lt (W.frame _ s2 _ _ st2 (Nat.le_succ _) fun b hb o eo => ?_) hS4 fun s5 mv5 hS5 => ?_⟩
    · exact (sb.2 b fun z => nD (z ▸ hb)).trans eo
    · exact fin s5 (Moved.trans W.gtrans ((mv.mono up).then_heap (Nat.le_succ _) fun b o hb eo => (sb.2 b fun z => hb (z ▸ List.mem_cons_self ..)).trans eo) mv5) hS5
end
section
variable {P : Program} {w : World} {A : Around} {E : Value → Shared → Prop} {s : Shared}
open PyProof.Rows in
/-- set(xs), xs a list of keys -/
theorem set_of_list {l : Addr} {items : Array Value} {key : Nat → Key} {Q : Value → Shared → Prop} (hh : A.handled = none) (hl : s.heap.IsList l items) (hk : ∀ i v, items[i]? = some v → RelV (kV (key i)) v) (few : items.size + 1 < scanBound)
    (h : ∀ (h2 : Heap) (tk : Nat), h2.SetOf (mixKind P w) s.heap.objs.size (hasK (upK key items.size)) (upK key items.size).length → (∀ b o, b < s.heap.objs.size → s.heap.get? b = some o → h2.get? b = some o) → Q (.ref s.heap.objs.size) { s with heap := h2, toks := tk }) :
    wpAny (model P w) A (call (.type "set") [.ref l]) Q E s := by
  obtain ⟨cc, ctl, mro⟩ := F.called_set.mro
  have made := F.called_set.made
  have sub := F.called_set.sub
  refine wpAny_call (codeAny_of_tree (show wpAny _ _ (callAny (.type "set") _) _ _ _ from ?_))
  refine wpAny_pure ⟨Code.quiet_builtin _ (by decide +kernel), codeAny_builtin F.entry_type_call ?_⟩
  rw [Around.under_plain (weight_type_call_type "set" [.ref l] []) rfl]
  have g1 := F.called_set.notType
  have g2 := F.called_set.canCreate
  have g3 := F.typeCall_set_1 (.ref l)
  repeat (any_goals (first | assumption | wp_step))
  refine codeAny_mono (code_set_new_1 (.ref l) (E := E) (Q₁ := fun made s1 => ∃ led : Bool, made = .ref s.heap.objs.size ∧ s1 = { s with heap := s.heap.push { cls := .type "set", dict := none, data := .set #[] 0 (.fresh 0 0 led) } }) fun led => ⟨led, rfl, rfl⟩) fun r s1 hr => ?_
  match r, hr with
  | .error _, hr => exact hr
  | .ok (.ret made), hr =>
    obtain ⟨led, rfl, rfl⟩ := hr
    generalize hN : (({ cls := .type "set", dict := none, data := .set #[] 0 (.fresh 0 0 led) } : Obj)) = N
    have nS : (s.heap.push N).get? s.heap.objs.size = some N := by rw [← hN]; exact Heap.get?_push_size _ rfl
    have nT : Shared.TypeIs { s with heap := s.heap.push N } (.ref s.heap.objs.size) "set" := ⟨_, nS, by rw [← hN]⟩
    have li := F.called_set.init.lookup
    have bi := F.called_set.init.bind (.ref s.heap.objs.size)
    repeat (any_goals (first | assumption | wp_step))
    refine codeAny_mono (codeAny_call_builtin (R := wants (fun r s2 => r = .none ∧ ∃ h2 tk, s2 = { s with heap := h2, toks := tk } ∧ h2.SetOf (mixKind P w) s.heap.objs.size (hasK (upK key items.size)) (upK key items.size).length ∧
        ∀ b o, b < s.heap.objs.size → s.heap.get? b = some o → h2.get? b = some o) E) F.called_set.init.plain F.entry_set_init (check_set_init_1 nT ?_)) fun r2 s2 hr2 => ?_
    · subst hN
      obtain ⟨⟨ocl, odi, oda, osl⟩, ho, hc, nl, hd⟩ := hl
      simp only at hc hd
      subst hc hd
      have ho2 : (s.heap.push { cls := .type "set", dict := none, data := .set #[] 0 (.fresh 0 0 led) }).get? l = some { cls := .type "list", dict := odi, data := .seq items nl, slots := osl } := Heap.get?_push_of_some _ ho
      have q1 := F.sub_list_set
      have q2 := F.sub_list_frozenset
      have q3 : (Value.type "list" == Value.type "dict") = false := by decide
      have ll : Heap.IsList _ l items := ⟨_, ho2, rfl, nl, rfl⟩
      unfold Builtin.«set.__init__» noKeywords Builtin.Frozenset.updateFrom
      generalize hPI : pyIter = PI
      wp_walk
      subst hPI
      refine wpAny_pyIter_list ll ?_
      refine wpAny_bind (wpAny_runValue ?_)
      have lS : l < s.heap.objs.size := Heap.lt_size ho
      have hh3 : A.in1.in1.in1.handled = none := by simp [hh]
      have nI : ∀ N : Obj, l ≠ (s.heap.push N).objs.size := fun N => by rw [Heap.size_push]; exact Nat.ne_of_lt (Nat.lt_succ_of_lt lS)
      have nF : ∀ N : Obj, s.heap.objs.size ∉ [(s.heap.push N).objs.size, l] := fun N z => by
        rw [Heap.size_push] at z
        rcases List.mem_cons.mp z with z | z
        · exact Nat.ne_of_lt (Nat.lt_succ_self _) z
        · exact Nat.ne_of_gt lS (List.mem_singleton.mp z)
      refine upd_loop ((Walks.list hh3 _ l (nI _) items).toS) s.heap.objs.size (nF _) key hk few (items.size - 0) 0 _ (by omega) (Nat.zero_le _) ⟨⟨_, Heap.get?_push_size _ rfl, rfl, rfl⟩, ll.push _⟩ ?h0 ?hR
      case h0 =>
        exact ⟨_, #[], 0, _, Heap.get?_push_of_some _ nS, ⟨rfl, rfl, rfl⟩, rfl, fun e he => by simp at he, fun k => by simp [hasK, upK], by decide, by rfl, rfl⟩
      case hR =>
        rintro ⟨h2, gg, dd, tk, oo⟩ mv hS2
        obtain rfl : gg = s.gens := mv.gens
        obtain rfl : dd = s.drawn := mv.drawn
        obtain rfl : oo = s.os := mv.os
        show wpAny _ _ _ _ _ _
        refine wpAny_pure (show wpAny _ _ (ret Value.none) _ _ _ from wpAny_pure ⟨rfl, h2, tk, rfl, hS2, fun b o hb e => mv.heap b o (fun z => ?_) (Heap.get?_push_of_some _ (Heap.get?_push_of_some _ e))⟩)
        rcases List.mem_cons.mp z with z | z
        · exact Nat.ne_of_lt hb z
        · have q := List.mem_singleton.mp z
          rw [Heap.size_push] at q
          exact Nat.ne_of_lt (Nat.lt_succ_of_lt hb) q
    · match r2, hr2 with
      | .error _, hr2 => exact hr2
      | .ok (.ret r), hr2 =>
        obtain ⟨rfl, h2, tk, rfl, hS2, hk2⟩ := hr2
        repeat (any_goals (first | assumption | wp_step))
        exact h _ _ hS2 hk2
end
section
variable {X : Cx}
theorem vals_key : ∀ {ks : List Key} {us : List Value}, Vals (ks.map kV) us → ∀ (i : Nat) (v : Value), us[i]? = some v → RelV (kV (ks.getD i (.inl 0))) v
  | [], _, r, i, v, e => by cases r; simp at e
  | k :: ks, _, r, 0, v, e => by cases r with | cons a b => simp at e; subst e; exact a
  | k :: ks, _, r, i + 1, v, e => by cases r with | cons a b => exact vals_key b i v (by simpa using e)
/-- set(l), l a list of keys -/
def rSetL (K : PySem.W.Frag) (P : Program) (w : World) : List V → Hp → VK → Prop := fun xs H Q => ∃ (l : Addr) (ks : List Key), xs = [V.ref l] ∧ SqL K H l (ks.map kV) ∧ ks.length + 1 < scanBound ∧
  ∀ a, H a = none → Q (.ref a) (upd H a (SetK P w a (hasK (onceK ks)) (onceK ks).length))
theorem cr_setL (hc : X.calm = true) : CallR X (.type "set") (rSetL X.K X.prog X.w) := by
  intro pins s σ H xs us Q I r h
  obtain ⟨l, ks, rfl, hl, few, q⟩ := h
  rw [Vals.ref1 r]
  obtain ⟨its, rv, pl, hz⟩ := I.list hl
  have el : its.length = ks.length := by have := rv.length; rw [List.length_map] at this; exact this.symm
  have en : its.toArray.size = ks.length := by rw [List.size_toArray]; exact el
  have e1 : upK (fun i => ks.getD i (.inl 0)) its.toArray.size = onceK ks := by rw [en, upK_take _ _ _ (Nat.le_refl _), List.take_length]
  refine set_of_list (P := X.prog) (w := X.w) (key := fun i => ks.getD i (.inl 0)) (I.ok.hd hc) pl.isList (fun i v e => vals_key rv i v (by simpa using e)) (by rw [en]; exact few) fun h2 tk R keep => ?_
  rw [e1] at R
  exact ⟨.ref s.heap.objs.size, upd H s.heap.objs.size (SetK X.prog X.w s.heap.objs.size (hasK (onceK ks)) (onceK ks).length), I.laid (t' := tk) (fun b o e => keep b o (Heap.lt_size e) e) (Nat.le_refl _) (setK_new R), rfl, q _ (I.hok.fresh (Nat.le_refl _))⟩
/-- len(d), d such a set -/
def rLenK (P : Program) (w : World) : List V → Hp → VK → Prop := fun xs H Q => ∃ (a : Addr) (S : Key → Bool) (n : Nat), xs = [V.ref a] ∧ H a = some (SetK P w a S n) ∧ Q (.int n) H
theorem cr_lenK : CallR X (.builtin "len") (rLenK X.prog X.w) := by
  intro pins s σ H xs us Q I r h
  obtain ⟨a, S, n, rfl, ha, q⟩ := h
  rw [Vals.ref1 r]
  obtain ⟨o, es, ep, t, ho, hex, hd, _, _, hb, hf, hn⟩ := setK_get I ha
  have h4 : es.size < 4096 := hb
  have h6 : ((es.size : Nat) : Int) < 2 ^ 63 := Int.lt_of_lt_of_le (Int.ofNat_lt.mpr h4) (by decide)
  exact call_len_set ho hex hd hf h6 ⟨.int n, H, I.tok _, ⟨_, by rw [hn]⟩, q⟩
end
end DL
end
section
set_option autoImplicit false
set_option linter.all false
set_option maxRecDepth 100000
set_option maxHeartbeats 4000000
/-! {elt for target in iter}, elt an int or a text -/
namespace DL
open PySem PySem.Spec L2
/-- one more member -/
abbrev addS (P : Program) (w : World) (D : Addr) (S : Key → Bool) (n : Nat) (c : Key) : HO := SetK P w D (fun j => S j || decide (j = c)) (if S c = true then n else n + 1)
abbrev emptyS (P : Program) (w : World) (D : Addr) : HO := SetK P w D (fun _ => false) 0
/-- a turn's end: the member put in -/
def put1 (P : Program) (w : World) (D : Addr) (Nx : Hp → Prop) : VK := fun y H => ∃ (c : Key) (S : Key → Bool) (n : Nat), y = kV c ∧ H D = some (SetK P w D S n) ∧ n + 1 < scanBound ∧ Nx (upd H D (addS P w D S n c))
def tScK (P : Program) (w : World) (wi : TI) (g : TG) (tt : TT) (te : TE) (vs : List Nat) : TE := fun σ H Q => wi σ H fun J H1 => ∀ D, H1 D = none → ∃ W : Nat → Nat → Hp → Prop, (∃ m, W 0 m (upd H1 D (emptyS P w D))) ∧
  ∀ i m H, W i m H → (J.stop i H ∧ Q (.ref D) H) ∨ (J.go i H ∧ ∃ Nx : Hp → Prop, (∀ H', Nx H' → ∃ m', m' < m ∧ W (i + 1) m' H') ∧
    ∀ x H', J.yld i H x H' → g x (wipe σ vs) H' fun σ2 H2 => wipe σ2 vs = wipe σ vs ∧ tt σ2 H2 fun b H3 => if b = true then te σ2 H3 (put1 P w D Nx) else Nx H3)
section
variable {X : Cx}
theorem putK_ok {pins : List (Addr × Obj)} {σ : L2.St} {H : Hp} {s : Shared} {E : Value → Shared → Prop} {D : Addr} {S : Key → Bool} {n : Nat} {k : Key} {u : Value} {Q : Value → Shared → Prop} (I : Inv X pins σ H s) (hD : H D = some (SetK X.prog X.w D S n)) (r : RelV (kV k) u) (few : n + 1 < scanBound)
    (h : ∀ s', Inv X pins σ (upd H D (addS X.prog X.w D S n k)) s' → Q .none s') : wpAny (model X.prog X.w) X.A (call (.builtin "set.add") [.ref D, u]) Q E s := by
  refine call_set_add (kV_is r) (key_scan r) (setK_get I hD) few fun h2 sb R => h _ ?_
  have there : ∃ u, h2.get? D = some u := let ⟨o, _, _, _, ho, _⟩ := R; ⟨o, ho⟩
  exact I.write (e := D) (t' := s.toks + 1) (by rw [hD]; trivial) (.inl rfl) (fun b u hb hu => (sb.2 b hb).trans hu) there (setK_new R)
theorem fresh_set (P : Program) (w : World) (h : Heap) (led : Bool) : (h.push { cls := .type "set", dict := none, data := .set #[] 0 (.fresh 0 0 led) }).SetOf (mixKind P w) h.objs.size (fun _ => false) 0 :=
  ⟨_, #[], 0, _, Heap.get?_push_size _ rfl, ⟨rfl, rfl, rfl⟩, rfl, fun e he => by simp at he, fun k => by simp, by decide, by rfl, rfl⟩
theorem pe_scK {elt tg iter : Expr} {scope : Scope} {own : List (PySem.Str × Nat)} {ifs : List Expr} {pos : Pos} {wi : TI} {g : TG} {tt : TT} {te : TE} (hc : X.calm = true) (hN : X.N.Nodup) (hi : PI X tg iter wi) (ok : BlkOk X.N X.env.scope scope own)
    (hg : ∀ (s : Shared) (H : Hp) (C : Addr) (cl : List (PySem.Str × Addr)) (fp : List Addr), PG (X.blk s H scope (compEnvC scope cl C X.env) fp) tg g) (ht : ∀ (s : Shared) (H : Hp) (C : Addr) (cl : List (PySem.Str × Addr)) (fp : List Addr), PTs (X.blk s H scope (compEnvC scope cl C X.env) fp) ifs tt)
    (he : ∀ (s : Shared) (H : Hp) (C : Addr) (cl : List (PySem.Str × Addr)) (fp : List Addr), PE (X.blk s H scope (compEnvC scope cl C X.env) fp) elt te) (hs : ∀ x, foldedSetIterable iter X.env x = pure x := by intro _; rfl) :
    PE X (.SetComp elt [⟨tg, iter, ifs, 0⟩] scope pos) (tScK X.prog X.w wi g tt te (own.map (·.2))) := by
  refine ⟨fun pins s σ H Q I h => ?_⟩
  rw [PpSet.eval_SetComp]
  have free : ∀ y ∈ scope.names, y.2 = .free → ∃ c, X.env.cells.lookup y.1 = some c := fun y hy e => I.ok.has _ (ok.free y hy e)
  refine wpAny_comprehension_free rfl hs (closure_ok free) ok.kind (fun y hy e => by rw [ok.uniq y hy, e]) (thn (hi.run pins s σ H _ I h) fun xv s1 hx => thn hx fun itv s2 h2 => ?_)
  obtain ⟨it, fp, tn, J, H2, e, I2, T, st2, f2, q⟩ := h2
  subst e
  refine PpSet.newSet_ok (newEnv_comp ?_)
  generalize hD : s2.heap.objs.size = D
  have nD : H2 D = none := I2.hok.fresh (Nat.le_of_eq hD)
  obtain ⟨W, ⟨m0, w0⟩, turn⟩ := q D nD
  generalize hNo : (({ cls := .type "set", dict := none, data := .set #[] 0 (.fresh 0 0 (!X.w.params.followText "set-order")) } : Obj)) = No
  have hset : (s2.heap.push No).SetOf (mixKind X.prog X.w) D (fun _ => false) 0 := by rw [← hNo, ← hD]; exact fresh_set X.prog X.w s2.heap _
  generalize hs3 : ({ s2 with heap := s2.heap.push No } : Shared) = s3
  have h3 : s3.heap = s2.heap.push No := by rw [← hs3]
  generalize hH3 : upd H2 D (emptyS X.prog X.w D) = H3 at w0
  have I3 : Inv X pins σ H3 s3 := by
    rw [← hs3, ← hH3]
    exact I2.laid (t' := s2.toks) (fun b o e => Heap.get?_push_of_some _ e) (Nat.le_of_eq hD) (setK_new hset)
  have f3 : ∀ b ∈ fp, FpOk X pins H3 b ∧ b < s3.heap.objs.size := fun b hb => by
    obtain ⟨o, e, _⟩ := T.obj _ _ st2 b hb
    have lt := Heap.lt_size e
    refine ⟨⟨?_, (f2 b hb).2⟩, by rw [h3, Heap.size_push]; exact Nat.lt_succ_of_lt lt⟩
    rw [← hH3, upd_ne (by rw [← hD]; exact Nat.ne_of_lt lt)]
    exact (f2 b hb).1
  have st3 : tn 0 s3.heap := T.keep _ _ _ st2 fun b _ o e => by rw [h3]; exact Heap.get?_push_of_some _ e
  have I4 := block_start I3 ok hN f3
  generalize hcl : cellsFrom (s3.heap.objs.size + 1) scope.names (cloFrom X.env.cells scope.names []) = cl at I4
  have pg := hg s3 H3 s3.heap.objs.size cl fp
  have pt := ht s3 H3 s3.heap.objs.size cl fp
  have pe := he s3 H3 s3.heap.objs.size cl fp
  have goal_is : codeAny (model X.prog X.w) X.A (.compStart (.SetComp elt [⟨tg, iter, ifs, 0⟩] scope pos) 0 (.ref it) (.ref D) (compEnvC scope cl s3.heap.objs.size X.env)) (compPost (model X.prog X.w) X.A X.xe none (EP X pins σ Q) (.ref D) s3.heap.objs.size) { s3 with heap := pushCells (s3.heap.push { cls := .type "dict", data := .dict #[] }) scope.names } := by
    generalize hce : compEnvC scope cl s3.heap.objs.size X.env = ce at I4 pg pt pe ⊢
    have cL : ce.locals = s3.heap.objs.size := by subst hce; rfl
    generalize hs4 : ({ s3 with heap := pushCells (s3.heap.push { cls := .type "dict", data := .dict #[] }) scope.names } : Shared) = s4 at I4 ⊢
    have st4 : tn 0 s4.heap := T.keep _ _ _ st3 fun b _ o e => by rw [← hs4]; exact pushCells_keeps _ _ _ _ (Heap.get?_push_of_some _ e)
    let Z := X.blk s3 H3 scope ce fp
    have stat : ∀ {σ' : L2.St} {H' : Hp} {s' : Shared}, Inv Z [] σ' H' s' → (∀ b ∈ fp, H' b = none) → ∀ b ∈ fp, FpOk Z [] H' b := fun I' hn b hb =>
      ⟨hn b hb, (I'.ok.exf b hb).1, I'.ok.exfs b hb, .inl hb, fun x c e => (I'.ok.exf b hb).2 x c e, fun p hp => absurd (show p ∈ ([] : List (Addr × Obj)) ++ [] from hp) (by simp)⟩
    have loop : codeAny (model X.prog X.w) X.A (.compLoop (.SetComp elt [⟨tg, iter, ifs, 0⟩] scope pos) 0 (.ref it) (.ref D) ce) (compPost (model X.prog X.w) X.A X.xe none (EP X pins σ Q) (.ref D) s3.heap.objs.size) s4 := by
      refine PpSet.compLoopS_any (fun n s' => ∃ i H', Inv Z [] (wipe σ (own.map (·.2))) H' s' ∧ tn i s'.heap ∧ (∀ b ∈ fp, H' b = none) ∧ W i n H') ?_ m0 ⟨0, H3, I4, st4, fun b hb => (f3 b hb).1.1, w0⟩
      rintro n s5 ⟨i, H5, I5, st5, n5, w5⟩
      rcases turn i n H5 w5 with ⟨stop, qq⟩ | ⟨gO, Nx, hNx, step⟩
      · refine thnF (T.done Z rfl rfl rfl hc i [] s5 _ H5 (fun _ _ => False) I5 (stat I5 n5) st5 stop) fun r s6 ⟨hr, I6⟩ => ?_
        subst hr
        have I7 : Inv X pins σ H5 s6 := I3.call' (ch := fp) I6.os I6.base I6.hok I6.bare fun b hb => let f := (f3 b hb).1.2; ⟨f.2.2.1, f.1, f.2.2.2.1, f.2.2.2.2⟩
        have nC : H5 s3.heap.objs.size = none := by rw [← cL]; exact I6.free
        obtain ⟨m, hn, _⟩ := I6.loc
        have hn : s6.heap.Ns s3.heap.objs.size m := by rw [← cL]; exact hn
        obtain ⟨k0, k1, k2, k3, k4, k5⟩ := I3.fpOk (Nat.le_refl _) nC
        exact ⟨m, hn, fun h6 sb => ⟨.ref D, H5, I7.turned (t' := s6.toks) (fun b o hb e => (sb.2 b hb).trans e) k0 k1 k3 k4 k5, rfl, qq⟩⟩
      · refine thnF (T.item Z rfl rfl rfl hc i [] s5 _ H5 (fun _ _ => False) I5 (stat I5 n5) st5 gO) fun r s6 ⟨u, hr, h6⟩ => ?_
        subst hr
        refine thnF h6 fun _ s7 ⟨x, H7, I7, r7, y7, st7, n7⟩ => ?_
        refine thnF (pg.run _ s7 _ H7 x u _ (I7.pinned (stat I7 n7) (T.obj _ _ st7)) r7 (step x H7 y7)) fun _ s8 ⟨σ8, H8, I8, hw8, q8⟩ => ?_
        refine thnF (pt.run _ s8 σ8 H8 _ I8 q8) fun b s9 ⟨H9, I9, q9⟩ => ?_
        have fin : ∀ {s' : Shared} {H' : Hp}, Inv Z ([] ++ pinsAt fp s7.heap) σ8 H' s' → Nx H' → ∃ m, m < n ∧ ∃ i H', Inv Z [] (wipe σ (own.map (·.2))) H' s' ∧ tn i s'.heap ∧ (∀ b ∈ fp, H' b = none) ∧ W i m H' := fun {s' H'} I' nx => by
          obtain ⟨m', hm, w'⟩ := hNx H' nx
          have pin : ∀ b ∈ fp, ∀ o, s7.heap.get? b = some o → s'.heap.get? b = some o ∧ H' b = none := fun b hb o e => let z := I'.pin (b, o) (List.mem_append_right _ (List.mem_append_right _ (mem_pinsAt hb e))); ⟨z.1, z.2.1⟩
          have hl : (wipe σ (own.map (·.2))).length = σ8.length := by rw [← hw8, wipe_length]
          refine ⟨m', hm, i + 1, H', (I'.unpinned (pins := [])).weak hl (fun j v e => (wipe_some (by rw [hw8]; exact e)).1), T.keep _ _ _ st7 fun b hb o e => (pin b hb o e).1, fun b hb => let ⟨o, e, _⟩ := T.obj _ _ st7 b hb; (pin b hb o e).2, w'⟩
        cases b with
        | false => rw [if_neg (by decide)] at q9 ⊢; exact fin I9 q9
        | true =>
          rw [if_pos rfl] at q9 ⊢
          refine thnF (pe.run _ s9 σ8 H9 _ I9 q9) fun z s10 ⟨yv, H10, I10, r10, c, S0, n0, ey, hD10, few, nx⟩ => ?_
          subst ey
          exact putK_ok (X := Z) I10 hD10 r10 few fun s11 I11 => fin I11 nx
    exact PpSet.codeAny_compStart_set loop (T.self X.A 0 _ _ _ st4 loop)
  subst hcl
  exact goal_is
end
end DL
end
section
set_option autoImplicit false
set_option linter.all false
set_option maxRecDepth 100000
set_option maxHeartbeats 4000000
/-! len(set(xs)), len({x for ..}) over the layer -/
namespace DL
open PySem PySem.Spec L2
def keyOf : PyData → Option Key
  | .int i => some (.inl i)
  | .str x => some (.inr x)
  | _ => none
def keysD : List PyData → Option (List Key)
  | [] => some []
  | d :: ds => match keyOf d, keysD ds with
    | some k, some ks => some (k :: ks)
    | _, _ => none
section
variable {K : PySem.W.Frag} {O : Prot} {H : Hp}
theorem key_v {v : V} {d : PyData} {k : Key} (r : RpB K O H v d) (e : keyOf d = some k) : v = kV k := by
  cases d with
  | int i => cases e; exact r.int
  | str x => cases e; exact r.str
  | _ => cases e
theorem RpA.keys : ∀ {xs : List V} {ds : List PyData} {ks : List Key}, RpA K O H xs ds → keysD ds = some ks → xs = ks.map kV
  | _, [], _, r, e => by cases r; cases e; rfl
  | _, d :: ds, _, r, e => by
    cases r with
    | cons a b =>
      simp only [keysD] at e
      split at e
      · rename_i k ks e1 e2
        cases e
        rw [key_v (.inl a) e1, RpA.keys b e2]; rfl
      · cases e
end
/-- len(set(e)) -/
def dLenSet (d : DT) : DT := fun Γ Q => d Γ fun x Γ1 => x.wd Γ1 fun v => match v with
  | .list ds => match keysD ds with
    | some ks => ks.length + 1 < scanBound ∧ Q (.val (.int (onceK ks).length)) Γ1
    | none => False
  | _ => False
theorem sound_lenSet {K : PySem.W.Frag} {P : Program} {w : World} {t : TE} {d : DT} (s : SoundE K t d) : SoundE K (tCB (rLenK P w) (tCons (tCB (rSetL K P w) (tCons t tNil)) tNil)) (dLenSet d) := by
  intro F σ H Γ Q R S h kk
  refine s F σ H Γ _ _ S h fun v o H1 Γ1 ok1 S1 p1 h1 => ?_
  obtain ⟨d1, r1, h2⟩ := ok1.rep S1 h1
  cases d1 with
  | list ds =>
    simp only at h2
    split at h2
    · rename_i ks ek
      obtain ⟨a, xs, rfl, ha, ra⟩ := r1.lst
      refine ⟨a, ks, rfl, by rw [← ra.keys ek]; exact .of ha, h2.1, fun p hp => ?_⟩
      exact ⟨p, _, _, rfl, upd_same, kk _ (.val (.int _)) _ Γ1 (.int _) (S1.ext (same_upd hp)) (p1.trans (.ext (same_upd hp))) h2.2⟩
    · exact h2.elim
  | _ => exact h2.elim
section
variable {ι : Type} {Xs : ι → Cx} {P : Program} {w : World} {K : PySem.W.Frag} {mg : Str → Option Value} {base : Heap} {k : Nat} {e : Expr} {d : DT} {pos p pos2 p2 : Pos}
theorem boot_setT : bootBuiltins "set" = some (.type "set") := by decide +kernel
theorem dx_lenSet (E : EnvOk Xs P w K mg base k) (hg0 : ∀ i, Gl (Xs i) "len") (hm0 : mg "len" = none) (hg : ∀ i, Gl (Xs i) "set") (hm : mg "set" = none) (a : DX Xs K e d)
    (he : ∀ i, starEach [e] (Xs i).env = (false, eval e (Xs i).env) :: starEach [] (Xs i).env := by intro _; rfl) (he2 : ∀ i, starEach [.Call (.Name "set" p) [e] [] pos] (Xs i).env = (false, eval (.Call (.Name "set" p) [e] [] pos) (Xs i).env) :: starEach [] (Xs i).env := by intro _; rfl) :
    DX Xs K (.Call (.Name "len" p2) [.Call (.Name "set" p) [e] [] pos] [] pos2) (dLenSet d) := by
  obtain ⟨t, pa, s⟩ := a
  refine ⟨_, fun i => ?_, sound_lenSet (P := P) (w := w) s⟩
  rw [← E.K i, ← E.prog i, ← E.w i]
  exact pe_callB cr_lenK (hg0 i) (by rw [E.mg i]; exact hm0) boot_lenD (pa_cons (pe_callTy (cr_setL (E.calm i)) (hg i) (by rw [E.mg i]; exact hm) boot_setT (pa_cons (pa i) pa_nil (he i)) (by decide) (by decide) (he i) rfl) pa_nil (he2 i)) (by decide) (by decide) (he2 i) rfl
end
/-- {te for g in ..}: the members, as met -/
def scW (g : DTG) (tt : DTT) (te : DT) (vs : List Nat) (Q : List Key → GS → Prop) : List PyData → List Key → GS → Prop
  | [], acc, Γ => Q acc Γ
  | d :: ds, acc, Γ => g d (wipeG Γ vs) fun Γ1 => tt Γ1 fun b Γ2 => if b = true then te Γ2 fun y Γ3 => y.wd Γ3 fun a => match keyOf a with
      | some k => acc.length + 1 < scanBound ∧ scW g tt te vs Q ds (addK acc k) (backG Γ (y.frz Γ3) vs)
      | none => False
    else scW g tt te vs Q ds acc (backG Γ Γ2 vs)
def dScLen (di : DI) (g : DTG) (tt : DTT) (te : DT) (vs : List Nat) : DT := fun Γ Q => di Γ fun ds Γ1 => scW g tt te vs (fun ks Γ2 => Q (.val (.int ks.length)) Γ2) ds [] Γ1
theorem addS_is {P : Program} {w : World} {D : Addr} {ks : List Key} {c : Key} : addS P w D (hasK ks) ks.length c = SetK P w D (hasK (addK ks c)) (addK ks c).length := by
  have e1 : (fun j => hasK ks j || decide (j = c)) = hasK (addK ks c) := funext fun j => (hasK_add ks c j).symm
  unfold addS
  rw [e1, addK_length]
theorem sound_scLen {K : PySem.W.Frag} {P : Program} {w : World} {wi : TI} {g : TG} {tt : TT} {te : TE} {di : DI} {dg : DTG} {dtt : DTT} {dte : DT} {js vs : List Nat} (si : SoundI K wi di) (sg : SoundG K js g dg) (st : SoundT K tt dtt) (se : SoundE K te dte) (hjs : ∀ j ∈ js, j ∈ vs) :
    SoundE K (tCB (rLenK P w) (tCons (tScK P w wi g tt te vs) tNil)) (dScLen di dg dtt dte vs) := by
  intro F σ H Γ Q R S h kk
  refine si F σ H Γ _ _ S h fun J ds H1 Γ1 S1 p1 wd h1 => ?_
  intro D hD
  have nP : ¬ F.P D := fun z => by obtain ⟨o, e⟩ := S1.trk D z; rw [hD] at e; cases e
  have nZ : ¬ (F.plus D).Z D := fun z => nP (S1.zP z)
  let At : Hp → List Key → Prop := fun H' ks => H' D = some (SetK P w D (hasK ks) ks.length)
  let Wd : Nat → Hp → Prop := fun i H' => ∃ Γ' ks, StOk K (F.plus D) σ H' Γ' ∧ PresE F σ Γ1 H1 Γ' H' ∧ At H' ks ∧ scW dg dtt dte vs (fun ks Γ2 => Q (.val (.int ks.length)) Γ2) (ds.drop i) ks Γ'
  refine ⟨fun i m H' => m = ds.length - i ∧ i ≤ ds.length ∧ Wd i H', ⟨ds.length, by simp, Nat.zero_le _, Γ1, [], S1.plus hD, .ext (same_upd hD), upd_same, by simpa using h1⟩, ?_⟩
  rintro i m H' ⟨rfl, hle, Γ', ks, S', p', hset, hw⟩
  have kpw : Keeps (Own F σ Γ1) H1 (Own (F.plus D) σ Γ') H' := fun a o e n => by
    refine ⟨p'.same a o e (fun z => n (.inl (S1.zP z))) fun z => n (.inr z), fun z => ?_⟩
    rcases z with (z | z) | z
    · exact n (.inl z)
    · subst z; rw [hD] at e; cases e
    · exact n (.inr (p'.own a z))
  have wd' := wd _ H' kpw (fun a => S'.own_there)
  by_cases hlt : i < ds.length
  · rw [List.drop_eq_getElem_cons hlt] at hw
    refine .inr ⟨wd'.1 i hlt, Wd (i + 1), fun H2 q => ⟨ds.length - (i + 1), by omega, rfl, hlt, q⟩, fun x H2 y => ?_⟩
    obtain ⟨sm, d, hd, rd⟩ := wd'.2.2 i x H2 hlt y
    obtain rfl : d = ds[i] := by rw [List.getElem?_eq_getElem hlt] at hd; exact (Option.some.inj hd).symm
    have S2 := S'.ext sm
    refine sg (F.plus D) (wipe σ vs) H2 (wipeG Γ' vs) x _ _ _ (S2.wipe vs) (rd.anti fun a q => Or.imp id own_wipe q) hw fun σ3 Γ3 S3 own3 hl3 hk3 q3 => ?_
    have out3 : ∀ j, j ∉ vs → σ3[j]? = σ[j]? := fun j hj => (hk3 j fun z => hj (hjs j z)).trans (wipe_get hj)
    have len3 : σ3.length = σ.length := hl3.trans (wipe_length σ vs)
    refine ⟨(wipe_eq (by rw [hl3]) fun j hj => hk3 j fun z => hj (hjs j z)).trans wipe_wipe, ?_⟩
    refine st (F.plus D) σ3 H2 Γ3 _ _ S3 q3 fun b H4 Γ4 S4 p4 q4 => ?_
    have own4 : ∀ a, ownAt σ3 Γ4 a → ownAt σ Γ' a := fun a z => own_wipe (own3 a (p4.own a z))
    have same4 : ∀ a o, H' a = some o → ¬ F.Z a → ¬ ownAt σ Γ' a → H4 a = some o := fun a o e nz no => p4.same a o (sm a o e) nz fun z => no (own_wipe (own3 a z))
    have trk4 : ∀ a o, H' a = some o → ∃ u, H4 a = some u := fun a o e => p4.trk a o (sm a o e)
    cases b with
    | false =>
      rw [if_neg (by decide)] at q4 ⊢
      obtain ⟨S5, own5⟩ := S'.back S4 (⟨fun a o e nz no => ⟨same4 a o e nz no, fun z => no (own4 a z)⟩⟩ : PresS (F.plus D) σ Γ' H' σ3 Γ4 H4) len3 out3
      have pE : PresE F σ Γ' H' (backG Γ' Γ4 vs) H4 := ⟨same4, fun a z => own4 a (own5 a z), trk4⟩
      exact ⟨_, ks, S5, p'.trans pE, same4 D _ hset nZ S'.own_ne, q4⟩
    | true =>
      rw [if_pos rfl] at q4 ⊢
      refine se (F.plus D) σ3 H4 Γ4 _ _ S4 q4 fun v o H5 Γ5 ok5 S5 p5 q5 => ?_
      obtain ⟨a5, r5, q6⟩ := ok5.given S5 q5
      have S6 := S5.frz o
      have p6 := p5.trans (PresE.frz o)
      split at q6
      · rename_i k ek
        have ev : v = kV k := key_v (.inl r5) ek
        have own6 : ∀ a, ownAt σ3 (o.frz Γ5) a → ownAt σ Γ' a := fun a z => own4 a (p6.own a z)
        have same6 : ∀ a o, H' a = some o → ¬ F.Z a → ¬ ownAt σ Γ' a → H5 a = some o := fun a u e nz no => p6.same a u (same4 a u e nz no) nz fun z => no (own4 a z)
        obtain ⟨S7, own7⟩ := S'.back S6 (⟨fun a u e nz no => ⟨same6 a u e nz no, fun z => no (own6 a z)⟩⟩ : PresS (F.plus D) σ Γ' H' σ3 (o.frz Γ5) H5) len3 out3
        have hD5 : H5 D = some (SetK P w D (hasK ks) ks.length) := same6 D _ hset nZ S'.own_ne
        refine ⟨k, hasK ks, ks.length, ev, hD5, q6.1, _, addK ks k, S7.updP (o := addS P w D (hasK ks) ks.length k) (.inr rfl) nZ, ?_, ?_, q6.2⟩
        · refine ⟨fun a u e nz no => ?_, fun a z => p'.own a (own6 a (own7 a z)), fun a u e => ?_⟩
          · have ne : a ≠ D := fun z => by subst z; rw [hD] at e; cases e
            rw [upd_ne ne]
            exact same6 a u (p'.same a u e nz no) nz fun z => no (p'.own a z)
          · by_cases ne : a = D
            · subst ne; exact ⟨_, upd_same⟩
            · rw [upd_ne ne]
              obtain ⟨u2, z⟩ := p'.trk a u e
              obtain ⟨u3, z3⟩ := trk4 a u2 z
              exact p6.trk a u3 z3
        · show upd H5 D _ D = _
          rw [upd_same, addS_is]
      · exact q6.elim
  · obtain rfl : i = ds.length := by omega
    rw [List.drop_length] at hw
    refine .inl ⟨wd'.2.1, ?_⟩
    have trk : ∀ a, F.P a → ∃ o, H' a = some o := fun a z => by obtain ⟨o, e⟩ := S1.trk a z; exact p'.trk a o e
    exact ⟨D, _, _, rfl, hset, kk _ (.val (.int _)) H' Γ' (.int _) (S'.minus (fun z => nP (S1.zP z)) (fun a => S1.zP) trk) (p1.trans p') hw⟩
section
variable {ι : Type} {Xs : ι → Cx} {P : Program} {w : World} {K : PySem.W.Frag} {mg : Str → Option Value} {base : Heap} {k : Nat} {elt tg iter : Expr} {ifs : List Expr} {scope : Scope} {pos p pos2 : Pos} {di : DI} {dg : DTG} {dtt : DTT} {dte : DT} {js : List Nat}
theorem dx_lenSc (own : List (Str × Nat)) (E : EnvOk Xs P w K mg base k) (hn : ∀ i, (Xs i).N.Nodup) (hg0 : ∀ i, Gl (Xs i) "len") (hm0 : mg "len" = none) (hi : DXI Xs K tg iter di) (ok : ∀ i, BlkOk (Xs i).N (Xs i).env.scope scope own) (hg : DG (blkX Xs scope) K js tg dg) (ht : DXP (blkX Xs scope) K ifs dtt) (he : DX (blkX Xs scope) K elt dte)
    (hjs : ∀ j ∈ js, j ∈ own.map (·.2) := by decide) (hs : ∀ (i : ι) (x : Value), foldedSetIterable iter (Xs i).env x = pure x := by intro _ _; rfl)
    (hst : ∀ i, starEach [.SetComp elt [⟨tg, iter, ifs, 0⟩] scope pos] (Xs i).env = (false, eval (.SetComp elt [⟨tg, iter, ifs, 0⟩] scope pos) (Xs i).env) :: starEach [] (Xs i).env := by intro _; rfl) :
    DX Xs K (.Call (.Name "len" p) [.SetComp elt [⟨tg, iter, ifs, 0⟩] scope pos] [] pos2) (dScLen di dg dtt dte (own.map (·.2))) := by
  obtain ⟨wi, pi, si⟩ := hi
  obtain ⟨g, pg, sg⟩ := hg
  obtain ⟨tt, pt, st⟩ := ht
  obtain ⟨te, pe, se⟩ := he
  refine ⟨_, fun i => ?_, sound_scLen (P := P) (w := w) si sg st se hjs⟩
  rw [← E.prog i, ← E.w i]
  exact pe_callB cr_lenK (hg0 i) (by rw [E.mg i]; exact hm0) boot_lenD (pa_cons (pe_scK (E.calm i) (hn i) (pi i) (ok i) (fun s H C cl fp => pg (i, s, H, C, cl, fp)) (fun s H C cl fp => pt (i, s, H, C, cl, fp)) (fun s H C cl fp => pe (i, s, H, C, cl, fp)) (hs i)) pa_nil (hst i)) (by decide) (by decide) (hst i) rfl
end
end DL
end
section
set_option autoImplicit false
set_option linter.all false
set_option maxRecDepth 100000
set_option maxHeartbeats 4000000
/-! anything beside a text: ==, !=, in a tuple of texts -/
namespace DL
open PySem PySem.Spec L2
open MeetsSeq AutoSeq1 in
theorem str_declines_dict (b : Str) (u : Tok) (l : Addr) (c : Value) (es : Array DictEntry) (n : Nat) (dd : Option Addr) (sl : Array (Option Value)) :
    Meets (Builtin.«str.__eq__» ⟨[.str b u, .ref l], []⟩) (fun _ R s => s.heap.get? l = some { cls := c, dict := dd, data := .dict es n, slots := sl } ∧ R (.ok (.ret .notImplemented)) s) :=
  .of_wp fun prog w A R s h => by
    obtain ⟨hp, g, d, tk, os⟩ := s
    obtain ⟨hl, h⟩ := h
    wp_walk using wpAny_loadPart' hl, wpAny_load hl
    exact ⟨_, rfl, h⟩
section
variable {P : Program} {w : World} {A : Around} {s : Shared} {a : Addr} {kvs : List (Key × Value)}
theorem dict_declines_str {E : Value → Shared → Prop} (D : s.heap.DictOf (mixKind P w) a kvs) (b : Str) (u : Tok) (M : Program) (w2 : World) {Q : Value → Shared → Prop} (h : Q .notImplemented s) : wpAny (model M w2) A (call (.builtin "dict.__eq__") [.ref a, .str b u]) Q E s := by
  refine wpAny_call_entry F.slot_dict_eq D.typeIs F.entry_dict_eq ?_ (F.args_dict_eq_2 _ _)
  show wpAny _ _ (Builtin.Dict.dictSlotArgs "__eq__" ⟨[.ref a, .str b u], []⟩ >>= _) _ _ s
  unfold Builtin.Dict.dictSlotArgs
  refine wpAny_bind (wpAny_bind (wpAny_notOrdered_dict D.typeIs ?_))
  refine wpAny_pure (wpAny_bind (wpAny_isInstance (T := "str") (typeIs_str s b u) F.sub_str_dict ?_))
  rw [if_pos (by decide)]
  exact wpAny_bind (wpAny_rule (wpAny_pure ⟨_, rfl, h⟩))
theorem rc_dict_str (D : s.heap.DictOf (mixKind P w) a kvs) (b : Str) (u : Tok) (hu : A.units < cLine) : SeqAt.RcAt A s (.ref a) (.str b u) false := fun prog w2 E Q h => by
  obtain ⟨⟨cc, dd, da, sl⟩, es, ep, ho, hx, hd, _⟩ := id D
  simp only at hd
  subst hd
  exact SeqAt.rc_eq_decline_or (k := false) D.typeIs (typeIs_str s b u) (by decide) F.sub_str_dict F.slot_dict_eq F.slot_str_eq_refl
    (fun _ hq => dict_declines_str D b u _ _ hq)
    (fun _ hq => call_meets F.slot_str_eq_refl (typeIs_str s b u) F.entry_str_eq (F.args_str_eq_2 _ _) (str_declines_dict b u a _ es ep dd sl) ⟨ho, hq⟩)
    (fun _ hq => wpAny_of_eq (rfl : isSame (.ref a) (.str b u) = pure false) hq) (.inr hu) h
theorem rc_str_dict (D : s.heap.DictOf (mixKind P w) a kvs) (b : Str) (u : Tok) (hu : A.units < cLine) : SeqAt.RcAt A s (.str b u) (.ref a) false := fun prog w2 E Q h => by
  obtain ⟨⟨cc, dd, da, sl⟩, es, ep, ho, hx, hd, _⟩ := id D
  simp only at hd
  subst hd
  exact SeqAt.rc_eq_decline_or (k := false) (typeIs_str s b u) D.typeIs (by decide) F.sub_dict_str F.slot_str_eq F.slot_dict_eq_refl
    (fun _ hq => call_meets F.slot_str_eq (typeIs_str s b u) F.entry_str_eq (F.args_str_eq_2 _ _) (str_declines_dict b u a _ es ep dd sl) ⟨ho, hq⟩)
    (fun _ hq => dict_declines_str D b u _ _ hq)
    (fun _ hq => wpAny_of_eq (rfl : isSame (.str b u) (.ref a) = pure false) hq) (.inr hu) h
theorem eq_str_dict (D : s.heap.DictOf (mixKind P w) a kvs) (b : Str) (u : Tok) (hu : A.units < cLine) : SeqAt.EqAt A s (.str b u) (.ref a) false := fun prog w2 E Q h => by
  unfold eqBool
  refine wpAny_holding (wpAny_ite_split (fun z => absurd (eq_of_beq z) nofun) fun _ => ?_)
  exact wpAny_bind (rc_str_dict D b u hu prog w2 E _ (wpAny_truthy_bool h))
end
/-- a list, a tuple or a dict at p -/
def BoxV (K : PySem.W.Frag) (H : Hp) (p : Addr) : Prop := (∃ xs, SqL K H p xs) ∨ (∃ xs, SqT K H p xs) ∨ ∃ kvs, H p = some (.dK kvs)
def boxD : PyData → Bool
  | .list _ => true | .tuple _ => true | .dict _ => true
  | _ => false
theorem box_v {K : PySem.W.Frag} {O : Prot} {H : Hp} {v : V} {d : PyData} (r : RpB K O H v d) (e : boxD d = true) : ∃ p, v = .ref p ∧ BoxV K H p := by
  cases d with
  | list ds => obtain ⟨a, xs, rfl, h, _⟩ := r.lst; exact ⟨a, rfl, .inl ⟨xs, .of h⟩⟩
  | tuple ds => obtain ⟨a, xs, rfl, h, _⟩ := r.tup; exact ⟨a, rfl, .inr (.inl ⟨xs, h.sq⟩)⟩
  | dict ks => obtain ⟨a, kvs, ds, rfl, h, _⟩ := r.dic; exact ⟨a, rfl, .inr (.inr ⟨kvs, h⟩)⟩
  | _ => cases e
section
variable {X : Cx} {pins : List (Addr × Obj)} {σ : L2.St} {H : Hp} {s : Shared} {p : Addr} {A : Around}
theorem box_rc (I : Inv X pins σ H s) (b : BoxV X.K H p) (hu : A.units < cLine) (x : Str) (t : Tok) : SeqAt.RcAt A s (.ref p) (.str x t) false := by
  rcases b with ⟨xs, h⟩ | ⟨xs, h⟩ | ⟨kvs, h⟩
  · obtain ⟨its, _, pl, _⟩ := I.list h; exact .list_str x t pl.isList hu
  · obtain ⟨its, _, ⟨o, a1, b1, n1, d1⟩, _⟩ := I.tuple h; exact .tuple_str x t ⟨o, a1, b1, n1, d1⟩ hu
  · obtain ⟨_, _, vs, _, D⟩ := dk_of I.hok h; exact rc_dict_str D x t hu
theorem box_eq (I : Inv X pins σ H s) (b : BoxV X.K H p) (hu : A.units < cLine) (x : Str) (t : Tok) : SeqAt.EqAt A s (.str x t) (.ref p) false := by
  rcases b with ⟨xs, h⟩ | ⟨xs, h⟩ | ⟨kvs, h⟩
  · obtain ⟨its, _, pl, _⟩ := I.list h; exact .str_list x t pl.isList hu
  · obtain ⟨its, _, ⟨o, a1, b1, n1, d1⟩, _⟩ := I.tuple h; exact .str_tuple x t ⟨o, a1, b1, n1, d1⟩ hu
  · obtain ⟨_, _, vs, _, D⟩ := dk_of I.hok h; exact eq_str_dict D x t hu
end
/-- x == a text -/
def rEqS (K : PySem.W.Frag) : R2 := fun x y H Q => ∃ p z, x = .ref p ∧ y = .str z ∧ BoxV K H p ∧ Q (.bl false) H
theorem op_eqS {X : Cx} (hu : X.A.units < cLine) : OpR X (compareOp .Eq) (rEqS X.K) := by
  intro pins s σ H x y v u Q I rx ry h
  obtain ⟨p, z, rfl, rfl, b, q⟩ := h
  cases rx
  obtain ⟨t, rfl⟩ := ry
  exact box_rc I b hu z t _ _ _ _ ⟨.bl _, H, I, rfl, q⟩
def rEqA (K : PySem.W.Frag) : R2 := fun x y H Q => rEqX K x y H Q ∨ rEqS K x y H Q
theorem op_eqA {X : Cx} {k : Nat} (h : Room k X.A) : OpR X (compareOp .Eq) (rEqA X.K) := (op_eqX h).or (op_eqS (by have := h.units; omega))
def fEqA : F2 := fun a b Q => match b with
  | .str x => Q (.bool (PyData.eqv a (.str x)))
  | _ => False
theorem ops_eqA (K : PySem.W.Frag) : OpS K (rEqA K) fEqA := by
  intro O H x y dx dy Qd R hO rx ry h kk
  unfold fEqA at h
  split at h
  · rename_i z
    by_cases hb : boxD dx = true
    · obtain ⟨p, rfl, b⟩ := box_v rx hb
      obtain rfl := ry.str
      have e : PyData.eqv dx (.str z) = false := by cases dx <;> first | rfl | cases hb
      exact .inr ⟨p, z, rfl, rfl, b, kk _ _ H (Same.refl H) (.bl _) (by rw [e] at h; exact h)⟩
    · exact .inl (ops_eq K O H x y dx (.str z) Qd R hO rx ry ⟨.inl (by cases dx <;> first | rfl | exact absurd rfl hb), h⟩ kk)
  · exact h.elim
/-- x in texts, x in data -/
def rInS (K : PySem.W.Frag) (neg : Bool) : R2 := fun x y H Q => ∃ p q, ∃ zs : List Str, x = .ref p ∧ y = .ref q ∧ BoxV K H p ∧ (SqL K H q (zs.map V.str) ∨ SqT K H q (zs.map V.str)) ∧ Q (.bl neg) H
def rInP (K : PySem.W.Frag) (neg : Bool) : R2 := fun x y H Q => ∃ d ds, Dp K H x d ∧ (Dp K H y (.list ds) ∨ Dp K H y (.tuple ds)) ∧ SeqAt.shaped d = true ∧ SeqAt.shaped (.list ds) = true ∧ Q (.bl (if neg then !inD d ds else inD d ds)) H
theorem strs_vals : ∀ {zs : List Str} {us : List Value}, Vals (zs.map V.str) us → ∀ u ∈ us, ∃ x t, u = .str x t
  | [], _, r, u, m => by cases r; cases m
  | z :: zs, _, r, u, m => by
    cases r with
    | cons a b =>
      rcases List.mem_cons.mp m with rfl | m
      · obtain ⟨t, rfl⟩ := a; exact ⟨z, t, rfl⟩
      · exact strs_vals b u m
section
variable {X : Cx}
theorem none_any {us : Array Value} : us.any (fun _ => false) = false := by simp
theorem op_inS1 (hu : X.A.units + 1 < cLine) : OpR X (compareOp .In) (rInS X.K false) := by
  intro pins s σ H x y v u Q I rx ry h
  obtain ⟨p, q, zs, rfl, rfl, b, hq, fin⟩ := h
  cases rx; cases ry
  have hit : ∀ {its : List Value}, Vals (zs.map V.str) its → ∀ y, y ∈ its.toArray → SeqAt.EqAt X.A.in1 s y (.ref p) false := fun r y m => by
    obtain ⟨x, t, rfl⟩ := strs_vals r y (by simpa using m)
    exact box_eq I b hu x t
  rcases hq with h | h
  · obtain ⟨its, r, pl, _⟩ := I.list h
    exact SeqAt.in_listAt (fun _ => false) pl.isList (hit r) (by rw [none_any]; exact ⟨.bl _, H, I, rfl, fin⟩)
  · obtain ⟨its, r, ⟨o, a1, b1, n1, d1⟩, _⟩ := I.tuple h
    exact SeqAt.in_tupleAt (fun _ => false) ⟨o, a1, b1, n1, d1⟩ (hit r) (by rw [none_any]; exact ⟨.bl _, H, I, rfl, fin⟩)
theorem op_inS2 (hu : X.A.units + 1 < cLine) : OpR X (compareOp .NotIn) (rInS X.K true) := by
  intro pins s σ H x y v u Q I rx ry h
  obtain ⟨p, q, zs, rfl, rfl, b, hq, fin⟩ := h
  cases rx; cases ry
  have hit : ∀ {its : List Value}, Vals (zs.map V.str) its → ∀ y, y ∈ its.toArray → SeqAt.EqAt X.A.in1 s y (.ref p) false := fun r y m => by
    obtain ⟨x, t, rfl⟩ := strs_vals r y (by simpa using m)
    exact box_eq I b hu x t
  rcases hq with h | h
  · obtain ⟨its, r, pl, _⟩ := I.list h
    exact SeqAt.notIn_listAt (fun _ => false) pl.isList (hit r) (by rw [none_any]; exact ⟨.bl _, H, I, rfl, fin⟩)
  · obtain ⟨its, r, ⟨o, a1, b1, n1, d1⟩, _⟩ := I.tuple h
    exact SeqAt.notIn_tupleAt (fun _ => false) ⟨o, a1, b1, n1, d1⟩ (hit r) (by rw [none_any]; exact ⟨.bl _, H, I, rfl, fin⟩)
theorem op_inP1 (hu : X.A.units + 65 < cLine) : OpR X (compareOp .In) (rInP X.K false) := by
  intro pins s σ H x y v u Q I rx ry h
  obtain ⟨d, ds, hd, he, sd, se, q⟩ := h
  obtain ⟨as, r1⟩ := Dp.reads I d x v hd rx
  rcases he with he | he
  · obtain ⟨bs, r2⟩ := Dp.reads I (.list ds) y u he ry
    exact SeqAt.in_list_reads r2 r1 (SeqAt.canLay_of_shaped se) (SeqAt.canLay_of_shaped sd) (PyProof.Rows.room_in_shaped sd hu) ⟨.bl _, H, I, rfl, q⟩
  · obtain ⟨bs, r2⟩ := Dp.reads I (.tuple ds) y u he ry
    exact SeqAt.in_tuple_reads r2 r1 (SeqAt.canLay_of_shaped se) (SeqAt.canLay_of_shaped sd) (PyProof.Rows.room_in_shaped sd hu) ⟨.bl _, H, I, rfl, q⟩
theorem op_inP2 (hu : X.A.units + 65 < cLine) : OpR X (compareOp .NotIn) (rInP X.K true) := by
  intro pins s σ H x y v u Q I rx ry h
  obtain ⟨d, ds, hd, he, sd, se, q⟩ := h
  obtain ⟨as, r1⟩ := Dp.reads I d x v hd rx
  rcases he with he | he
  · obtain ⟨bs, r2⟩ := Dp.reads I (.list ds) y u he ry
    exact SeqAt.notIn_list_reads r2 r1 (SeqAt.canLay_of_shaped se) (SeqAt.canLay_of_shaped sd) (PyProof.Rows.room_in_shaped sd hu) ⟨.bl _, H, I, rfl, q⟩
  · obtain ⟨bs, r2⟩ := Dp.reads I (.tuple ds) y u he ry
    exact SeqAt.notIn_tuple_reads r2 r1 (SeqAt.canLay_of_shaped se) (SeqAt.canLay_of_shaped sd) (PyProof.Rows.room_in_shaped sd hu) ⟨.bl _, H, I, rfl, q⟩
end
def rInA (K : PySem.W.Frag) (neg : Bool) : R2 := fun x y H Q => rInX K neg x y H Q ∨ (rInS K neg x y H Q ∨ rInP K neg x y H Q)
theorem op_inA {X : Cx} {k : Nat} (h : Room k X.A) : OpR X (compareOp .In) (rInA X.K false) := op_inX.or ((op_inS1 (by have := h.un; omega)).or (op_inP1 (by have := h.un; omega)))
theorem op_notinA {X : Cx} {k : Nat} (h : Room k X.A) : OpR X (compareOp .NotIn) (rInA X.K true) := op_notinX.or ((op_inS2 (by have := h.un; omega)).or (op_inP2 (by have := h.un; omega)))
/-- x in a row: all of it texts; or all of it data without dicts -/
def InOk (a : PyData) (ds : List PyData) : Prop := (∃ zs, strsD ds = some zs) ∨ (SeqAt.shaped a = true ∧ SeqAt.shaped (.list ds) = true)
def fInA (neg : Bool) : F2 := fun a b Q => match b with
  | .list ds => InOk a ds ∧ Q (.bool (if neg then !inD a ds else inD a ds))
  | .tuple ds => InOk a ds ∧ Q (.bool (if neg then !inD a ds else inD a ds))
  | _ => False
theorem in_strs {a : PyData} : ∀ {ds : List PyData} {zs : List Str}, strsD ds = some zs → ds.all flatD = true ∧ (boxD a = true → inD a ds = false)
  | [], _, _ => ⟨rfl, fun _ => rfl⟩
  | d :: ds, zs, e => by
    cases d with
    | str x =>
      simp only [strsD] at e
      cases e2 : strsD ds with
      | none => rw [e2] at e; cases e
      | some ys =>
        obtain ⟨h1, h2⟩ := in_strs (a := a) e2
        refine ⟨by rw [List.all_cons, h1]; rfl, fun hb => ?_⟩
        unfold inD at h2 ⊢
        rw [List.any_cons, h2 hb]
        cases a <;> first | rfl | cases hb
    | _ => simp [strsD] at e
theorem ops_inA (K : PySem.W.Frag) (neg : Bool) : OpS K (rInA K neg) (fInA neg) := by
  intro O H x y dx dy Qd R hO rx ry h kk
  have key : ∀ {ds : List PyData}, (dy = .list ds ∨ dy = .tuple ds) → InOk dx ds → Qd (.bool (if neg then !inD dx ds else inD dx ds)) → rInA K neg x y H R := by
    intro ds hy hok q
    rcases hok with ⟨zs, ez⟩ | ⟨s1, s2⟩
    · obtain ⟨f2, nb⟩ := in_strs (a := dx) ez
      by_cases hb : boxD dx = true
      · obtain ⟨p, rfl, b⟩ := box_v rx hb
        rw [nb hb] at q
        have q2 : Qd (.bool neg) := by cases neg <;> exact q
        rcases hy with rfl | rfl
        · obtain ⟨a, ys, rfl, hl, ra⟩ := ry.lst
          obtain rfl := ra.strs ez
          exact .inr (.inl ⟨p, a, zs, rfl, rfl, b, .inl (.of hl), kk _ _ H (Same.refl H) (.bl _) q2⟩)
        · obtain ⟨a, ys, rfl, hl, ra⟩ := ry.tup
          obtain rfl := ra.strs ez
          exact .inr (.inl ⟨p, a, zs, rfl, rfl, b, .inr hl.sq, kk _ _ H (Same.refl H) (.bl _) q2⟩)
      · have f1 : flatD dx = true := by cases dx <;> first | rfl | exact absurd rfl hb
        refine .inl (ops_in K neg O H x y dx dy Qd R hO rx ry ?_ kk)
        rcases hy with rfl | rfl <;> exact ⟨⟨f1, f2⟩, q⟩
    · refine .inr (.inr ⟨dx, ds, rx.dp (shaped_nodict s1), ?_, s1, s2, kk _ _ H (Same.refl H) (.bl _) q⟩)
      rcases hy with rfl | rfl
      · exact .inl (ry.dp (shaped_nodict s2))
      · exact .inr (ry.dp (by have := shaped_nodict s2; simpa [PyData.hasDict] using this))
  unfold fInA at h
  split at h
  · exact key (.inl rfl) h.1 h.2
  · exact key (.inr rfl) h.1 h.2
  · exact h.elim
end DL
end
section
set_option autoImplicit false
set_option linter.all false
set_option maxRecDepth 100000
set_option maxHeartbeats 4000000
/-! sorted(xs), sorted(set(xs)): ints, couples of small ints -/
namespace DL
open PySem PySem.Spec L2
section
variable {P : Program} {w : World} {A : Around} {E : Value → Shared → Prop} {s : Shared}
/-- set(xs), xs a list of ints: its order can be walked -/
theorem set_of_ints {l : Addr} {items : Array Value} (ns : List Int) {Q : Value → Shared → Prop} (hh : A.handled = none) (hl : s.heap.IsList l items) (hi : PyProof.Rows.IntsAre items.toList ns) (few : ns.length + 1 < scanBound)
    (h : ∀ (h2 : Heap) (tk c : Nat), SetR w h2 s.heap.objs.size (fun j => decide (j ∈ ns)) c → c ≤ ns.length → (∀ b o, s.heap.get? b = some o → h2.get? b = some o) → Q (.ref s.heap.objs.size) { s with heap := h2, toks := tk }) :
    wpAny (model P w) A (call (.type "set") [.ref l]) Q E s := by
  have size_is : items.size = ns.length := by have z := PyProof.Rows.IntsAre.length hi; rwa [Array.length_toList] at z
  obtain ⟨cc, ctl, mro⟩ := F.called_set.mro
  have made := F.called_set.made
  have sub := F.called_set.sub
  refine wpAny_call (codeAny_of_tree (show wpAny _ _ (callAny (.type "set") _) _ _ _ from ?_))
  refine wpAny_pure ⟨Code.quiet_builtin _ (by decide +kernel), codeAny_builtin F.entry_type_call ?_⟩
  rw [Around.under_plain (weight_type_call_type "set" [.ref l] []) rfl]
  have g1 := F.called_set.notType
  have g2 := F.called_set.canCreate
  have g3 := F.typeCall_set_1 (.ref l)
  repeat (any_goals (first | assumption | wp_step))
  generalize hN : (({ cls := .type "set", dict := none, data := .set #[] 0 (.fresh 0 0 (!w.params.followText "set-order")) } : Obj)) = N
  refine codeAny_mono (code_set_led1 (.ref l) (E := E) (Q₁ := fun made s1 => made = .ref s.heap.objs.size ∧ s1 = { s with heap := s.heap.push N }) ⟨rfl, by rw [← hN]⟩) fun r s1 hr => ?_
  match r, hr with
  | .error _, hr => exact hr
  | .ok (.ret made), hr =>
    obtain ⟨rfl, rfl⟩ := hr
    have nS : (s.heap.push N).get? s.heap.objs.size = some N := by rw [← hN]; exact Heap.get?_push_size _ rfl
    have nT : Shared.TypeIs { s with heap := s.heap.push N } (.ref s.heap.objs.size) "set" := ⟨_, nS, by rw [← hN]⟩
    have li := F.called_set.init.lookup
    have bi := F.called_set.init.bind (.ref s.heap.objs.size)
    repeat (any_goals (first | assumption | wp_step))
    refine codeAny_mono (codeAny_call_builtin (R := wants (fun r s2 => r = .none ∧ ∃ h2 tk c, s2 = { s with heap := h2, toks := tk } ∧ SetR w h2 s.heap.objs.size (fun j => decide (j ∈ ns)) c ∧ c ≤ ns.length ∧
        ∀ b o, s.heap.get? b = some o → h2.get? b = some o) E) F.called_set.init.plain F.entry_set_init (check_set_init_1 nT ?_)) fun r2 s2 hr2 => ?_
    · subst hN
      obtain ⟨⟨ocl, odi, oda, osl⟩, ho, hc, nl, hd⟩ := hl
      simp only at hc hd
      subst hc hd
      have ho2 : (s.heap.push { cls := .type "set", dict := none, data := .set #[] 0 (.fresh 0 0 (!w.params.followText "set-order")) }).get? l = some { cls := .type "list", dict := odi, data := .seq items nl, slots := osl } := Heap.get?_push_of_some _ ho
      have q1 := F.sub_list_set
      have q2 := F.sub_list_frozenset
      have q3 : (Value.type "list" == Value.type "dict") = false := by decide
      have ll : Heap.IsList _ l items := ⟨_, ho2, rfl, nl, rfl⟩
      unfold Builtin.«set.__init__» noKeywords Builtin.Frozenset.updateFrom
      generalize hPI : pyIter = PI
      wp_walk
      subst hPI
      refine wpAny_pyIter_list ll ?_
      refine wpAny_bind (wpAny_runValue ?_)
      have lS : l < s.heap.objs.size := Heap.lt_size ho
      have hh3 : A.in1.in1.in1.handled = none := by simp [hh]
      have nI : ∀ N : Obj, l ≠ (s.heap.push N).objs.size := fun N => by rw [Heap.size_push]; exact Nat.ne_of_lt (Nat.lt_succ_of_lt lS)
      have nF : ∀ N : Obj, s.heap.objs.size ∉ [(s.heap.push N).objs.size, l] := fun N z => by
        rw [Heap.size_push] at z
        rcases List.mem_cons.mp z with z | z
        · exact Nat.ne_of_lt (Nat.lt_succ_self _) z
        · exact Nat.ne_of_gt lS (List.mem_singleton.mp z)
      have hv : ∀ (i : Nat) (v : Value), items[i]? = some v → ∃ k t, ns[i]? = some k ∧ v = .int k t := fun i v e => by
        have lt : i < ns.length := by rw [← size_is]; exact (Array.getElem?_eq_some_iff.mp e).1
        obtain ⟨t, z⟩ := PyProof.Rows.IntsAre.int_at hi i v (by rw [Array.getElem?_toList]; exact e)
        exact ⟨ns[i], t, List.getElem?_eq_getElem lt, by rw [z, List.getD_eq_getElem?_getD, List.getElem?_eq_getElem lt]; rfl⟩
      refine set_update_ints ((Walks.list hh3 _ l (nI _) items).toS) s.heap.objs.size (nF _) ns size_is few hv (items.size - 0) 0 _ (by omega) (Nat.zero_le _) ⟨⟨_, Heap.get?_push_size _ rfl, rfl, rfl⟩, ll.push _⟩ ⟨0, Nat.le_refl 0, setR_new_at (Heap.get?_push_of_some _ nS)⟩ ?hR
      rintro ⟨h2, gg, dd, tk, oo⟩ c mv hc2 hS2
      obtain rfl : gg = s.gens := mv.gens
      obtain rfl : dd = s.drawn := mv.drawn
      obtain rfl : oo = s.os := mv.os
      show wpAny _ _ _ _ _ _
      refine wpAny_pure (show wpAny _ _ (ret Value.none) _ _ _ from wpAny_pure ⟨rfl, h2, tk, c, rfl, hS2, by rw [← size_is]; exact hc2, fun b o e => mv.heap b o (fun z => ?_) (Heap.get?_push_of_some _ (Heap.get?_push_of_some _ e))⟩)
      have hb := Heap.lt_size e
      rcases List.mem_cons.mp z with z | z
      · exact Nat.ne_of_lt hb z
      · have q := List.mem_singleton.mp z
        rw [Heap.size_push] at q
        exact Nat.ne_of_lt (Nat.lt_succ_of_lt hb) q
    · match r2, hr2 with
      | .error _, hr2 => exact hr2
      | .ok (.ret r), hr2 =>
        obtain ⟨rfl, h2, tk, c, rfl, hS2, hc2, hk2⟩ := hr2
        repeat (any_goals (first | assumption | wp_step))
        exact h _ _ _ hS2 hc2 hk2
end
section
variable {X : Cx}
def rSetI (K : PySem.W.Frag) (w : World) : List V → Hp → VK → Prop := fun xs H Q => ∃ (l : Addr) (ns : List Int), xs = [V.ref l] ∧ SqL K H l (ns.map V.int) ∧ ns.length < 64 ∧ ∀ a c, c ≤ ns.length → H a = none → Q (.ref a) (upd H a (SetO w a (fun j => decide (j ∈ ns)) c))
theorem cr_setI (hc : X.calm = true) : CallR X (.type "set") (rSetI X.K X.w) := by
  intro pins s σ H xs us Q I r h
  obtain ⟨l, ns, rfl, hl, few, q⟩ := h
  rw [Vals.ref1 r]
  obtain ⟨its, rv, pl, hz⟩ := I.list hl
  refine set_of_ints (P := X.prog) (w := X.w) ns (I.ok.hd hc) pl.isList (by simpa using rv.ints) (Nat.lt_of_le_of_lt (Nat.succ_le_succ (Nat.le_of_lt few)) (by decide)) fun h2 tk c R hcl keep => ?_
  exact ⟨.ref s.heap.objs.size, upd H s.heap.objs.size (SetO X.w s.heap.objs.size (fun j => decide (j ∈ ns)) c), I.laid (t' := tk) keep (Nat.le_refl _) (setO_new R), rfl, q _ c hcl (I.hok.fresh (Nat.le_refl _))⟩
theorem callR_or {f : Value} {r1 r2 : List V → Hp → VK → Prop} (h1 : CallR X f r1) (h2 : CallR X f r2) : CallR X f (fun xs H Q => r1 xs H Q ∨ r2 xs H Q) := by
  intro pins s σ H xs us Q I r h
  exact h.elim (h1 pins s σ H xs us Q I r) (h2 pins s σ H xs us Q I r)
end
end DL
end
section
set_option autoImplicit false
set_option linter.all false
set_option maxRecDepth 100000
set_option maxHeartbeats 4000000
/-! sorted(xs), sorted(set(xs)) over the layer -/
namespace DL
open PySem PySem.Spec L2
abbrev Pr := Int × Int
def prD (p : Pr) : PyData := .tuple [.int p.1, .int p.2]
def pcode (p : Pr) : Int := p.1 * 64 + p.2
def PB (p : Pr) : Prop := (0 ≤ p.1 ∧ p.1 < 64) ∧ 0 ≤ p.2 ∧ p.2 < 64
def intsD : List PyData → Option (List Int)
  | [] => some []
  | .int i :: ds => (intsD ds).map (i :: ·)
  | _ => none
def prsD : List PyData → Option (List Pr)
  | [] => some []
  | .tuple [.int i, .int j] :: ds => (prsD ds).map ((i, j) :: ·)
  | _ => none
theorem intsD_is : ∀ {ds : List PyData} {ns : List Int}, intsD ds = some ns → ds = ns.map .int
  | [], _, e => by cases e; rfl
  | d :: ds, ns, e => by
    cases d with
    | int i =>
      simp only [intsD] at e
      cases z : intsD ds with
      | none => rw [z] at e; cases e
      | some ms => rw [z] at e; cases e; rw [intsD_is z]; rfl
    | _ => simp [intsD] at e
theorem intsD_map (ns : List Int) : intsD (ns.map .int) = some ns := by
  induction ns with
  | nil => rfl
  | cons n ns ih => simp only [List.map_cons, intsD, ih]; rfl
theorem prsD_map (ps : List Pr) : prsD (ps.map prD) = some ps := by
  induction ps with
  | nil => rfl
  | cons p ps ih => simp only [List.map_cons, prD, prsD, ih]; rfl
theorem prsD_is : ∀ {ds : List PyData} {ps : List Pr}, prsD ds = some ps → ds = ps.map prD := by
  intro ds
  induction ds with
  | nil => intro ps e; cases e; rfl
  | cons d ds ih =>
    intro ps e
    unfold prsD at e
    split at e
    · cases ‹_ :: _ = []›
    · rename_i i j ds' e2
      cases e2
      cases z : prsD ds with
      | none => rw [z] at e; cases e
      | some ms => rw [z] at e; cases e; rw [ih z]; rfl
    · cases e
section
variable {K : PySem.W.Frag} {O : Prot} {H : Hp}
theorem RpA.perm {xs ys : List V} (p : ys.Perm xs) : ∀ {ds : List PyData}, RpA K O H xs ds → ∃ es, es.Perm ds ∧ RpA K O H ys es := by
  induction p with
  | nil => intro ds r; cases r; exact ⟨[], .refl _, .nil⟩
  | cons x p ih => intro ds r; cases r with | cons a b => obtain ⟨es, e1, e2⟩ := ih b; exact ⟨_ :: es, e1.cons _, .cons a e2⟩
  | swap x y l => intro ds r; cases r with | cons a b => cases b with | cons c d => exact ⟨_, .swap _ _ _, .cons c (.cons a d)⟩
  | trans p q ih1 ih2 => intro ds r; obtain ⟨es, e1, e2⟩ := ih2 r; obtain ⟨fs, f1, f2⟩ := ih1 e2; exact ⟨fs, f1.trans e1, f2⟩
theorem RpA.ints : ∀ {xs : List V} {ns : List Int}, RpA K O H xs (ns.map .int) → xs = ns.map V.int
  | _, [], r => by cases r; rfl
  | _, n :: ns, r => by cases r with | cons a b => cases a; rw [RpA.ints b]; rfl
theorem rpA_ints : ∀ ns : List Int, RpA K O H (ns.map V.int) (ns.map .int)
  | [] => .nil
  | n :: ns => .cons (.int n) (rpA_ints ns)
def unPr : PyData → Pr
  | .tuple [.int i, .int j] => (i, j)
  | _ => (0, 0)
theorem un_prs (ps : List Pr) : (ps.map prD).map unPr = ps := by
  induction ps with
  | nil => rfl
  | cons p ps ih => simp only [List.map_cons, prD, unPr] at ih ⊢; rw [ih]
theorem perm_prs {es : List PyData} {ps : List Pr} (h : es.Perm (ps.map prD)) : ∃ out : List Pr, out.Perm ps ∧ es = out.map prD := by
  refine ⟨es.map unPr, by have := h.map unPr; rwa [un_prs] at this, ?_⟩
  rw [List.map_map]
  refine (List.map_id' es).symm.trans (List.map_congr_left fun e he => ?_)
  obtain ⟨p, _, rfl⟩ := List.mem_map.mp (h.mem_iff.mp he)
  rfl
theorem rp_pr {v : V} {p : Pr} (r : Rp K O H v (prD p)) : TupI K H v [p.1, p.2] := by
  obtain ⟨a, xs, rfl, h, ra⟩ := RpB.tup (.inl r)
  obtain rfl := RpA.ints (ns := [p.1, p.2]) ra
  exact ⟨a, rfl, h.sq⟩
theorem code2 (p : Pr) : TS.code 64 [p.1, p.2] = pcode p := code_pair p.1 p.2
theorem pw_prs : ∀ {ys : List V} {out : List Pr}, RpA K O H ys (out.map prD) → ys.Pairwise (fun x y => ∀ n m, TupI K H x n → TupI K H y m → TS.code 64 n ≤ TS.code 64 m) → out.Pairwise (fun p q => pcode p ≤ pcode q)
  | _, [], _, _ => .nil
  | _, p :: out, r, w => by
    cases r with
    | cons a b =>
      obtain ⟨w1, w2⟩ := List.pairwise_cons.mp w
      refine List.pairwise_cons.mpr ⟨fun q hq => ?_, pw_prs b w2⟩
      obtain ⟨i, hi⟩ := List.getElem?_of_mem hq
      obtain ⟨v, hv, rv⟩ := b.getD (i := i) (d := prD q) (by rw [List.getElem?_map, hi]; rfl)
      have := w1 v (List.mem_of_getElem? hv) _ _ (rp_pr a) (rp_pr rv)
      rwa [code2, code2] at this
theorem mem_prs : ∀ {xs : List V} {ps : List Pr}, RpA K O H xs (ps.map prD) → ∀ x ∈ xs, ∃ p ∈ ps, Rp K O H x (prD p)
  | _, [], r, x, m => by cases r; cases m
  | _, p :: ps, r, x, m => by
    cases r with
    | cons a b =>
      rcases List.mem_cons.mp m with rfl | m
      · exact ⟨p, List.mem_cons_self .., a⟩
      · obtain ⟨q, hq, r⟩ := mem_prs b x m; exact ⟨q, List.mem_cons_of_mem _ hq, r⟩
/-- the couples' addresses -/
theorem prs_at : ∀ {xs : List V} {ps : List Pr}, RpA K O H xs (ps.map prD) → ∃ ks : List (Addr × List Int), xs = ks.map (fun p => V.ref p.1) ∧ ks.map (·.2) = ps.map (fun p => [p.1, p.2]) ∧ ∀ k ∈ ks, SqTo K O H k.1 (k.2.map V.int)
  | _, [], r => by cases r; exact ⟨[], rfl, rfl, fun k m => nomatch m⟩
  | _, p :: ps, r => by
    cases r with
    | cons a b =>
      obtain ⟨ks, e1, e2, h⟩ := prs_at b
      obtain ⟨t, zs, rfl, ht, rt⟩ := RpB.tup (.inl a)
      obtain rfl := RpA.ints (ns := [p.1, p.2]) rt
      refine ⟨(t, [p.1, p.2]) :: ks, by rw [List.map_cons, e1], by rw [List.map_cons, List.map_cons, e2], fun k m => ?_⟩
      rcases List.mem_cons.mp m with rfl | m
      · exact ht
      · exact h k m
end
/-- sorted(xs) -/
def fSort : F1 := fun d Q => match d with
  | .list ds => match intsD ds with
    | some ns => ∀ out : List Int, out.Perm ns → out.Pairwise (· ≤ ·) → Q (.list (out.map .int))
    | none => match prsD ds with
      | some ps => (ps.length < 64 ∧ ∀ p ∈ ps, PB p) ∧ ∀ out : List Pr, out.Perm ps → out.Pairwise (fun p q => pcode p ≤ pcode q) → Q (.list (out.map prD))
      | none => False
  | _ => False
def rSortD (K : PySem.W.Frag) : List V → Hp → VK → Prop := fun xs H Q => rSortedI K xs H Q ∨ rSortU K 2 64 xs H Q
theorem call_sortD {X : Cx} : CallR X (.builtin "sorted") (rSortD X.K) := callR_or cr_sortedI (cr_sortT (by decide))
theorem cs_sort (K : PySem.W.Frag) : Call1S K (rSortD K) fSort := by
  intro O H v d Qd R hO r h kk
  unfold fSort at h
  split at h
  · rename_i ds
    obtain ⟨a, xs, rfl, ha, ra⟩ := r.lst
    split at h
    · rename_i ns en
      obtain rfl := intsD_is en
      obtain rfl := ra.ints
      refine .inl ⟨a, ns, rfl, .of ha, fun out p p1 p2 hp => ?_⟩
      exact kk _ (.list (out.map .int)) _ (same_upd hp) (newLst hp (no_fresh hO hp) (rpA_ints out)) (h out p1 p2)
    · split at h
      · rename_i ps ep
        obtain ⟨⟨h1, h2⟩, h⟩ := h
        obtain rfl := prsD_is ep
        refine .inr ⟨a, xs, rfl, .of ha, by rw [ra.length, List.length_map]; exact h1, fun x hx => ?_, fun ys p p1 p2 hp => ?_⟩
        · obtain ⟨q, hq, rq⟩ := mem_prs ra x hx
          refine ⟨_, rp_pr rq, rfl, fun m hm => ?_⟩
          obtain ⟨⟨b1, b2⟩, b3, b4⟩ := h2 q hq
          simp only [List.mem_cons, List.not_mem_nil, or_false] at hm
          rcases hm with rfl | rfl
          · exact ⟨b1, b2⟩
          · exact ⟨b3, b4⟩
        · obtain ⟨es, e1, e2⟩ := ra.perm p1
          obtain ⟨out, o1, rfl⟩ := perm_prs e1
          exact kk _ (.list (out.map prD)) _ (same_upd hp) (newLst hp (no_fresh hO hp) e2) (h out o1 (pw_prs e2 p2))
      · exact h.elim
  · exact h.elim
theorem boot_sorted : bootBuiltins "sorted" = some (.builtin "sorted") := by decide +kernel
/-- sorted(set(xs)) -/
def dSortSet (d : DT) : DT := fun Γ Q => d Γ fun x Γ1 => x.wd Γ1 fun v => match v with
  | .list ds => match intsD ds with
    | some ns => ns.length < 64 ∧ ∀ out : List Int, out.Pairwise (· < ·) → (∀ k, k ∈ out ↔ k ∈ ns) → Q (.val (.list (out.map .int))) Γ1
    | none => match prsD ds with
      | some ps => (ps.length < 64 ∧ ∀ p ∈ ps, PB p) ∧ ∀ out : List Pr, out.Pairwise (fun p q => pcode p < pcode q) → (∀ k, k ∈ out ↔ k ∈ ps) → Q (.val (.list (out.map prD))) Γ1
      | none => False
  | _ => False
def rSet2 (K : PySem.W.Frag) (P : Program) (w : World) : List V → Hp → VK → Prop := fun xs H Q => rSetI K w xs H Q ∨ rSetOfT K P w xs H Q
def rSrt2 (K : PySem.W.Frag) (P : Program) (w : World) : List V → Hp → VK → Prop := fun xs H Q => rSortedSet w xs H Q ∨ rSortedT K P w xs H Q
theorem pcode_ne {p q : Pr} (hp : PB p) (hq : PB q) (ne : p ≠ q) (h : pcode p ≤ pcode q) : pcode p < pcode q := by
  unfold pcode at h ⊢
  obtain ⟨⟨a1, a2⟩, a3, a4⟩ := hp
  obtain ⟨⟨b1, b2⟩, b3, b4⟩ := hq
  by_cases e : p.1 * 64 + p.2 = q.1 * 64 + q.2
  · exact absurd (Prod.ext (by omega) (by omega)) ne
  · omega
theorem rp_of_sq {K : PySem.W.Frag} {O : Prot} {H : Hp} {ps : List Pr} : ∀ {L : List (Addr × List Int)}, (∀ k ∈ L, SqTo K O H k.1 (k.2.map V.int) ∧ ∃ p ∈ ps, k.2 = [p.1, p.2]) → ∃ out : List Pr, L.map (·.2) = out.map (fun p => [p.1, p.2]) ∧ (∀ p ∈ out, p ∈ ps) ∧ RpA K O H (L.map fun q => V.ref q.1) (out.map prD)
  | [], _ => ⟨[], rfl, (fun p m => nomatch m), .nil⟩
  | k :: L, h => by
    obtain ⟨out, e1, e2, e3⟩ := rp_of_sq fun q m => h q (List.mem_cons_of_mem _ m)
    obtain ⟨s1, p, hp, ek⟩ := h k (List.mem_cons_self ..)
    refine ⟨p :: out, by rw [List.map_cons, List.map_cons, e1, ek], fun q m => ?_, .cons ?_ e3⟩
    · rcases List.mem_cons.mp m with rfl | m
      · exact hp
      · exact e2 q m
    · rw [ek] at s1
      exact .tup s1 (rpA_ints [p.1, p.2])
theorem sound_sortSet {K : PySem.W.Frag} {P : Program} {w : World} {t : TE} {d : DT} (s : SoundE K t d) : SoundE K (tCB (rSrt2 K P w) (tCons (tCB (rSet2 K P w) (tCons t tNil)) tNil)) (dSortSet d) := by
  intro F σ H Γ Q R S h kk
  refine s F σ H Γ _ _ S h fun v o H1 Γ1 ok1 S1 p1 h1 => ?_
  obtain ⟨d1, r1, h2⟩ := ok1.rep S1 h1
  cases d1 with
  | list ds =>
    obtain ⟨a, xs, rfl, ha, ra⟩ := r1.lst
    simp only at h2
    split at h2
    · rename_i ns en
      obtain ⟨few, h2⟩ := h2
      obtain rfl := intsD_is en
      obtain rfl := ra.ints
      refine .inl ⟨a, ns, rfl, .of ha, few, fun D c hc hD => ?_⟩
      refine .inl ⟨D, _, c, rfl, upd_same, by omega, fun out p q1 q2 q3 hp => ?_⟩
      have sm := (same_upd (o := SetO w D (fun j => decide (j ∈ ns)) c) hD).trans (same_upd (o := .lst (out.map V.int)) hp)
      have S2 := S1.ext sm
      refine kk _ (.val (.list (out.map .int))) _ Γ1 (.lst ⟨upd_same, fun z => ?_⟩ (rpA_ints out)) S2 (p1.trans (.ext sm)) (h2 out q1 fun k => (q2 k).trans (by rw [decide_eq_true_eq]))
      exact (S1.ext (same_upd (o := SetO w D (fun j => decide (j ∈ ns)) c) hD)).fresh hp z
    · split at h2
      · rename_i ps ep
        obtain ⟨⟨few, hb⟩, h2⟩ := h2
        obtain rfl := prsD_is ep
        obtain ⟨ks, rfl, ek, hk⟩ := prs_at ra
        have lk : ks.length = ps.length := by have := congrArg List.length ek; simpa using this
        have in_ps : ∀ k ∈ ks, ∃ p ∈ ps, k.2 = [p.1, p.2] := fun k m => by
          have : k.2 ∈ ps.map (fun p => [p.1, p.2]) := by rw [← ek]; exact List.mem_map_of_mem m
          obtain ⟨p, hp, e⟩ := List.mem_map.mp this
          exact ⟨p, hp, e.symm⟩
        refine .inr ⟨a, ks, rfl, .of ha, fun k m => (hk k m).sq, by rw [lk]; exact few, fun D L hD l1 l2 => ?_⟩
        have sm1 := same_upd (o := SetTO P w D L) hD
        have kp1 := keeps_ext (O := Own F σ Γ1) sm1
        refine .inr ⟨D, L, 2, 64, rfl, upd_same, fun k m => ((hk k (l1 k m)).keep kp1).sq, by decide, fun k m => ?_, fun L2 p q1 q2 q3 q4 hp => ?_⟩
        · obtain ⟨q, hq, e⟩ := in_ps k (l1 k m)
          obtain ⟨⟨b1, b2⟩, b3, b4⟩ := hb q hq
          rw [e]
          refine ⟨rfl, fun m hm => ?_⟩
          simp only [List.mem_cons, List.not_mem_nil, or_false] at hm
          rcases hm with rfl | rfl
          · exact ⟨b1, b2⟩
          · exact ⟨b3, b4⟩
        · have in_ks : ∀ k ∈ L2, k ∈ ks := fun k m => l1 k (q1.mem_iff.mp m)
          have sm2 := same_upd (o := .lst (L2.map fun q => V.ref q.1)) hp
          have sm := sm1.trans sm2
          have kp := keeps_ext (O := Own F σ Γ1) sm
          obtain ⟨out, o1, o2, o3⟩ := rp_of_sq (L := L2) (ps := ps) (K := K) (O := Own F σ Γ1) (H := upd (upd H1 D (SetTO P w D L)) p (.lst (L2.map fun q => V.ref q.1))) fun k m => ⟨(hk k (in_ks k m)).keep kp, in_ps k (in_ks k m)⟩
          have nd : out.Nodup := by
            rw [o1] at q2
            exact List.Pairwise.of_map _ (fun x y ne e => ne (by rw [e])) q2
          have pw : (L2.map (·.2)).Pairwise (fun n m => TS.code 64 n ≤ TS.code 64 m) := List.pairwise_map.mpr q4
          rw [o1, List.pairwise_map] at pw
          have pw2 : out.Pairwise (fun p q => pcode p < pcode q) := by
            refine List.Pairwise.imp_of_mem (fun {x y} hx hy z => ?_) (nd.and pw)
            rw [code2, code2] at z
            exact pcode_ne (hb x (o2 x hx)) (hb y (o2 y hy)) z.1 z.2
          refine kk _ (.val (.list (out.map prD))) _ Γ1 (.lst ⟨upd_same, fun z => (S1.ext sm1).fresh hp z⟩ o3) (S1.ext sm) (p1.trans (.ext sm)) (h2 out pw2 fun k => ⟨o2 k, fun hk2 => ?_⟩)
          have : [k.1, k.2] ∈ ks.map (·.2) := by rw [ek]; exact List.mem_map_of_mem (f := fun p : Pr => [p.1, p.2]) hk2
          obtain ⟨k0, m0, e0⟩ := List.mem_map.mp this
          have := l2 k0 m0
          rw [e0] at this
          have m2 : [k.1, k.2] ∈ L2.map (·.2) := (q1.map _).mem_iff.mpr this
          rw [o1] at m2
          obtain ⟨k3, m3, e3⟩ := List.mem_map.mp m2
          injection e3 with z1 z2
          injection z2 with z2
          rwa [show k = k3 from Prod.ext z1.symm z2.symm]
      · exact h2.elim
  | _ => exact h2.elim
section
variable {ι : Type} {Xs : ι → Cx} {P : Program} {w : World} {K : PySem.W.Frag} {mg : Str → Option Value} {base : Heap} {k : Nat} {e : Expr} {d : DT} {pos p pos2 p2 : Pos}
theorem dx_sortSet (E : EnvOk Xs P w K mg base k) (hg0 : ∀ i, Gl (Xs i) "sorted") (hm0 : mg "sorted" = none) (hg : ∀ i, Gl (Xs i) "set") (hm : mg "set" = none) (a : DX Xs K e d)
    (he : ∀ i, starEach [e] (Xs i).env = (false, eval e (Xs i).env) :: starEach [] (Xs i).env := by intro _; rfl) (he2 : ∀ i, starEach [.Call (.Name "set" p) [e] [] pos] (Xs i).env = (false, eval (.Call (.Name "set" p) [e] [] pos) (Xs i).env) :: starEach [] (Xs i).env := by intro _; rfl) :
    DX Xs K (.Call (.Name "sorted" p2) [.Call (.Name "set" p) [e] [] pos] [] pos2) (dSortSet d) := by
  obtain ⟨t, pa, s⟩ := a
  refine ⟨_, fun i => ?_, sound_sortSet (P := P) (w := w) s⟩
  rw [← E.K i, ← E.prog i, ← E.w i]
  have un := (E.room i).un
  exact pe_callB (callR_or (cr_sortedSet (E.calm i)) (cr_sortedT (E.calm i))) (hg0 i) (by rw [E.mg i]; exact hm0) boot_sorted (pa_cons (pe_callTy (callR_or (cr_setI (E.calm i)) (cr_setOfT (E.calm i) (by omega))) (hg i) (by rw [E.mg i]; exact hm) boot_setT (pa_cons (pa i) pa_nil (he i)) (by decide) (by decide) (he i) rfl) pa_nil (he2 i)) (by decide) (by decide) (he2 i) rfl
end
end DL
end
section
set_option autoImplicit false
set_option linter.all false
set_option maxRecDepth 100000
set_option maxHeartbeats 4000000
/-! an own dict of ints to True; more of tuples; ranges as lists; chains of three -/
namespace DL
open PySem PySem.Spec L2
def tE (n : Int) : PyData × PyData := (.int n, .bool true)
def tK (n : Int) : Key × V := (.inl n, .bl true)
def isTs : List (PyData × PyData) → Option (List Int)
  | [] => some []
  | (.int n, .bool true) :: ks => (isTs ks).map (n :: ·)
  | _ => none
theorem isTs_map (ns : List Int) : isTs (ns.map tE) = some ns := by
  induction ns with
  | nil => rfl
  | cons n ns ih => simp only [List.map_cons, tE, isTs] at ih ⊢; rw [ih]; rfl
section
variable {K : PySem.W.Frag} {O : Prot} {H : Hp}
theorem isTs_of : ∀ {kvs : List (Key × V)} {ds : List PyData} {ns : List Int}, RpA K O H (kvs.map Prod.snd) ds → isTs ((kvs.map fun p => keyD p.1).zip ds) = some ns → kvs = ns.map tK
  | [], _, _, r, e => by cases r; cases e; rfl
  | (k, v) :: kvs, _, ns, r, e => by
    cases r with
    | @cons _ _ d ds a b =>
      simp only [List.map_cons, List.zip_cons_cons] at e
      unfold isTs at e
      split at e
      · rename_i h; cases h
      · rename_i n ks h
        injection h with h1 h2
        injection h1 with h3 h4
        subst h4 h2
        cases k with
        | inl i =>
          cases h3
          cases a
          cases z : isTs ((kvs.map fun p => keyD p.1).zip ds) with
          | none => rw [z] at e; cases e
          | some ms => rw [z] at e; cases e; rw [isTs_of b z]; rfl
        | inr x => cases h3
      · cases e
theorem ts_zip (ns : List Int) : ns.map tE = ((ns.map tK).map fun p => keyD p.1).zip (ns.map fun _ => PyData.bool true) := by
  induction ns with
  | nil => rfl
  | cons n ns ih => simp only [List.map_cons, List.zip_cons_cons]; rw [← ih]; rfl
theorem ts_rp (ns : List Int) : RpA K O H ((ns.map tK).map Prod.snd) (ns.map fun _ => PyData.bool true) := by
  induction ns with
  | nil => exact .nil
  | cons n ns ih => exact .cons (.bl true) ih
theorem ownT {a : Addr} {ns : List Int} (e : H a = some (.dK (ns.map tK))) : OwnRep K O H a (.dict (ns.map tE)) := .inr ⟨ns.map tK, _, by rw [ts_zip], e, ts_rp ns⟩
theorem ownT_of {a : Addr} {ks : List (PyData × PyData)} {ns : List Int} (r : OwnRep K O H a (.dict ks)) (e : isTs ks = some ns) : H a = some (.dK (ns.map tK)) := by
  rcases r with ⟨_, _, z, _⟩ | ⟨kvs, ds, z, h, rp⟩
  · cases z
  · cases z
    rw [isTs_of rp e] at h; exact h
theorem valV_T (ns : List Int) (n : Int) : (valV (ns.map tK) (.inl n)).isSome = decide (n ∈ ns) := by
  rw [← valV_any]
  induction ns with
  | nil => simp
  | cons m ns ih =>
    rw [List.map_cons, List.any_cons, ih]
    have : decide ((tK m).1 = (Sum.inl n : Key)) = decide (n = m) := decide_eq_decide.mpr ⟨fun z => by cases z; rfl, fun z => by rw [z]; rfl⟩
    rw [this]
    by_cases e : n = m <;> simp [e]
def putT (ns : List Int) (n : Int) : List Int := if n ∈ ns then ns else ns ++ [n]
theorem putK_T (ns : List Int) (n : Int) : putK (ns.map tK) (.inl n) (.bl true) = (putT ns n).map tK := by
  unfold putT
  by_cases e : n ∈ ns
  · rw [if_pos e]
    unfold putK
    rw [if_pos (by rw [valV_any, valV_T]; exact decide_eq_true e)]
    rw [List.map_map]
    refine List.map_congr_left fun m _ => ?_
    show (if (tK m).1 = Sum.inl n then ((tK m).1, V.bl true) else tK m) = tK m
    split <;> rfl
  · rw [if_neg e, putK_new _ (by
      have := valV_T ns n
      rw [decide_eq_false e] at this
      cases h : valV (ns.map tK) (.inl n) with
      | none => rfl
      | some _ => rw [h] at this; cases this), List.map_append]
    rfl
end
section
variable {K : PySem.W.Frag} {F : FC} {σ : L2.St} {H : Hp} {Γ : GS}
/-- an own thing is changed -/
theorem StOk.mutG (S : StOk K F σ H Γ) {i : Nat} {l : Addr} {d d' : PyData} {o : HO} (e : Γ[i]? = some (SV.dat true d)) (hs : σ[i]? = some (some (.ref l))) (rep : ∀ (O' : Prot) (H' : Hp), Keeps (Own F σ Γ) H O' H' → H' l = some o → OwnRep K O' H' l d') :
    StOk K F σ (upd H l o) (Γ.set i (SV.dat true d')) ∧ PresE F σ Γ H (Γ.set i (SV.dat true d')) (upd H l o) := by
  obtain ⟨l', hl', np, _⟩ := S.ow i d e
  rw [hs] at hl'; cases hl'
  have hi : i < Γ.length := (List.getElem?_eq_some_iff.mp e).1
  have ol : ownAt σ Γ l := ⟨i, d, e, hs⟩
  have nl : ∀ a, ¬ ownAt σ Γ a → a ≠ l := fun a n z => n (z ▸ ol)
  have zl : ∀ a, F.P a → a ≠ l := fun a h z => np (z ▸ h)
  have pr : PresE F σ Γ H (Γ.set i (SV.dat true d')) (upd H l o) := ⟨fun a u q _ n => by rw [upd_ne (nl a n)]; exact q, fun a q => own_mut e q, fun a u q => by
    by_cases z : a = l
    · exact ⟨o, by rw [z]; exact upd_same⟩
    · exact ⟨u, by rw [upd_ne z]; exact q⟩⟩
  have kp := pr.keeps fun a => S.zP
  have off : ∀ {j : Nat} {z : SV}, z ≠ SV.dat true d' → (Γ.set i (SV.dat true d'))[j]? = some z → Γ[j]? = some z := fun {j z} nz h => by
    by_cases hj : i = j
    · subst hj; rw [List.getElem?_set_self hi] at h; cases h; exact absurd rfl nz
    · rwa [List.getElem?_set_ne hj] at h
  refine ⟨⟨by rw [List.length_set]; exact S.len, fun j d2 h => ?_, fun j d2 h => ?_, fun j k d1 d2 a h1 h2 h3 h4 => ?_, fun j h => S.bg j (off nofun h), fun j h => S.lf j (off nofun h), fun a q => ?_, fun a q => ?_, S.apart, fun a q => ?_⟩, pr⟩
  · obtain ⟨v, q, r⟩ := S.sh j d2 (off nofun h)
    exact ⟨v, q, r.keep kp⟩
  · by_cases hj : i = j
    · subst hj
      rw [List.getElem?_set_self hi] at h; cases h
      exact ⟨l, hs, np, rep _ _ kp upd_same⟩
    · rw [List.getElem?_set_ne hj] at h
      obtain ⟨a, q, np', r'⟩ := S.ow j d2 h
      have hal : a ≠ l := fun z => hj (S.inj i j d d2 l e h hs (by rw [← z]; exact q))
      exact ⟨a, q, np', r'.keep kp (upd_ne hal)⟩
  · have g : ∀ {m : Nat} {d3 : PyData}, (Γ.set i (SV.dat true d'))[m]? = some (SV.dat true d3) → ∃ d4, Γ[m]? = some (SV.dat true d4) := fun {m d3} h => by
      by_cases hm : i = m
      · subst hm; exact ⟨d, e⟩
      · rw [List.getElem?_set_ne hm] at h; exact ⟨d3, h⟩
    obtain ⟨_, g1⟩ := g h1
    obtain ⟨_, g2⟩ := g h2
    exact S.inj j k _ _ a g1 g2 h3 h4
  · exact ⟨(S.bagOk a q).1, (S.bagOk a q).2.keep kp (upd_ne (zl a (S.bagOk a q).1))⟩
  · obtain ⟨n, z⟩ := (S.leftOk a q).2
    exact ⟨(S.leftOk a q).1, n, by rw [upd_ne (zl a (S.leftOk a q).1)]; exact z⟩
  · obtain ⟨u, z⟩ := S.trk a q
    exact ⟨u, by rw [upd_ne (zl a q)]; exact z⟩
end
/-- {k: True}, own from now on -/
def dOwnT (d : DT) (j : Nat) : DTS := fun D Γ => d Γ fun x Γ1 => x.wd Γ1 fun v => match v with
  | .int n => D.nx (Γ1.set j (SV.dat true (.dict ([n].map tE))))
  | _ => False
theorem sound_ownT {K : PySem.W.Frag} {tk : TE} {d : DT} (j : Nat) (s : SoundE K tk d) : SoundS K (tAsg (tDisp [(tk, tC (.bl true))]) (gName j)) (dOwnT d j) := by
  intro F σ H Γ D E S h ee
  intro p hp
  have S0 := S.plus (o := .dK []) hp
  refine s (F.plus p) σ _ Γ _ _ S0 h fun v o H1 Γ1 ok1 S1 p1 h1 => ?_
  obtain ⟨d1, r1, h2⟩ := ok1.rep S1 h1
  cases d1 with
  | int n =>
    obtain rfl := r1.int
    have nz : ¬ (F.plus p).Z p := fun z => by
      have := S.zP z
      obtain ⟨u, e⟩ := S.trk p this
      rw [hp] at e; cases e
    have np : ¬ F.P p := fun z => by obtain ⟨u, e⟩ := S.trk p z; rw [hp] at e; cases e
    have h0 : H1 p = some (.dK []) := p1.same p _ upd_same nz S0.own_ne
    refine ⟨h0, [(.inl n, .bl true)], rfl, Nat.le_of_ble_eq_true rfl, ?_⟩
    have S2 := S1.updP (o := .dK (mergeK [] [((Sum.inl n : Key), V.bl true)])) (.inr rfl) nz
    have p01 : PresS F σ Γ H σ Γ1 (upd H1 p (.dK (mergeK [] [((Sum.inl n : Key), V.bl true)]))) := ⟨fun a u e nZ no => by
      have ne : a ≠ p := fun z => by rw [z, hp] at e; cases e
      refine ⟨?_, fun z => no (p1.own a z)⟩
      rw [upd_ne ne]
      exact p1.same a u (by rw [upd_ne ne]; exact e) nZ no⟩
    have S3 := StOk.putOwn S2 j np (fun a => S.zP) (ownT (ns := [n]) upd_same)
    exact ee.nx _ _ _ S3 ⟨fun a u e nZ no => by
      obtain ⟨e2, n2⟩ := p01.same a u e nZ no
      refine ⟨e2, fun z => ?_⟩
      rcases own_putO z with z | z
      · subst z; rw [hp] at e; cases e
      · exact n2 z⟩ h2
  | _ => exact h2.elim
/-- k in x, k not in x; x an own dict -/
def dInT (neg : Bool) (j : Nat) (d : DT) : DTT := fun Γ Q => d Γ fun x Γ1 => x.wd Γ1 fun v => match v, Γ1.getD j .un with
  | .int n, .dat true (.dict ks) => match isTs ks with
    | some ns => Q (if neg then !decide (n ∈ ns) else decide (n ∈ ns)) Γ1
    | none => False
  | _, _ => False
theorem inT_at {K : PySem.W.Frag} {F : FC} {σ : L2.St} {H : Hp} {Γ : GS} {j : Nat} {n : Int} {Q : Bool → Prop} {neg : Bool} (S : StOk K F σ H Γ) (h : match (PyData.int n), Γ.getD j .un with
  | .int n, .dat true (.dict ks) => match isTs ks with
    | some ns => Q (if neg then !decide (n ∈ ns) else decide (n ∈ ns))
    | none => False
  | _, _ => False) : ∃ (a : Addr) (ns : List Int), σ[j]? = some (some (.ref a)) ∧ H a = some (.dK (ns.map tK)) ∧ Q (if neg then !decide (n ∈ ns) else decide (n ∈ ns)) := by
  revert h
  generalize e : Γ.getD j .un = z
  intro h
  split at h
  · rename_i n' ks e1
    cases e1
    split at h
    · rename_i ns en
      obtain ⟨a, e2, _, r⟩ := S.ow j _ (getD_some e)
      exact ⟨a, ns, e2, ownT_of r en, h⟩
    · exact h.elim
  · exact h.elim
/-- x[k] = True -/
def isOwnD (s : SV) : Prop := match s with
  | .dat true (.dict _) => True
  | _ => False
def dPutT (j : Nat) (d : DT) : DTS := fun D Γ => isOwnD (Γ.getD j .un) ∧ d Γ fun x Γ1 => x.wd Γ1 fun v => match v, Γ1.getD j .un with
  | .int n, .dat true (.dict ks) => match isTs ks with
    | some ns => ns.length < sizeLine ∧ D.nx (Γ1.set j (SV.dat true (.dict ((putT ns n).map tE))))
    | none => False
  | _, _ => False
theorem sound_ninT {K : PySem.W.Frag} {t : TE} {d : DT} (j : Nat) (s : SoundE K t d) : SoundT K (tB (tDNotIn t (tVar j))) (dInT true j d) := by
  intro F σ H Γ Q R S h kk
  refine s F σ H Γ _ _ S h fun v o H1 Γ1 ok1 S1 p1 h1 => ?_
  obtain ⟨d1, r1, h2⟩ := ok1.rep S1 h1
  cases d1 with
  | int n =>
    obtain rfl := r1.int
    obtain ⟨a, ns, e1, e2, q⟩ := inT_at (neg := true) (Q := fun z => Q z Γ1) S1 h2
    refine ⟨_, e1, a, _, rfl, .k (k := .inl n) e2, _, rfl, ?_⟩
    rw [valV_T]
    exact kk _ H1 Γ1 S1 p1 q
  | _ => exact h2.elim
theorem sound_putT {K : PySem.W.Frag} {t : TE} {d : DT} (j : Nat) (s : SoundE K t d) : SoundS K (sDPut (tVar j) t (tC (.bl true))) (dPutT j d) := by
  intro F σ H Γ D E S h ee
  have own0 : ∀ {σ : L2.St} {H : Hp} {Γ : GS} {n : Int} {X : Int → List Int → Prop}, StOk K F σ H Γ → (match (PyData.int n), Γ.getD j .un with
      | .int n, .dat true (.dict ks) => match isTs ks with
        | some ns => X n ns
        | none => False
      | _, _ => False) → ∃ (a : Addr) (ns : List Int) (ks : List (PyData × PyData)), σ[j]? = some (some (.ref a)) ∧ Γ[j]? = some (SV.dat true (.dict ks)) ∧ H a = some (.dK (ns.map tK)) ∧ X n ns := by
    intro σ H Γ n X S h
    revert h
    generalize e : Γ.getD j .un = z
    intro h
    split at h
    · rename_i n' ks e1
      cases e1
      split at h
      · rename_i ns en
        obtain ⟨a, e2, _, r⟩ := S.ow j _ (getD_some e)
        exact ⟨a, ns, ks, e2, getD_some e, ownT_of r en, h⟩
      · exact h.elim
    · exact h.elim
  obtain ⟨ho, h⟩ := h
  have val : ∃ a, σ[j]? = some (some (V.ref a)) := by
    revert ho
    generalize e : Γ.getD j .un = z
    intro ho
    unfold isOwnD at ho
    split at ho
    · obtain ⟨a, e1, _⟩ := S.ow j _ (getD_some e); exact ⟨a, e1⟩
    · exact ho.elim
  obtain ⟨a0, ea⟩ := val
  refine ⟨_, ea, ?_⟩
  refine s F σ H Γ _ _ S h fun v o H1 Γ1 ok1 S1 p1 h1 => ?_
  obtain ⟨d1, r1, h2⟩ := ok1.rep S1 h1
  cases d1 with
  | int n =>
    obtain rfl := r1.int
    obtain ⟨a, ns, ks, e1, eg, e2, few, q⟩ := own0 (n := n) (X := fun n ns => ns.length < sizeLine ∧ D.nx (Γ1.set j (SV.dat true (.dict ((putT ns n).map tE))))) S1 h2
    rw [ea] at e1
    cases e1
    refine ⟨a0, _, rfl, .k (k := .inl n) e2 (by rw [List.length_map]; exact few), ?_⟩
    rw [putK_T]
    obtain ⟨S2, p2⟩ := S1.mutG (d' := .dict ((putT ns n).map tE)) (o := .dK ((putT ns n).map tK)) eg ea fun O' H' _ e => ownT e
    exact ee.nx σ _ _ S2 (p1.trans p2).s q
  | _ => exact h2.elim
section
variable {ι : Type} {Xs : ι → Cx} {P : Program} {w : World} {K : PySem.W.Frag} {mg : Str → Option Value} {base : Heap} {k : Nat} {e : Expr} {d : DT} {pos p pos2 p2 py : Pos} {x : Str} {kc : Nat}
theorem ds_ownT (j : Nat) (hn : ∀ i, (Xs i).N.Nodup) (a : DX Xs K e d) (hN : ∀ i, (Xs i).N[j]? = some x := by intro _; rfl) (hx : ∀ i, Loc (Xs i).env.scope x := by intro _; first | exact Or.inl rfl | exact Or.inr rfl)
    (hs : ∀ i, swapsWith (.Dict [some e] [.Constant (.bool true) kc p] pos) (some (.Name x py)) pos2.line (Xs i).env = pure false := by intro _; rfl) (hf : ∀ i, (Xs i).fn x = true ∨ (Xs i).env.scope.names.lookup x = some .local := by intro _; first | exact .inl rfl | exact .inr rfl) :
    DXS Xs K (.Assign [.Name x py] (.Dict [some e] [.Constant (.bool true) kc p] pos) pos2) (dOwnT d j) := by
  obtain ⟨t, pe, s⟩ := a
  exact ⟨_, fun i => ps_set (hn i) (hN i) (hx i) (pe_disp (pps_cons (pe i) pe_bl pps_nil) rfl rfl (by simp) (by simp)) (hs i) (hf i), sound_ownT j s⟩
theorem dxt_ninT (j : Nat) (E : EnvOk Xs P w K mg base k) (a : DX Xs K e d) (hN : ∀ i, (Xs i).N[j]? = some x := by intro _; rfl) (hv : ∀ i, Vis (Xs i).env.scope x := by intro _; first | exact Or.inl rfl | exact Or.inr (Or.inl rfl) | exact Or.inr (Or.inr rfl))
    (hd : (x == ("__debug__" : Str)) = false := by decide) (hcd : (x == ("__classdict__" : Str)) = false := by decide) (hm : behindInMarks .NotIn (.Name x p) = false := by with_unfolding_all rfl) : DXT Xs K (.Compare e [.NotIn] [.Name x p] pos) (dInT true j d) := by
  obtain ⟨t, pe, s⟩ := a
  exact ⟨_, fun i => pt_cmp (pc_dnotin (by have := (E.room i).un; omega) (pe i) (pe_var (hN i) (hv i) hd hcd)) hm, sound_ninT j s⟩
theorem ds_putT (j : Nat) (E : EnvOk Xs P w K mg base k) (a : DX Xs K e d) (hN : ∀ i, (Xs i).N[j]? = some x := by intro _; rfl) (hv : ∀ i, Vis (Xs i).env.scope x := by intro _; first | exact Or.inl rfl | exact Or.inr (Or.inl rfl) | exact Or.inr (Or.inr rfl))
    (hd : (x == ("__debug__" : Str)) = false := by decide) (hcd : (x == ("__classdict__" : Str)) = false := by decide) (hs : ∀ i, swapsWith (.Constant (.bool true) kc p2) (some (.Subscript (.Name x p) e py)) pos.line (Xs i).env = pure false := by intro _; rfl) :
    DXS Xs K (.Assign [.Subscript (.Name x p) e py] (.Constant (.bool true) kc p2) pos) (dPutT j d) := by
  obtain ⟨t, pe, s⟩ := a
  exact ⟨_, fun i => ps_dput (by have := (E.room i).un; omega) (pe_var (hN i) (hv i) hd hcd) (pe i) pe_bl (hs i), sound_putT j s⟩
end
/-- sorted(d) of a dict of ints -/
def fSortT : F1 := fun d Q => match d with
  | .dict ks => match isTs ks with
    | some ns => ns.length < 64 ∧ ∀ out : List Int, out.Perm ns → out.Pairwise (· ≤ ·) → Q (.list (out.map .int))
    | none => False
  | _ => False
def rSortT : List V → Hp → VK → Prop := fun xs H Q => ∃ (a : Addr) (kvs : List (Key × V)) (ks : List Int), xs = [.ref a] ∧ Rd H a (.dK kvs) ∧ kvs.map (·.1) = ks.map Sum.inl ∧ ks.length < 64 ∧
    ∀ (ys : List Int) (p : Addr), ys.Perm ks → ys.Pairwise (· ≤ ·) → H p = none → Q (.ref p) (upd H p (.lst (ys.map V.int)))
theorem cs_sortT (K : PySem.W.Frag) : Call1S K rSortT fSortT := by
  intro O H v d Qd R hO r h kk
  unfold fSortT at h
  split at h
  · split at h
    · rename_i ks ns en
      obtain ⟨a, kvs, ds, rfl, h1, rfl, h2⟩ := r.dic
      obtain rfl := isTs_of h2 en
      exact ⟨a, _, ns, rfl, .inl h1, by rw [List.map_map]; rfl, h.1, fun out p q1 q2 hp => kk _ (.list (out.map .int)) _ (same_upd hp) (newLst hp (no_fresh hO hp) (rpA_ints out)) (h.2 out q1 q2)⟩
    · exact h.elim
  · exact h.elim
/-- < of ints, of tuples of ints -/
def fLtA : F2 := fun a b Q => match a, b with
  | .int i, .int j => Q (.bool (decide (i < j)))
  | .tuple xs, .tuple ys => match intsD xs, intsD ys with
    | some ns, some ms => Q (.bool (HT.lexLt ns ms))
    | _, _ => False
  | _, _ => False
def rLtA (K : PySem.W.Frag) : R2 := fun x y H Q => rI0 (fun i j => .bl (decide (i < j))) x y H Q ∨ rLtT K x y H Q
theorem op_ltA {X : Cx} {k : Nat} (h : Room k X.A) : OpR X (compareOp .Lt) (rLtA X.K) := op_lt.or (op_ltT (by have := h.units; omega))
theorem ops_ltA (K : PySem.W.Frag) : OpS K (rLtA K) fLtA := by
  intro O H x y dx dy Qd R hO rx ry h kk
  unfold fLtA at h
  split at h
  · obtain rfl := rx.int; obtain rfl := ry.int
    exact .inl ⟨_, _, rfl, rfl, kk _ _ H (Same.refl H) (.bl _) h⟩
  · split at h
    · rename_i ns ms e1 e2
      obtain rfl := intsD_is e1
      obtain rfl := intsD_is e2
      obtain ⟨a, xs, rfl, ha, ra⟩ := rx.tup
      obtain ⟨b, ys, rfl, hb, rb⟩ := ry.tup
      obtain rfl := ra.ints
      obtain rfl := rb.ints
      exact .inr ⟨a, b, ns, ms, rfl, rfl, ha.sq, hb.sq, kk _ _ H (Same.refl H) (.bl _) h⟩
    · exact h.elim
  · exact h.elim
/-- min(a, b), max(a, b), bool(n) -/
def fMin2 : FA := fun as Q => match as with
  | [.int i, .int j] => Q (.int (if j < i then j else i))
  | _ => False
def fMax2 : FA := fun as Q => match as with
  | [.int i, .int j] => Q (.int (if j > i then j else i))
  | _ => False
def rMin2 : List V → Hp → VK → Prop := fun xs H Q => ∃ i j, xs = [.int i, .int j] ∧ Q (.int (if j < i then j else i)) H
def rMax2 : List V → Hp → VK → Prop := fun xs H Q => ∃ i j, xs = [.int i, .int j] ∧ Q (.int (if j > i then j else i)) H
theorem cs_min2 (K : PySem.W.Frag) : CallS K rMin2 fMin2 := by
  intro O H vs ds Qd R hO r h kk
  unfold fMin2 at h
  split at h
  · obtain rfl := RpA.ints (ns := [_, _]) r
    exact ⟨_, _, rfl, kk _ _ H (Same.refl H) (.int _) h⟩
  · exact h.elim
theorem cs_max2 (K : PySem.W.Frag) : CallS K rMax2 fMax2 := by
  intro O H vs ds Qd R hO r h kk
  unfold fMax2 at h
  split at h
  · obtain rfl := RpA.ints (ns := [_, _]) r
    exact ⟨_, _, rfl, kk _ _ H (Same.refl H) (.int _) h⟩
  · exact h.elim
def fBool : F1 := fun d Q => match d with
  | .int i => Q (.bool (i != 0))
  | .bool b => Q (.bool b)
  | _ => False
def rBool : List V → Hp → VK → Prop := fun xs H Q => (∃ i, xs = [.int i] ∧ Q (.bl (i != 0)) H) ∨ ∃ k, xs = [.bl k] ∧ Q (.bl k) H
theorem cs_bool (K : PySem.W.Frag) : Call1S K rBool fBool := by
  intro O H v d Qd R hO r h kk
  unfold fBool at h
  split at h
  · obtain rfl := r.int; exact .inl ⟨_, rfl, kk _ _ H (Same.refl H) (.bl _) h⟩
  · obtain rfl := r.bl; exact .inr ⟨_, rfl, kk _ _ H (Same.refl H) (.bl _) h⟩
  · exact h.elim
theorem boot_min : bootBuiltins "min" = some (.builtin "min") := by decide +kernel
theorem boot_max : bootBuiltins "max" = some (.builtin "max") := by decide +kernel
section
variable {X : Cx}
/-- min, max of a tuple of two ints -/
def rMinT (K : PySem.W.Frag) : List V → Hp → VK → Prop := fun xs H Q => ∃ (p : Addr) (i j : Int), xs = [.ref p] ∧ SqT K H p [.int i, .int j] ∧ Q (.int (min i j)) H
def rMaxT (K : PySem.W.Frag) : List V → Hp → VK → Prop := fun xs H Q => ∃ (p : Addr) (i j : Int), xs = [.ref p] ∧ SqT K H p [.int i, .int j] ∧ Q (.int (max i j)) H
theorem two_reads {h : Heap} {i j : Int} {us : List Value} (r : Vals [V.int i, V.int j] us) : ∃ as, ReadsAll h us [.int i, .int j] as := by
  cases r with | cons a b =>
    cases b with | cons c d =>
      cases d
      obtain ⟨t, rfl⟩ := a
      obtain ⟨u, rfl⟩ := c
      exact ⟨_, .cons (.int i t) (.cons (.int j u) .nil)⟩
theorem two_alike (i j : Int) : PySem.W.AlikeAll [.int i, .int j] := by
  refine ⟨fun x hx y hy => ?_, fun x hx => ?_⟩
  · simp only [List.mem_cons, List.not_mem_nil, or_false] at hx hy
    rcases hx with rfl | rfl <;> rcases hy with rfl | rfl <;> rfl
  · simp only [List.mem_cons, List.not_mem_nil, or_false] at hx
    rcases hx with rfl | rfl <;> exact nofun
theorem cr_minT (hc : X.calm = true) {k : Nat} (hr : Room k X.A) : CallR X (.builtin "min") (rMinT X.K) := by
  intro pins s σ H xs us Q I r h
  obtain ⟨p, i, j, rfl, ht, q⟩ := h
  rw [Vals.ref1 r]
  obtain ⟨its, rv, ⟨o, a1, b1, n1, d1⟩, _⟩ := I.tuple ht
  obtain ⟨as, rd⟩ := two_reads (h := s.heap) rv
  have un := hr.un
  refine PySem.W.min_tuple_data (I.ok.hd hc) ⟨o, a1, b1, n1, d1⟩ (x := .int i) (xs := [.int j]) (by simpa using rd) (two_alike i j) (by show X.A.units + 1 + 0 < cLine; omega) fun m v h2 tk bs hv rd2 keep => ?_
  rw [show ([.int j] : List PyData) = [j].map .int from rfl, PySem.W.minD_ints] at rd2
  generalize hd : PyData.int ([j].foldl min i) = d at rd2
  cases rd2 with
  | int n t => cases hd; exact ⟨.int (min i j), H, I.kept (t' := tk) keep, ⟨t, rfl⟩, q⟩
  | _ => cases hd
theorem cr_maxT (hc : X.calm = true) {k : Nat} (hr : Room k X.A) : CallR X (.builtin "max") (rMaxT X.K) := by
  intro pins s σ H xs us Q I r h
  obtain ⟨p, i, j, rfl, ht, q⟩ := h
  rw [Vals.ref1 r]
  obtain ⟨its, rv, ⟨o, a1, b1, n1, d1⟩, _⟩ := I.tuple ht
  obtain ⟨as, rd⟩ := two_reads (h := s.heap) rv
  have un := hr.un
  refine PySem.W.max_tuple_data (I.ok.hd hc) ⟨o, a1, b1, n1, d1⟩ (x := .int i) (xs := [.int j]) (by simpa using rd) (two_alike i j) (by show X.A.units + 1 + 0 < cLine; omega) fun m v h2 tk bs hv rd2 keep => ?_
  rw [show ([.int j] : List PyData) = [j].map .int from rfl, PySem.W.maxD_ints] at rd2
  generalize hd : PyData.int ([j].foldl max i) = d at rd2
  cases rd2 with
  | int n t => cases hd; exact ⟨.int (max i j), H, I.kept (t' := tk) keep, ⟨t, rfl⟩, q⟩
  | _ => cases hd
end
def fMinT : F1 := fun d Q => match d with
  | .tuple [.int i, .int j] => Q (.int (min i j))
  | _ => False
def fMaxT : F1 := fun d Q => match d with
  | .tuple [.int i, .int j] => Q (.int (max i j))
  | _ => False
theorem cs_minT (K : PySem.W.Frag) : Call1S K (rMinT K) fMinT := by
  intro O H v d Qd R hO r h kk
  unfold fMinT at h
  split at h
  · rename_i i j
    obtain ⟨a, xs, rfl, ha, ra⟩ := r.tup
    obtain rfl := RpA.ints (ns := [i, j]) ra
    exact ⟨a, i, j, rfl, ha.sq, kk _ _ H (Same.refl H) (.int _) h⟩
  · exact h.elim
theorem cs_maxT (K : PySem.W.Frag) : Call1S K (rMaxT K) fMaxT := by
  intro O H v d Qd R hO r h kk
  unfold fMaxT at h
  split at h
  · rename_i i j
    obtain ⟨a, xs, rfl, ha, ra⟩ := r.tup
    obtain rfl := RpA.ints (ns := [i, j]) ra
    exact ⟨a, i, j, rfl, ha.sq, kk _ _ H (Same.refl H) (.int _) h⟩
  · exact h.elim
end DL
end
section
set_option autoImplicit false
set_option linter.all false
set_option maxRecDepth 100000
set_option maxHeartbeats 4000000
/-! t[::2], chains of three, list(range(n)), {k: e}, d[k] of one entry, a, b = e, [] -/
namespace DL
open PySem PySem.Spec L2
def twos {α : Type} : List α → List α
  | [] => []
  | [x] => [x]
  | x :: _ :: r => x :: twos r
theorem two_adjust (n : Nat) : Builtin.Slice.sliceAdjust none none 2 (n : Int) = (0, (n : Int)) := by
  unfold Builtin.Slice.sliceAdjust
  simp
theorem two_places (n : Nat) : Builtin.Slice.slicePlaces 0 (n : Int) 2 = (n + 1) / 2 := by
  unfold Builtin.Slice.slicePlaces
  simp
  split <;> omega
theorem twos_pick : ∀ xs : List Value, ((List.range ((xs.length + 1) / 2)).filterMap fun (k : Nat) => xs[((0 : Int) + (k : Int) * 2).toNat]?) = twos xs
  | [] => rfl
  | [x] => by simp [twos, List.range_succ]
  | x :: y :: r => by
    have ih := twos_pick r
    have e : ((x :: y :: r).length + 1) / 2 = (r.length + 1) / 2 + 1 := by simp only [List.length_cons]; omega
    rw [e, List.range_succ_eq_map, List.filterMap_cons, List.filterMap_map]
    show x :: _ = x :: twos r
    rw [← ih]
    congr 1
    refine fm_congr fun k _ => ?_
    show (x :: y :: r)[((0 : Int) + ((k + 1 : Nat) : Int) * 2).toNat]? = r[((0 : Int) + (k : Int) * 2).toNat]?
    have e2 : ((0 : Int) + ((k + 1 : Nat) : Int) * 2).toNat = ((0 : Int) + (k : Int) * 2).toNat + 2 := by omega
    rw [e2]; rfl
theorem vals_twos : ∀ {xs : List V} {us : List Value}, Vals xs us → Vals (twos xs) (twos us)
  | [], _, r => by cases r; exact .nil
  | [x], _, r => by cases r with | cons a b => cases b; exact .cons a .nil
  | x :: y :: xs, _, r => by cases r with | cons a b => cases b with | cons c d => exact .cons a (vals_twos d)
theorem twos_len {α : Type} : ∀ xs : List α, (twos xs).length ≤ xs.length
  | [] => Nat.le_refl _
  | [x] => Nat.le_refl _
  | x :: y :: r => by have := twos_len r; simp only [twos, List.length_cons]; omega
theorem RpA.twos {K : PySem.W.Frag} {O : Prot} {H : Hp} : ∀ {xs : List V} {ds : List PyData}, RpA K O H xs ds → RpA K O H (DL.twos xs) (DL.twos ds)
  | [], _, r => by cases r; exact .nil
  | [x], _, r => by cases r with | cons a b => cases b; exact .cons a .nil
  | x :: y :: xs, _, r => by cases r with | cons a b => cases b with | cons c d => exact .cons a (RpA.twos d)
section
open PyProof.Rows HT
variable {P : Program} {w : World} {A : Around} {s : Shared}
theorem two_applied {sl : Addr} {n : Nat} {t : Tok} {Ee : Value → Shared → Prop} {Q : Int × Int × Nat → Shared → Prop} (hs : s.heap.IsSliceOf sl .none .none (.int 2 t)) (k : Q (0, 2, (n + 1) / 2) s) : wpAny (model P w) A (Builtin.Slice.sliceApplied (.ref sl) (pure (n : Int))) Q Ee s := by
  obtain ⟨ob, e1, e2, e3⟩ := id hs
  unfold Builtin.Slice.sliceApplied Builtin.Slice.sliceFields
  refine wpAny_bind (wpAny_bind (wpAny_field e1 e3 (x := .none) rfl (wpAny_bind (wpAny_field e1 e3 (x := .none) rfl (wpAny_bind (wpAny_field e1 e3 (x := .int 2 t) rfl (wpAny_pure ?_)))))))
  refine wpAny_bind (slicePart_int ?_)
  show wpAny _ _ (if ((2 : Int) == 0) = true then _ else _) _ _ s
  rw [if_neg (by decide)]
  refine wpAny_bind (slicePart_none (wpAny_bind (slicePart_none (wpAny_bind (wpAny_pure ?_)))))
  show wpAny _ _ (match Builtin.Slice.sliceAdjust none none 2 (n : Int) with | (lo, hi) => pure (lo, (2 : Int), Builtin.Slice.slicePlaces lo hi 2)) _ _ s
  rw [two_adjust n]
  show wpAny _ _ (pure ((0 : Int), (2 : Int), Builtin.Slice.slicePlaces 0 (n : Int) 2)) _ _ s
  rw [two_places]
  exact wpAny_pure k
theorem getItem_two {t sl : Addr} {its : Array Value} {tk : Tok} {Ee : Value → Shared → Prop} {Q : Value → Shared → Prop} (ht : IsTup s.heap t its) (hs : s.heap.IsSliceOf sl .none .none (.int 2 tk)) (hz : its.size ≤ sizeLine)
    (k : Q (.ref s.heap.objs.size) { s with heap := s.heap.push { cls := .type "tuple", data := .seq (twos its.toList).toArray } }) : wpAny (model P w) A (getItem (.ref t) (.ref sl)) Q Ee s := by
  have okz : sizeOk (.seq (twos its.toList).toArray) := by
    show (twos its.toList).toArray.size ≤ sizeLine
    exact Nat.le_trans (twos_len its.toList) (by rw [Array.length_toList]; exact hz)
  obtain ⟨ob, e1, e2, e3⟩ := id hs
  have ty : s.TypeIs (.ref sl) "slice" := ⟨ob, e1, e2⟩
  unfold getItem
  try with_reducible refine wpAny_holding ?_
  first | refine wpAny_bind (wpAny_pure ?_) | skip
  refine wpAny_bind (wpAny_sequenceKey ht.typeIs (by decide) ?_)
  refine wpAny_bind (wpAny_callSpecial?_slot (name := Str.ofString "__getitem__") ht.typeIs PyProof.Rows.slot_tuple_getitem (wpAny_call_entry PyProof.Rows.slot_tuple_getitem ht.typeIs entry_tuple_getitem ?_ (args_tuple_getitem _ _)))
  show wpAny _ _ (Builtin.Tuple.tupleItemsOf (.ref t) >>= _) _ _ s
  refine wpAny_bind (tupleItemsOf_ ht ?_)
  refine wpAny_bind (wpAny_typeOf ty ?_)
  rw [if_pos (by decide)]
  refine wpAny_bind (two_applied hs ?_)
  have no : ¬ (((0 : Int) == 0 && (2 : Int) == 1 && (its.size + 1) / 2 == its.size) = true) := by simp
  show wpAny _ _ (if ((0 : Int) == 0 && (2 : Int) == 1 && (its.size + 1) / 2 == its.size) = true then _ else _) _ _ s
  have pk := twos_pick its.toList
  simp only [Array.length_toList, Array.getElem?_toList] at pk
  rw [if_neg no, pk]
  first
    | exact wpAny_bind (m := Builtin.Tuple.tupleExact _) (wpAny_newObj_type (wpAny_pure ⟨_, rfl, wpAny_pure k⟩) okz)
    | exact wpAny_bind (m := Builtin.Tuple.tupleExact _) (wpAny_newObj_type (wpAny_bind (wpAny_pure (wpAny_pure ⟨_, rfl, wpAny_pure k⟩))) okz)
    | exact wpAny_bind (wpAny_bind (m := Builtin.Tuple.tupleExact _) (wpAny_newObj_type (wpAny_pure (wpAny_pure ⟨_, rfl, wpAny_pure k⟩)) okz))
    | exact wpAny_bind (wpAny_bind (m := Builtin.Tuple.tupleExact _) (wpAny_newObj_type (wpAny_pure ⟨_, rfl, wpAny_pure k⟩) okz))
end
section
variable {X : Cx}
def tTwo (K : PySem.W.Frag) (te : TE) : TE := fun σ H Q => te σ H fun x H1 => ∃ a xs, x = .ref a ∧ SqT K H1 a xs ∧ ∀ p, H1 p = none → Q (.ref p) (upd H1 p (.tup (twos xs)))
theorem pe_two {e : Expr} {te : TE} {k : Nat} {p1 p3 pos : Pos} (he : PE X e te) : PE X (.Subscript e (.Slice none none (some (.Constant (.int 2) k p1)) p3) pos) (tTwo X.K te) := by
  refine ⟨fun pins s σ H Q I h => ?_⟩
  refine PyProof.Rows.Subscript_ (thn (he.run pins s σ H _ I h) fun v s1 ⟨x, H1, I1, r1, q1⟩ => ?_)
  have step : PO X (some (.Constant (.int 2) k p1)) (tPart (tC (.int 2))) := po_some pe_int
  refine wpAny_Slice (thn (po_none.run pins s1 σ H1 (fun o G => o = none ∧ G = H1) I1 ⟨rfl, rfl⟩) fun vl s2 ⟨o1, G1, I2, k1, eo1, eg1⟩ => ?_)
  subst eo1 eg1
  refine thn (po_none.run pins s2 σ G1 (fun o G => o = none ∧ G = G1) I2 ⟨rfl, rfl⟩) fun vu s3 ⟨o2, G2, I3, k2, eo2, eg2⟩ => ?_
  subst eo2 eg2
  refine thn (step.run pins s3 σ G2 (fun o G => o = some 2 ∧ G = G2) I3 ⟨2, rfl, rfl, rfl⟩) fun vs s4 ⟨o3, G3, I4, k3, eo3, eg3⟩ => ?_
  subst eo3 eg3
  have I5 : Inv X pins σ G3 { s4 with heap := s4.heap.push { cls := .type "slice", data := .fields #[vl, vu, vs] } } := I4.kept (t' := s4.toks) fun b ob q => Heap.get?_push_of_some _ q
  obtain ⟨a, xs, ex, hx, q⟩ := q1
  subst ex
  cases r1
  obtain ⟨its, r, ht, hz⟩ := I5.tuple hx
  have hn := r.length
  show wpAny (model X.prog X.w) X.A (PyProof.Rows.subscriptTail e (.Slice none none (some (.Constant (.int 2) k p1)) p3) (.ref a) (.ref s4.heap.objs.size)) (EP X pins σ Q) X.xe _
  refine PyProof.Rows.tail_any (ops := [.ref a, .ref s4.heap.objs.size]) ht.typeIs (PyProof.Rows.slot_tuple_getitem.lookup) ?_ (by with_unfolding_all rfl)
  cases k1
  cases k2
  cases k3
  refine getItem_two ht (Heap.IsSliceOf.new _ _ _ _) (by rw [List.size_toArray]; omega) ?_
  refine ⟨.ref _, _, I5.laid (t' := s4.toks) (o := .tup (twos xs)) (fun b ob q => Heap.get?_push_of_some _ q) (Nat.le_refl _) ?_, rfl, q _ (I5.hok.fresh (Nat.le_refl _))⟩
  exact ⟨Nat.le_trans (twos_len xs) hz, _, vals_twos r, PyProof.Rows.IsTup.new _ _⟩
/-- three comparisons -/
def tChain3 (r1 r2 r3 : R2) (ta tb tc td : TE) : TE := fun σ H Q => ta σ H fun x H1 => tb σ H1 fun y H2 => r1 x y H2 fun z H3 => ∃ k, z = .bl k ∧
  (if k = true then tc σ H3 fun u H4 => r2 y u H4 fun z2 H5 => ∃ k2, z2 = .bl k2 ∧ (if k2 = true then td σ H5 fun v H6 => r3 u v H6 Q else Q (.bl false) H5) else Q (.bl false) H3)
theorem pt_chain3 {a b c d : Expr} {pos : Pos} {o1 o2 o3 : CmpOp} {r1 r2 r3 : R2} {ta tb tc td : TE} (h1 : OpR X (compareOp o1) r1) (h2 : OpR X (compareOp o2) r2) (h3 : OpR X (compareOp o3) r3) (ha : PE X a ta) (hb : PE X b tb) (hc : PE X c tc) (hd : PE X d td)
    (hm : lastMarks [o1, o2, o3] [b, c, d] = false) : PT X (.Compare a [o1, o2, o3] [b, c, d] pos) (tTest (tChain3 r1 r2 r3 ta tb tc td)) := by
  refine ⟨fun pins s σ H Q I h => ?_⟩
  refine PyProof.Rows.isTrue_chain (thn (ha.run pins s σ H _ I h) fun v s1 ⟨x, H1, I1, rx, q1⟩ => PyProof.Rows.test_link (thn (hb.run pins s1 σ H1 _ I1 q1) fun u s2 ⟨y, H2, I2, ry, q2⟩ =>
    thn (h1 pins s2 σ H2 x y v u _ I2 rx ry q2) fun d1 s3 ⟨z, H3, I3, rz, k, e, q3⟩ => ?_)) hm
  subst e
  cases rz
  refine wpAny_truthy_bool ?_
  cases k with
  | false =>
    obtain ⟨k', e', q'⟩ := q3
    cases e'
    exact PyProof.Rows.ite_ff ⟨H3, I3, q'⟩
  | true =>
    refine PyProof.Rows.ite_tt (PyProof.Rows.test_link (thn (hc.run pins s3 σ H3 _ I3 q3) fun u3 s4 ⟨y3, H4, I4, r4, q4⟩ => thn (h2 pins s4 σ H4 y y3 u u3 _ I4 ry r4 q4) fun d2 s5 ⟨z2, H5, I5, rz2, k2, e2, q5⟩ => ?_))
    subst e2
    cases rz2
    refine wpAny_truthy_bool ?_
    cases k2 with
    | false =>
      obtain ⟨k', e', q'⟩ := q5
      cases e'
      exact PyProof.Rows.ite_ff ⟨H5, I5, q'⟩
    | true =>
      refine PyProof.Rows.ite_tt (PyProof.Rows.test_last (thn (hd.run pins s5 σ H5 _ I5 q5) fun u5 s6 ⟨y5, H6, I6, r6, q6⟩ => thn (h3 pins s6 σ H6 y3 y5 u3 u5 _ I6 r4 r6 q6) fun d3 s7 ⟨z3, H7, I7, rz3, k3, e3, q7⟩ => ?_))
      subst e3
      cases rz3
      exact wpAny_truthy_bool ⟨H7, I7, q7⟩
end
def fTwo : F1 := fun v Q => match v with
  | .tuple ds => Q (.tuple (twos ds))
  | _ => False
def dChn3 (f g h : F2) (da db dc dd : DT) : DT := fun Γ Q => da Γ fun x Γ1 => db Γ1 fun y Γ2 => x.wd Γ2 fun a => y.wd Γ2 fun b => f a b fun q => match q with
  | .bool true => dc Γ2 fun z Γ3 => y.wd Γ3 fun b' => z.wd Γ3 fun c => g b' c fun q2 => match q2 with
    | .bool true => dd Γ3 fun u Γ4 => z.wd Γ4 fun c' => u.wd Γ4 fun e => h c' e fun r => Q (.val r) Γ4
    | .bool false => Q (.val (.bool false)) Γ3
    | _ => False
  | .bool false => Q (.val (.bool false)) Γ2
  | _ => False
theorem sound_chn3 {K : PySem.W.Frag} {r1 r2 r3 : R2} {f g e : F2} {ta tb tc td : TE} {da db dc dd : DT} (hs : OpS K r1 f) (hs2 : OpS K r2 g) (hs3 : OpS K r3 e) (sa : SoundE K ta da) (sb : SoundE K tb db) (sc : SoundE K tc dc) (sd : SoundE K td dd) : SoundE K (tChain3 r1 r2 r3 ta tb tc td) (dChn3 f g e da db dc dd) := by
  intro F σ H Γ Q R S h kk
  refine sa F σ H Γ _ _ S h fun v o H1 Γ1 ok1 S1 p1 h1 => ?_
  refine sb F σ H1 Γ1 _ _ S1 h1 fun v2 o2 H2 Γ2 ok2 S2 p2 h2 => ?_
  obtain ⟨d1, q1, h3⟩ := (ok1.keep p2 S1).rep S2 h2
  obtain ⟨d2, q2, h4⟩ := ok2.rep S2 h3
  refine hs _ _ _ _ _ _ _ _ (fun a => S2.own_there) q1 q2 h4 fun v d H' sm rp q => ?_
  have S2' := S2.ext sm
  have p12 := p1.trans (p2.trans (PresE.ext (Γ := Γ2) sm))
  cases d with
  | bool b =>
    cases rp
    refine ⟨b, rfl, ?_⟩
    cases b with
    | false => rw [if_neg (by decide)]; exact kk (.bl false) (.val (.bool false)) H' Γ2 (.bl false) S2' p12 q
    | true =>
      rw [if_pos rfl]
      have ok2' : OpdOk K F σ H' Γ2 v2 o2 := ok2.keep (.ext sm) S2
      refine sc F σ H' Γ2 _ _ S2' q fun v3 o3 H3 Γ3 ok3 S3 p3 h5 => ?_
      obtain ⟨d3, r3, h6⟩ := (ok2'.keep p3 S2').rep S3 h5
      obtain ⟨d4, r4, h7⟩ := ok3.rep S3 h6
      refine hs2 _ _ _ _ _ _ _ _ (fun a => S3.own_there) r3 r4 h7 fun v d H4 sm2 rp2 q => ?_
      have S3' := S3.ext sm2
      have p13 := p12.trans (p3.trans (PresE.ext (Γ := Γ3) sm2))
      cases d with
      | bool b =>
        cases rp2
        refine ⟨b, rfl, ?_⟩
        cases b with
        | false => rw [if_neg (by decide)]; exact kk (.bl false) (.val (.bool false)) H4 Γ3 (.bl false) S3' p13 q
        | true =>
          rw [if_pos rfl]
          have ok3' : OpdOk K F σ H4 Γ3 v3 o3 := ok3.keep (.ext sm2) S3
          refine sd F σ H4 Γ3 _ _ S3' q fun v5 o5 H5 Γ5 ok5 S5 p5 h8 => ?_
          obtain ⟨d6, r6, h9⟩ := (ok3'.keep p5 S3').rep S5 h8
          obtain ⟨d7, r7, h10⟩ := ok5.rep S5 h9
          exact hs3 _ _ _ _ _ _ _ _ (fun a => S5.own_there) r6 r7 h10 fun v d H6 sm rp q => kk v (.val d) H6 Γ5 rp (S5.ext sm) (p13.trans (p5.trans (.ext sm))) q
      | _ => exact q.elim
  | _ => exact q.elim
/-- list(range(n)) -/
def dLRng (d : DT) : DT := fun Γ Q => d Γ fun x Γ1 => x.wd Γ1 fun v => match v with
  | .int n => (0 ≤ n ∧ n ≤ 16777216) ∧ Q (.val (.list (rangeD 0 n.toNat))) Γ1
  | _ => False
/-- {k: e}, k written -/
def dDic1 (k : Key) (d : DT) : DT := fun Γ Q => d Γ fun x Γ1 => x.wd Γ1 fun v => Q (.val (.dict [(keyD k, v)])) (x.frz Γ1)
/-- d[k], d of one entry -/
def fDG1 : F2 := fun a b Q => match a, b with
  | .dict [(.int n, v)], .int m => n = m ∧ Q v
  | _, _ => False
def rDG (K : PySem.W.Frag) : R2 := fun x y H Q => ∃ a v, x = .ref a ∧ DGet H a y (some v) ∧ Q v H
theorem ops_dg (K : PySem.W.Frag) : OpS K (rDG K) fDG1 := by
  intro O H x y dx dy Qd R hO rx ry h kk
  unfold fDG1 at h
  split at h
  · rename_i n v m
    obtain ⟨rfl, h⟩ := h
    obtain rfl := ry.int
    obtain ⟨a, kvs, ds, rfl, h1, h2, h3⟩ := rx.dic
    match kvs, ds, h2, h3, h1 with
    | [(k, u)], [d], h2, .cons r .nil, h1 =>
      simp only [List.map_cons, List.map_nil, List.zip_cons_cons, List.zip_nil_right, List.cons.injEq, Prod.mk.injEq, and_true] at h2
      obtain ⟨h4, rfl⟩ := h2
      cases k with
      | inl i => cases h4; exact ⟨a, u, rfl, .inl ⟨_, .inl n, .inl h1, rfl, by simp [valV, List.find?_cons]⟩, kk _ _ H (Same.refl H) r h⟩
      | inr z => cases h4
    | [], [], h2, _, _ => cases h2
    | _ :: _ :: _, _ :: _ :: _, h2, _, _ => simp at h2
  · exact h.elim
/-- x, y = e, [] : y its own list -/
def dParO (i j : Nat) (d : DT) : DTS := fun D Γ => d Γ fun x Γ1 => x.wd Γ1 fun v => D.nx (((x.frz Γ1).set i (SV.dat false v)).set j (SV.dat true (.list [])))
section
variable {ι : Type} {Xs : ι → Cx} {P : Program} {w : World} {K : PySem.W.Frag} {mg : Str → Option Value} {base : Heap} {k : Nat} {e a b c d2 ea eb : Expr} {d da db dc dd : DT} {pos p p1 p2 p3 pos2 px py pt pt2 q1 : Pos} {n kt k2 : Nat}
theorem dx_two (E : EnvOk Xs P w K mg base k) (h : DX Xs K e d) : DX Xs K (.Subscript e (.Slice none none (some (.Constant (.int 2) n p1)) p3) pos) (dC1 fTwo d) := by
  obtain ⟨t, pa, s⟩ := h
  refine ⟨tTwo K t, fun i => by rw [← E.K i]; exact pe_two (pa i), ?_⟩
  intro F σ H Γ Q R S h kk
  refine s F σ H Γ _ _ S h fun v o H1 Γ1 ok1 S1 p1 h1 => ?_
  obtain ⟨d1, r1, h2⟩ := ok1.rep S1 h1
  unfold fTwo at h2
  split at h2
  · obtain ⟨a, xs, rfl, ha, ra⟩ := r1.tup
    exact ⟨a, xs, rfl, ha.sq, fun p hp => kk _ (.val (.tuple _)) _ Γ1 (newTup hp (S1.fresh hp) ra.twos) (S1.ext (same_upd hp)) (p1.trans (.ext (same_upd hp))) h2⟩
  · exact h2.elim
theorem dxt_chn3 {o1 o2 o3 : CmpOp} {r1 r2 r3 : PySem.W.Frag → R2} {f g h : F2} (E : EnvOk Xs P w K mg base k) (h1 : ∀ X : Cx, Room k X.A → OpR X (compareOp o1) (r1 X.K)) (h2 : ∀ X : Cx, Room k X.A → OpR X (compareOp o2) (r2 X.K)) (h3 : ∀ X : Cx, Room k X.A → OpR X (compareOp o3) (r3 X.K)) (s1 : OpS K (r1 K) f) (s2 : OpS K (r2 K) g) (s3 : OpS K (r3 K) h)
    (ha : DX Xs K a da) (hb : DX Xs K b db) (hc : DX Xs K c dc) (hd : DX Xs K d2 dd) (hm : lastMarks [o1, o2, o3] [b, c, d2] = false) : DXT Xs K (.Compare a [o1, o2, o3] [b, c, d2] pos) (dTst (dChn3 f g h da db dc dd)) := by
  obtain ⟨ta, pa, sa⟩ := ha
  obtain ⟨tb, pb, sb⟩ := hb
  obtain ⟨tc, pc, sc⟩ := hc
  obtain ⟨td, pd, sd⟩ := hd
  refine ⟨tTest (tChain3 (r1 K) (r2 K) (r3 K) ta tb tc td), fun i => ?_, sound_tst (sound_chn3 s1 s2 s3 sa sb sc sd)⟩
  rw [← E.K i]
  exact pt_chain3 (h1 _ (E.room i)) (h2 _ (E.room i)) (h3 _ (E.room i)) (pa i) (pb i) (pc i) (pd i) hm
theorem dx_lrng (E : EnvOk Xs P w K mg base k) (hg0 : ∀ i, Gl (Xs i) "list") (hm0 : mg "list" = none) (hg : ∀ i, Gl (Xs i) "range") (hm : mg "range" = none) (h : DX Xs K e d)
    (hs : ∀ i, starEach [e] (Xs i).env = [(false, eval e (Xs i).env)] := by intro _; rfl) (na : ∀ i, starEach [.Call (.Name "range" p) [e] [] pos] (Xs i).env = (false, eval (.Call (.Name "range" p) [e] [] pos) (Xs i).env) :: starEach [] (Xs i).env := by intro _; rfl) :
    DX Xs K (.Call (.Name "list" p2) [.Call (.Name "range" p) [e] [] pos] [] pos2) (dLRng d) := by
  obtain ⟨t, pa, s⟩ := h
  refine ⟨_, fun i => pe_listRg (E.calm i) (hg0 i) (by rw [E.mg i]; exact hm0) (prg_1 (hg i) (by rw [E.mg i]; exact hm) (pa i) (hs i)) (na i), ?_⟩
  intro F σ H Γ Q R S h kk
  refine s F σ H Γ _ _ S h fun v o H1 Γ1 ok1 S1 p1 h1 => ?_
  obtain ⟨d1, r1, h2⟩ := ok1.rep S1 h1
  cases d1 with
  | int n =>
    obtain rfl := r1.int
    obtain ⟨⟨n0, n1⟩, q⟩ := h2
    refine ⟨n, rfl, .of_le (by decide) n1 (by decide) n0, fun p hp => ?_⟩
    refine kk _ (.val (.list (rangeD 0 n.toNat))) _ Γ1 (newLst hp (S1.fresh hp) ?_) (S1.ext (same_upd hp)) (p1.trans (.ext (same_upd hp))) q
    have e1 : rgV 0 n = ((List.range n.toNat).map fun i : Nat => (0 : Int) + (i : Int)).map V.int := by unfold rgV; rw [List.map_map, Int.sub_zero]; rfl
    have e2 : rangeD 0 n.toNat = ((List.range n.toNat).map fun i : Nat => (0 : Int) + (i : Int)).map PyData.int := by unfold rangeD; rw [List.map_map]; rfl
    rw [e1, e2]
    exact rpA_ints _
  | _ => exact h2.elim
theorem dx_dic1 {i0 : Int} {kc : Nat} (h : DX Xs K e d) : DX Xs K (.Dict [some (.Constant (.int i0) kc q1)] [e] pos) (dDic1 (.inl i0) d) := by
  obtain ⟨t, pa, s⟩ := h
  refine ⟨tDisp [(tC (.int i0), t)], fun i => pe_disp (pps_cons pe_int (pa i) pps_nil) rfl rfl (by simp) (by simp), ?_⟩
  intro F σ H Γ Q R S h kk
  intro p hp
  have S0 := S.plus (o := .dK []) hp
  refine s (F.plus p) σ _ Γ _ _ S0 h fun v o H1 Γ1 ok1 S1 p1 h1 => ?_
  obtain ⟨d1, r1, h2⟩ := ok1.given S1 h1
  have nz : ¬ (F.plus p).Z p := fun z => by
    obtain ⟨u, e⟩ := S.trk p (S.zP z)
    rw [hp] at e; cases e
  have np : ¬ F.P p := fun z => by obtain ⟨u, e⟩ := S.trk p z; rw [hp] at e; cases e
  have h0 : H1 p = some (.dK []) := p1.same p _ upd_same nz S0.own_ne
  refine ⟨h0, [(.inl i0, v)], rfl, Nat.le_of_ble_eq_true rfl, ?_⟩
  have e1 : mergeK [] [((Sum.inl i0 : Key), v)] = [(.inl i0, v)] := rfl
  rw [e1]
  have S1' := S1.frz o
  have S2 := S1'.updP (o := .dK [((Sum.inl i0 : Key), v)]) (.inr rfl) nz
  have trk1 : ∀ a u, H a = some u → ∃ u, H1 a = some u := fun a u e => p1.trk a u (same_upd hp a u e)
  have trk2 : ∀ a u, H a = some u → ∃ u, upd H1 p (.dK [((Sum.inl i0 : Key), v)]) a = some u := fun a u e => by
    by_cases z : a = p
    · exact ⟨_, by rw [z]; exact upd_same⟩
    · rw [upd_ne z]; exact trk1 a u e
  have S3 := S2.minus (fun z => np (S.zP z)) (fun a => S.zP) (fun a z => by obtain ⟨u, e⟩ := S.trk a z; exact trk2 a u e)
  refine kk _ (.val (.dict [(keyD (.inl i0), d1)])) _ (o.frz Γ1) ?_ S3 ?_ h2
  · refine .dic (kvs := [(.inl i0, v)]) (ds := [d1]) upd_same (fun z => z.elim np S2.own_ne) (.cons ?_ .nil)
    exact (r1.keep (O' := Own (F.plus p) σ (o.frz Γ1)) fun a u e n => ⟨(upd_ne (fun z : a = p => n (.inl (.inr z)))).trans e, n⟩).anti fun a z => Or.imp .inl id z
  · refine ⟨fun a u e nZ no => ?_, fun a z => p1.own a ((PresE.frz (F := F) (H := H1) o).own a z), trk2⟩
    have ne : a ≠ p := fun z => by rw [z, hp] at e; cases e
    rw [upd_ne ne]
    exact p1.same a u (same_upd hp a u e) nZ no
theorem dx_dg (E : EnvOk Xs P w K mg base k) (h : DX Xs K ea da) (h' : DX Xs K eb db) (hs : NoSl eb := by first | rfl | (intro _ _; rfl) | (intro _; rfl)) : DX Xs K (.Subscript ea eb pos) (dOp fDG1 da db) := by
  obtain ⟨ta, pa, sa⟩ := h
  obtain ⟨tb, pb, sb⟩ := h'
  refine ⟨tOp (rDG K) ta tb, fun i => ?_, sound_op (ops_dg K) sa sb⟩
  exact pe_dget (by have := (E.room i).un; omega) (pa i) (pb i) hs
theorem ds_parO (i j : Nat) {x y : Str} (E : EnvOk Xs P w K mg base k) (hn : ∀ i, (Xs i).N.Nodup) (ha : DX Xs K a d) (hi : ∀ z, (Xs z).N[i]? = some x := by intro _; rfl) (hj : ∀ z, (Xs z).N[j]? = some y := by intro _; rfl) (hij : i ≠ j := by decide)
    (hx : ∀ z, (Xs z).env.scope.names.lookup x = some .local := by intro _; rfl) (hy : ∀ z, (Xs z).env.scope.names.lookup y = some .local := by intro _; rfl)
    (h1 : ∀ z, starEach [a, .List [] p3] (Xs z).env = (false, eval a (Xs z).env) :: starEach [.List [] p3] (Xs z).env := by intro _; rfl)
    (hw : ∀ z, swappedStores [.Tuple [.Name x px, .Name y py] kt pt] (.Tuple [a, .List [] p3] k2 pt2) (Xs z).env = pure (some [x, y]) := by intro _; rfl)
    (hs : ∀ z, swapsWithSole [.Tuple [.Name x px, .Name y py] kt pt] (.Tuple [a, .List [] p3] k2 pt2) pos.line (Xs z).env = pure false := by intro _; rfl) :
    DXS Xs K (.Assign [.Tuple [.Name x px, .Name y py] kt pt] (.Tuple [a, .List [] p3] k2 pt2) pos) (dParO i j d) := by
  obtain ⟨t, pa, s⟩ := ha
  refine ⟨tPar i j (tCons t (tCons (tLst tNil) tNil)), fun z => ps_par (E.calm z) (hn z) (hi z) (hj z) hij (hx z) (hy z) (pa_cons (pa z) (pa_cons (pe_lst pa_nil) pa_nil) (h1 z)) (hw z) (hs z), ?_⟩
  intro F σ H Γ D Ee S h ee
  refine s F σ H Γ _ _ S h fun v o H1 Γ1 ok1 S1 p1 hh => ?_
  obtain ⟨d1, r1, q⟩ := ok1.given S1 hh
  have S1' := S1.frz o
  refine ⟨by decide, fun p hp => ?_⟩
  have np : ¬ F.P p := fun z => by obtain ⟨u, e⟩ := S1.trk p z; rw [hp] at e; cases e
  have S2 := S1'.plus (o := .lst []) hp
  have r2 : Rp K (Own (F.plus p) σ (o.frz Γ1)) (upd H1 p (.lst [])) v d1 := r1.keep fun a u e n => ⟨same_upd hp a u e, fun z => by
    rcases z with (z | z) | z
    · exact n (.inl z)
    · subst z; rw [hp] at e; cases e
    · exact n (.inr z)⟩
  have S3 := S2.put i r2
  have S4 := StOk.putOwn S3 j np (fun a => S1.zP) (d := .list []) (.inl ⟨[], [], rfl, upd_same, .nil⟩)
  refine ⟨_, _, rfl, ee.nx _ _ _ S4 ⟨fun a u e nZ no => ?_⟩ q⟩
  have e1 : H1 a = some u := p1.same a u e nZ no
  have ne : a ≠ p := fun z => by rw [z, hp] at e1; cases e1
  refine ⟨by rw [upd_ne ne]; exact e1, fun z => ?_⟩
  rcases own_putO z with z | z
  · exact ne z
  · exact no (p1.own a ((PresE.frz (F := F) (H := H1) o).own a (own_put S1'.len z)))
end
end DL
end
section
set_option autoImplicit false
set_option linter.all false
set_option maxRecDepth 100000
set_option maxHeartbeats 4000000
/-! xs.index(m), xs a list of ints -/
namespace DL
open PySem PySem.Spec L2
def rIdx (K : PySem.W.Frag) : V → List V → Hp → VK → Prop := fun x xs H Q => ∃ (a : Addr) (ns : List Int) (m : Int), x = V.ref a ∧ xs = [.int m] ∧ SqL K H a (ns.map V.int) ∧ m ∈ ns ∧ Q (.int (ns.idxOf m : Nat)) H
theorem before_idx {m : Int} : ∀ (ns : List Int) (j : Nat) (n : Int), j < ns.idxOf m → ns[j]? = some n → n ≠ m
  | [], j, n, h, e => by simp at e
  | k :: ns, 0, n, h, e => by
    rintro rfl
    simp at e; subst e
    rw [List.idxOf_cons_self] at h; exact absurd h (Nat.lt_irrefl _)
  | k :: ns, j + 1, n, h, e => by
    by_cases z : k = m
    · subst z; rw [List.idxOf_cons_self] at h; exact absurd h (Nat.not_lt_zero _)
    · have h2 : (k :: ns).idxOf m = ns.idxOf m + 1 := by
        rw [List.idxOf_cons]
        have : (k == m) = false := beq_eq_false_iff_ne.mpr z
        rw [this]; rfl
      exact before_idx ns j n (by omega) (by simpa using e)
theorem mt_idx {X : Cx} : MtR X "list.index" (rIdx X.K) := by
  intro pins s σ H x xs v us Q I rx rxs h
  obtain ⟨a, ns, m, rfl, rfl, hl, hm, q⟩ := h
  have lt : ns.idxOf m < ns.length := List.idxOf_lt_length_iff.mpr hm
  refine mt_index pins s σ H (V.ref a) [.int m] v us Q I rx rxs ⟨a, ns.map V.int, .int m, ns.idxOf m, .int m, rfl, rfl, hl, rfl, ?_, ?_, ?_, ?_, q⟩
  · rw [List.all_eq_true]
    intro z hz
    obtain ⟨n, _, rfl⟩ := List.mem_map.mp hz
    rfl
  · rw [List.getElem?_map, List.getElem?_eq_getElem lt, List.getElem_idxOf lt]; rfl
  · exact beq_self_eq_true m
  · intro j z hj hz
    rw [List.getElem?_map] at hz
    cases e : ns[j]? with
    | none => rw [e] at hz; cases hz
    | some n =>
      rw [e] at hz; cases hz
      have ne : n ≠ m := before_idx ns j n hj e
      exact beq_eq_false_iff_ne.mpr ne
def lstP : PyData → Prop
  | .list _ => True
  | _ => False
def dIndex (da db : DT) : DT := fun Γ Q => da Γ fun x Γ1 => x.wd Γ1 lstP ∧ db Γ1 fun y Γ2 => x.wd Γ2 fun a => y.wd Γ2 fun b => match a, b with
  | .list ds, .int m => match intsD ds with
    | some ns => m ∈ ns ∧ Q (.val (.int (ns.idxOf m : Nat))) Γ2
    | none => False
  | _, _ => False
section
variable {ι : Type} {Xs : ι → Cx} {P : Program} {w : World} {K : PySem.W.Frag} {mg : Str → Option Value} {base : Heap} {k : Nat} {o e : Expr} {da db : DT} {apos cpos : Pos}
theorem dx_index (E : EnvOk Xs P w K mg base k) (ho : DX Xs K o da) (he : DX Xs K e db)
    (hbase : ∀ i, attributeBase o "index" (Xs i).env (eval o (Xs i).env) = eval o (Xs i).env := by intro _; rfl)
    (hfew : ∀ i, ((backTo cpos (starEach [e] (Xs i).env)).all (fun x => !x.1) && (backToKw cpos (keywordEach [] (Xs i).env)).all (fun x => x.1.isSome)
      && decide (([e] : List Expr).length + ([] : List Keyword).length + (if ([] : List Keyword).isEmpty then 0 else 1) < 30)) = true := by intro _; rfl)
    (hline : (apos.endLine == cpos.line) = true := by rfl) (hs : ∀ i, starEach [e] (Xs i).env = (false, eval e (Xs i).env) :: starEach [] (Xs i).env := by intro _; rfl) (hplain : ∀ i, (backTo cpos (starEach [] (Xs i).env)).any (·.1) = false := by intro _; rfl) :
    DX Xs K (.Call (.Attribute o "index" apos) [e] [] cpos) (dIndex da db) := by
  obtain ⟨t, pa, s⟩ := ho
  obtain ⟨t2, pa2, s2⟩ := he
  refine ⟨tBM K "list" (rIdx K) t (tCons t2 tNil), fun i => ?_, ?_⟩
  · rw [← E.K i]
    exact pe_bm PySem.F.plainAttrs_list PySem.F.slot_list_index PySem.F.type_list_index mt_idx (pa i) (pa_cons (pa2 i) pa_nil (hs i)) (hbase i) (hfew i) hline (hs i) (hplain i)
  intro F σ H Γ Q R S h kk
  refine s F σ H Γ _ _ S h fun v o1 H1 Γ1 ok1 S1 p1 h1 => ?_
  obtain ⟨h0, h1⟩ := h1
  obtain ⟨d0, r0, i0⟩ := ok1.rep S1 h0
  have ty : tyV K "list" v H1 := by
    cases d0 with
    | list ds => obtain ⟨a, xs, rfl, ha, _⟩ := r0.lst; exact .inl ⟨rfl, xs, .of ha⟩
    | _ => exact i0.elim
  refine ⟨ty, s2 F σ H1 Γ1 _ _ S1 h1 fun v2 o2 H2 Γ2 ok2 S2 p2 h2 => ?_⟩
  obtain ⟨d1, r1, h3⟩ := (ok1.keep p2 S1).rep S2 h2
  obtain ⟨d2, r2, h4⟩ := ok2.rep S2 h3
  split at h4
  · rename_i ds m
    split at h4
    · rename_i ns en
      obtain ⟨hm, q⟩ := h4
      obtain rfl := intsD_is en
      obtain ⟨a, xs, rfl, ha, ra⟩ := r1.lst
      obtain rfl := ra.ints
      obtain rfl := r2.int
      exact ⟨a, ns, m, rfl, rfl, .of ha, hm, kk _ (.val (.int _)) H2 Γ2 (.int _) S2 (p1.trans p2) q⟩
    · exact h4.elim
  · exact h4.elim
end
end DL
end
section
set_option autoImplicit false
set_option linter.all false
set_option maxRecDepth 100000
set_option maxHeartbeats 4000000
/-! DLK: exceptions of the program as values: made, asked for their class, their fields read. -/
namespace DL
open PySem PySem.Spec L2 Evl
/-- what the written part says of a class of exceptions -/
structure XcC (K : PySem.W.Frag) (C : Addr) : Prop where
  T : OexC K C
  cl : (PySem.W.clsIn K C).isSome = true
  hd : PySem.W.hasDictIn K C = true
  ga : PySem.W.findIn K (.ref C) "__getattribute__" = some (some (.builtin "BaseException.__getattribute__"))
  gg : PySem.W.findIn K (.ref C) "__getattr__" = some none
  ca : PySem.W.findIn K (.ref C) "__class__" = some (some (.builtin "object.__class__"))
  cn : PySem.W.specialIn K (.builtin "object.__class__") "__get__" = some (some (.builtin "getset_descriptor.__get__"))
  ct : PySem.W.takesIn K (.builtin "object.__class__") = some true
  cm : PySem.W.mroIn K C (.type "object") = some true
/-- at a: an exception of the class at C with these fields, the last one stored ahead -/
def XcAt (H : Hp) (a C : Addr) (fs : List (Str × V)) : Prop := (fs = [] ∧ H a = some (exo a C none)) ∨ ∃ d, H a = some (exo a C (some d)) ∧ H d = some (exd d fs)
theorem XcAt.ex {H H' : Hp} {a C : Addr} {fs : List (Str × V)} (h : XcAt H a C fs) (e : Ex H H') : XcAt H' a C fs := by
  rcases h with ⟨h1, h2⟩ | ⟨d, h1, h2⟩
  · exact .inl ⟨h1, e _ _ h2⟩
  · exact .inr ⟨d, e _ _ h1, e _ _ h2⟩
/-- a list or a dict is written: it stays -/
theorem exo_lst {e C : Addr} {d : Option Addr} {xs : List V} : exo e C d ≠ .lst xs := fun z => by
  have z' : HO.ext _ = HO.lst xs := z
  cases z'
theorem exo_dK {e C : Addr} {d : Option Addr} {xs : List (Key × V)} : exo e C d ≠ .dK xs := fun z => by
  have z' : HO.ext _ = HO.dK xs := z
  cases z'
theorem exd_lst {e : Addr} {fs : List (Str × V)} {xs : List V} : exd e fs ≠ .lst xs := fun z => by
  have z' : HO.ext _ = HO.lst xs := z
  cases z'
theorem exd_dK {e : Addr} {fs : List (Str × V)} {xs : List (Key × V)} : exd e fs ≠ .dK xs := fun z => by
  have z' : HO.ext _ = HO.dK xs := z
  cases z'
theorem XcAt.writeL {H : Hp} {a C l : Addr} {fs : List (Str × V)} {xs : List V} {o : HO} (h : XcAt H a C fs) (hl : H l = some (.lst xs)) : XcAt (upd H l o) a C fs := by
  rcases h with ⟨h1, h2⟩ | ⟨d, h1, h2⟩
  · exact .inl ⟨h1, by rw [upd_ne (at_ne hl h2 (Ne.symm exo_lst))]; exact h2⟩
  · exact .inr ⟨d, by rw [upd_ne (at_ne hl h1 (Ne.symm exo_lst))]; exact h1, by rw [upd_ne (at_ne hl h2 (Ne.symm exd_lst))]; exact h2⟩
theorem XcAt.writeD {H : Hp} {a C l : Addr} {fs : List (Str × V)} {xs : List (Key × V)} {o : HO} (h : XcAt H a C fs) (hl : H l = some (.dK xs)) : XcAt (upd H l o) a C fs := by
  rcases h with ⟨h1, h2⟩ | ⟨d, h1, h2⟩
  · exact .inl ⟨h1, by rw [upd_ne (at_ne hl h2 (Ne.symm exo_dK))]; exact h2⟩
  · exact .inr ⟨d, by rw [upd_ne (at_ne hl h1 (Ne.symm exo_dK))]; exact h1, by rw [upd_ne (at_ne hl h2 (Ne.symm exd_dK))]; exact h2⟩
section
variable {X : Cx} {pins : List (Addr × Obj)} {σ : L2.St} {H : Hp} {s : Shared} {a C : Addr} {fs : List (Str × V)}
theorem xc_inst (I : Inv X pins σ H s) (h : XcAt H a C fs) : ∃ oe od, PySem.W.InstAt s.heap a oe C od := by
  rcases h with ⟨_, e⟩ | ⟨d, e, ed⟩
  · obtain ⟨t1, ho⟩ := exo_at I.hok e
    exact ⟨{ cls := .ref C, dict := none, data := .fields #[.ref t1, .none, .none, .none, .bool false, .none] }, none, ho, rfl, rfl, trivial⟩
  · obtain ⟨t1, ho⟩ := exo_at I.hok e
    obtain ⟨mA, hns, _⟩ := exd_at I.hok ed
    obtain ⟨od, hod, _⟩ := lookIn_ns hns
    exact ⟨{ cls := .ref C, dict := some d, data := .fields #[.ref t1, .none, .none, .none, .bool false, .none] }, some od, ho, rfl, rfl, hod⟩
end
/-! ### isinstance -/
def rIsX (K : PySem.W.Frag) : List V → Hp → VK → Prop := fun xs H Q => ∃ (a D : Addr) (fs : List (Str × V)) (c : V) (u : Value) (b : Bool), xs = [.ref a, c] ∧ ClsV c u ∧ XcAt H a D fs ∧ XcC K D ∧ PySem.W.kitOne K (.ref D) u = some b ∧ Q (.bl b) H
theorem call_isX {X : Cx} : CallR X (.builtin "isinstance") (rIsX X.K) := by
  intro pins s σ H xs us Q I r h
  obtain ⟨a, D, fs, c, u, b, rfl, k, hx, T, e, q⟩ := h
  obtain ⟨u1, u2, rfl, r1, r2⟩ := vals2 r
  have e2 := k.eq r2
  subst e2
  cases (show u1 = Value.ref a from r1)
  obtain ⟨oe, od, J⟩ := xc_inst I hx
  exact PySem.W.kia_one (PySem.W.kitx_exc (gt := none) T.cl T.ga T.gg T.T.exC T.ca T.cn T.ct T.cm) I.kIn J e (fun z => nomatch z) fun tk => ⟨.bl b, H, I.tok tk, rfl, q⟩
theorem rc_isX {K : PySem.W.Frag} {a D : Addr} {fs : List (Str × V)} {c : V} {u : Value} {b : Bool} {H : Hp} (k : ClsV c u) (hx : XcAt H a D fs) (T : XcC K D) (e : PySem.W.kitOne K (.ref D) u = some b) : RC (rIsX K) [.ref a, c] H (.bl b) :=
  fun H1 e1 Q q => ⟨a, D, fs, c, u, b, rfl, k, hx.ex e1, T, e, q H1 (Ex.refl _)⟩
/-! ### fields -/
def tXg (K : PySem.W.Frag) (n : Str) (te : TE) : TE := fun σ H Q => te σ H fun x H1 => ∃ (a C : Addr) (fs : List (Str × V)) (v : V), x = .ref a ∧ XcAt H1 a C fs ∧ XcC K C ∧ PySem.W.findIn K (.ref C) n = some none ∧ fs.lookup n = some v ∧ Q v H1
theorem pe_xg {X : Cx} {e : Expr} {te : TE} {pos : Pos} {n : Str} (he : PE X e te) (hb : attributeBase e n X.env (eval e X.env) = eval e X.env := by rfl) : PE X (.Attribute e n pos) (tXg X.K n te) := by
  refine ⟨fun pins s σ H Q I h => ?_⟩
  refine attr_of hb (thn (he.run pins s σ H _ I h) fun u s1 hh => ?_)
  obtain ⟨x, H1, I1, rx, a, C, fs, v, ex, hx, T, hno, l, q⟩ := hh
  subst ex
  obtain rfl : u = Value.ref a := rx
  rcases hx with ⟨rfl, _⟩ | ⟨d, ea, ed⟩
  · cases l
  obtain ⟨t1, ho⟩ := exo_at I1.hok ea
  obtain ⟨mA, hns, hr⟩ := exd_at I1.hok ed
  obtain ⟨od, hod, hl⟩ := lookIn_ns hns
  obtain ⟨u, hu, ru⟩ := RelO.some_of (v := v) (o := mA n) (by rw [← l]; exact hr n)
  have J : PySem.W.InstAt s1.heap a { cls := .ref C, dict := some d, data := .fields #[.ref t1, .none, .none, .none, .bool false, .none] } C (some od) := ⟨ho, rfl, rfl, hod⟩
  exact HandSPX.exc_get I1.kIn J T.ga T.gg T.T.exC (PySem.W.findObj_own T.hd hno rfl (by rw [hl, hu])) (handed_of ru) ⟨v, H1, I1.tok _, ru, q⟩
theorem ev_xg {K : PySem.W.Frag} {σ : L2.St} {H : Hp} {te : TE} {n : Str} {a C : Addr} {fs : List (Str × V)} {v : V} (h : Ev te σ H (.ref a)) (hx : XcAt H a C fs) (T : XcC K C) (hno : PySem.W.findIn K (.ref C) n = some none) (l : fs.lookup n = some v) : Ev (tXg K n te) σ H v :=
  fun H1 e Q q => h H1 e _ fun H2 e2 => ⟨a, C, fs, v, rfl, (hx.ex e).ex e2, T, hno, l, q H2 e2⟩
/-! ### made -/
/-- C(e, ..), C's own __init__ keeping sp: the exception as a value -/
def tMkX (C : Addr) (sp : Sp) (ta : TA) : TE := fun σ H Q => ta σ H fun vs H1 => vs.length ≤ 1000 ∧ ∀ a, H1 a = none → sp (.ref a :: vs) (upd H1 a (exo a C none)) (fun v H2 => v = .non ∧ Q (.ref a) H2) E0
section
variable {X : Cx} {e : Expr} {es : List Expr} {ta : TA} {x : Str} {C fI : Addr} {k : Nat} {fd : FuncData} {ps : List Str} {sp : Sp} {p pos : Pos}
theorem pe_mkX (T : OexC X.K C) (iC : PySem.W.findIn X.K (.ref C) "__init__" = some (some (.ref fI))) (tI : PySem.W.typeIn X.K (.ref fI) = some (.type "function"))
    (F1 : FnG X.prog X.w X.K X.mg X.base k fI fd ps sp) (hr : Room (k + 1) X.A) (gu : X.A.guards = some []) (hb : Binds X.K fd ps []) (hg : Gl X x) (hm : X.mg x = some (.ref C)) (ha : PA X (e :: es) ta)
    (hdb : (x == ("__debug__" : Str)) = false := by decide) (he : starEach (e :: es) X.env = (false, eval e X.env) :: starEach es X.env := by rfl) (hpl : (backTo pos (starEach es X.env)).any (·.1) = false := by rfl) :
    PE X (.Call (.Name x p) (e :: es) [] pos) (tMkX C sp ta) := by
  refine ⟨fun pins s σ H Q I h => ?_⟩
  obtain ⟨nm, q, N, bs, bm, sn, sub, ab, col, dd, k0, k1, k2, k3, k5, hC, hbm⟩ := T.cls
  refine wpAny_Call_Name_kw (ld_glob I hg hm ?_ hdb)
  refine PySem.W.callWith_K (h₀ := X.base) I.ok.mod.kin T.kC (thn (ha.run pos pins s σ H _ I h) fun us s1 ⟨vs, H1, I1, r1, hz, q1⟩ => ⟨I1.kIn, ?_⟩) he hpl
  show wpAny _ _ (call (.ref C) us) _ _ _
  obtain ⟨hp, g, dr, tk, os⟩ := s1
  have hsz : hp.objs.size ≤ hp.objs.size + 1 := Nat.le_succ _
  have hn : H1 (hp.objs.size + 1) = none := I1.hok.fresh hsz
  have hq := q1 (hp.objs.size + 1) hn
  have kk : ∀ b o, hp.get? b = some o → ((hp.push (PySem.W.kdv_tup us)).push (PySem.HandSPX.excO C hp.objs.size)).get? b = some o := fun b o e => Heap.get?_push_of_some _ (Heap.get?_push_of_some _ e)
  have hget : ((hp.push (PySem.W.kdv_tup us)).push (PySem.HandSPX.excO C hp.objs.size)).get? (hp.objs.size + 1) = some (PySem.HandSPX.excO C hp.objs.size) := by heap_get
  have J2 : Inv X pins σ (upd H1 (hp.objs.size + 1) (exo (hp.objs.size + 1) C none)) ⟨(hp.push (PySem.W.kdv_tup us)).push (PySem.HandSPX.excO C hp.objs.size), g, dr, tk, os⟩ :=
    I1.laid (t' := tk) (a := hp.objs.size + 1) (o := exo (hp.objs.size + 1) C none) (h' := (hp.push (PySem.W.kdv_tup us)).push (PySem.HandSPX.excO C hp.objs.size)) kk hsz (exo_ok hget)
  have r2 : Vals (V.ref (hp.objs.size + 1) :: vs) (Value.ref (hp.objs.size + 1) :: us) := .cons rfl r1
  have hl : (Value.ref (hp.objs.size + 1) :: us).length = ps.length := r2.length.symm.trans (F1.len _ _ _ _ hq)
  have hus : us.length ≤ sizeLine := by
    rw [← Paired.length r1, sizeLine_eq]
    omega
  have bd := hb ⟨(hp.push (PySem.W.kdv_tup us)).push (PySem.HandSPX.excO C hp.objs.size), g, dr, tk, os⟩ (Value.ref (hp.objs.size + 1) :: us) J2.kIn (by rw [List.append_nil]; exact hl)
  rw [List.append_nil] at bd
  refine wpAny_call (PySem.HandSPX.call_own F.excBase_ValueError (fun Y => PySem.HandSPX.refsVE_contains Y bm hbm) (I1.kIn _ _ hC) (PySem.W.looks_findIn I1.kIn iC) (fun self => PySem.W.bind_fn I1.kIn self tI) hus
    (codeAny_mono (F1.run _ X.stack _ _ ⟨Value.ref (hp.objs.size + 1) :: us, []⟩ (Value.ref (hp.objs.size + 1) :: us) _ _ (hr.make C us []) gu (J2.env0.make C us []) bd r2 hq) fun r s' hq' => ?_))
  cases r with
  | error er => exact False.elim hq'
  | ok fl =>
    cases fl with
    | ret u =>
      obtain ⟨v, H2, J, rv, ev, q2⟩ := J2.after hq'
      subst ev
      exact ⟨rv, .ref (hp.objs.size + 1), H2, J, rfl, q2⟩
    | next => exact False.elim hq'
    | brk => exact False.elim hq'
    | cont => exact False.elim hq'
/-- C(), C without an __init__ of its own -/
def tMk0 (C : Addr) : TE := fun σ H Q => ∀ a, H a = none → Q (.ref a) (upd H a (exo a C none))
theorem pe_mk0 (T : OexC X.K C) (iC : PySem.W.findIn X.K (.ref C) "__init__" = some (some (.builtin "ValueError.__init__"))) (hg : Gl X x) (hm : X.mg x = some (.ref C)) (hdb : (x == ("__debug__" : Str)) = false := by decide) :
    PE X (.Call (.Name x p) [] [] pos) (tMk0 C) := by
  refine ⟨fun pins s σ H Q I h => ?_⟩
  obtain ⟨nm, q, N, bs, bm, sn, sub, ab, col, dd, k0, k1, k2, k3, k5, hC, hbm⟩ := T.cls
  refine wpAny_Call_Name_kw (ld_glob I hg hm ?_ hdb)
  refine PySem.W.callWith_K0 I.kIn T.kC ?_
  obtain ⟨hp, g, dr, tk, os⟩ := s
  refine PySem.W.call_B F.excBase_ValueError (fun Y => PySem.HandSPX.refsVE_contains Y bm hbm) (I.kIn _ _ hC) (PySem.W.looks_findIn I.kIn iC) (Nat.zero_le _) fun h' k he ht => ?_
  have hsz : hp.objs.size ≤ hp.objs.size + 1 := Nat.le_succ _
  exact ⟨.ref (hp.objs.size + 1), upd H (hp.objs.size + 1) (exo (hp.objs.size + 1) C none), I.laid (t' := tk) k hsz (exo_ok he), rfl, h _ (I.hok.fresh hsz)⟩
end
end DL
end
section
set_option autoImplicit false
set_option linter.all false
set_option maxRecDepth 100000
set_option maxHeartbeats 4000000
/-! DLK2: what the making of exceptions comes to; == of lists and tuples of the same objects. -/
namespace DL
open PySem PySem.Spec L2 Evl
/-- what an __init__ of these fields promises -/
def spIn (C : Addr) (ns : List Str) : Sp := fun vs H Q _ => ∃ (a : Addr) (ws : List V), vs = .ref a :: ws ∧ ws.length = ns.length ∧ H a = some (exo a C none) ∧
  ∀ H2, (∀ b o, H b = some o → b ≠ a → H2 b = some o) → XcAt H2 a C (ns.zip ws).reverse → Q .non H2
def EvX (te : TE) (σ : L2.St) (H : Hp) (C : Addr) (fs : List (Str × V)) : Prop := ∀ H1, Ex H H1 → ∀ Q : VK, (∀ a H2, Ex H1 H2 → XcAt H2 a C fs → Q (.ref a) H2) → te σ H1 Q
def XcL (H : Hp) (as : List Addr) (cf : List (Addr × List (Str × V))) : Prop := Paired (fun a p => XcAt H a p.1 p.2) as cf
def EvXA (ta : TA) (σ : L2.St) (H : Hp) (cf : List (Addr × List (Str × V))) : Prop := ∀ H1, Ex H H1 → ∀ Q : List V → Hp → Prop, (∀ as H2, Ex H1 H2 → XcL H2 as cf → Q (as.map V.ref) H2) → ta σ H1 Q
section
variable {σ : L2.St} {H H' : Hp} {C : Addr} {fs : List (Str × V)} {as bs : List Addr} {cf cf2 : List (Addr × List (Str × V))} {ta tr : TA} {te : TE} {vs : List V} {K : PySem.W.Frag} {D : Ends}
theorem evx_mk {ns : List Str} (h : EvA ta σ H vs) (hl : vs.length = ns.length) (hs : vs.length ≤ 1000) : EvX (tMkX C (spIn C ns) ta) σ H C (ns.zip vs).reverse := fun H1 e Q q => h H1 e _ fun H2 e2 => ⟨hs, fun a ha => ⟨a, vs, rfl, hl, upd_same, fun H3 k3 hx => ⟨rfl, q a H3 (fun b o hb => by
  have hba : b ≠ a := fun z => by
    have := e2 b o hb
    rw [z, ha] at this; cases this
  exact k3 b o (by rw [upd_ne hba]; exact e2 b o hb) hba) hx⟩⟩⟩
theorem evx_mk0 : EvX (tMk0 C) σ H C [] := fun H1 e Q q a ha => q a _ (Ex.new ha) (.inl ⟨rfl, upd_same⟩)
theorem XcL.ex (h : XcL H as cf) (e : Ex H H') : XcL H' as cf := by
  induction h with
  | nil => exact .nil
  | cons r _ ih => exact .cons (r.ex e) ih
theorem XcL.writeL {l : Addr} {xs : List V} {o : HO} (h : XcL H as cf) (hl : H l = some (.lst xs)) : XcL (upd H l o) as cf := by
  induction h with
  | nil => exact .nil
  | cons r _ ih => exact .cons (r.writeL hl) ih
theorem XcL.writeD {l : Addr} {xs : List (Key × V)} {o : HO} (h : XcL H as cf) (hl : H l = some (.dK xs)) : XcL (upd H l o) as cf := by
  induction h with
  | nil => exact .nil
  | cons r _ ih => exact .cons (r.writeD hl) ih
theorem XcL.append (h : XcL H as cf) (g : XcL H bs cf2) : XcL H (as ++ bs) (cf ++ cf2) := by
  induction h with
  | nil => exact g
  | cons r _ ih => exact .cons r ih
theorem XcL.length (h : XcL H as cf) : as.length = cf.length := paired_length h
theorem XcL.at_ (h : XcL H as cf) {i : Nat} {p : Addr × List (Str × V)} (e : cf[i]? = some p) : ∃ a, as[i]? = some a ∧ XcAt H a p.1 p.2 := paired_get h e
theorem evxa_nil : EvXA tNil σ H [] := fun H1 _ Q q => q [] H1 (Ex.refl _) .nil
theorem evxa_cons (h : EvX te σ H C fs) (hr : EvXA tr σ H cf) : EvXA (tCons te tr) σ H ((C, fs) :: cf) := fun H1 e Q q => h H1 e _ fun a H2 e2 hx => hr H2 (e.trans e2) _ fun as H3 e3 hl => q (a :: as) H3 (e2.trans e3) (.cons (hx.ex e3) hl)
theorem el_lstX (h : EvXA ta σ H cf) (hl : cf.length ≤ 1000) : ∀ H1, Ex H H1 → ∀ Q : VK, (∀ p as H2, H1 p = none → Ex H1 H2 → H2 p = some (.lst (as.map V.ref)) → XcL H2 as cf → Q (.ref p) H2) → tLst ta σ H1 Q :=
  fun H1 e Q q => h H1 e _ fun as H2 e2 hx => ⟨sz_of (by rw [List.length_map, hx.length]; omega), fun p hp => q p as _ (fresh_back e2 hp) (e2.trans (Ex.new hp)) upd_same (hx.ex (Ex.new hp))⟩
theorem s_extX {j : Nat} {l : Addr} {H0 : Hp} (e0 : Ex H0 H) (n0 : H0 l = none) (hσ : σ[j]? = some (some (.ref l))) (hl : H l = some (.lst (as.map V.ref))) (hx : XcL H as cf) (h : EvXA ta σ H cf2) (h1 : cf.length ≤ 1000) (h2 : cf2.length ≤ 1000)
    (k : ∀ as' H', Ex H0 H' → H' l = some (.lst (as'.map V.ref)) → XcL H' as' (cf ++ cf2) → D.nx σ H') : tDrop (tBM K "list" rExtend (tVar j) (tCons (tLst ta) tNil)) D σ H :=
  ⟨.ref l, hσ, .inl ⟨rfl, _, sq_of hl⟩, el_lstX h h2 H (Ex.refl _) _ fun p as2 H2 hp e2 hp2 hx2 => ⟨l, p, as.map V.ref, as2.map V.ref, rfl, rfl, e2 l _ hl, hp2, sz_of (by rw [List.length_map, List.length_map, hx.length, hx2.length]; omega),
    k (as ++ as2) _ (Ex.mut (e0.trans e2) n0) (by rw [upd_same, List.map_append]) (((hx.ex e2).append hx2).writeL (e2 l _ hl))⟩⟩
theorem s_extV {j : Nat} {l : Addr} {H0 : Hp} {xs : List V} (e0 : Ex H0 H) (n0 : H0 l = none) (hσ : σ[j]? = some (some (.ref l))) (hl : H l = some (.lst xs)) (h : EvA ta σ H vs) (h1 : xs.length ≤ 1000) (h2 : vs.length ≤ 1000)
    (k : ∀ H', Ex H0 H' → H' l = some (.lst (xs ++ vs)) → D.nx σ H') : tDrop (tBM K "list" rExtend (tVar j) (tCons (tLst ta) tNil)) D σ H :=
  ⟨.ref l, hσ, .inl ⟨rfl, _, sq_of hl⟩, el_lst h (by omega) H (Ex.refl _) _ fun p H2 hp e2 hp2 => ⟨l, p, xs, vs, rfl, rfl, e2 l _ hl, hp2, sz_of (by omega), k _ (Ex.mut (e0.trans e2) n0) upd_same⟩⟩
theorem s_appV {j : Nat} {l : Addr} {H0 : Hp} {xs : List V} {v : V} (e0 : Ex H0 H) (n0 : H0 l = none) (hσ : σ[j]? = some (some (.ref l))) (hl : H l = some (.lst xs)) (h : Ev te σ H v) (h1 : xs.length ≤ 1000)
    (k : ∀ H', Ex H0 H' → H' l = some (.lst (xs ++ [v])) → D.nx σ H') : tDrop (tBM K "list" rAppend (tVar j) (tCons te tNil)) D σ H :=
  ⟨.ref l, hσ, .inl ⟨rfl, _, sq_of hl⟩, h H (Ex.refl _) _ fun H2 e2 => ⟨l, xs, v, rfl, rfl, e2 l _ hl, sz_lt (by omega), k _ (Ex.mut (e0.trans e2) n0) upd_same⟩⟩
end
/-! ### the same objects, in lists and tuples -/
def EqI (K : PySem.W.Frag) (H : Hp) : Nat → V → V → Prop
  | 0, x, y => ∃ a, x = .ref a ∧ y = .ref a
  | n + 1, x, y => (∃ a, x = .ref a ∧ y = .ref a) ∨ ∃ a b xs ys, x = .ref a ∧ y = .ref b ∧ ((SqL K H a xs ∧ SqL K H b ys) ∨ (SqT K H a xs ∧ SqT K H b ys)) ∧ Paired (EqI K H n) xs ys
theorem EqI.same {K : PySem.W.Frag} {H : Hp} : ∀ (n : Nat) (a : Addr), EqI K H n (.ref a) (.ref a)
  | 0, a => ⟨a, rfl, rfl⟩
  | n + 1, a => .inl ⟨a, rfl, rfl⟩
theorem all_true {n : Nat} : (List.range n).all (fun _ => true) = true := by simp
theorem vals_get : ∀ {xs : List V} {us : List Value}, Vals xs us → ∀ {j : Nat} (h : j < us.length), ∃ x, xs[j]? = some x ∧ RelV x us[j]
  | _, _, .nil, j, h => by simp at h
  | _, _, .cons r t, 0, h => ⟨_, rfl, r⟩
  | _, _, .cons r t, j + 1, h => by simpa using vals_get t (j := j) (by simpa using h)
section
variable {X : Cx} {pins : List (Addr × Obj)} {σ : L2.St} {H : Hp} {s : Shared}
theorem items_at {R : V → V → Prop} {xs ys : List V} {i1 i2 : List Value} {A : Around} (hp : Paired R xs ys) (r1 : Vals xs i1) (r2 : Vals ys i2) (ih : ∀ x y u v, R x y → RelV x u → RelV y v → SeqAt.EqAt A s u v true) :
    ∀ j (h1 : j < i1.toArray.size) (h2 : j < i2.toArray.size), SeqAt.EqAt A s i1.toArray[j] i2.toArray[j] true := fun j h1 h2 => by
  obtain ⟨x, e1, q1⟩ := vals_get r1 (j := j) (by simpa using h1)
  obtain ⟨y, e2, q2⟩ := vals_get r2 (j := j) (by simpa using h2)
  obtain ⟨x', e3, q3⟩ := paired_get hp e2
  rw [e1] at e3; cases e3
  simpa using ih x y _ _ q3 q1 q2
theorem eqI_at (I : Inv X pins σ H s) : ∀ (n : Nat) (x y : V), EqI X.K H n x y → ∀ {u v : Value}, RelV x u → RelV y v → ∀ A : Around, A.units + n < cLine → SeqAt.EqAt A s u v true
  | 0, x, y, h, u, v, ru, rv, A, hu => by
    obtain ⟨a, rfl, rfl⟩ := h
    cases ru; cases rv; exact .same _
  | n + 1, x, y, h, u, v, ru, rv, A, hu => by
    rcases h with ⟨a, rfl, rfl⟩ | ⟨a, b, xs, ys, rfl, rfl, h, hp⟩
    · cases ru; cases rv; exact .same _
    cases ru; cases rv
    by_cases hab : a = b
    · subst hab; exact .same _
    have l3 := paired_length hp
    have hin : A.in1.units + n < cLine := by show A.units + 1 + n < cLine; omega
    rcases h with ⟨h1, h2⟩ | ⟨h1, h2⟩
    · obtain ⟨i1, r1, p1, _⟩ := I.list h1
      obtain ⟨i2, r2, p2, _⟩ := I.list h2
      have l1 := r1.length
      have l2 := r2.length
      have := SeqAt.RcAt.lists (e := fun _ => true) p1.isList p2.isList (by simp; omega) (A := A) (by omega) (items_at hp r1 r2 fun x y u v q ru rv => eqI_at I n x y q ru rv A.in1 hin)
      rw [all_true] at this
      exact .of_refs hab this
    · obtain ⟨i1, r1, ⟨o1, a1, b1, n1, d1⟩, _⟩ := I.tuple h1
      obtain ⟨i2, r2, ⟨o2, a2, b2, n2, d2⟩, _⟩ := I.tuple h2
      have l1 := r1.length
      have l2 := r2.length
      have := SeqAt.RcAt.tuples (e := fun _ => true) (⟨o1, a1, b1, n1, d1⟩ : s.heap.IsTuple a i1.toArray) (⟨o2, a2, b2, n2, d2⟩ : s.heap.IsTuple b i2.toArray) (A := A) (by omega) (items_at hp r1 r2 fun x y u v q ru rv => eqI_at I n x y q ru rv A.in1 hin)
      rw [all_true, Bool.true_and, show (i1.toArray.size == i2.toArray.size) = true from by simp; omega] at this
      exact .of_refs hab this
end
/-- == of two tuples of the same -/
def rEqI (K : PySem.W.Frag) : R2 := fun x y H Q => ∃ a b xs ys, x = .ref a ∧ y = .ref b ∧ SqT K H a xs ∧ SqT K H b ys ∧ Paired (EqI K H 8) xs ys ∧ Q (.bl true) H
theorem op_eqI {X : Cx} {k : Nat} (hr : Room k X.A) : OpR X (compareOp .Eq) (rEqI X.K) := by
  intro pins s σ H x y v u Q I rx ry h
  obtain ⟨a, b, xs, ys, rfl, rfl, h1, h2, hp, q⟩ := h
  cases rx; cases ry
  have hu := hr.units
  have l3 := paired_length hp
  obtain ⟨i1, r1, ⟨o1, a1, b1, n1, d1⟩, _⟩ := I.tuple h1
  obtain ⟨i2, r2, ⟨o2, a2, b2, n2, d2⟩, _⟩ := I.tuple h2
  have l1 := r1.length
  have l2 := r2.length
  refine SeqAt.eq_tupleAt (e := fun _ => true) (⟨o1, a1, b1, n1, d1⟩ : s.heap.IsTuple a i1.toArray) (⟨o2, a2, b2, n2, d2⟩ : s.heap.IsTuple b i2.toArray) (by omega) (items_at hp r1 r2 fun x y u v q ru rv => eqI_at I 8 x y q ru rv X.A.in1 (by show X.A.units + 1 + 8 < cLine; omega)) ?_
  rw [all_true, Bool.true_and, show (i1.toArray.size == i2.toArray.size) = true from by simp; omega]
  exact ⟨.bl true, H, I, rfl, q⟩
end DL
end
section
set_option autoImplicit false
set_option linter.all false
set_option maxRecDepth 100000
set_option maxHeartbeats 4000000
/-! DLK3: a text times a number. -/
namespace DL
open PySem PySem.Spec L2
def rMulS : R2 := fun x y H Q => ∃ z n, x = .str z ∧ y = .int n ∧ MulOk z n ∧ Q (.str (Txt.mul z n)) H
theorem op_mulS {X : Cx} : OpR X (binaryOp .Mult) rMulS := by
  intro pins s σ H x y v u Q I rx ry h
  obtain ⟨z, n, rfl, rfl, hok, q⟩ := h
  obtain ⟨t, rfl⟩ := rx
  obtain ⟨t', rfl⟩ := ry
  exact SB.mul hok fun t2 k => ⟨.str (Txt.mul z n), H, I.tok k, ⟨t2, rfl⟩, q⟩
def fMulS : F2 := fun a b Q => match a, b with
  | .str z, .int n => MulOk z n ∧ Q (.str (Txt.mul z n))
  | _, _ => False
theorem ops_mulS (K : PySem.W.Frag) : OpS K rMulS fMulS := by
  intro O H x y dx dy Qd R hO rx ry h kk
  unfold fMulS at h
  split at h
  · obtain rfl := rx.str; obtain rfl := ry.int
    exact ⟨_, _, rfl, rfl, h.1, kk _ _ H (Same.refl H) (.str _) h.2⟩
  · exact h.elim
theorem mulOk_small {z : Str} {n : Int} (h0 : 2 ≤ n) (h1 : n ≤ 100) (hz : z.length ≤ 100) : MulOk z n := by
  refine ⟨?_, fun _ _ => ?_, fun _ _ => ?_⟩
  · rw [decide_eq_false (by omega), decide_eq_false (by omega)]; rfl
  · have : (100 : Int) ≤ (2 ^ 63 - 1) / n := by
      rw [Int.le_ediv_iff_mul_le (by omega)]
      omega
    omega
  · have : z.length * n.toNat ≤ 100 * 100 := Nat.mul_le_mul hz (by omega)
    have h2 : z.length * n.toNat ≤ sizeLine := Nat.le_trans this (by decide)
    exact decide_eq_false (by omega)
end DL
end
section
set_option autoImplicit false
set_option linter.all false
set_option maxRecDepth 100000
set_option maxHeartbeats 4000000
namespace K10
open PySem PySem.Spec L2 DL
def topS (i : Nat) : Stmt := PySem.Challenge.pw_wherebeen_k10_forms_of_any_value.main.body.getD i (.Pass ⟨0, 0, 0, 0⟩)
abbrev s_is_integer : Stmt := topS 1
abbrev s_is_tuple : Stmt := topS 2
abbrev s_is_name : Stmt := topS 3
abbrev s_is_base : Stmt := topS 4
abbrev s_is_kind : Stmt := topS 5
abbrev s_is_field : Stmt := topS 6
abbrev s_is_form : Stmt := topS 7
abbrev s_is_base_value : Stmt := topS 8
abbrev s_is_value : Stmt := topS 9
abbrev s_is_worth : Stmt := topS 10
abbrev s_law_bag : Stmt := topS 35
abbrev s_law_take : Stmt := topS 36
abbrev s_law_some : Stmt := topS 37
abbrev s_law_mixed : Stmt := topS 38
abbrev s_law_alike : Stmt := topS 39
abbrev s_law_names : Stmt := topS 40
abbrev s_law_base : Stmt := topS 41
abbrev s_law_kind : Stmt := topS 42
abbrev s_law_form : Stmt := topS 43
abbrev s_law_plain_word : Stmt := topS 44
abbrev s_law_word : Stmt := topS 45
abbrev s_law_base_value : Stmt := topS 46
abbrev s_law_value : Stmt := topS 47
abbrev s_law_worth : Stmt := topS 48
abbrev s_law_is_int : Stmt := topS 49
abbrev s_law_is_name : Stmt := topS 50
abbrev s_law_is_base : Stmt := topS 51
abbrev s_law_is_kind : Stmt := topS 52
abbrev s_law_is_form : Stmt := topS 53
abbrev s_law_is_base_value : Stmt := topS 54
abbrev s_law_is_value : Stmt := topS 55
abbrev s_law_is_worth : Stmt := topS 56
abbrev s_law_odd : Stmt := topS 57
abbrev s_law_bent : Stmt := topS 58
abbrev s_law_nested : Stmt := topS 59
abbrev s_law_are_told : Stmt := topS 60
abbrev s_law_are_values_told : Stmt := topS 61
abbrev s_law_errors : Stmt := topS 62
abbrev s_law_classes : Stmt := topS 63
abbrev s_law_kept_by : Stmt := topS 64
abbrev s_law_are_errors_right : Stmt := topS 65
abbrev s_law : Stmt := topS 66
structure Txt (mg : Str → Option Value) : Prop where
  b_isinstance : mg "isinstance" = none
  b_int : mg "int" = none
  b_bool : mg "bool" = none
  b_str : mg "str" = none
  b_list : mg "list" = none
  b_len : mg "len" = none
  b_tuple : mg "tuple" = none
  b_range : mg "range" = none
  b_repr : mg "repr" = none
  b_zip : mg "zip" = none
  b_all : mg "all" = none
  b_any : mg "any" = none
  b_abs : mg "abs" = none
variable {P : Program} {w : World} {K : PySem.W.Frag} {mg : Str → Option Value} {base : Heap}
theorem sc_law_take : FnScope ["bag", "many", "begin", "second", "cell", "stirred", "value"] ["bag", "many"] (defScope s_law_take) := ⟨rfl, rfl, rfl, by decide +kernel, rfl, by decide +kernel, by decide +kernel⟩
theorem sc_law_some : FnScope ["bag", "things"] ["bag", "things"] (defScope s_law_some) := ⟨rfl, rfl, rfl, by decide +kernel, rfl, by decide +kernel, by decide +kernel⟩
theorem sc_law_mixed : FnScope ["bag", "things", "found", "thing"] ["bag", "things"] (defScope s_law_mixed) := ⟨rfl, rfl, rfl, by decide +kernel, rfl, by decide +kernel, by decide +kernel⟩
theorem sc_law_alike : FnScope ["found", "due"] ["found", "due"] (defScope s_law_alike) := ⟨rfl, rfl, rfl, by decide +kernel, rfl, by decide +kernel, by decide +kernel⟩
theorem sc_law_names : FnScope ["bag", "many", "menu", "letters", "k"] ["bag", "many"] (defScope s_law_names) := ⟨rfl, rfl, rfl, by decide +kernel, rfl, by decide +kernel, by decide +kernel⟩
theorem sc_law_base : FnScope ["bag"] ["bag"] (defScope s_law_base) := ⟨rfl, rfl, rfl, by decide +kernel, rfl, by decide +kernel, by decide +kernel⟩
theorem sc_law_kind : FnScope ["bag", "way", "base"] ["bag"] (defScope s_law_kind) := ⟨rfl, rfl, rfl, by decide +kernel, rfl, by decide +kernel, by decide +kernel⟩
theorem sc_law_form : FnScope ["bag", "most", "name"] ["bag", "most"] (defScope s_law_form) := ⟨rfl, rfl, rfl, by decide +kernel, rfl, by decide +kernel, by decide +kernel⟩
theorem sc_law_plain_word : FnScope ["bag", "some", "signs", "k"] ["bag"] (defScope s_law_plain_word) := ⟨rfl, rfl, rfl, by decide +kernel, rfl, by decide +kernel, by decide +kernel⟩
theorem sc_law_word : FnScope ["bag"] ["bag"] (defScope s_law_word) := ⟨rfl, rfl, rfl, by decide +kernel, rfl, by decide +kernel, by decide +kernel⟩
theorem sc_law_base_value : FnScope ["bag", "base", "plainly"] ["bag", "base", "plainly"] (defScope s_law_base_value) := ⟨rfl, rfl, rfl, by decide +kernel, rfl, by decide +kernel, by decide +kernel⟩
theorem sc_law_value : FnScope ["bag", "kind", "plainly", "many", "k"] ["bag", "kind", "plainly"] (defScope s_law_value) := ⟨rfl, rfl, rfl, by decide +kernel, rfl, by decide +kernel, by decide +kernel⟩
/-! ### what is drawn -/
def IsB (d : PyData) : Prop := d = .tuple [.str "word"] ∨ ∃ n : Int, 1 ≤ n ∧ n ≤ 4 ∧ d = .tuple [.str "pick", .int n]
def IsK (d : PyData) : Prop := IsB d ∨ ∃ b, IsB b ∧ (d = .tuple [.str "maybe", b] ∨ d = .tuple [.str "row", b])
def IsFd (f : PyData) : Prop := ∃ n k, f = .tuple [.str n, k] ∧ isWb 8 (.str n) = true ∧ IsK k
def IsF (d : PyData) : Prop := ∃ fs, d = .tuple fs ∧ fs ≠ [] ∧ fs.length ≤ 6 ∧ ∀ f ∈ fs, IsFd f
def spTake : SpD := fun avs Q => match avs with
  | [.bag, .d (.int n)] => (0 < n ∧ n < 1073741824) ∧ ∀ r, 0 ≤ r → r < n → Q (.int r)
  | _ => False
def spSome : SpD := fun avs Q => match avs with
  | [.bag, .d (.list ds)] => (ds ≠ [] ∧ ds.length < 1073741824) ∧ ∀ x ∈ ds, Q x
  | [.bag, .d (.str x)] => (x.length ≠ 0 ∧ x.length < 1000) ∧ ∀ c ∈ x.cps.toList, Q (.str ⟨#[c]⟩)
  | _ => False
theorem sp_take {n : Int} {Q : PyData → Prop} : spTake [.bag, .d (.int n)] Q = ((0 < n ∧ n < 1073741824) ∧ ∀ r, 0 ≤ r → r < n → Q (.int r)) := rfl
theorem sp_some {ds : List PyData} {Q : PyData → Prop} : spSome [.bag, .d (.list ds)] Q = ((ds ≠ [] ∧ ds.length < 1073741824) ∧ ∀ x ∈ ds, Q x) := rfl
theorem sp_somes {x : Str} {Q : PyData → Prop} : spSome [.bag, .d (.str x)] Q = ((x.length ≠ 0 ∧ x.length < 1000) ∧ ∀ c ∈ x.cps.toList, Q (.str ⟨#[c]⟩)) := rfl
def spMixed : SpD := fun avs Q => match avs with
  | [.bag, .d (.list ds)] => ds.length < 1000 ∧ ∀ es, es.Perm ds → Q (.list es)
  | _ => False
theorem sp_mixed {ds : List PyData} {Q : PyData → Prop} : spMixed [.bag, .d (.list ds)] Q = (ds.length < 1000 ∧ ∀ es, es.Perm ds → Q (.list es)) := rfl
theorem cell_of {ns : List Int} (h : NsOk ns) (m : Int) : (cutD (ns.map PyData.int) (some m) none).length + (0 + 1) ≤ sizeLine ∧ ∃ c : Int, 0 ≤ c ∧ atI (cutD (ns.map PyData.int) (some m) none ++ [PyData.int 0]) 0 = some (.int c) := by
  have hl : (cutD (ns.map PyData.int) (some m) none).length ≤ 40000 := by
    unfold cutD
    rw [List.length_take, List.length_drop, List.length_map]
    have := h.1
    omega
  refine ⟨Nat.le_trans (Nat.succ_le_succ hl) (by decide), ?_⟩
  have hm : ∀ d ∈ cutD (ns.map PyData.int) (some m) none, ∃ c : Int, 0 ≤ c ∧ d = .int c := fun d hd => by
    obtain ⟨n, hn, rfl⟩ := List.mem_map.mp (List.mem_of_mem_drop (List.mem_of_mem_take hd))
    exact ⟨n, h.2 n hn, rfl⟩
  cases e : cutD (ns.map PyData.int) (some m) none with
  | nil => exact ⟨0, Int.le_refl _, rfl⟩
  | cons d ds =>
    rw [e] at hm
    obtain ⟨c, hc, rfl⟩ := hm d (List.mem_cons_self ..)
    refine ⟨c, hc, ?_⟩
    rw [List.cons_append]
    unfold atI ixN
    rw [if_pos (by decide), if_pos (by simp; omega)]
    rfl
theorem cmul_r {i j : Int} (h1 : -(2 ^ 64) < j) (h2 : j < 2 ^ 64) : CMul i j := .inr ⟨h1, h2⟩
theorem cmul_l {i j : Int} (h1 : -(2 ^ 64) < i) (h2 : i < 2 ^ 64) : CMul i j := .inl ⟨h1, h2⟩
theorem sign_word {x : Str} {c : Nat} (hx : (x.cps.toList.all fun c => decide (c < 128)) = true) (h : c ∈ x.cps.toList) : isWb 1 (.str ⟨#[c]⟩) = true := by
  have := List.all_eq_true.mp hx c h
  exact isWb_mk (Nat.le_refl 1) fun d m => by
    have e : d = c := by simpa using m
    rw [e]
    simpa using this
theorem B_law_take (D : DefOk K mg "_law_take" s_law_take ["bag", "many"]) (T : Txt mg) : FnB P w K mg base 1 "_law_take" ["bag", "many"] spTake := by
  refine fnB_of D sc_law_take (fun avs Q h => ?_) (fun f cd A outer s H E => ⟨_, (dss_cons (ds_if (dxt_cmp E (fun _ h => op_eqX h) (ops_eq K) (dx_bagN 0 0 (by decide) E) dx_int (nomark _)) (dss_cons (ds_set 4 (fun _ => sc_law_take.nd) (dx_ix E (dx_op E (fun _ _ => op_addD) (ops_add K) (dx_slice E (dx_bagL 0 E) (dxo_some (dx_bagN 0 2 (by decide) E)) dxo_none) (dx_lst (dxa_cons dx_int dxa_nil))) dx_int))
  (dss_cons (ds_bagInc 0 2 (by decide) E dx_int)
  (dss_cons (ds_if (dxt_cmp E (r := fun _ => _) (fun _ _ => op_ge) (ops_int K _) (dx_var 4) (dx_op E (r := fun _ => _) (fun _ _ => op_pow) (ops_pow K) dx_int dx_int) (nomark _)) (dss_one (ds_bagSet 0 0 (by decide) E (dx_var 4))) dss_nil)
  (dss_cons (ds_set 5 (fun _ => sc_law_take.nd) (dx_op E (fun _ _ => op_addD) (ops_add K) (dx_op E (fun _ _ => op_addD) (ops_add K) (dx_op E (fun _ _ => op_mulD) (ops_mul K) (dx_bagN 0 1 (by decide) E) dx_int) (dx_op E (r := fun _ => _) (fun _ _ => op_mod) (ops_mod K) (dx_call1Ty (r := rIntD) E (fun _ _ => call_intD) (cs_int K) (by intro _; rfl) T.b_int boot_intT (dx_var 4)) dx_int)) (dx_op E (fun _ _ => op_mulD) (ops_mul K) dx_int (dx_bagN 0 2 (by decide) E))))
  (dss_one (ds_bagSet 0 1 (by decide) E (dx_op E (r := fun _ => _) (fun _ _ => op_mod) (ops_mod K) (dx_call1Ty (r := rIntD) E (fun _ _ => call_intD) (cs_int K) (by intro _; rfl) T.b_int boot_intT (dx_var 5)) dx_int))))))) dss_nil)
  (dss_cons (ds_if (dxt_cmp E (r := fun _ => _) (fun _ _ => op_gt) (ops_int K _) (dx_bagN 0 0 (by decide) E) dx_int (nomark _)) (dss_cons (ds_set 6 (fun _ => sc_law_take.nd) (dx_op E (r := fun _ => _) (fun _ _ => op_mod) (ops_mod K) (dx_call1Ty (r := rIntD) E (fun _ _ => call_intD) (cs_int K) (by intro _; rfl) T.b_int boot_intT (dx_bagN 0 0 (by decide) E)) (dx_var 1)))
  (dss_cons (ds_bagSet 0 0 (by decide) E (dx_op E (r := fun _ => _) (fun _ _ => op_fdiv) (ops_div K) (dx_call1Ty (r := rIntD) E (fun _ _ => call_intD) (cs_int K) (by intro _; rfl) T.b_int boot_intT (dx_bagN 0 0 (by decide) E)) (dx_var 1)))
  (dss_one (ds_ret (dx_var 6))))) dss_nil)
  (dss_cons (ds_set 2 (fun _ => sc_law_take.nd) (dx_op E (r := fun _ => _) (fun _ _ => op_mod) (ops_mod K) (dx_call1Ty (r := rIntD) E (fun _ _ => call_intD) (cs_int K) (by intro _; rfl) T.b_int boot_intT (dx_op E (fun _ _ => op_mulD) (ops_mul K) (dx_op E (fun _ _ => op_addD) (ops_add K) (dx_bagN 0 1 (by decide) E) dx_int) dx_int)) dx_int))
  (dss_cons (ds_set 3 (fun _ => sc_law_take.nd) (dx_op E (r := fun _ => _) (fun _ _ => op_mod) (ops_mod K) (dx_call1Ty (r := rIntD) E (fun _ _ => call_intD) (cs_int K) (by intro _; rfl) T.b_int boot_intT (dx_op E (fun _ _ => op_mulD) (ops_mul K) (dx_op E (r := fun _ => _) (fun _ _ => op_mod) (ops_mod K) (dx_call1Ty (r := rIntD) E (fun _ _ => call_intD) (cs_int K) (by intro _; rfl) T.b_int boot_intT (dx_op E (fun _ _ => op_mulD) (ops_mul K) (dx_var 2) (dx_var 2))) dx_int) dx_int)) dx_int))
  (dss_one (ds_ret (dx_op E (r := fun _ => _) (fun _ _ => op_mod) (ops_mod K) (dx_call1Ty (r := rIntD) E (fun _ _ => call_intD) (cs_int K) (by intro _; rfl) T.b_int boot_intT (dx_op E (r := fun _ => _) (fun _ _ => op_fdiv) (ops_div K) (dx_var 3) dx_int)) (dx_var 1)))))))), fun avs Q h => ?_⟩)
  · unfold spTake at h; split at h
    · rfl
    · exact h.elim
  · unfold spTake at h
    split at h
    · rename_i n
      obtain ⟨⟨h0, h1⟩, h⟩ := h
      simp only [e_dOp, e_dTst, e_dChn, e_dVar, e_dC, e_dNil, e_dCons, e_dStar, e_dTup, e_dLst, e_dAndV, e_dOrV, e_dNotV, e_dIf, e_dAnd, e_dOr, e_dNot, e_dTru, e_fAdd, e_fSub, e_fMul, e_fMod, e_fDiv, e_fPow, e_fEq, e_fNe, e_fInt, e_fLe, e_fIs, e_fIsNot, e_fIn, e_fIx, e_dNoP, e_dPart, e_dSl, e_dCB, e_dC1, e_fLen, e_fList, e_fTuple, e_fToInt, e_fAll, e_fAny, e_dIsT, e_dFr, e_fLst, e_fCat, e_mAppend, e_mExtend, e_mInsert, e_mPop, e_mReverse, e_dNext, e_dSeq, e_dNever, e_dIfS, e_dExpr, e_dRet, e_gDat, e_gsNil, e_gsCons, e_gTupD, e_dAsg, e_dOwn, e_dSeqI, e_dRng1, e_dRng2, e_dZip, e_dFor, e_dYes, e_dLc, e_vNil, e_vCons, e_dCall, e_dNeg, e_dPar, e_dPar3, e_fRepr, e_fJoin, e_dLZ, e_fRev, e_fReprD, e_dBagN, e_dBagL, e_dBagSet, e_dBagInc, e_dLeft, e_dLeftDec, e_vLeft, e_vConsN, e_fLt, e_fGt, e_fGe, e_dMut, go_cons, at0, at1, at2, tru_bool, short_bool, isNoneD, startG, wipeG, backG, keepSV, isOwnL, AV.sv, Opd.wd, Opd.sv, SV.wd, SV.av, Opd.frz, GS.freeze, noL, List.map, List.length, List.replicate, List.cons_append, List.nil_append, List.append_nil, Nat.sub_self, List.getD_cons_zero, List.getD_cons_succ, List.getElem?_cons_zero, List.getElem?_cons_succ, List.set_cons_zero, List.set_cons_succ, if_true, Bool.false_eq_true, if_false, eqOk_int, eqOk_str, eqOk_bool, eqv_int, eqv_str, eqv_bool, eqOk_nil, eqv_nil, eqOk_tnil, eqv_tnil, true_and, and_true, false_and, Bool.true_and, Bool.false_and, Bool.and_true, Bool.and_false, Bool.not_true, Bool.not_false, Bool.not_not]
      have mod0 : ∀ i : Int, 0 ≤ i % n := fun i => Int.emod_nonneg i (by omega)
      have mod1 : ∀ i : Int, i % n < n := fun i => Int.emod_lt_of_pos i h0
      have div0 : ∀ i : Int, 0 ≤ i → 0 ≤ i / n := fun i hi => Int.ediv_nonneg hi (by omega)
      have q : ∀ i : Int, Q (.int (i % n)) := fun i => h _ (mod0 i) (mod1 i)
      have cell := fun (ns : List Int) (hn : NsOk ns) (m : Int) => cell_of hn m
      have goal0 : ∀ c : Int, 0 ≤ c → (10 ^ Int.toNat 18 : Int) = 10 ^ Int.toNat 18 := fun _ _ => rfl
      intro z hz
      split
      · intro ns hns m hm
        obtain ⟨c1, c, hc, e⟩ := cell ns hns m
        simp only [e]
        refine ⟨by decide, c1, by decide, ⟨by decide, by decide, by decide⟩, ?_⟩
        repeat' first
          | exact q _
          | refine ⟨?_, ?_⟩
          | intro y hy
          | split
        all_goals first
          | omega
          | exact cmul_r (by decide) (by decide)
          | exact cmul_l (by decide) (by decide)
          | exact cmul_r (by omega) (by omega)
          | exact div0 _ ‹_›
          | trace_state
      · repeat' first
          | exact q _
          | refine ⟨?_, ?_⟩
          | intro y hy
          | split
        all_goals first
          | omega
          | exact cmul_r (by decide) (by decide)
          | exact cmul_l (by decide) (by decide)
          | exact cmul_r (by omega) (by omega)
          | exact div0 _ ‹_›
          | trace_state
    · exact h.elim
theorem atI_in {α : Type} {xs : List α} {r : Int} (h0 : 0 ≤ r) (h1 : r < xs.length) : ∃ d ∈ xs, atI xs r = some d := by
  have hr : r.toNat < xs.length := by omega
  refine ⟨xs[r.toNat], List.getElem_mem hr, ?_⟩
  unfold atI ixN
  rw [if_pos h0, if_pos h1]
  exact List.getElem?_eq_getElem hr
theorem B_law_some (D : DefOk K mg "_law_some" s_law_some ["bag", "things"]) (T : Txt mg) (B_law_take : FnB P w K mg base 1 "_law_take" ["bag", "many"] spTake) : FnB P w K mg base 2 "_law_some" ["bag", "things"] spSome := by
  refine fnB_of D sc_law_some (fun avs Q h => ?_) (fun f cd A outer s H E => ⟨_, (dss_one (ds_ret (dx_ix E (dx_var 1) (dx_callb E B_law_take (by decide) (dxv_cons (dx_var 0) (dxv_cons (dx_call1B (r := rLenD) E (fun _ _ _ _ => call_lenD) (cs_len K) (by intro _; rfl) T.b_len boot_lenD (dx_var 1)) dxv_nil)))))), fun avs Q h => ?_⟩)
  · unfold spSome at h; split at h <;> first | rfl | exact h.elim
  · unfold spSome at h
    split at h
    · rename_i ds
      obtain ⟨⟨h0, h1⟩, h⟩ := h
      simp only [e_dOp, e_dTst, e_dChn, e_dVar, e_dC, e_dNil, e_dCons, e_dStar, e_dTup, e_dLst, e_dAndV, e_dOrV, e_dNotV, e_dIf, e_dAnd, e_dOr, e_dNot, e_dTru, e_fAdd, e_fSub, e_fMul, e_fMod, e_fDiv, e_fPow, e_fEq, e_fNe, e_fInt, e_fLe, e_fIs, e_fIsNot, e_fIn, e_fIx, e_dNoP, e_dPart, e_dSl, e_dCB, e_dC1, e_fLen, e_fList, e_fTuple, e_fToInt, e_fAll, e_fAny, e_dIsT, e_dFr, e_fLst, e_fCat, e_mAppend, e_mExtend, e_mInsert, e_mPop, e_mReverse, e_dNext, e_dSeq, e_dNever, e_dIfS, e_dExpr, e_dRet, e_gDat, e_gsNil, e_gsCons, e_gTupD, e_dAsg, e_dOwn, e_dSeqI, e_dRng1, e_dRng2, e_dZip, e_dFor, e_dYes, e_dLc, e_vNil, e_vCons, e_dCall, e_dNeg, e_dPar, e_dPar3, e_fRepr, e_fJoin, e_dLZ, e_fRev, e_fReprD, e_dBagN, e_dBagL, e_dBagSet, e_dBagInc, e_dLeft, e_dLeftDec, e_vLeft, e_vConsN, e_fLt, e_fGt, e_fGe, e_dMut, go_cons, at0, at1, at2, tru_bool, short_bool, isNoneD, startG, wipeG, backG, keepSV, isOwnL, AV.sv, Opd.wd, Opd.sv, SV.wd, SV.av, Opd.frz, GS.freeze, noL, List.map, List.length, List.replicate, List.cons_append, List.nil_append, List.append_nil, Nat.sub_self, List.getD_cons_zero, List.getD_cons_succ, List.getElem?_cons_zero, List.getElem?_cons_succ, List.set_cons_zero, List.set_cons_succ, if_true, Bool.false_eq_true, if_false, eqOk_int, eqOk_str, eqOk_bool, eqv_int, eqv_str, eqv_bool, eqOk_nil, eqv_nil, eqOk_tnil, eqv_tnil, true_and, and_true, false_and, Bool.true_and, Bool.false_and, Bool.and_true, Bool.and_false, Bool.not_true, Bool.not_false, Bool.not_not, sp_take, sp_some, sp_somes, sp_mixed]
      have := List.length_pos_iff.mpr h0
      refine ⟨⟨by omega, by omega⟩, fun r r0 r1 => ?_⟩
      obtain ⟨d, hd, e⟩ := atI_in (xs := ds) r0 r1
      simp only [e]
      exact h d hd
    · rename_i x
      obtain ⟨⟨h0, h1⟩, h⟩ := h
      simp only [e_dOp, e_dTst, e_dChn, e_dVar, e_dC, e_dNil, e_dCons, e_dStar, e_dTup, e_dLst, e_dAndV, e_dOrV, e_dNotV, e_dIf, e_dAnd, e_dOr, e_dNot, e_dTru, e_fAdd, e_fSub, e_fMul, e_fMod, e_fDiv, e_fPow, e_fEq, e_fNe, e_fInt, e_fLe, e_fIs, e_fIsNot, e_fIn, e_fIx, e_dNoP, e_dPart, e_dSl, e_dCB, e_dC1, e_fLen, e_fList, e_fTuple, e_fToInt, e_fAll, e_fAny, e_dIsT, e_dFr, e_fLst, e_fCat, e_mAppend, e_mExtend, e_mInsert, e_mPop, e_mReverse, e_dNext, e_dSeq, e_dNever, e_dIfS, e_dExpr, e_dRet, e_gDat, e_gsNil, e_gsCons, e_gTupD, e_dAsg, e_dOwn, e_dSeqI, e_dRng1, e_dRng2, e_dZip, e_dFor, e_dYes, e_dLc, e_vNil, e_vCons, e_dCall, e_dNeg, e_dPar, e_dPar3, e_fRepr, e_fJoin, e_dLZ, e_fRev, e_fReprD, e_dBagN, e_dBagL, e_dBagSet, e_dBagInc, e_dLeft, e_dLeftDec, e_vLeft, e_vConsN, e_fLt, e_fGt, e_fGe, e_dMut, go_cons, at0, at1, at2, tru_bool, short_bool, isNoneD, startG, wipeG, backG, keepSV, isOwnL, AV.sv, Opd.wd, Opd.sv, SV.wd, SV.av, Opd.frz, GS.freeze, noL, List.map, List.length, List.replicate, List.cons_append, List.nil_append, List.append_nil, Nat.sub_self, List.getD_cons_zero, List.getD_cons_succ, List.getElem?_cons_zero, List.getElem?_cons_succ, List.set_cons_zero, List.set_cons_succ, if_true, Bool.false_eq_true, if_false, eqOk_int, eqOk_str, eqOk_bool, eqv_int, eqv_str, eqv_bool, eqOk_nil, eqv_nil, eqOk_tnil, eqv_tnil, true_and, and_true, false_and, Bool.true_and, Bool.false_and, Bool.and_true, Bool.and_false, Bool.not_true, Bool.not_false, Bool.not_not, sp_take, sp_some, sp_somes, sp_mixed]
      have e0 : x.cps.toList.length = x.length := Array.length_toList
      refine ⟨Nat.le_trans (Nat.le_of_lt h1) (by decide), ⟨by omega, by omega⟩, fun r r0 r1 => ?_⟩
      obtain ⟨d, hd, e⟩ := atI_in (xs := x.cps.toList) r0 (by rw [e0]; exact r1)
      simp only [e]
      exact ⟨Nat.le_trans (Nat.le_of_lt h1) (by decide), h d hd⟩
    · exact h.elim
theorem perm_ins {α : Type} (l : List α) (n : Nat) (x : α) : (l.take n ++ [x] ++ l.drop n).Perm (l ++ [x]) := by
  rw [List.append_assoc]
  refine (List.Perm.append_left _ List.perm_append_comm).trans ?_
  rw [← List.append_assoc, List.take_append_drop]
theorem B_law_mixed (D : DefOk K mg "_law_mixed" s_law_mixed ["bag", "things"]) (T : Txt mg) (B_law_take : FnB P w K mg base 1 "_law_take" ["bag", "many"] spTake) : FnB P w K mg base 2 "_law_mixed" ["bag", "things"] spMixed := by
  refine fnB_of D sc_law_mixed (fun avs Q h => ?_) (fun f cd A outer s H E => ⟨_, (dss_cons (ds_own 2 (fun _ => sc_law_mixed.nd) (dxf_lst dxa_nil))
  (dss_cons (ds_for E (dxi_seq E (dx_var 1)) (dg_name 3 (fun _ => sc_law_mixed.nd)) (dss_one (ds_expr (dx_mut 2 E PySem.F.slot_list_insert PySem.F.type_list_insert (fun _ => mt_insert) (ms_insert K) (dxa_cons (dx_callb E B_law_take (by decide) (dxv_cons (dx_var 0) (dxv_cons (dx_op E (fun _ _ => op_addD) (ops_add K) (dx_call1B (r := rLenD) E (fun _ _ _ _ => call_lenD) (cs_len K) (by intro _; rfl) T.b_len boot_lenD (dx_var 2)) dx_int) dxv_nil))) (dxa_cons (dx_var 3) dxa_nil))))))
  (dss_one (ds_ret (dx_var 2))))), fun avs Q h => ?_⟩)
  · unfold spMixed at h; split at h <;> first | rfl | exact h.elim
  · unfold spMixed at h
    split at h
    · rename_i ds
      obtain ⟨h0, h⟩ := h
      simp only [e_dOp, e_dTst, e_dChn, e_dVar, e_dC, e_dNil, e_dCons, e_dStar, e_dTup, e_dLst, e_dAndV, e_dOrV, e_dNotV, e_dIf, e_dAnd, e_dOr, e_dNot, e_dTru, e_fAdd, e_fSub, e_fMul, e_fMod, e_fDiv, e_fPow, e_fEq, e_fNe, e_fInt, e_fLe, e_fIs, e_fIsNot, e_fIn, e_fIx, e_dNoP, e_dPart, e_dSl, e_dCB, e_dC1, e_fLen, e_fList, e_fTuple, e_fToInt, e_fAll, e_fAny, e_dIsT, e_dFr, e_fLst, e_fCat, e_mAppend, e_mExtend, e_mInsert, e_mPop, e_mReverse, e_dNext, e_dSeq, e_dNever, e_dIfS, e_dExpr, e_dRet, e_gDat, e_gsNil, e_gsCons, e_gTupD, e_dAsg, e_dOwn, e_dSeqI, e_dRng1, e_dRng2, e_dZip, e_dFor, e_dYes, e_dLc, e_vNil, e_vCons, e_dCall, e_dNeg, e_dPar, e_dPar3, e_fRepr, e_fJoin, e_dLZ, e_fRev, e_fReprD, e_dBagN, e_dBagL, e_dBagSet, e_dBagInc, e_dLeft, e_dLeftDec, e_vLeft, e_vConsN, e_fLt, e_fGt, e_fGe, e_dMut, go_cons, at0, at1, at2, tru_bool, short_bool, isNoneD, startG, wipeG, backG, keepSV, isOwnL, AV.sv, Opd.wd, Opd.sv, SV.wd, SV.av, Opd.frz, GS.freeze, noL, List.map, List.length, List.replicate, List.cons_append, List.nil_append, List.append_nil, Nat.sub_self, List.getD_cons_zero, List.getD_cons_succ, List.getElem?_cons_zero, List.getElem?_cons_succ, List.set_cons_zero, List.set_cons_succ, if_true, Bool.false_eq_true, if_false, eqOk_int, eqOk_str, eqOk_bool, eqv_int, eqv_str, eqv_bool, eqOk_nil, eqv_nil, eqOk_tnil, eqv_tnil, true_and, and_true, false_and, Bool.true_and, Bool.false_and, Bool.and_true, Bool.and_false, Bool.not_true, Bool.not_false, Bool.not_not]
      refine ⟨by decide, forW_of (fun es Γ => ∃ acc z, Γ = [SV.bag, .dat false (.list ds), .dat true (.list acc), z] ∧ (acc ++ es).Perm ds) (fun Γ ⟨acc, z, e, p⟩ => ?_) (fun d es Γ ⟨acc, z, e, p⟩ ih => ?_) _ _ ⟨[], _, rfl, .refl _⟩⟩
      · subst e
        simp only [e_dOp, e_dTst, e_dChn, e_dVar, e_dC, e_dNil, e_dCons, e_dStar, e_dTup, e_dLst, e_dAndV, e_dOrV, e_dNotV, e_dIf, e_dAnd, e_dOr, e_dNot, e_dTru, e_fAdd, e_fSub, e_fMul, e_fMod, e_fDiv, e_fPow, e_fEq, e_fNe, e_fInt, e_fLe, e_fIs, e_fIsNot, e_fIn, e_fIx, e_dNoP, e_dPart, e_dSl, e_dCB, e_dC1, e_fLen, e_fList, e_fTuple, e_fToInt, e_fAll, e_fAny, e_dIsT, e_dFr, e_fLst, e_fCat, e_mAppend, e_mExtend, e_mInsert, e_mPop, e_mReverse, e_dNext, e_dSeq, e_dNever, e_dIfS, e_dExpr, e_dRet, e_gDat, e_gsNil, e_gsCons, e_gTupD, e_dAsg, e_dOwn, e_dSeqI, e_dRng1, e_dRng2, e_dZip, e_dFor, e_dYes, e_dLc, e_vNil, e_vCons, e_dCall, e_dNeg, e_dPar, e_dPar3, e_fRepr, e_fJoin, e_dLZ, e_fRev, e_fReprD, e_dBagN, e_dBagL, e_dBagSet, e_dBagInc, e_dLeft, e_dLeftDec, e_vLeft, e_vConsN, e_fLt, e_fGt, e_fGe, e_dMut, go_cons, at0, at1, at2, tru_bool, short_bool, isNoneD, startG, wipeG, backG, keepSV, isOwnL, AV.sv, Opd.wd, Opd.sv, SV.wd, SV.av, Opd.frz, GS.freeze, noL, List.map, List.length, List.replicate, List.cons_append, List.nil_append, List.append_nil, Nat.sub_self, List.getD_cons_zero, List.getD_cons_succ, List.getElem?_cons_zero, List.getElem?_cons_succ, List.set_cons_zero, List.set_cons_succ, if_true, Bool.false_eq_true, if_false, eqOk_int, eqOk_str, eqOk_bool, eqv_int, eqv_str, eqv_bool, eqOk_nil, eqv_nil, eqOk_tnil, eqv_tnil, true_and, and_true, false_and, Bool.true_and, Bool.false_and, Bool.and_true, Bool.and_false, Bool.not_true, Bool.not_false, Bool.not_not]
        rw [List.append_nil] at p
        exact h acc p
      · subst e
        have hl := p.length_eq
        rw [List.length_append, List.length_cons] at hl
        simp only [forW, e_dOp, e_dTst, e_dChn, e_dVar, e_dC, e_dNil, e_dCons, e_dStar, e_dTup, e_dLst, e_dAndV, e_dOrV, e_dNotV, e_dIf, e_dAnd, e_dOr, e_dNot, e_dTru, e_fAdd, e_fSub, e_fMul, e_fMod, e_fDiv, e_fPow, e_fEq, e_fNe, e_fInt, e_fLe, e_fIs, e_fIsNot, e_fIn, e_fIx, e_dNoP, e_dPart, e_dSl, e_dCB, e_dC1, e_fLen, e_fList, e_fTuple, e_fToInt, e_fAll, e_fAny, e_dIsT, e_dFr, e_fLst, e_fCat, e_mAppend, e_mExtend, e_mInsert, e_mPop, e_mReverse, e_dNext, e_dSeq, e_dNever, e_dIfS, e_dExpr, e_dRet, e_gDat, e_gsNil, e_gsCons, e_gTupD, e_dAsg, e_dOwn, e_dSeqI, e_dRng1, e_dRng2, e_dZip, e_dFor, e_dYes, e_dLc, e_vNil, e_vCons, e_dCall, e_dNeg, e_dPar, e_dPar3, e_fRepr, e_fJoin, e_dLZ, e_fRev, e_fReprD, e_dBagN, e_dBagL, e_dBagSet, e_dBagInc, e_dLeft, e_dLeftDec, e_vLeft, e_vConsN, e_fLt, e_fGt, e_fGe, e_dMut, go_cons, at0, at1, at2, tru_bool, short_bool, isNoneD, startG, wipeG, backG, keepSV, isOwnL, AV.sv, Opd.wd, Opd.sv, SV.wd, SV.av, Opd.frz, GS.freeze, noL, List.map, List.length, List.replicate, List.cons_append, List.nil_append, List.append_nil, Nat.sub_self, List.getD_cons_zero, List.getD_cons_succ, List.getElem?_cons_zero, List.getElem?_cons_succ, List.set_cons_zero, List.set_cons_succ, if_true, Bool.false_eq_true, if_false, eqOk_int, eqOk_str, eqOk_bool, eqv_int, eqv_str, eqv_bool, eqOk_nil, eqv_nil, eqOk_tnil, eqv_tnil, true_and, and_true, false_and, Bool.true_and, Bool.false_and, Bool.and_true, Bool.and_false, Bool.not_true, Bool.not_false, Bool.not_not, sp_take, sp_some, sp_somes, sp_mixed]
        refine ⟨⟨by omega, by omega⟩, fun r r0 r1 => ⟨⟨Nat.lt_of_lt_of_le (by omega : acc.length < 1000) (by decide), r0, by omega⟩, ih _ ⟨_, _, rfl, ?_⟩⟩⟩
        refine .trans ?_ p
        refine ((perm_ins acc r.toNat d).append_right es).trans ?_
        rw [List.append_assoc]; exact .refl _
    · exact h.elim
def spAlike : SpD := fun avs Q => match avs with
  | [.d (.bool a), .d (.bool b)] => Q (.bool (a == b))
  | _ => False
theorem B_law_alike (D : DefOk K mg "_law_alike" s_law_alike ["found", "due"]) (T : Txt mg) : FnB P w K mg base 1 "_law_alike" ["found", "due"] spAlike := by
  refine fnB_of D sc_law_alike (fun avs Q h => ?_) (fun f cd A outer s H E => ⟨_, (dss_one (ds_ret (dx_and (dx_cmp E (fun _ h => op_eqX h) (ops_eq K) (dx_var 0) (dx_var 1) (nomark _)) (dx_one (dx_cmp E (fun _ h => op_eqX h) (ops_eq K) (dx_call1B (r := rReprD) E (fun _ _ h g => call_reprD ⟨_, h⟩ g) (cs_reprD K) (by intro _; rfl) T.b_repr boot_repr (dx_var 0)) (dx_call1B (r := rReprD) E (fun _ _ h g => call_reprD ⟨_, h⟩ g) (cs_reprD K) (by intro _; rfl) T.b_repr boot_repr (dx_var 1)) (nomark _)))))), fun avs Q h => ?_⟩)
  · unfold spAlike at h; split at h <;> first | rfl | exact h.elim
  · unfold spAlike at h
    split at h
    · rename_i a b
      simp only [e_dOp, e_dTst, e_dChn, e_dVar, e_dC, e_dNil, e_dCons, e_dStar, e_dTup, e_dLst, e_dAndV, e_dOrV, e_dNotV, e_dIf, e_dAnd, e_dOr, e_dNot, e_dTru, e_fAdd, e_fSub, e_fMul, e_fMod, e_fDiv, e_fPow, e_fEq, e_fNe, e_fInt, e_fLe, e_fIs, e_fIsNot, e_fIn, e_fIx, e_dNoP, e_dPart, e_dSl, e_dCB, e_dC1, e_fLen, e_fList, e_fTuple, e_fToInt, e_fAll, e_fAny, e_dIsT, e_dFr, e_fLst, e_fCat, e_mAppend, e_mExtend, e_mInsert, e_mPop, e_mReverse, e_dNext, e_dSeq, e_dNever, e_dIfS, e_dExpr, e_dRet, e_gDat, e_gsNil, e_gsCons, e_gTupD, e_dAsg, e_dOwn, e_dSeqI, e_dRng1, e_dRng2, e_dZip, e_dFor, e_dYes, e_dLc, e_vNil, e_vCons, e_dCall, e_dNeg, e_dPar, e_dPar3, e_fRepr, e_fJoin, e_dLZ, e_fRev, e_fReprD, e_dBagN, e_dBagL, e_dBagSet, e_dBagInc, e_dLeft, e_dLeftDec, e_vLeft, e_vConsN, e_fLt, e_fGt, e_fGe, e_dMut, go_cons, at0, at1, at2, tru_bool, short_bool, isNoneD, startG, wipeG, backG, keepSV, isOwnL, AV.sv, Opd.wd, Opd.sv, SV.wd, SV.av, Opd.frz, GS.freeze, noL, List.map, List.length, List.replicate, List.cons_append, List.nil_append, List.append_nil, Nat.sub_self, List.getD_cons_zero, List.getD_cons_succ, List.getElem?_cons_zero, List.getElem?_cons_succ, List.set_cons_zero, List.set_cons_succ, if_true, Bool.false_eq_true, if_false, eqOk_int, eqOk_str, eqOk_bool, eqv_int, eqv_str, eqv_bool, eqOk_nil, eqv_nil, eqOk_tnil, eqv_tnil, true_and, and_true, false_and, Bool.true_and, Bool.false_and, Bool.and_true, Bool.and_false, Bool.not_true, Bool.not_false, Bool.not_not]
      cases a <;> cases b <;> simp [PyData.showable, PyData.depth, PyData.shown] at h ⊢
      · exact ⟨by decide, h⟩
      · exact h
      · exact h
      · exact ⟨by decide, h⟩
    · exact h.elim
def spNames : SpD := fun avs Q => match avs with
  | [.bag, .d (.int m)] => (1 ≤ m ∧ m ≤ 15) ∧ ∀ ns : List PyData, ns ≠ [] → (ns.length : Int) ≤ m → ns.all (isWb 8) = true → Q (.list ns)
  | _ => False
theorem B_law_names (D : DefOk K mg "_law_names" s_law_names ["bag", "many"]) (T : Txt mg) (B_law_take : FnB P w K mg base 1 "_law_take" ["bag", "many"] spTake) (B_law_some : FnB P w K mg base 2 "_law_some" ["bag", "things"] spSome) (B_law_mixed : FnB P w K mg base 2 "_law_mixed" ["bag", "things"] spMixed) :
    FnB P w K mg base 3 "_law_names" ["bag", "many"] spNames := by
  refine fnB_of D sc_law_names (fun avs Q h => ?_) (fun f cd A outer s H E => ⟨_, (dss_cons (ds_set 2 (fun _ => sc_law_names.nd) (dx_lst (dxa_cons dx_str (dxa_cons dx_str (dxa_cons dx_str (dxa_cons dx_str (dxa_cons dx_str (dxa_cons dx_str (dxa_cons dx_str (dxa_cons dx_str (dxa_cons dx_str (dxa_cons dx_str (dxa_cons dx_str (dxa_cons dx_str (dxa_cons dx_str (dxa_cons dx_str dxa_nil))))))))))))))))
  (dss_cons (ds_setLc [("k", 4)] 3 E (fun _ => sc_law_names.nd) (dxi_range1 E (by intro _; rfl) T.b_range (dxa_cons (dx_callb E B_law_take (by decide) (dxv_cons (dx_var 0) (dxv_cons dx_int dxv_nil))) dxa_nil)) (fun _ => blkOk_by (by rfl)) (dg_name 4 (fun _ => sc_law_names.nd)) dxp_nil (dx_callb (E.blk _) B_law_some (by decide) (dxv_cons (dx_var 0) (dxv_cons dx_str dxv_nil))) (by intro _; exact sw_true rfl rfl rfl (by decide +kernel)))
  (dss_one (ds_ret (dx_slice E (dx_callb E B_law_mixed (by decide) (dxv_cons (dx_var 0) (dxv_cons (dx_op E (fun _ _ => op_addD) (ops_add K) (dx_var 2) (dx_lst (dxa_cons (dx_join E (dx_op E (fun _ _ => op_addD) (ops_add K) (dx_lst (dxa_cons (dx_callb E B_law_some (by decide) (dxv_cons (dx_var 0) (dxv_cons dx_str dxv_nil))) dxa_nil)) (dx_var 3))) dxa_nil))) dxv_nil))) dxo_none (dxo_some (dx_var 1))))))), fun avs Q h => ?_⟩)
  · unfold spNames at h; split at h <;> first | rfl | exact h.elim
  · unfold spNames at h
    split at h
    · rename_i m
      obtain ⟨⟨h0, h1⟩, h⟩ := h
      simp only [e_dOp, e_dTst, e_dChn, e_dVar, e_dC, e_dNil, e_dCons, e_dStar, e_dTup, e_dLst, e_dAndV, e_dOrV, e_dNotV, e_dIf, e_dAnd, e_dOr, e_dNot, e_dTru, e_fAdd, e_fSub, e_fMul, e_fMod, e_fDiv, e_fPow, e_fEq, e_fNe, e_fInt, e_fLe, e_fIs, e_fIsNot, e_fIn, e_fIx, e_dNoP, e_dPart, e_dSl, e_dCB, e_dC1, e_fLen, e_fList, e_fTuple, e_fToInt, e_fAll, e_fAny, e_dIsT, e_dFr, e_fLst, e_fCat, e_mAppend, e_mExtend, e_mInsert, e_mPop, e_mReverse, e_dNext, e_dSeq, e_dNever, e_dIfS, e_dExpr, e_dRet, e_gDat, e_gsNil, e_gsCons, e_gTupD, e_dAsg, e_dOwn, e_dSeqI, e_dRng1, e_dRng2, e_dZip, e_dFor, e_dYes, e_dLc, e_vNil, e_vCons, e_dCall, e_dNeg, e_dPar, e_dPar3, e_fRepr, e_fJoin, e_dLZ, e_fRev, e_fReprD, e_dBagN, e_dBagL, e_dBagSet, e_dBagInc, e_dLeft, e_dLeftDec, e_vLeft, e_vConsN, e_fLt, e_fGt, e_fGe, e_dMut, go_cons, at0, at1, at2, tru_bool, short_bool, isNoneD, startG, wipeG, backG, keepSV, isOwnL, AV.sv, Opd.wd, Opd.sv, SV.wd, SV.av, Opd.frz, GS.freeze, noL, List.map, List.length, List.replicate, List.cons_append, List.nil_append, List.append_nil, Nat.sub_self, List.getD_cons_zero, List.getD_cons_succ, List.getElem?_cons_zero, List.getElem?_cons_succ, List.set_cons_zero, List.set_cons_succ, if_true, Bool.false_eq_true, if_false, eqOk_int, eqOk_str, eqOk_bool, eqv_int, eqv_str, eqv_bool, eqOk_nil, eqv_nil, eqOk_tnil, eqv_tnil, true_and, and_true, false_and, Bool.true_and, Bool.false_and, Bool.and_true, Bool.and_false, Bool.not_true, Bool.not_false, Bool.not_not, sp_take, sp_some, sp_somes, sp_mixed]
      refine ⟨by decide, ⟨by decide, by decide⟩, fun r r0 r1 => ⟨⟨by omega, by omega⟩, ?_⟩⟩
      refine lcW_of (fun ds acc => ds.length + acc.length ≤ 7 ∧ acc.all (isWb 1) = true) ?hn ?hc _ _ ⟨?h0, rfl⟩
      case h0 => simp only [rangeD, List.length_map, List.length_range, List.length_nil]; omega
      case hc =>
        intro d ds acc ⟨hl, ha⟩ ih
        rw [List.length_cons] at hl
        simp only [lcW, e_dOp, e_dTst, e_dChn, e_dVar, e_dC, e_dNil, e_dCons, e_dStar, e_dTup, e_dLst, e_dAndV, e_dOrV, e_dNotV, e_dIf, e_dAnd, e_dOr, e_dNot, e_dTru, e_fAdd, e_fSub, e_fMul, e_fMod, e_fDiv, e_fPow, e_fEq, e_fNe, e_fInt, e_fLe, e_fIs, e_fIsNot, e_fIn, e_fIx, e_dNoP, e_dPart, e_dSl, e_dCB, e_dC1, e_fLen, e_fList, e_fTuple, e_fToInt, e_fAll, e_fAny, e_dIsT, e_dFr, e_fLst, e_fCat, e_mAppend, e_mExtend, e_mInsert, e_mPop, e_mReverse, e_dNext, e_dSeq, e_dNever, e_dIfS, e_dExpr, e_dRet, e_gDat, e_gsNil, e_gsCons, e_gTupD, e_dAsg, e_dOwn, e_dSeqI, e_dRng1, e_dRng2, e_dZip, e_dFor, e_dYes, e_dLc, e_vNil, e_vCons, e_dCall, e_dNeg, e_dPar, e_dPar3, e_fRepr, e_fJoin, e_dLZ, e_fRev, e_fReprD, e_dBagN, e_dBagL, e_dBagSet, e_dBagInc, e_dLeft, e_dLeftDec, e_vLeft, e_vConsN, e_fLt, e_fGt, e_fGe, e_dMut, go_cons, at0, at1, at2, tru_bool, short_bool, isNoneD, startG, wipeG, backG, keepSV, isOwnL, AV.sv, Opd.wd, Opd.sv, SV.wd, SV.av, Opd.frz, GS.freeze, noL, List.map, List.length, List.replicate, List.cons_append, List.nil_append, List.append_nil, Nat.sub_self, List.getD_cons_zero, List.getD_cons_succ, List.getElem?_cons_zero, List.getElem?_cons_succ, List.set_cons_zero, List.set_cons_succ, if_true, Bool.false_eq_true, if_false, eqOk_int, eqOk_str, eqOk_bool, eqv_int, eqv_str, eqv_bool, eqOk_nil, eqv_nil, eqOk_tnil, eqv_tnil, true_and, and_true, false_and, Bool.true_and, Bool.false_and, Bool.and_true, Bool.and_false, Bool.not_true, Bool.not_false, Bool.not_not, sp_take, sp_some, sp_somes, sp_mixed]
        refine ⟨by decide, fun c hc => ⟨Nat.lt_of_lt_of_le (by omega : acc.length < 8) (by decide), ih _ ⟨by rw [List.length_append, List.length_singleton]; omega, ?_⟩⟩⟩
        rw [List.all_append, ha, List.all_cons, List.all_nil, Bool.and_true, Bool.true_and]
        exact sign_word (by decide +kernel) hc
      case hn =>
        intro acc ⟨hl, ha⟩
        rw [List.length_nil, Nat.zero_add] at hl
        simp only [e_dOp, e_dTst, e_dChn, e_dVar, e_dC, e_dNil, e_dCons, e_dStar, e_dTup, e_dLst, e_dAndV, e_dOrV, e_dNotV, e_dIf, e_dAnd, e_dOr, e_dNot, e_dTru, e_fAdd, e_fSub, e_fMul, e_fMod, e_fDiv, e_fPow, e_fEq, e_fNe, e_fInt, e_fLe, e_fIs, e_fIsNot, e_fIn, e_fIx, e_dNoP, e_dPart, e_dSl, e_dCB, e_dC1, e_fLen, e_fList, e_fTuple, e_fToInt, e_fAll, e_fAny, e_dIsT, e_dFr, e_fLst, e_fCat, e_mAppend, e_mExtend, e_mInsert, e_mPop, e_mReverse, e_dNext, e_dSeq, e_dNever, e_dIfS, e_dExpr, e_dRet, e_gDat, e_gsNil, e_gsCons, e_gTupD, e_dAsg, e_dOwn, e_dSeqI, e_dRng1, e_dRng2, e_dZip, e_dFor, e_dYes, e_dLc, e_vNil, e_vCons, e_dCall, e_dNeg, e_dPar, e_dPar3, e_fRepr, e_fJoin, e_dLZ, e_fRev, e_fReprD, e_dBagN, e_dBagL, e_dBagSet, e_dBagInc, e_dLeft, e_dLeftDec, e_vLeft, e_vConsN, e_fLt, e_fGt, e_fGe, e_dMut, go_cons, at0, at1, at2, tru_bool, short_bool, isNoneD, startG, wipeG, backG, keepSV, isOwnL, AV.sv, Opd.wd, Opd.sv, SV.wd, SV.av, Opd.frz, GS.freeze, noL, List.map, List.length, List.replicate, List.cons_append, List.nil_append, List.append_nil, Nat.sub_self, List.getD_cons_zero, List.getD_cons_succ, List.getElem?_cons_zero, List.getElem?_cons_succ, List.set_cons_zero, List.set_cons_succ, if_true, Bool.false_eq_true, if_false, eqOk_int, eqOk_str, eqOk_bool, eqv_int, eqv_str, eqv_bool, eqOk_nil, eqv_nil, eqOk_tnil, eqv_tnil, true_and, and_true, false_and, Bool.true_and, Bool.false_and, Bool.and_true, Bool.and_false, Bool.not_true, Bool.not_false, Bool.not_not, sp_take, sp_some, sp_somes, sp_mixed]
        refine ⟨by decide, fun c hc => ?_⟩
        have hb : (PyData.str ⟨#[c]⟩ :: acc).all (isWb 1) = true := by rw [List.all_cons, ha, Bool.and_true]; exact sign_word (x := Str.ofString "jv") (by decide +kernel) hc
        obtain ⟨ys, e1, e2, e3, e4⟩ := strs_of hb
        rw [List.length_cons] at e2 e3 e4
        simp only [e1]
        have e0 : (Str.ofString "").length = 0 := rfl
        refine ⟨by decide, Nat.le_trans (by omega : 1 + acc.length ≤ 8) (by decide), by rw [e0, Nat.mul_zero, Nat.add_zero]; omega, by decide, by decide, by decide, fun es pe => ?_⟩
        have le := pe.length_eq
        have ae : es.all (isWb 8) = true := by
          rw [List.all_eq_true]
          intro d hd
          have hd' := pe.mem_iff.mp hd
          revert hd'
          have : ∀ d ∈ ([.str "a", .str "b", .str "c", .str "ab", .str "copy", .str "say", .str "row", .str "form", .str "word", .str "pick", .str "zzzzzzzz", .str "x", .str "maybe", .str "none"] : List PyData), isWb 8 d = true := by
            rw [← List.all_eq_true]; decide +kernel
          intro hd'
          rw [show ([.str "a", .str "b", .str "c", .str "ab", .str "copy", .str "say", .str "row", .str "form", .str "word", .str "pick", .str "zzzzzzzz", .str "x", .str "maybe", .str "none", .str (Txt.join (Str.ofString "") ys)] : List PyData) = [.str "a", .str "b", .str "c", .str "ab", .str "copy", .str "say", .str "row", .str "form", .str "word", .str "pick", .str "zzzzzzzz", .str "x", .str "maybe", .str "none"] ++ [.str (Txt.join (Str.ofString "") ys)] from rfl, List.mem_append] at hd'
          rcases hd' with hd' | hd'
          · exact this d hd'
          · rw [List.mem_singleton] at hd'
            subst hd'
            obtain ⟨x, ex, x1, x2⟩ := isWb_str e4
            cases ex
            exact isWb_mk (by omega) x2
        have le' : es.length = 15 := le
        rw [cut_to (by omega)]
        refine h _ ?_ ?_ ?_
        · intro z
          have := congrArg List.length z
          rw [List.length_take, List.length_nil] at this
          omega
        · rw [List.length_take]; omega
        · rw [List.all_eq_true] at ae ⊢
          exact fun d hd => ae d (List.mem_of_mem_take hd)
    · exact h.elim
theorem sp_names {m : Int} {Q : PyData → Prop} : spNames [.bag, .d (.int m)] Q = ((1 ≤ m ∧ m ≤ 15) ∧ ∀ ns : List PyData, ns ≠ [] → (ns.length : Int) ≤ m → ns.all (isWb 8) = true → Q (.list ns)) := rfl
def spBase : SpD := fun avs Q => match avs with
  | [.bag] => ∀ d, IsB d → Q d
  | _ => False
theorem sp_base {Q : PyData → Prop} : spBase [.bag] Q = (∀ d, IsB d → Q d) := rfl
theorem B_law_base (D : DefOk K mg "_law_base" s_law_base ["bag"]) (T : Txt mg) (B_law_take : FnB P w K mg base 1 "_law_take" ["bag", "many"] spTake) (B_law_some : FnB P w K mg base 2 "_law_some" ["bag", "things"] spSome) : FnB P w K mg base 3 "_law_base" ["bag"] spBase := by
  refine fnB_of D sc_law_base (fun avs Q h => ?_) (fun f cd A outer s H E => ⟨_, (dss_one (ds_ret (dx_if (dxt_cmp E (fun _ h => op_eqX h) (ops_eq K) (dx_callb E B_law_take (by decide) (dxv_cons (dx_var 0) (dxv_cons dx_int dxv_nil))) dx_int (nomark _)) (dx_tup (dxa_cons dx_str dxa_nil)) (dx_tup (dxa_cons dx_str (dxa_cons (dx_callb E B_law_some (by decide) (dxv_cons (dx_var 0) (dxv_cons (dx_lst (dxa_cons dx_int (dxa_cons dx_int (dxa_cons dx_int (dxa_cons dx_int (dxa_cons dx_int dxa_nil)))))) dxv_nil))) dxa_nil)))))), fun avs Q h => ?_⟩)
  · unfold spBase at h; split at h <;> first | rfl | exact h.elim
  · unfold spBase at h
    split at h
    · simp only [e_dOp, e_dTst, e_dChn, e_dVar, e_dC, e_dNil, e_dCons, e_dStar, e_dTup, e_dLst, e_dAndV, e_dOrV, e_dNotV, e_dIf, e_dAnd, e_dOr, e_dNot, e_dTru, e_fAdd, e_fSub, e_fMul, e_fMod, e_fDiv, e_fPow, e_fEq, e_fNe, e_fInt, e_fLe, e_fIs, e_fIsNot, e_fIn, e_fIx, e_dNoP, e_dPart, e_dSl, e_dCB, e_dC1, e_fLen, e_fList, e_fTuple, e_fToInt, e_fAll, e_fAny, e_dIsT, e_dFr, e_fLst, e_fCat, e_mAppend, e_mExtend, e_mInsert, e_mPop, e_mReverse, e_dNext, e_dSeq, e_dNever, e_dIfS, e_dExpr, e_dRet, e_gDat, e_gsNil, e_gsCons, e_gTupD, e_dAsg, e_dOwn, e_dSeqI, e_dRng1, e_dRng2, e_dZip, e_dFor, e_dYes, e_dLc, e_vNil, e_vCons, e_dCall, e_dNeg, e_dPar, e_dPar3, e_fRepr, e_fJoin, e_dLZ, e_fRev, e_fReprD, e_dBagN, e_dBagL, e_dBagSet, e_dBagInc, e_dLeft, e_dLeftDec, e_vLeft, e_vConsN, e_fLt, e_fGt, e_fGe, e_dMut, go_cons, at0, at1, at2, tru_bool, short_bool, isNoneD, startG, wipeG, backG, keepSV, isOwnL, AV.sv, Opd.wd, Opd.sv, SV.wd, SV.av, Opd.frz, GS.freeze, noL, List.map, List.length, List.replicate, List.cons_append, List.nil_append, List.append_nil, Nat.sub_self, List.getD_cons_zero, List.getD_cons_succ, List.getElem?_cons_zero, List.getElem?_cons_succ, List.set_cons_zero, List.set_cons_succ, if_true, Bool.false_eq_true, if_false, eqOk_int, eqOk_str, eqOk_bool, eqv_int, eqv_str, eqv_bool, eqOk_nil, eqv_nil, eqOk_tnil, eqv_tnil, true_and, and_true, false_and, Bool.true_and, Bool.false_and, Bool.and_true, Bool.and_false, Bool.not_true, Bool.not_false, Bool.not_not, sp_take, sp_some, sp_somes, sp_mixed, sp_names, sp_base]
      refine ⟨⟨by decide, by decide⟩, fun r r0 r1 => ?_⟩
      split
      · exact ⟨by decide, h _ (.inl rfl)⟩
      · refine ⟨by decide, ⟨by simp, by decide⟩, fun x hx => ⟨by decide, ?_⟩⟩
        have : x = .int 2 ∨ x = .int 3 ∨ x = .int 1 ∨ x = .int 4 := by
          simp only [List.mem_cons, List.not_mem_nil, or_false] at hx
          rcases hx with e | e | e | e | e <;> simp [e]
        rcases this with e | e | e | e <;> subst e <;> exact h _ (.inr ⟨_, by decide, by decide, rfl⟩)
    · exact h.elim
def spKind : SpD := fun avs Q => match avs with
  | [.bag] => ∀ d, IsK d → Q d
  | _ => False
theorem sp_kind {Q : PyData → Prop} : spKind [.bag] Q = (∀ d, IsK d → Q d) := rfl
theorem B_law_kind (D : DefOk K mg "_law_kind" s_law_kind ["bag"]) (T : Txt mg) (B_law_take : FnB P w K mg base 1 "_law_take" ["bag", "many"] spTake) (B_law_base : FnB P w K mg base 3 "_law_base" ["bag"] spBase) : FnB P w K mg base 4 "_law_kind" ["bag"] spKind := by
  refine fnB_of D sc_law_kind (fun avs Q h => ?_) (fun f cd A outer s H E => ⟨_, (dss_cons (ds_par 1 2 E (fun _ => sc_law_kind.nd) (dxa_cons (dx_callb E B_law_take (by decide) (dxv_cons (dx_var 0) (dxv_cons dx_int dxv_nil))) (dxa_cons (dx_callb E B_law_base (by decide) (dxv_cons (dx_var 0) dxv_nil)) dxa_nil)))
  (dss_one (ds_ret (dx_if (dxt_cmp E (r := fun _ => _) (fun _ _ => op_lt) (ops_int K _) (dx_var 1) dx_int (nomark _)) (dx_var 2) (dx_if (dxt_cmp E (r := fun _ => _) (fun _ _ => op_lt) (ops_int K _) (dx_var 1) dx_int (nomark _)) (dx_tup (dxa_cons dx_str (dxa_cons (dx_var 2) dxa_nil))) (dx_tup (dxa_cons dx_str (dxa_cons (dx_var 2) dxa_nil)))))))), fun avs Q h => ?_⟩)
  · unfold spKind at h; split at h <;> first | rfl | exact h.elim
  · unfold spKind at h
    split at h
    · simp only [e_dOp, e_dTst, e_dChn, e_dVar, e_dC, e_dNil, e_dCons, e_dStar, e_dTup, e_dLst, e_dAndV, e_dOrV, e_dNotV, e_dIf, e_dAnd, e_dOr, e_dNot, e_dTru, e_fAdd, e_fSub, e_fMul, e_fMod, e_fDiv, e_fPow, e_fEq, e_fNe, e_fInt, e_fLe, e_fIs, e_fIsNot, e_fIn, e_fIx, e_dNoP, e_dPart, e_dSl, e_dCB, e_dC1, e_fLen, e_fList, e_fTuple, e_fToInt, e_fAll, e_fAny, e_dIsT, e_dFr, e_fLst, e_fCat, e_mAppend, e_mExtend, e_mInsert, e_mPop, e_mReverse, e_dNext, e_dSeq, e_dNever, e_dIfS, e_dExpr, e_dRet, e_gDat, e_gsNil, e_gsCons, e_gTupD, e_dAsg, e_dOwn, e_dSeqI, e_dRng1, e_dRng2, e_dZip, e_dFor, e_dYes, e_dLc, e_vNil, e_vCons, e_dCall, e_dNeg, e_dPar, e_dPar3, e_fRepr, e_fJoin, e_dLZ, e_fRev, e_fReprD, e_dBagN, e_dBagL, e_dBagSet, e_dBagInc, e_dLeft, e_dLeftDec, e_vLeft, e_vConsN, e_fLt, e_fGt, e_fGe, e_dMut, go_cons, at0, at1, at2, tru_bool, short_bool, isNoneD, startG, wipeG, backG, keepSV, isOwnL, AV.sv, Opd.wd, Opd.sv, SV.wd, SV.av, Opd.frz, GS.freeze, noL, List.map, List.length, List.replicate, List.cons_append, List.nil_append, List.append_nil, Nat.sub_self, List.getD_cons_zero, List.getD_cons_succ, List.getElem?_cons_zero, List.getElem?_cons_succ, List.set_cons_zero, List.set_cons_succ, if_true, Bool.false_eq_true, if_false, eqOk_int, eqOk_str, eqOk_bool, eqv_int, eqv_str, eqv_bool, eqOk_nil, eqv_nil, eqOk_tnil, eqv_tnil, true_and, and_true, false_and, Bool.true_and, Bool.false_and, Bool.and_true, Bool.and_false, Bool.not_true, Bool.not_false, Bool.not_not, sp_take, sp_some, sp_somes, sp_mixed, sp_names, sp_base, sp_kind]
      refine ⟨⟨by decide, by decide⟩, fun r r0 r1 b hb => ?_⟩
      split
      · exact h _ (.inl hb)
      · split
        · exact ⟨by decide, h _ (.inr ⟨b, hb, .inl rfl⟩)⟩
        · exact ⟨by decide, h _ (.inr ⟨b, hb, .inr rfl⟩)⟩
    · exact h.elim
def spForm : SpD := fun avs Q => match avs with
  | [.bag, .d (.int m)] => (1 ≤ m ∧ m ≤ 5) ∧ ∀ d, IsF d → Q d
  | _ => False
theorem sp_form {m : Int} {Q : PyData → Prop} : spForm [.bag, .d (.int m)] Q = ((1 ≤ m ∧ m ≤ 5) ∧ ∀ d, IsF d → Q d) := rfl
theorem B_law_form (D : DefOk K mg "_law_form" s_law_form ["bag", "most"]) (T : Txt mg) (B_law_take : FnB P w K mg base 1 "_law_take" ["bag", "many"] spTake) (B_law_kind : FnB P w K mg base 4 "_law_kind" ["bag"] spKind) (B_law_names : FnB P w K mg base 3 "_law_names" ["bag", "many"] spNames) : FnB P w K mg base 5 "_law_form" ["bag", "most"] spForm := by
  refine fnB_of D sc_law_form (fun avs Q h => ?_) (fun f cd A outer s H E => ⟨_, (dss_one (ds_ret (dx_call1Ty (r := rTupD) E (fun _ _ => call_tupD) (cs_tuple K) (by intro _; rfl) T.b_tuple boot_tuple (dx_fr (dxf_lc [("name", 2)] E (fun _ => sc_law_form.nd) (dxi_seq E (dx_callb E B_law_names (by decide) (dxv_cons (dx_var 0) (dxv_cons (dx_op E (fun _ _ => op_addD) (ops_add K) dx_int (dx_callb E B_law_take (by decide) (dxv_cons (dx_var 0) (dxv_cons (dx_var 1) dxv_nil)))) dxv_nil)))) (fun _ => blkOk_by (by rfl)) (dg_name 2 (fun _ => sc_law_form.nd)) dxp_nil (dx_tup (dxa_cons (dx_var 2) (dxa_cons (dx_callb (E.blk _) B_law_kind (by decide) (dxv_cons (dx_var 0) dxv_nil)) dxa_nil)))))))), fun avs Q h => ?_⟩)
  · unfold spForm at h; split at h <;> first | rfl | exact h.elim
  · unfold spForm at h
    split at h
    · rename_i m
      obtain ⟨⟨h0, h1⟩, h⟩ := h
      simp only [e_dOp, e_dTst, e_dChn, e_dVar, e_dC, e_dNil, e_dCons, e_dStar, e_dTup, e_dLst, e_dAndV, e_dOrV, e_dNotV, e_dIf, e_dAnd, e_dOr, e_dNot, e_dTru, e_fAdd, e_fSub, e_fMul, e_fMod, e_fDiv, e_fPow, e_fEq, e_fNe, e_fInt, e_fLe, e_fIs, e_fIsNot, e_fIn, e_fIx, e_dNoP, e_dPart, e_dSl, e_dCB, e_dC1, e_fLen, e_fList, e_fTuple, e_fToInt, e_fAll, e_fAny, e_dIsT, e_dFr, e_fLst, e_fCat, e_mAppend, e_mExtend, e_mInsert, e_mPop, e_mReverse, e_dNext, e_dSeq, e_dNever, e_dIfS, e_dExpr, e_dRet, e_gDat, e_gsNil, e_gsCons, e_gTupD, e_dAsg, e_dOwn, e_dSeqI, e_dRng1, e_dRng2, e_dZip, e_dFor, e_dYes, e_dLc, e_vNil, e_vCons, e_dCall, e_dNeg, e_dPar, e_dPar3, e_fRepr, e_fJoin, e_dLZ, e_fRev, e_fReprD, e_dBagN, e_dBagL, e_dBagSet, e_dBagInc, e_dLeft, e_dLeftDec, e_vLeft, e_vConsN, e_fLt, e_fGt, e_fGe, e_dMut, go_cons, at0, at1, at2, tru_bool, short_bool, isNoneD, startG, wipeG, backG, keepSV, isOwnL, AV.sv, Opd.wd, Opd.sv, SV.wd, SV.av, Opd.frz, GS.freeze, noL, List.map, List.length, List.replicate, List.cons_append, List.nil_append, List.append_nil, Nat.sub_self, List.getD_cons_zero, List.getD_cons_succ, List.getElem?_cons_zero, List.getElem?_cons_succ, List.set_cons_zero, List.set_cons_succ, if_true, Bool.false_eq_true, if_false, eqOk_int, eqOk_str, eqOk_bool, eqv_int, eqv_str, eqv_bool, eqOk_nil, eqv_nil, eqOk_tnil, eqv_tnil, true_and, and_true, false_and, Bool.true_and, Bool.false_and, Bool.and_true, Bool.and_false, Bool.not_true, Bool.not_false, Bool.not_not, sp_take, sp_some, sp_somes, sp_mixed, sp_names, sp_base, sp_kind, sp_form]
      refine ⟨⟨by omega, by omega⟩, fun r r0 r1 => ⟨⟨by omega, by omega⟩, fun ns n0 n1 n2 => ?_⟩⟩
      refine lcW_of (fun ds acc => ds.length + acc.length = ns.length ∧ ds.all (isWb 8) = true ∧ ∀ f ∈ acc, IsFd f) ?hn ?hc _ _ ⟨by simp, n2, by simp⟩
      case hn =>
        intro acc ⟨hl, _, ha⟩
        rw [List.length_nil, Nat.zero_add] at hl
        try simp only [e_dOp, e_dTst, e_dChn, e_dVar, e_dC, e_dNil, e_dCons, e_dStar, e_dTup, e_dLst, e_dAndV, e_dOrV, e_dNotV, e_dIf, e_dAnd, e_dOr, e_dNot, e_dTru, e_fAdd, e_fSub, e_fMul, e_fMod, e_fDiv, e_fPow, e_fEq, e_fNe, e_fInt, e_fLe, e_fIs, e_fIsNot, e_fIn, e_fIx, e_dNoP, e_dPart, e_dSl, e_dCB, e_dC1, e_fLen, e_fList, e_fTuple, e_fToInt, e_fAll, e_fAny, e_dIsT, e_dFr, e_fLst, e_fCat, e_mAppend, e_mExtend, e_mInsert, e_mPop, e_mReverse, e_dNext, e_dSeq, e_dNever, e_dIfS, e_dExpr, e_dRet, e_gDat, e_gsNil, e_gsCons, e_gTupD, e_dAsg, e_dOwn, e_dSeqI, e_dRng1, e_dRng2, e_dZip, e_dFor, e_dYes, e_dLc, e_vNil, e_vCons, e_dCall, e_dNeg, e_dPar, e_dPar3, e_fRepr, e_fJoin, e_dLZ, e_fRev, e_fReprD, e_dBagN, e_dBagL, e_dBagSet, e_dBagInc, e_dLeft, e_dLeftDec, e_vLeft, e_vConsN, e_fLt, e_fGt, e_fGe, e_dMut, go_cons, at0, at1, at2, tru_bool, short_bool, isNoneD, startG, wipeG, backG, keepSV, isOwnL, AV.sv, Opd.wd, Opd.sv, SV.wd, SV.av, Opd.frz, GS.freeze, noL, List.map, List.length, List.replicate, List.cons_append, List.nil_append, List.append_nil, Nat.sub_self, List.getD_cons_zero, List.getD_cons_succ, List.getElem?_cons_zero, List.getElem?_cons_succ, List.set_cons_zero, List.set_cons_succ, if_true, Bool.false_eq_true, if_false, eqOk_int, eqOk_str, eqOk_bool, eqv_int, eqv_str, eqv_bool, eqOk_nil, eqv_nil, eqOk_tnil, eqv_tnil, true_and, and_true, false_and, Bool.true_and, Bool.false_and, Bool.and_true, Bool.and_false, Bool.not_true, Bool.not_false, Bool.not_not, sp_take, sp_some, sp_somes, sp_mixed, sp_names, sp_base, sp_kind, sp_form]
        refine h _ ⟨acc, rfl, ?_, by omega, ha⟩
        intro z
        subst z
        exact n0 (List.length_eq_zero_iff.mp hl.symm)
      case hc =>
        intro d ds acc ⟨hl, hd, ha⟩ ih
        rw [List.length_cons] at hl
        rw [List.all_cons, Bool.and_eq_true] at hd
        simp only [lcW, e_dOp, e_dTst, e_dChn, e_dVar, e_dC, e_dNil, e_dCons, e_dStar, e_dTup, e_dLst, e_dAndV, e_dOrV, e_dNotV, e_dIf, e_dAnd, e_dOr, e_dNot, e_dTru, e_fAdd, e_fSub, e_fMul, e_fMod, e_fDiv, e_fPow, e_fEq, e_fNe, e_fInt, e_fLe, e_fIs, e_fIsNot, e_fIn, e_fIx, e_dNoP, e_dPart, e_dSl, e_dCB, e_dC1, e_fLen, e_fList, e_fTuple, e_fToInt, e_fAll, e_fAny, e_dIsT, e_dFr, e_fLst, e_fCat, e_mAppend, e_mExtend, e_mInsert, e_mPop, e_mReverse, e_dNext, e_dSeq, e_dNever, e_dIfS, e_dExpr, e_dRet, e_gDat, e_gsNil, e_gsCons, e_gTupD, e_dAsg, e_dOwn, e_dSeqI, e_dRng1, e_dRng2, e_dZip, e_dFor, e_dYes, e_dLc, e_vNil, e_vCons, e_dCall, e_dNeg, e_dPar, e_dPar3, e_fRepr, e_fJoin, e_dLZ, e_fRev, e_fReprD, e_dBagN, e_dBagL, e_dBagSet, e_dBagInc, e_dLeft, e_dLeftDec, e_vLeft, e_vConsN, e_fLt, e_fGt, e_fGe, e_dMut, go_cons, at0, at1, at2, tru_bool, short_bool, isNoneD, startG, wipeG, backG, keepSV, isOwnL, AV.sv, Opd.wd, Opd.sv, SV.wd, SV.av, Opd.frz, GS.freeze, noL, List.map, List.length, List.replicate, List.cons_append, List.nil_append, List.append_nil, Nat.sub_self, List.getD_cons_zero, List.getD_cons_succ, List.getElem?_cons_zero, List.getElem?_cons_succ, List.set_cons_zero, List.set_cons_succ, if_true, Bool.false_eq_true, if_false, eqOk_int, eqOk_str, eqOk_bool, eqv_int, eqv_str, eqv_bool, eqOk_nil, eqv_nil, eqOk_tnil, eqv_tnil, true_and, and_true, false_and, Bool.true_and, Bool.false_and, Bool.and_true, Bool.and_false, Bool.not_true, Bool.not_false, Bool.not_not, sp_take, sp_some, sp_somes, sp_mixed, sp_names, sp_base, sp_kind, sp_form]
        intro k hk
        refine ⟨by decide, Nat.lt_of_lt_of_le (by omega : acc.length < 6) (by decide), ih _ ⟨by rw [List.length_append, List.length_singleton]; omega, hd.2, fun f hf => ?_⟩⟩
        rcases List.mem_append.mp hf with hf | hf
        · exact ha f hf
        · rw [List.mem_singleton] at hf
          subst hf
          obtain ⟨x, rfl, x1, x2⟩ := isWb_str hd.1
          exact ⟨x, k, rfl, hd.1, hk⟩
    · exact h.elim
/-- words of twelve signs at most -/
def spWord : SpD := fun avs Q => match avs with
  | [.bag] => ∀ d, isWb 12 d = true → Q d
  | _ => False
theorem sp_word {Q : PyData → Prop} : spWord [.bag] Q = (∀ d, isWb 12 d = true → Q d) := rfl
theorem word_up {n m : Nat} {d : PyData} (h : isWb n d = true) (l : n ≤ m) : isWb m d = true := by
  obtain ⟨x, rfl, h1, h2⟩ := isWb_str h
  exact isWb_mk (Nat.le_trans h1 l) h2
theorem B_law_plain_word (D : DefOk K mg "_law_plain_word" s_law_plain_word ["bag"]) (T : Txt mg) (B_law_take : FnB P w K mg base 1 "_law_take" ["bag", "many"] spTake) (B_law_some : FnB P w K mg base 2 "_law_some" ["bag", "things"] spSome) : FnB P w K mg base 3 "_law_plain_word" ["bag"] spWord := by
  refine fnB_of D sc_law_plain_word (fun avs Q h => ?_) (fun f cd A outer s H E => ⟨_, (dss_cons (ds_if (dxt_cmp E (fun _ h => op_eqX h) (ops_eq K) (dx_callb E B_law_take (by decide) (dxv_cons (dx_var 0) (dxv_cons dx_int dxv_nil))) dx_int (nomark _)) (dss_cons (ds_set 2 (fun _ => sc_law_plain_word.nd) dx_str)
  (dss_one (ds_ret (dx_join E (dx_fr (dxf_lc [("k", 3)] E (fun _ => sc_law_plain_word.nd) (dxi_range1 E (by intro _; rfl) T.b_range (dxa_cons (dx_callb E B_law_take (by decide) (dxv_cons (dx_var 0) (dxv_cons dx_int dxv_nil))) dxa_nil)) (fun _ => blkOk_by (by rfl)) (dg_name 3 (fun _ => sc_law_plain_word.nd)) dxp_nil (dx_callb (E.blk _) B_law_some (by decide) (dxv_cons (dx_var 0) (dxv_cons (dx_op (E.blk _) (fun _ _ => op_addD) (ops_add K) (dx_var 2) dx_str) dxv_nil))))))))) dss_nil)
  (dss_cons (ds_set 1 (fun _ => sc_law_plain_word.nd) (dx_lst (dxa_cons dx_str (dxa_cons dx_str (dxa_cons dx_str (dxa_cons dx_str (dxa_cons dx_str (dxa_cons dx_str (dxa_cons dx_str (dxa_cons dx_str (dxa_cons dx_str (dxa_cons dx_str (dxa_cons dx_str (dxa_cons dx_str (dxa_cons dx_str (dxa_cons dx_str (dxa_cons dx_str (dxa_cons dx_str dxa_nil))))))))))))))))))
  (dss_one (ds_ret (dx_callb E B_law_some (by decide) (dxv_cons (dx_var 0) (dxv_cons (dx_op E (fun _ _ => op_addD) (ops_add K) (dx_var 1) (dx_lst (dxa_cons dx_str (dxa_cons dx_str (dxa_cons dx_str (dxa_cons dx_str (dxa_cons dx_str (dxa_cons dx_str (dxa_cons dx_str dxa_nil))))))))) dxv_nil))))))), fun avs Q h => ?_⟩)
  · unfold spWord at h; split at h <;> first | rfl | exact h.elim
  · unfold spWord at h
    split at h
    · simp only [e_dOp, e_dTst, e_dChn, e_dVar, e_dC, e_dNil, e_dCons, e_dStar, e_dTup, e_dLst, e_dAndV, e_dOrV, e_dNotV, e_dIf, e_dAnd, e_dOr, e_dNot, e_dTru, e_fAdd, e_fSub, e_fMul, e_fMod, e_fDiv, e_fPow, e_fEq, e_fNe, e_fInt, e_fLe, e_fIs, e_fIsNot, e_fIn, e_fIx, e_dNoP, e_dPart, e_dSl, e_dCB, e_dC1, e_fLen, e_fList, e_fTuple, e_fToInt, e_fAll, e_fAny, e_dIsT, e_dFr, e_fLst, e_fCat, e_mAppend, e_mExtend, e_mInsert, e_mPop, e_mReverse, e_dNext, e_dSeq, e_dNever, e_dIfS, e_dExpr, e_dRet, e_gDat, e_gsNil, e_gsCons, e_gTupD, e_dAsg, e_dOwn, e_dSeqI, e_dRng1, e_dRng2, e_dZip, e_dFor, e_dYes, e_dLc, e_vNil, e_vCons, e_dCall, e_dNeg, e_dPar, e_dPar3, e_fRepr, e_fJoin, e_dLZ, e_fRev, e_fReprD, e_dBagN, e_dBagL, e_dBagSet, e_dBagInc, e_dLeft, e_dLeftDec, e_vLeft, e_vConsN, e_fLt, e_fGt, e_fGe, e_dMut, go_cons, at0, at1, at2, tru_bool, short_bool, isNoneD, startG, wipeG, backG, keepSV, isOwnL, AV.sv, Opd.wd, Opd.sv, SV.wd, SV.av, Opd.frz, GS.freeze, noL, List.map, List.length, List.replicate, List.cons_append, List.nil_append, List.append_nil, Nat.sub_self, List.getD_cons_zero, List.getD_cons_succ, List.getElem?_cons_zero, List.getElem?_cons_succ, List.set_cons_zero, List.set_cons_succ, if_true, Bool.false_eq_true, if_false, eqOk_int, eqOk_str, eqOk_bool, eqv_int, eqv_str, eqv_bool, eqOk_nil, eqv_nil, eqOk_tnil, eqv_tnil, true_and, and_true, false_and, Bool.true_and, Bool.false_and, Bool.and_true, Bool.and_false, Bool.not_true, Bool.not_false, Bool.not_not, sp_take, sp_some, sp_somes, sp_mixed, sp_names, sp_base, sp_kind, sp_form, sp_word]
      refine ⟨⟨by decide, by decide⟩, fun r r0 r1 => ?_⟩
      split
      · refine ⟨⟨by decide, by decide⟩, fun n n0 n1 => ⟨⟨by omega, by omega⟩, ?_⟩⟩
        refine lcW_of (fun ds acc => ds.length + acc.length ≤ 12 ∧ acc.all (isWb 1) = true) ?hn ?hc _ _ ⟨?h0, rfl⟩
        case h0 => simp only [rangeD, List.length_map, List.length_range, List.length_nil]; omega
        case hc =>
          intro d ds acc ⟨hl, ha⟩ ih
          rw [List.length_cons] at hl
          simp only [lcW, e_dOp, e_dTst, e_dChn, e_dVar, e_dC, e_dNil, e_dCons, e_dStar, e_dTup, e_dLst, e_dAndV, e_dOrV, e_dNotV, e_dIf, e_dAnd, e_dOr, e_dNot, e_dTru, e_fAdd, e_fSub, e_fMul, e_fMod, e_fDiv, e_fPow, e_fEq, e_fNe, e_fInt, e_fLe, e_fIs, e_fIsNot, e_fIn, e_fIx, e_dNoP, e_dPart, e_dSl, e_dCB, e_dC1, e_fLen, e_fList, e_fTuple, e_fToInt, e_fAll, e_fAny, e_dIsT, e_dFr, e_fLst, e_fCat, e_mAppend, e_mExtend, e_mInsert, e_mPop, e_mReverse, e_dNext, e_dSeq, e_dNever, e_dIfS, e_dExpr, e_dRet, e_gDat, e_gsNil, e_gsCons, e_gTupD, e_dAsg, e_dOwn, e_dSeqI, e_dRng1, e_dRng2, e_dZip, e_dFor, e_dYes, e_dLc, e_vNil, e_vCons, e_dCall, e_dNeg, e_dPar, e_dPar3, e_fRepr, e_fJoin, e_dLZ, e_fRev, e_fReprD, e_dBagN, e_dBagL, e_dBagSet, e_dBagInc, e_dLeft, e_dLeftDec, e_vLeft, e_vConsN, e_fLt, e_fGt, e_fGe, e_dMut, go_cons, at0, at1, at2, tru_bool, short_bool, isNoneD, startG, wipeG, backG, keepSV, isOwnL, AV.sv, Opd.wd, Opd.sv, SV.wd, SV.av, Opd.frz, GS.freeze, noL, List.map, List.length, List.replicate, List.cons_append, List.nil_append, List.append_nil, Nat.sub_self, List.getD_cons_zero, List.getD_cons_succ, List.getElem?_cons_zero, List.getElem?_cons_succ, List.set_cons_zero, List.set_cons_succ, if_true, Bool.false_eq_true, if_false, eqOk_int, eqOk_str, eqOk_bool, eqv_int, eqv_str, eqv_bool, eqOk_nil, eqv_nil, eqOk_tnil, eqv_tnil, true_and, and_true, false_and, Bool.true_and, Bool.false_and, Bool.and_true, Bool.and_false, Bool.not_true, Bool.not_false, Bool.not_not, sp_take, sp_some, sp_somes, sp_mixed, sp_names, sp_base, sp_kind, sp_form, sp_word]
          refine ⟨by decide, ⟨by decide, by decide⟩, fun c hc => ⟨Nat.lt_of_lt_of_le (by omega : acc.length < 13) (by decide), ih _ ⟨by rw [List.length_append, List.length_singleton]; omega, ?_⟩⟩⟩
          rw [List.all_append, ha, List.all_cons, List.all_nil, Bool.and_true, Bool.true_and]
          exact sign_word (by decide +kernel) hc
        case hn =>
          intro acc ⟨hl, ha⟩
          rw [List.length_nil, Nat.zero_add] at hl
          try simp only [e_dOp, e_dTst, e_dChn, e_dVar, e_dC, e_dNil, e_dCons, e_dStar, e_dTup, e_dLst, e_dAndV, e_dOrV, e_dNotV, e_dIf, e_dAnd, e_dOr, e_dNot, e_dTru, e_fAdd, e_fSub, e_fMul, e_fMod, e_fDiv, e_fPow, e_fEq, e_fNe, e_fInt, e_fLe, e_fIs, e_fIsNot, e_fIn, e_fIx, e_dNoP, e_dPart, e_dSl, e_dCB, e_dC1, e_fLen, e_fList, e_fTuple, e_fToInt, e_fAll, e_fAny, e_dIsT, e_dFr, e_fLst, e_fCat, e_mAppend, e_mExtend, e_mInsert, e_mPop, e_mReverse, e_dNext, e_dSeq, e_dNever, e_dIfS, e_dExpr, e_dRet, e_gDat, e_gsNil, e_gsCons, e_gTupD, e_dAsg, e_dOwn, e_dSeqI, e_dRng1, e_dRng2, e_dZip, e_dFor, e_dYes, e_dLc, e_vNil, e_vCons, e_dCall, e_dNeg, e_dPar, e_dPar3, e_fRepr, e_fJoin, e_dLZ, e_fRev, e_fReprD, e_dBagN, e_dBagL, e_dBagSet, e_dBagInc, e_dLeft, e_dLeftDec, e_vLeft, e_vConsN, e_fLt, e_fGt, e_fGe, e_dMut, go_cons, at0, at1, at2, tru_bool, short_bool, isNoneD, startG, wipeG, backG, keepSV, isOwnL, AV.sv, Opd.wd, Opd.sv, SV.wd, SV.av, Opd.frz, GS.freeze, noL, List.map, List.length, List.replicate, List.cons_append, List.nil_append, List.append_nil, Nat.sub_self, List.getD_cons_zero, List.getD_cons_succ, List.getElem?_cons_zero, List.getElem?_cons_succ, List.set_cons_zero, List.set_cons_succ, if_true, Bool.false_eq_true, if_false, eqOk_int, eqOk_str, eqOk_bool, eqv_int, eqv_str, eqv_bool, eqOk_nil, eqv_nil, eqOk_tnil, eqv_tnil, true_and, and_true, false_and, Bool.true_and, Bool.false_and, Bool.and_true, Bool.and_false, Bool.not_true, Bool.not_false, Bool.not_not, sp_take, sp_some, sp_somes, sp_mixed, sp_names, sp_base, sp_kind, sp_form, sp_word]
          obtain ⟨ys, e1, e2, e3, e4⟩ := strs_of ha
          simp only [e1]
          have e0 : (Str.ofString "").length = 0 := rfl
          exact ⟨by rw [e0, Nat.mul_zero, Nat.add_zero]; omega, h _ (word_up e4 hl)⟩
      · refine ⟨by decide, by decide, by decide, ⟨by simp, by decide⟩, fun x hx => h x ?_⟩
        revert x hx
        rw [← List.all_eq_true]; decide +kernel
    · exact h.elim
theorem B_law_word (D : DefOk K mg "_law_word" s_law_word ["bag"]) (T : Txt mg) (B_law_take : FnB P w K mg base 1 "_law_take" ["bag", "many"] spTake) (B_law_some : FnB P w K mg base 2 "_law_some" ["bag", "things"] spSome) (B_law_plain_word : FnB P w K mg base 3 "_law_plain_word" ["bag"] spWord) : FnB P w K mg base 4 "_law_word" ["bag"] spWord := by
  refine fnB_of D sc_law_word (fun avs Q h => ?_) (fun f cd A outer s H E => ⟨_, (dss_one (ds_ret (dx_if (dxt_cmp E (fun _ h => op_eqX h) (ops_eq K) (dx_callb E B_law_take (by decide) (dxv_cons (dx_var 0) (dxv_cons dx_int dxv_nil))) dx_int (nomark _)) (dx_callb E B_law_some (by decide) (dxv_cons (dx_var 0) (dxv_cons (dx_lst (dxa_cons dx_str (dxa_cons dx_str (dxa_cons dx_str (dxa_cons dx_str (dxa_cons dx_str (dxa_cons dx_str dxa_nil))))))) dxv_nil))) (dx_callb E B_law_plain_word (by decide) (dxv_cons (dx_var 0) dxv_nil))))), fun avs Q h => ?_⟩)
  · unfold spWord at h; split at h <;> first | rfl | exact h.elim
  · unfold spWord at h
    split at h
    · simp only [e_dOp, e_dTst, e_dChn, e_dVar, e_dC, e_dNil, e_dCons, e_dStar, e_dTup, e_dLst, e_dAndV, e_dOrV, e_dNotV, e_dIf, e_dAnd, e_dOr, e_dNot, e_dTru, e_fAdd, e_fSub, e_fMul, e_fMod, e_fDiv, e_fPow, e_fEq, e_fNe, e_fInt, e_fLe, e_fIs, e_fIsNot, e_fIn, e_fIx, e_dNoP, e_dPart, e_dSl, e_dCB, e_dC1, e_fLen, e_fList, e_fTuple, e_fToInt, e_fAll, e_fAny, e_dIsT, e_dFr, e_fLst, e_fCat, e_mAppend, e_mExtend, e_mInsert, e_mPop, e_mReverse, e_dNext, e_dSeq, e_dNever, e_dIfS, e_dExpr, e_dRet, e_gDat, e_gsNil, e_gsCons, e_gTupD, e_dAsg, e_dOwn, e_dSeqI, e_dRng1, e_dRng2, e_dZip, e_dFor, e_dYes, e_dLc, e_vNil, e_vCons, e_dCall, e_dNeg, e_dPar, e_dPar3, e_fRepr, e_fJoin, e_dLZ, e_fRev, e_fReprD, e_dBagN, e_dBagL, e_dBagSet, e_dBagInc, e_dLeft, e_dLeftDec, e_vLeft, e_vConsN, e_fLt, e_fGt, e_fGe, e_dMut, go_cons, at0, at1, at2, tru_bool, short_bool, isNoneD, startG, wipeG, backG, keepSV, isOwnL, AV.sv, Opd.wd, Opd.sv, SV.wd, SV.av, Opd.frz, GS.freeze, noL, List.map, List.length, List.replicate, List.cons_append, List.nil_append, List.append_nil, Nat.sub_self, List.getD_cons_zero, List.getD_cons_succ, List.getElem?_cons_zero, List.getElem?_cons_succ, List.set_cons_zero, List.set_cons_succ, if_true, Bool.false_eq_true, if_false, eqOk_int, eqOk_str, eqOk_bool, eqv_int, eqv_str, eqv_bool, eqOk_nil, eqv_nil, eqOk_tnil, eqv_tnil, true_and, and_true, false_and, Bool.true_and, Bool.false_and, Bool.and_true, Bool.and_false, Bool.not_true, Bool.not_false, Bool.not_not, sp_take, sp_some, sp_somes, sp_mixed, sp_names, sp_base, sp_kind, sp_form, sp_word]
      refine ⟨⟨by decide, by decide⟩, fun r r0 r1 => ?_⟩
      split
      · refine ⟨by decide, ⟨by simp, by decide⟩, fun x hx => h x ?_⟩
        revert x hx
        rw [← List.all_eq_true]; decide +kernel
      · exact h
    · exact h.elim
/-- a value of a base: a number from 0 to 3 or a word -/
def IsV1 (d : PyData) : Prop := isWb 12 d = true ∨ ∃ n : Int, 0 ≤ n ∧ n < 4 ∧ d = .int n
def spBv : SpD := fun avs Q => match avs with
  | [.bag, .d b, .d (.bool _)] => IsB b ∧ ∀ d, IsV1 d → Q d
  | _ => False
theorem sp_bv {b : PyData} {k : Bool} {Q : PyData → Prop} : spBv [.bag, .d b, .d (.bool k)] Q = (IsB b ∧ ∀ d, IsV1 d → Q d) := rfl
theorem B_law_base_value (D : DefOk K mg "_law_base_value" s_law_base_value ["bag", "base", "plainly"]) (T : Txt mg) (B_law_take : FnB P w K mg base 1 "_law_take" ["bag", "many"] spTake) (B_law_word : FnB P w K mg base 4 "_law_word" ["bag"] spWord) (B_law_plain_word : FnB P w K mg base 3 "_law_plain_word" ["bag"] spWord) : FnB P w K mg base 5 "_law_base_value" ["bag", "base", "plainly"] spBv := by
  refine fnB_of D sc_law_base_value (fun avs Q h => ?_) (fun f cd A outer s H E => ⟨_, (dss_cons (ds_if (dxt_cmp E (fun _ h => op_eqX h) (ops_eq K) (dx_ix E (dx_var 1) dx_int) dx_str (nomark _)) (dss_one (ds_ret (dx_callb E B_law_take (by decide) (dxv_cons (dx_var 0) (dxv_cons (dx_ix E (dx_var 1) dx_int) dxv_nil))))) dss_nil)
  (dss_one (ds_ret (dx_if (dxt_tru E.K (dx_var 2)) (dx_callb E B_law_plain_word (by decide) (dxv_cons (dx_var 0) dxv_nil)) (dx_callb E B_law_word (by decide) (dxv_cons (dx_var 0) dxv_nil)))))), fun avs Q h => ?_⟩)
  · unfold spBv at h; split at h <;> first | rfl | exact h.elim
  · unfold spBv at h
    split at h
    · rename_i b k
      obtain ⟨hb, h⟩ := h
      rcases hb with rfl | ⟨n, n0, n1, rfl⟩
      · simp only [e_dOp, e_dTst, e_dChn, e_dVar, e_dC, e_dNil, e_dCons, e_dStar, e_dTup, e_dLst, e_dAndV, e_dOrV, e_dNotV, e_dIf, e_dAnd, e_dOr, e_dNot, e_dTru, e_fAdd, e_fSub, e_fMul, e_fMod, e_fDiv, e_fPow, e_fEq, e_fNe, e_fInt, e_fLe, e_fIs, e_fIsNot, e_fIn, e_fIx, e_dNoP, e_dPart, e_dSl, e_dCB, e_dC1, e_fLen, e_fList, e_fTuple, e_fToInt, e_fAll, e_fAny, e_dIsT, e_dFr, e_fLst, e_fCat, e_mAppend, e_mExtend, e_mInsert, e_mPop, e_mReverse, e_dNext, e_dSeq, e_dNever, e_dIfS, e_dExpr, e_dRet, e_gDat, e_gsNil, e_gsCons, e_gTupD, e_dAsg, e_dOwn, e_dSeqI, e_dRng1, e_dRng2, e_dZip, e_dFor, e_dYes, e_dLc, e_vNil, e_vCons, e_dCall, e_dNeg, e_dPar, e_dPar3, e_fRepr, e_fJoin, e_dLZ, e_fRev, e_fReprD, e_dBagN, e_dBagL, e_dBagSet, e_dBagInc, e_dLeft, e_dLeftDec, e_vLeft, e_vConsN, e_fLt, e_fGt, e_fGe, e_dMut, go_cons, at0, at1, at2, tru_bool, short_bool, isNoneD, startG, wipeG, backG, keepSV, isOwnL, AV.sv, Opd.wd, Opd.sv, SV.wd, SV.av, Opd.frz, GS.freeze, noL, List.map, List.length, List.replicate, List.cons_append, List.nil_append, List.append_nil, Nat.sub_self, List.getD_cons_zero, List.getD_cons_succ, List.getElem?_cons_zero, List.getElem?_cons_succ, List.set_cons_zero, List.set_cons_succ, if_true, Bool.false_eq_true, if_false, eqOk_int, eqOk_str, eqOk_bool, eqv_int, eqv_str, eqv_bool, eqOk_nil, eqv_nil, eqOk_tnil, eqv_tnil, true_and, and_true, false_and, Bool.true_and, Bool.false_and, Bool.and_true, Bool.and_false, Bool.not_true, Bool.not_false, Bool.not_not, sp_take, sp_some, sp_somes, sp_mixed, sp_names, sp_base, sp_kind, sp_form, sp_word, sp_bv]
        rw [if_neg (by decide)]
        cases k <;> simp only [Bool.false_eq_true, if_false, if_true] <;> exact fun d hd => h d (.inl hd)
      · simp only [e_dOp, e_dTst, e_dChn, e_dVar, e_dC, e_dNil, e_dCons, e_dStar, e_dTup, e_dLst, e_dAndV, e_dOrV, e_dNotV, e_dIf, e_dAnd, e_dOr, e_dNot, e_dTru, e_fAdd, e_fSub, e_fMul, e_fMod, e_fDiv, e_fPow, e_fEq, e_fNe, e_fInt, e_fLe, e_fIs, e_fIsNot, e_fIn, e_fIx, e_dNoP, e_dPart, e_dSl, e_dCB, e_dC1, e_fLen, e_fList, e_fTuple, e_fToInt, e_fAll, e_fAny, e_dIsT, e_dFr, e_fLst, e_fCat, e_mAppend, e_mExtend, e_mInsert, e_mPop, e_mReverse, e_dNext, e_dSeq, e_dNever, e_dIfS, e_dExpr, e_dRet, e_gDat, e_gsNil, e_gsCons, e_gTupD, e_dAsg, e_dOwn, e_dSeqI, e_dRng1, e_dRng2, e_dZip, e_dFor, e_dYes, e_dLc, e_vNil, e_vCons, e_dCall, e_dNeg, e_dPar, e_dPar3, e_fRepr, e_fJoin, e_dLZ, e_fRev, e_fReprD, e_dBagN, e_dBagL, e_dBagSet, e_dBagInc, e_dLeft, e_dLeftDec, e_vLeft, e_vConsN, e_fLt, e_fGt, e_fGe, e_dMut, go_cons, at0, at1, at2, tru_bool, short_bool, isNoneD, startG, wipeG, backG, keepSV, isOwnL, AV.sv, Opd.wd, Opd.sv, SV.wd, SV.av, Opd.frz, GS.freeze, noL, List.map, List.length, List.replicate, List.cons_append, List.nil_append, List.append_nil, Nat.sub_self, List.getD_cons_zero, List.getD_cons_succ, List.getElem?_cons_zero, List.getElem?_cons_succ, List.set_cons_zero, List.set_cons_succ, if_true, Bool.false_eq_true, if_false, eqOk_int, eqOk_str, eqOk_bool, eqv_int, eqv_str, eqv_bool, eqOk_nil, eqv_nil, eqOk_tnil, eqv_tnil, true_and, and_true, false_and, Bool.true_and, Bool.false_and, Bool.and_true, Bool.and_false, Bool.not_true, Bool.not_false, Bool.not_not, sp_take, sp_some, sp_somes, sp_mixed, sp_names, sp_base, sp_kind, sp_form, sp_word, sp_bv]
        rw [if_pos (by decide)]
        exact ⟨⟨by omega, by omega⟩, fun r r0 r1 => h _ (.inr ⟨r, r0, by omega, rfl⟩)⟩
    · exact h.elim
/-- a value of a kind, whatever it is: none, or one of a base, or a tuple of such -/
def IsV (d : PyData) : Prop := d = .none ∨ IsV1 d ∨ ∃ ds, d = .tuple ds ∧ ds.length ≤ 12 ∧ ∀ x ∈ ds, IsV1 x
def spVal : SpD := fun avs Q => match avs with
  | [.bag, .d k, .d (.bool _)] => IsK k ∧ ∀ d, IsV d → Q d
  | _ => False
theorem sp_val {b : PyData} {k : Bool} {Q : PyData → Prop} : spVal [.bag, .d b, .d (.bool k)] Q = (IsK b ∧ ∀ d, IsV d → Q d) := rfl
theorem B_law_value (D : DefOk K mg "_law_value" s_law_value ["bag", "kind", "plainly"]) (T : Txt mg) (B_law_take : FnB P w K mg base 1 "_law_take" ["bag", "many"] spTake) (B_law_some : FnB P w K mg base 2 "_law_some" ["bag", "things"] spSome) (B_law_base_value : FnB P w K mg base 5 "_law_base_value" ["bag", "base", "plainly"] spBv) : FnB P w K mg base 6 "_law_value" ["bag", "kind", "plainly"] spVal := by
  refine fnB_of D sc_law_value (fun avs Q h => ?_) (fun f cd A outer s H E => ⟨_, (dss_cons (ds_if (dxt_cmp E (fun _ h => op_eqX h) (ops_eq K) (dx_ix E (dx_var 1) dx_int) dx_str (nomark _)) (dss_one (ds_ret (dx_if (dxt_cmp E (fun _ h => op_eqX h) (ops_eq K) (dx_callb E B_law_take (by decide) (dxv_cons (dx_var 0) (dxv_cons dx_int dxv_nil))) dx_int (nomark _)) dx_non (dx_tup (dxa_cons (dx_callb E B_law_base_value (by decide) (dxv_cons (dx_var 0) (dxv_cons (dx_ix E (dx_var 1) dx_int) (dxv_cons (dx_var 2) dxv_nil)))) dxa_nil))))) dss_nil)
  (dss_cons (ds_if (dxt_cmp E (fun _ h => op_eqX h) (ops_eq K) (dx_ix E (dx_var 1) dx_int) dx_str (nomark _)) (dss_cons (ds_set 3 (fun _ => sc_law_value.nd) (dx_callb E B_law_some (by decide) (dxv_cons (dx_var 0) (dxv_cons (dx_lst (dxa_cons dx_int (dxa_cons dx_int (dxa_cons dx_int (dxa_cons dx_int (dxa_cons dx_int (dxa_cons dx_int (dxa_cons (dx_callb E B_law_take (by decide) (dxv_cons (dx_var 0) (dxv_cons dx_int dxv_nil))) dxa_nil)))))))) dxv_nil))))
  (dss_one (ds_ret (dx_call1Ty (r := rTupD) E (fun _ _ => call_tupD) (cs_tuple K) (by intro _; rfl) T.b_tuple boot_tuple (dx_fr (dxf_lc [("k", 4)] E (fun _ => sc_law_value.nd) (dxi_range1 E (by intro _; rfl) T.b_range (dxa_cons (dx_var 3) dxa_nil)) (fun _ => blkOk_by (by rfl)) (dg_name 4 (fun _ => sc_law_value.nd)) dxp_nil (dx_callb (E.blk _) B_law_base_value (by decide) (dxv_cons (dx_var 0) (dxv_cons (dx_ix (E.blk _) (dx_var 1) dx_int) (dxv_cons (dx_var 2) dxv_nil)))))))))) dss_nil)
  (dss_one (ds_ret (dx_callb E B_law_base_value (by decide) (dxv_cons (dx_var 0) (dxv_cons (dx_var 1) (dxv_cons (dx_var 2) dxv_nil)))))))), fun avs Q h => ?_⟩)
  · unfold spVal at h; split at h <;> first | rfl | exact h.elim
  · unfold spVal at h
    split at h
    · rename_i kd k
      obtain ⟨hk, h⟩ := h
      have flat : ∀ b, IsB b → ∃ x l, b = .tuple (.str x :: l) ∧ (x == Str.ofString "maybe") = false ∧ (x == Str.ofString "row") = false := by
        rintro b (rfl | ⟨n, _, _, rfl⟩)
        · exact ⟨_, _, rfl, by decide, by decide⟩
        · exact ⟨_, _, rfl, by decide, by decide⟩
      rcases hk with hb | ⟨b, hb, rfl | rfl⟩
      · obtain ⟨x, l, rfl, x1, x2⟩ := flat _ hb
        simp only [e_dOp, e_dTst, e_dChn, e_dVar, e_dC, e_dNil, e_dCons, e_dStar, e_dTup, e_dLst, e_dAndV, e_dOrV, e_dNotV, e_dIf, e_dAnd, e_dOr, e_dNot, e_dTru, e_fAdd, e_fSub, e_fMul, e_fMod, e_fDiv, e_fPow, e_fEq, e_fNe, e_fInt, e_fLe, e_fIs, e_fIsNot, e_fIn, e_fIx, e_dNoP, e_dPart, e_dSl, e_dCB, e_dC1, e_fLen, e_fList, e_fTuple, e_fToInt, e_fAll, e_fAny, e_dIsT, e_dFr, e_fLst, e_fCat, e_mAppend, e_mExtend, e_mInsert, e_mPop, e_mReverse, e_dNext, e_dSeq, e_dNever, e_dIfS, e_dExpr, e_dRet, e_gDat, e_gsNil, e_gsCons, e_gTupD, e_dAsg, e_dOwn, e_dSeqI, e_dRng1, e_dRng2, e_dZip, e_dFor, e_dYes, e_dLc, e_vNil, e_vCons, e_dCall, e_dNeg, e_dPar, e_dPar3, e_fRepr, e_fJoin, e_dLZ, e_fRev, e_fReprD, e_dBagN, e_dBagL, e_dBagSet, e_dBagInc, e_dLeft, e_dLeftDec, e_vLeft, e_vConsN, e_fLt, e_fGt, e_fGe, e_dMut, go_cons, at0, at1, at2, tru_bool, short_bool, isNoneD, startG, wipeG, backG, keepSV, isOwnL, AV.sv, Opd.wd, Opd.sv, SV.wd, SV.av, Opd.frz, GS.freeze, noL, List.map, List.length, List.replicate, List.cons_append, List.nil_append, List.append_nil, Nat.sub_self, List.getD_cons_zero, List.getD_cons_succ, List.getElem?_cons_zero, List.getElem?_cons_succ, List.set_cons_zero, List.set_cons_succ, if_true, Bool.false_eq_true, if_false, eqOk_int, eqOk_str, eqOk_bool, eqv_int, eqv_str, eqv_bool, eqOk_nil, eqv_nil, eqOk_tnil, eqv_tnil, true_and, and_true, false_and, Bool.true_and, Bool.false_and, Bool.and_true, Bool.and_false, Bool.not_true, Bool.not_false, Bool.not_not, sp_take, sp_some, sp_somes, sp_mixed, sp_names, sp_base, sp_kind, sp_form, sp_word, sp_bv, sp_val]
        rw [if_neg (by rw [x1]; decide), if_neg (by rw [x2]; decide)]
        exact ⟨hb, fun d hd => h d (.inr (.inl hd))⟩
      · simp only [e_dOp, e_dTst, e_dChn, e_dVar, e_dC, e_dNil, e_dCons, e_dStar, e_dTup, e_dLst, e_dAndV, e_dOrV, e_dNotV, e_dIf, e_dAnd, e_dOr, e_dNot, e_dTru, e_fAdd, e_fSub, e_fMul, e_fMod, e_fDiv, e_fPow, e_fEq, e_fNe, e_fInt, e_fLe, e_fIs, e_fIsNot, e_fIn, e_fIx, e_dNoP, e_dPart, e_dSl, e_dCB, e_dC1, e_fLen, e_fList, e_fTuple, e_fToInt, e_fAll, e_fAny, e_dIsT, e_dFr, e_fLst, e_fCat, e_mAppend, e_mExtend, e_mInsert, e_mPop, e_mReverse, e_dNext, e_dSeq, e_dNever, e_dIfS, e_dExpr, e_dRet, e_gDat, e_gsNil, e_gsCons, e_gTupD, e_dAsg, e_dOwn, e_dSeqI, e_dRng1, e_dRng2, e_dZip, e_dFor, e_dYes, e_dLc, e_vNil, e_vCons, e_dCall, e_dNeg, e_dPar, e_dPar3, e_fRepr, e_fJoin, e_dLZ, e_fRev, e_fReprD, e_dBagN, e_dBagL, e_dBagSet, e_dBagInc, e_dLeft, e_dLeftDec, e_vLeft, e_vConsN, e_fLt, e_fGt, e_fGe, e_dMut, go_cons, at0, at1, at2, tru_bool, short_bool, isNoneD, startG, wipeG, backG, keepSV, isOwnL, AV.sv, Opd.wd, Opd.sv, SV.wd, SV.av, Opd.frz, GS.freeze, noL, List.map, List.length, List.replicate, List.cons_append, List.nil_append, List.append_nil, Nat.sub_self, List.getD_cons_zero, List.getD_cons_succ, List.getElem?_cons_zero, List.getElem?_cons_succ, List.set_cons_zero, List.set_cons_succ, if_true, Bool.false_eq_true, if_false, eqOk_int, eqOk_str, eqOk_bool, eqv_int, eqv_str, eqv_bool, eqOk_nil, eqv_nil, eqOk_tnil, eqv_tnil, true_and, and_true, false_and, Bool.true_and, Bool.false_and, Bool.and_true, Bool.and_false, Bool.not_true, Bool.not_false, Bool.not_not, sp_take, sp_some, sp_somes, sp_mixed, sp_names, sp_base, sp_kind, sp_form, sp_word, sp_bv, sp_val]
        rw [if_pos (by decide)]
        refine ⟨⟨by decide, by decide⟩, fun r r0 r1 => ?_⟩
        split
        · exact h _ (.inl rfl)
        · exact ⟨hb, fun d hd => ⟨by decide, h _ (.inr (.inr ⟨[d], rfl, by simp, fun x hx => by rw [List.mem_singleton] at hx; rw [hx]; exact hd⟩))⟩⟩
      · simp only [e_dOp, e_dTst, e_dChn, e_dVar, e_dC, e_dNil, e_dCons, e_dStar, e_dTup, e_dLst, e_dAndV, e_dOrV, e_dNotV, e_dIf, e_dAnd, e_dOr, e_dNot, e_dTru, e_fAdd, e_fSub, e_fMul, e_fMod, e_fDiv, e_fPow, e_fEq, e_fNe, e_fInt, e_fLe, e_fIs, e_fIsNot, e_fIn, e_fIx, e_dNoP, e_dPart, e_dSl, e_dCB, e_dC1, e_fLen, e_fList, e_fTuple, e_fToInt, e_fAll, e_fAny, e_dIsT, e_dFr, e_fLst, e_fCat, e_mAppend, e_mExtend, e_mInsert, e_mPop, e_mReverse, e_dNext, e_dSeq, e_dNever, e_dIfS, e_dExpr, e_dRet, e_gDat, e_gsNil, e_gsCons, e_gTupD, e_dAsg, e_dOwn, e_dSeqI, e_dRng1, e_dRng2, e_dZip, e_dFor, e_dYes, e_dLc, e_vNil, e_vCons, e_dCall, e_dNeg, e_dPar, e_dPar3, e_fRepr, e_fJoin, e_dLZ, e_fRev, e_fReprD, e_dBagN, e_dBagL, e_dBagSet, e_dBagInc, e_dLeft, e_dLeftDec, e_vLeft, e_vConsN, e_fLt, e_fGt, e_fGe, e_dMut, go_cons, at0, at1, at2, tru_bool, short_bool, isNoneD, startG, wipeG, backG, keepSV, isOwnL, AV.sv, Opd.wd, Opd.sv, SV.wd, SV.av, Opd.frz, GS.freeze, noL, List.map, List.length, List.replicate, List.cons_append, List.nil_append, List.append_nil, Nat.sub_self, List.getD_cons_zero, List.getD_cons_succ, List.getElem?_cons_zero, List.getElem?_cons_succ, List.set_cons_zero, List.set_cons_succ, if_true, Bool.false_eq_true, if_false, eqOk_int, eqOk_str, eqOk_bool, eqv_int, eqv_str, eqv_bool, eqOk_nil, eqv_nil, eqOk_tnil, eqv_tnil, true_and, and_true, false_and, Bool.true_and, Bool.false_and, Bool.and_true, Bool.and_false, Bool.not_true, Bool.not_false, Bool.not_not, sp_take, sp_some, sp_somes, sp_mixed, sp_names, sp_base, sp_kind, sp_form, sp_word, sp_bv, sp_val]
        rw [if_neg (by decide), if_pos (by decide)]
        refine ⟨⟨by decide, by decide⟩, fun r r0 r1 => ⟨by decide, ⟨by simp, by decide⟩, fun x hx => ?_⟩⟩
        have hx' : ∃ n : Int, 0 ≤ n ∧ n ≤ 8 ∧ x = .int n := by
          simp only [List.mem_cons, List.not_mem_nil, or_false] at hx
          rcases hx with e | e | e | e | e | e | e <;> exact ⟨_, by omega, by omega, e⟩
        obtain ⟨n, n0, n1, rfl⟩ := hx'
        refine ⟨⟨by omega, by omega⟩, ?_⟩
        refine lcW_of (fun ds acc => ds.length + acc.length ≤ 8 ∧ ∀ x ∈ acc, IsV1 x) ?hn ?hc _ _ ⟨?h0, by simp⟩
        case h0 => simp only [rangeD, List.length_map, List.length_range, List.length_nil]; omega
        case hc =>
          intro d ds acc ⟨hl, ha⟩ ih
          rw [List.length_cons] at hl
          simp only [lcW, e_dOp, e_dTst, e_dChn, e_dVar, e_dC, e_dNil, e_dCons, e_dStar, e_dTup, e_dLst, e_dAndV, e_dOrV, e_dNotV, e_dIf, e_dAnd, e_dOr, e_dNot, e_dTru, e_fAdd, e_fSub, e_fMul, e_fMod, e_fDiv, e_fPow, e_fEq, e_fNe, e_fInt, e_fLe, e_fIs, e_fIsNot, e_fIn, e_fIx, e_dNoP, e_dPart, e_dSl, e_dCB, e_dC1, e_fLen, e_fList, e_fTuple, e_fToInt, e_fAll, e_fAny, e_dIsT, e_dFr, e_fLst, e_fCat, e_mAppend, e_mExtend, e_mInsert, e_mPop, e_mReverse, e_dNext, e_dSeq, e_dNever, e_dIfS, e_dExpr, e_dRet, e_gDat, e_gsNil, e_gsCons, e_gTupD, e_dAsg, e_dOwn, e_dSeqI, e_dRng1, e_dRng2, e_dZip, e_dFor, e_dYes, e_dLc, e_vNil, e_vCons, e_dCall, e_dNeg, e_dPar, e_dPar3, e_fRepr, e_fJoin, e_dLZ, e_fRev, e_fReprD, e_dBagN, e_dBagL, e_dBagSet, e_dBagInc, e_dLeft, e_dLeftDec, e_vLeft, e_vConsN, e_fLt, e_fGt, e_fGe, e_dMut, go_cons, at0, at1, at2, tru_bool, short_bool, isNoneD, startG, wipeG, backG, keepSV, isOwnL, AV.sv, Opd.wd, Opd.sv, SV.wd, SV.av, Opd.frz, GS.freeze, noL, List.map, List.length, List.replicate, List.cons_append, List.nil_append, List.append_nil, Nat.sub_self, List.getD_cons_zero, List.getD_cons_succ, List.getElem?_cons_zero, List.getElem?_cons_succ, List.set_cons_zero, List.set_cons_succ, if_true, Bool.false_eq_true, if_false, eqOk_int, eqOk_str, eqOk_bool, eqv_int, eqv_str, eqv_bool, eqOk_nil, eqv_nil, eqOk_tnil, eqv_tnil, true_and, and_true, false_and, Bool.true_and, Bool.false_and, Bool.and_true, Bool.and_false, Bool.not_true, Bool.not_false, Bool.not_not, sp_take, sp_some, sp_somes, sp_mixed, sp_names, sp_base, sp_kind, sp_form, sp_word, sp_bv, sp_val]
          refine ⟨hb, fun v hv => ⟨Nat.lt_of_lt_of_le (by omega : acc.length < 13) (by decide), ih _ ⟨by rw [List.length_append, List.length_singleton]; omega, fun y hy => ?_⟩⟩⟩
          rcases List.mem_append.mp hy with hy | hy
          · exact ha y hy
          · rw [List.mem_singleton] at hy; rw [hy]; exact hv
        case hn =>
          intro acc ⟨hl, ha⟩
          rw [List.length_nil, Nat.zero_add] at hl
          try simp only [e_dOp, e_dTst, e_dChn, e_dVar, e_dC, e_dNil, e_dCons, e_dStar, e_dTup, e_dLst, e_dAndV, e_dOrV, e_dNotV, e_dIf, e_dAnd, e_dOr, e_dNot, e_dTru, e_fAdd, e_fSub, e_fMul, e_fMod, e_fDiv, e_fPow, e_fEq, e_fNe, e_fInt, e_fLe, e_fIs, e_fIsNot, e_fIn, e_fIx, e_dNoP, e_dPart, e_dSl, e_dCB, e_dC1, e_fLen, e_fList, e_fTuple, e_fToInt, e_fAll, e_fAny, e_dIsT, e_dFr, e_fLst, e_fCat, e_mAppend, e_mExtend, e_mInsert, e_mPop, e_mReverse, e_dNext, e_dSeq, e_dNever, e_dIfS, e_dExpr, e_dRet, e_gDat, e_gsNil, e_gsCons, e_gTupD, e_dAsg, e_dOwn, e_dSeqI, e_dRng1, e_dRng2, e_dZip, e_dFor, e_dYes, e_dLc, e_vNil, e_vCons, e_dCall, e_dNeg, e_dPar, e_dPar3, e_fRepr, e_fJoin, e_dLZ, e_fRev, e_fReprD, e_dBagN, e_dBagL, e_dBagSet, e_dBagInc, e_dLeft, e_dLeftDec, e_vLeft, e_vConsN, e_fLt, e_fGt, e_fGe, e_dMut, go_cons, at0, at1, at2, tru_bool, short_bool, isNoneD, startG, wipeG, backG, keepSV, isOwnL, AV.sv, Opd.wd, Opd.sv, SV.wd, SV.av, Opd.frz, GS.freeze, noL, List.map, List.length, List.replicate, List.cons_append, List.nil_append, List.append_nil, Nat.sub_self, List.getD_cons_zero, List.getD_cons_succ, List.getElem?_cons_zero, List.getElem?_cons_succ, List.set_cons_zero, List.set_cons_succ, if_true, Bool.false_eq_true, if_false, eqOk_int, eqOk_str, eqOk_bool, eqv_int, eqv_str, eqv_bool, eqOk_nil, eqv_nil, eqOk_tnil, eqv_tnil, true_and, and_true, false_and, Bool.true_and, Bool.false_and, Bool.and_true, Bool.and_false, Bool.not_true, Bool.not_false, Bool.not_not, sp_take, sp_some, sp_somes, sp_mixed, sp_names, sp_base, sp_kind, sp_form, sp_word, sp_bv, sp_val]
          exact h _ (.inr (.inr ⟨acc, rfl, by omega, ha⟩))
    · exact h.elim
end K10
end
section
set_option autoImplicit false
set_option linter.all false
set_option maxRecDepth 100000
set_option maxHeartbeats 4000000
namespace K10
open PySem PySem.Spec L2 DL
variable {P : Program} {w : World} {K : PySem.W.Frag} {mg : Str → Option Value} {base : Heap}
theorem sc_law_is_int : FnScope ["thing"] ["thing"] (defScope s_law_is_int) := ⟨rfl, rfl, rfl, by decide +kernel, rfl, by decide +kernel, by decide +kernel⟩
theorem sc_law_is_base : FnScope ["thing"] ["thing"] (defScope s_law_is_base) := ⟨rfl, rfl, rfl, by decide +kernel, rfl, by decide +kernel, by decide +kernel⟩
theorem sc_law_is_kind : FnScope ["thing"] ["thing"] (defScope s_law_is_kind) := ⟨rfl, rfl, rfl, by decide +kernel, rfl, by decide +kernel, by decide +kernel⟩
theorem sc_law_is_base_value : FnScope ["base", "thing", "sign"] ["base", "thing"] (defScope s_law_is_base_value) := ⟨rfl, rfl, rfl, by decide +kernel, rfl, by decide +kernel, by decide +kernel⟩
theorem sc_law_is_value : FnScope ["kind", "thing", "item"] ["kind", "thing"] (defScope s_law_is_value) := ⟨rfl, rfl, rfl, by decide +kernel, rfl, by decide +kernel, by decide +kernel⟩
/-! ### the law's own clauses -/
def isIntD : PyData → Bool | .int _ => true | _ => false
def sp1 (f : PyData → Bool) : SpD := fun avs Q => match avs with
  | [.d x] => Q (.bool (f x))
  | _ => False
def sp2 (p : PyData → PyData → Prop) (f : PyData → PyData → Bool) : SpD := fun avs Q => match avs with
  | [.d x, .d y] => p x y ∧ Q (.bool (f x y))
  | _ => False
theorem B_law_is_int (D : DefOk K mg "_law_is_int" s_law_is_int ["thing"]) (T : Txt mg) : FnB P w K mg base 1 "_law_is_int" ["thing"] (sp1 isIntD) := by
  refine fnB_of D sc_law_is_int (fun avs Q h => ?_) (fun f cd A outer s H E => ⟨_, (dss_one (ds_ret (dx_and (dx_isT "int" (by simp) E (by intro _; rfl) T.b_isinstance (by intro _; rfl) T.b_int boot_intT (dx_var 0)) (dx_one (dx_not (dx_isT "bool" (by simp) E (by intro _; rfl) T.b_isinstance (by intro _; rfl) T.b_bool boot_boolT (dx_var 0))))))), fun avs Q h => ?_⟩)
  · unfold sp1 at h; split at h <;> first | rfl | exact h.elim
  · unfold sp1 at h; split at h
    · rename_i x
      cases x <;> exact h
    · exact h.elim
def isBD : PyData → Bool
  | .tuple [.str x] => x == "word"
  | .tuple [.str x, .int n] => x == "pick" && (decide (1 ≤ n) && decide (n ≤ 4))
  | _ => false
theorem in12 {n : Nat} (h : 3 ≤ n) : inD (.int n) [.int 1, .int 2] = false := by
  show ((1 : Int) == (n : Int) || ((2 : Int) == (n : Int) || false)) = false
  have h1 : ((1 : Int) == (n : Int)) = false := by rw [beq_eq_false_iff_ne]; omega
  have h2 : ((2 : Int) == (n : Int)) = false := by rw [beq_eq_false_iff_ne]; omega
  rw [h1, h2]; rfl
theorem B_law_is_base (D : DefOk K mg "_law_is_base" s_law_is_base ["thing"]) (T : Txt mg) (B_law_is_int : FnB P w K mg base 1 "_law_is_int" ["thing"] (sp1 isIntD)) : FnB P w K mg base 2 "_law_is_base" ["thing"] (sp1 isBD) := by
  refine fnB_of D sc_law_is_base (fun avs Q h => ?_) (fun f cd A outer s H E => ⟨_, (dss_cons (ds_if (dxw_t (dxw_or (dxt_not (dxt_val (dx_isT "tuple" (by simp) E (by intro _; rfl) T.b_isinstance (by intro _; rfl) T.b_tuple boot_tuple (dx_var 0)))) (dxw_or (dxt_cmp E (r := fun K => rInX K true) (fun _ _ => op_notinX) (ops_in K true) (dx_call1B (r := rLenD) E (fun _ _ _ _ => call_lenD) (cs_len K) (by intro _; rfl) T.b_len boot_lenD (dx_var 0)) (dx_tup (dxa_cons dx_int (dxa_cons dx_int dxa_nil))) (by with_unfolding_all rfl)) (dxw_or1 (dxt_not (dxt_val (dx_isT "str" (by simp) E (by intro _; rfl) T.b_isinstance (by intro _; rfl) T.b_str boot_strT (dx_ix E (dx_var 0) dx_int)))))))) (dss_one (ds_ret dx_bl)) dss_nil)
  (dss_cons (ds_if (dxt_cmp E (fun _ h => op_eqX h) (ops_eq K) (dx_call1B (r := rLenD) E (fun _ _ _ _ => call_lenD) (cs_len K) (by intro _; rfl) T.b_len boot_lenD (dx_var 0)) dx_int (nomark _)) (dss_one (ds_ret (dx_cmp E (fun _ h => op_eqX h) (ops_eq K) (dx_ix E (dx_var 0) dx_int) dx_str (nomark _)))) dss_nil)
  (dss_one (ds_ret (dx_and (dx_cmp E (fun _ h => op_eqX h) (ops_eq K) (dx_ix E (dx_var 0) dx_int) dx_str (nomark _)) (dx_and (dx_callb E B_law_is_int (by decide) (dxv_cons (dx_ix E (dx_var 0) dx_int) dxv_nil)) (dx_one (dx_chn E (fun _ _ => op_leD) (fun _ _ => op_leD) (ops_le K) (ops_le K) dx_int (dx_ix E (dx_var 0) dx_int) dx_int (by with_unfolding_all rfl))))))))), fun avs Q h => ?_⟩)
  · unfold sp1 at h; split at h <;> first | rfl | exact h.elim
  · unfold sp1 at h; split at h
    · rename_i x
      cases x with
      | tuple ds =>
        match ds, h with
        | [], h => (repeat ((conv => whnf); refine And.intro (by first | exact rfl | exact trivial | exact ⟨by decide, by decide, by decide⟩ | exact ⟨by decide, by decide⟩ | exact ⟨List.cons_ne_nil _ _, Nat.le_of_ble_eq_true rfl⟩ | exact ⟨rfl, rfl⟩ | exact eqOk_str | exact eqOk_int | exact eqOk_bool | exact Nat.le_of_ble_eq_true rfl | exact eqOk_tnil | exact eqOk_nil | assumption) ?_)); (try (conv => whnf)); exact h
        | [a], h =>
          cases a with
          | str x => (repeat ((conv => whnf); refine And.intro (by first | exact rfl | exact trivial | exact ⟨by decide, by decide, by decide⟩ | exact ⟨by decide, by decide⟩ | exact ⟨List.cons_ne_nil _ _, Nat.le_of_ble_eq_true rfl⟩ | exact ⟨rfl, rfl⟩ | exact eqOk_str | exact eqOk_int | exact eqOk_bool | exact Nat.le_of_ble_eq_true rfl | exact eqOk_tnil | exact eqOk_nil | assumption) ?_)); (try (conv => whnf)); exact h
          | _ => (repeat ((conv => whnf); refine And.intro (by first | exact rfl | exact trivial | exact ⟨by decide, by decide, by decide⟩ | exact ⟨by decide, by decide⟩ | exact ⟨List.cons_ne_nil _ _, Nat.le_of_ble_eq_true rfl⟩ | exact ⟨rfl, rfl⟩ | exact eqOk_str | exact eqOk_int | exact eqOk_bool | exact Nat.le_of_ble_eq_true rfl | exact eqOk_tnil | exact eqOk_nil | assumption) ?_)); (try (conv => whnf)); exact h
        | [a, b], h =>
          cases a with
          | str x =>
            (repeat ((conv => whnf); refine And.intro (by first | exact rfl | exact trivial | exact ⟨by decide, by decide, by decide⟩ | exact ⟨by decide, by decide⟩ | exact ⟨List.cons_ne_nil _ _, Nat.le_of_ble_eq_true rfl⟩ | exact ⟨rfl, rfl⟩ | exact eqOk_str | exact eqOk_int | exact eqOk_bool | exact Nat.le_of_ble_eq_true rfl | exact eqOk_tnil | exact eqOk_nil | assumption) ?_)); (try (conv => whnf))
            rw [eqv_str]
            cases e : (x == Str.ofString "pick") with
            | false =>
              cases b with
              | int n => replace h : Q (.bool (x == Str.ofString "pick" && (decide (1 ≤ n) && decide (n ≤ 4)))) := h; rw [e] at h; exact h
              | _ => exact h
            | true =>
              cases b with
              | int n =>
                replace h : Q (.bool (x == Str.ofString "pick" && (decide (1 ≤ n) && decide (n ≤ 4)))) := h
                rw [e] at h
                (conv => whnf)
                cases e1 : decide ((1 : Int) ≤ n) with
                | false => rw [e1] at h; exact h
                | true => rw [e1] at h; exact h
              | _ => exact h
          | _ => (repeat ((conv => whnf); refine And.intro (by first | exact rfl | exact trivial | exact ⟨by decide, by decide, by decide⟩ | exact ⟨by decide, by decide⟩ | exact ⟨List.cons_ne_nil _ _, Nat.le_of_ble_eq_true rfl⟩ | exact ⟨rfl, rfl⟩ | exact eqOk_str | exact eqOk_int | exact eqOk_bool | exact Nat.le_of_ble_eq_true rfl | exact eqOk_tnil | exact eqOk_nil | assumption) ?_)); (try (conv => whnf)); exact h
        | a :: b :: c :: l, h =>
          replace h : Q (.bool false) := by cases a <;> cases b <;> exact h
          (repeat ((conv => whnf); refine And.intro (by first | exact rfl | exact trivial | exact ⟨by decide, by decide, by decide⟩ | exact ⟨by decide, by decide⟩ | exact ⟨List.cons_ne_nil _ _, Nat.le_of_ble_eq_true rfl⟩ | exact ⟨rfl, rfl⟩ | exact eqOk_str | exact eqOk_int | exact eqOk_bool | exact Nat.le_of_ble_eq_true rfl | exact eqOk_tnil | exact eqOk_nil | assumption) ?_)); (try (conv => whnf))
          exact h
      | _ => exact h
    · exact h.elim
/-- a kind, by the law's own look -/
def isKD (x : PyData) : Bool := isBD x || match x with
  | .tuple [.str m, b] => (m == "maybe" || m == "row") && isBD b
  | _ => false
theorem inS2 {x a b : Str} : inD (.str x) [.str a, .str b] = (x == a || x == b) := by
  show ((a == x) || ((b == x) || false)) = _
  rw [Bool.or_false, Bool.beq_comm (a := a), Bool.beq_comm (a := b)]
theorem B_law_is_kind (D : DefOk K mg "_law_is_kind" s_law_is_kind ["thing"]) (T : Txt mg) (B_law_is_base : FnB P w K mg base 2 "_law_is_base" ["thing"] (sp1 isBD)) : FnB P w K mg base 3 "_law_is_kind" ["thing"] (sp1 isKD) := by
  refine fnB_of D sc_law_is_kind (fun avs Q h => ?_) (fun f cd A outer s H E => ⟨_, (dss_cons (ds_if (dxt_tru E.K (dx_callb E B_law_is_base (by decide) (dxv_cons (dx_var 0) dxv_nil))) (dss_one (ds_ret dx_bl)) dss_nil)
  (dss_cons (ds_if (dxw_t (dxw_or (dxt_not (dxt_val (dx_isT "tuple" (by simp) E (by intro _; rfl) T.b_isinstance (by intro _; rfl) T.b_tuple boot_tuple (dx_var 0)))) (dxw_or (dxt_cmp E (fun _ h => op_neX h) (ops_ne K) (dx_call1B (r := rLenD) E (fun _ _ _ _ => call_lenD) (cs_len K) (by intro _; rfl) T.b_len boot_lenD (dx_var 0)) dx_int (nomark _)) (dxw_or1 (dxt_not (dxt_val (dx_isT "str" (by simp) E (by intro _; rfl) T.b_isinstance (by intro _; rfl) T.b_str boot_strT (dx_ix E (dx_var 0) dx_int)))))))) (dss_one (ds_ret dx_bl)) dss_nil)
  (dss_one (ds_ret (dx_and (dx_cmp E (r := fun K => rInX K false) (fun _ _ => op_inX) (ops_in K false) (dx_ix E (dx_var 0) dx_int) (dx_tup (dxa_cons dx_str (dxa_cons dx_str dxa_nil))) (by with_unfolding_all rfl)) (dx_one (dx_callb E B_law_is_base (by decide) (dxv_cons (dx_ix E (dx_var 0) dx_int) dxv_nil)))))))), fun avs Q h => ?_⟩)
  · unfold sp1 at h; split at h <;> first | rfl | exact h.elim
  · unfold sp1 at h; split at h
    · rename_i x
      (conv => whnf)
      unfold isKD at h
      cases e : isBD x with
      | true => rw [e] at h; (repeat ((conv => whnf); refine And.intro (by first | exact rfl | exact trivial | exact ⟨by decide, by decide, by decide⟩ | exact ⟨by decide, by decide⟩ | exact ⟨List.cons_ne_nil _ _, Nat.le_of_ble_eq_true rfl⟩ | exact ⟨rfl, rfl⟩ | exact eqOk_str | exact eqOk_int | exact eqOk_bool | exact Nat.le_of_ble_eq_true rfl | exact eqOk_tnil | exact eqOk_nil | assumption) ?_)); (try (conv => whnf)); exact h
      | false =>
        rw [e, Bool.false_or] at h
        cases x with
        | tuple ds =>
          match ds, h with
          | [], h => (repeat ((conv => whnf); refine And.intro (by first | exact rfl | exact trivial | exact ⟨by decide, by decide, by decide⟩ | exact ⟨by decide, by decide⟩ | exact ⟨List.cons_ne_nil _ _, Nat.le_of_ble_eq_true rfl⟩ | exact ⟨rfl, rfl⟩ | exact eqOk_str | exact eqOk_int | exact eqOk_bool | exact Nat.le_of_ble_eq_true rfl | exact eqOk_tnil | exact eqOk_nil | assumption) ?_)); (try (conv => whnf)); exact h
          | [a], h =>
            replace h : Q (.bool false) := by cases a <;> exact h
            (repeat ((conv => whnf); refine And.intro (by first | exact rfl | exact trivial | exact ⟨by decide, by decide, by decide⟩ | exact ⟨by decide, by decide⟩ | exact ⟨List.cons_ne_nil _ _, Nat.le_of_ble_eq_true rfl⟩ | exact ⟨rfl, rfl⟩ | exact eqOk_str | exact eqOk_int | exact eqOk_bool | exact Nat.le_of_ble_eq_true rfl | exact eqOk_tnil | exact eqOk_nil | assumption) ?_)); (try (conv => whnf)); exact h
          | [a, b], h =>
            cases a with
            | str m =>
              (repeat ((conv => whnf); refine And.intro (by first | exact rfl | exact trivial | exact ⟨by decide, by decide, by decide⟩ | exact ⟨by decide, by decide⟩ | exact ⟨List.cons_ne_nil _ _, Nat.le_of_ble_eq_true rfl⟩ | exact ⟨rfl, rfl⟩ | exact eqOk_str | exact eqOk_int | exact eqOk_bool | exact Nat.le_of_ble_eq_true rfl | exact eqOk_tnil | exact eqOk_nil | assumption) ?_)); (try (conv => whnf))
              rw [inS2]
              replace h : Q (.bool ((m == "maybe" || m == "row") && isBD b)) := h
              cases e1 : (m == Str.ofString "maybe" || m == Str.ofString "row") with
              | false => rw [e1] at h; exact h
              | true => rw [e1] at h; exact h
            | _ => (repeat ((conv => whnf); refine And.intro (by first | exact rfl | exact trivial | exact ⟨by decide, by decide, by decide⟩ | exact ⟨by decide, by decide⟩ | exact ⟨List.cons_ne_nil _ _, Nat.le_of_ble_eq_true rfl⟩ | exact ⟨rfl, rfl⟩ | exact eqOk_str | exact eqOk_int | exact eqOk_bool | exact Nat.le_of_ble_eq_true rfl | exact eqOk_tnil | exact eqOk_nil | assumption) ?_)); (try (conv => whnf)); exact h
          | a :: b :: c :: l, h =>
            replace h : Q (.bool false) := by cases a <;> exact h
            (repeat ((conv => whnf); refine And.intro (by first | exact rfl | exact trivial | exact ⟨by decide, by decide, by decide⟩ | exact ⟨by decide, by decide⟩ | exact ⟨List.cons_ne_nil _ _, Nat.le_of_ble_eq_true rfl⟩ | exact ⟨rfl, rfl⟩ | exact eqOk_str | exact eqOk_int | exact eqOk_bool | exact Nat.le_of_ble_eq_true rfl | exact eqOk_tnil | exact eqOk_nil | assumption) ?_)); (try (conv => whnf))
            exact h
        | _ => (repeat ((conv => whnf); refine And.intro (by first | exact rfl | exact trivial | exact ⟨by decide, by decide, by decide⟩ | exact ⟨by decide, by decide⟩ | exact ⟨List.cons_ne_nil _ _, Nat.le_of_ble_eq_true rfl⟩ | exact ⟨rfl, rfl⟩ | exact eqOk_str | exact eqOk_int | exact eqOk_bool | exact Nat.le_of_ble_eq_true rfl | exact eqOk_tnil | exact eqOk_nil | assumption) ?_)); (try (conv => whnf)); exact h
    · exact h.elim
def sgOk (c : Nat) : Bool := decide (32 ≤ c) && decide (c ≤ 126)
/-- a value of a base -/
def isVB (b d : PyData) : Bool := match b with
  | .tuple [.str _, .int n] => match d with
    | .int i => decide (0 ≤ i) && ltB i n
    | _ => false
  | _ => match d with
    | .str s => decide (s.length ≤ 12) && s.cps.toList.all sgOk
    | _ => false
theorem sgs_all (x : Str) (p : PyData → Bool) (q : Nat → Bool) (h : ∀ c, p (.str ⟨#[c]⟩) = !q c) : ((signs x).filter p).isEmpty = x.cps.toList.all q := by
  unfold signs
  induction x.cps.toList with
  | nil => rfl
  | cons c l ih =>
    rw [List.map_cons, List.filter_cons, h c, List.all_cons]
    cases q c with
    | true => simpa using ih
    | false => simp
def sgnD (d : PyData) : Bool := match d with
  | .str s => match s.cps.toList with
    | [c] => !sgOk c
    | _ => false
  | _ => false
theorem B_law_is_base_value (D : DefOk K mg "_law_is_base_value" s_law_is_base_value ["base", "thing"]) (T : Txt mg) (B_law_is_int : FnB P w K mg base 1 "_law_is_int" ["thing"] (sp1 isIntD)) : FnB P w K mg base 2 "_law_is_base_value" ["base", "thing"] (sp2 (fun b d => IsB b ∧ Fit d) isVB) := by
  refine fnB_of D sc_law_is_base_value (fun avs Q h => ?_) (fun f cd A outer s H E => ⟨_, (dss_cons (ds_if (dxt_cmp E (fun _ h => op_eqX h) (ops_eq K) (dx_ix E (dx_var 0) dx_int) dx_str (nomark _)) (dss_one (ds_ret (dx_and (dx_callb E B_law_is_int (by decide) (dxv_cons (dx_var 1) dxv_nil)) (dx_one (dx_chn (r' := fun _ => _) E (fun _ _ => op_leD) (fun _ _ => op_lt) (ops_le K) (ops_int K ltB) dx_int (dx_var 1) (dx_ix E (dx_var 0) dx_int) (by with_unfolding_all rfl)))))) dss_nil)
  (dss_one (ds_ret (dx_and (dx_isT "str" (by simp) E (by intro _; rfl) T.b_isinstance (by intro _; rfl) T.b_str boot_strT (dx_var 1)) (dx_and (dx_cmp E (fun _ _ => op_leD) (ops_le K) (dx_call1B (r := rLenD) E (fun _ _ _ _ => call_lenD) (cs_len K) (by intro _; rfl) T.b_len boot_lenD (dx_var 1)) dx_int (nomark _)) (dx_one (dx_cmp E (fun _ h => op_eqX h) (ops_eq K) (dx_fr (dxf_lc [("sign", 2)] E (fun _ => sc_law_is_base_value.nd) (dxi_seq E (dx_var 1)) (fun _ => blkOk_by (by rfl)) (dg_name 2 (fun _ => sc_law_is_base_value.nd)) (dxp_one (dxt_not (dxt_chn (E.blk _) (fun _ _ => op_leD) (fun _ _ => op_leD) (ops_le K) (ops_le K) dx_str (dx_var 2) dx_str (by with_unfolding_all rfl)))) (dx_var 2))) (dx_lst dxa_nil) (nomark _)))))))), fun avs Q h => ?_⟩)
  · unfold sp2 at h; split at h <;> first | rfl | exact h.elim
  · unfold sp2 at h; split at h
    · rename_i b d
      obtain ⟨⟨hb, hd⟩, h⟩ := h
      rcases hb with rfl | ⟨n, n0, n1, rfl⟩
      · cases d with
        | str s =>
          replace h : Q (.bool (decide (s.length ≤ 12) && s.cps.toList.all sgOk)) := h
          have hd := hd.str
          (repeat ((conv => whnf); refine And.intro (by first | exact rfl | exact trivial | exact ⟨by decide, by decide, by decide⟩ | exact ⟨by decide, by decide⟩ | exact ⟨List.cons_ne_nil _ _, Nat.le_of_ble_eq_true rfl⟩ | exact ⟨rfl, rfl⟩ | exact eqOk_str | exact eqOk_int | exact eqOk_bool | exact Nat.le_of_ble_eq_true rfl | exact eqOk_tnil | exact eqOk_nil | assumption) ?_)); (try (conv => whnf))
          have el : decide ((s.length : Int) ≤ 12) = decide (s.length ≤ 12) := by
            by_cases z : s.length ≤ 12
            · rw [decide_eq_true z, decide_eq_true (by omega)]
            · rw [decide_eq_false z, decide_eq_false (by omega)]
          rw [el]
          cases e1 : decide (s.length ≤ 12) with
          | false => rw [e1] at h; exact h
          | true =>
            rw [e1] at h
            (conv => whnf)
            refine lc_pure sgnD id _ _ (by rw [signs_length]; have := of_decide_eq_true e1; exact sz (by simp; omega)) ?_ ?_
            · intro d hd ds' acc hl ht hf
              obtain ⟨c, _, rfl⟩ := List.mem_map.mp hd
              have hs : sgnD (.str ⟨#[c]⟩) = !(decide (32 ≤ c) && decide (c ≤ 126)) := rfl
              (repeat ((conv => whnf); refine And.intro (by first | exact rfl | exact trivial | exact ⟨by decide, by decide, by decide⟩ | exact ⟨by decide, by decide⟩ | exact ⟨List.cons_ne_nil _ _, Nat.le_of_ble_eq_true rfl⟩ | exact ⟨rfl, rfl⟩ | exact eqOk_str | exact eqOk_int | exact eqOk_bool | exact Nat.le_of_ble_eq_true rfl | exact eqOk_tnil | exact eqOk_nil | assumption) ?_)); (try (conv => whnf))
              rw [sp_le]
              cases a1 : decide (32 ≤ c) with
              | false => exact ⟨hl, ht (by rw [hs, a1]; rfl)⟩
              | true =>
                (conv => whnf)
                rw [le_ti]
                cases a2 : decide (c ≤ 126) with
                | true => exact hf (by rw [hs, a1, a2]; rfl)
                | false => exact ⟨hl, ht (by rw [hs, a1, a2]; rfl)⟩
            · rw [List.nil_append, List.map_id]
              (repeat ((conv => whnf); refine And.intro (by first | exact rfl | exact trivial | exact ⟨by decide, by decide, by decide⟩ | exact ⟨by decide, by decide⟩ | exact ⟨List.cons_ne_nil _ _, Nat.le_of_ble_eq_true rfl⟩ | exact ⟨rfl, rfl⟩ | exact eqOk_str | exact eqOk_int | exact eqOk_bool | exact Nat.le_of_ble_eq_true rfl | exact eqOk_tnil | exact eqOk_nil | assumption) ?_)); (try (conv => whnf))
              rw [eqv_nil, sgs_all s sgnD sgOk (fun c => rfl)]
              exact h
        | _ => (repeat ((conv => whnf); refine And.intro (by first | exact rfl | exact trivial | exact ⟨by decide, by decide, by decide⟩ | exact ⟨by decide, by decide⟩ | exact ⟨List.cons_ne_nil _ _, Nat.le_of_ble_eq_true rfl⟩ | exact ⟨rfl, rfl⟩ | exact eqOk_str | exact eqOk_int | exact eqOk_bool | exact Nat.le_of_ble_eq_true rfl | exact eqOk_tnil | exact eqOk_nil | assumption) ?_)); (try (conv => whnf)); exact h
      · cases d with
        | int i =>
          replace h : Q (.bool (decide (0 ≤ i) && ltB i n)) := h
          (repeat ((conv => whnf); refine And.intro (by first | exact rfl | exact trivial | exact ⟨by decide, by decide, by decide⟩ | exact ⟨by decide, by decide⟩ | exact ⟨List.cons_ne_nil _ _, Nat.le_of_ble_eq_true rfl⟩ | exact ⟨rfl, rfl⟩ | exact eqOk_str | exact eqOk_int | exact eqOk_bool | exact Nat.le_of_ble_eq_true rfl | exact eqOk_tnil | exact eqOk_nil | assumption) ?_)); (try (conv => whnf))
          cases e1 : decide (0 ≤ i) with
          | false => rw [e1] at h; exact h
          | true => rw [e1] at h; exact h
        | _ => (repeat ((conv => whnf); refine And.intro (by first | exact rfl | exact trivial | exact ⟨by decide, by decide, by decide⟩ | exact ⟨by decide, by decide⟩ | exact ⟨List.cons_ne_nil _ _, Nat.le_of_ble_eq_true rfl⟩ | exact ⟨rfl, rfl⟩ | exact eqOk_str | exact eqOk_int | exact eqOk_bool | exact Nat.le_of_ble_eq_true rfl | exact eqOk_tnil | exact eqOk_nil | assumption) ?_)); (try (conv => whnf)); exact h
    · exact h.elim
/-- a value of a kind -/
def mayV (b d : PyData) : Bool := match d with
  | .none => true
  | .tuple [x] => isVB b x
  | _ => false
def rowV (b d : PyData) : Bool := match d with
  | .tuple xs => xs.all (isVB b)
  | _ => false
def isVK (k d : PyData) : Bool := match k with
  | .tuple [.str m, .tuple b] => if (m == "maybe") = true then mayV (.tuple b) d else rowV (.tuple b) d
  | _ => isVB k d
theorem isVK_B {b d : PyData} (h : IsB b) : isVK b d = isVB b d := by rcases h with rfl | ⟨n, _, _, rfl⟩ <;> rfl
theorem isVK_m {b d : PyData} (h : IsB b) : isVK (.tuple [.str "maybe", b]) d = mayV b d := by rcases h with rfl | ⟨n, _, _, rfl⟩ <;> rfl
theorem isVK_r {b d : PyData} (h : IsB b) : isVK (.tuple [.str "row", b]) d = rowV b d := by rcases h with rfl | ⟨n, _, _, rfl⟩ <;> rfl
theorem filter_not {p : PyData → Bool} {ds : List PyData} : (ds.filter fun x => !p x).isEmpty = ds.all p := by
  have := filter_none (fun x => !p x) (id : PyData → PyData) ds
  rw [List.map_id] at this
  rw [this]; simp
theorem B_law_is_value (D : DefOk K mg "_law_is_value" s_law_is_value ["kind", "thing"]) (T : Txt mg) (B_law_is_base_value : FnB P w K mg base 2 "_law_is_base_value" ["base", "thing"] (sp2 (fun b d => IsB b ∧ Fit d) isVB)) : FnB P w K mg base 3 "_law_is_value" ["kind", "thing"] (sp2 (fun k d => IsK k ∧ Fit d) isVK) := by
  refine fnB_of D sc_law_is_value (fun avs Q h => ?_) (fun f cd A outer s H E => ⟨_, (dss_cons (ds_if (dxt_cmp E (r := fun K => rInX K true) (fun _ _ => op_notinX) (ops_in K true) (dx_ix E (dx_var 0) dx_int) (dx_tup (dxa_cons dx_str (dxa_cons dx_str dxa_nil))) (by with_unfolding_all rfl)) (dss_one (ds_ret (dx_callb E B_law_is_base_value (by decide) (dxv_cons (dx_var 0) (dxv_cons (dx_var 1) dxv_nil))))) dss_nil)
  (dss_cons (ds_if (dxw_t (dxw_and (dxt_cmp E (fun _ h => op_eqX h) (ops_eq K) (dx_ix E (dx_var 0) dx_int) dx_str (nomark _)) (dxw_and1 (dxt_cmp E (r := fun _ => _) (fun _ _ => op_isN) (ops_is K) (dx_var 1) dx_non (nomark _))))) (dss_one (ds_ret dx_bl)) dss_nil)
  (dss_cons (ds_if (dxw_t (dxw_or (dxt_not (dxt_val (dx_isT "tuple" (by simp) E (by intro _; rfl) T.b_isinstance (by intro _; rfl) T.b_tuple boot_tuple (dx_var 1)))) (dxw_or1 (dxw_t (dxw_and (dxt_cmp E (fun _ h => op_eqX h) (ops_eq K) (dx_ix E (dx_var 0) dx_int) dx_str (nomark _)) (dxw_and1 (dxt_cmp E (fun _ h => op_neX h) (ops_ne K) (dx_call1B (r := rLenD) E (fun _ _ _ _ => call_lenD) (cs_len K) (by intro _; rfl) T.b_len boot_lenD (dx_var 1)) dx_int (nomark _)))))))) (dss_one (ds_ret dx_bl)) dss_nil)
  (dss_one (ds_ret (dx_cmp E (fun _ h => op_eqX h) (ops_eq K) (dx_fr (dxf_lc [("item", 2)] E (fun _ => sc_law_is_value.nd) (dxi_seq E (dx_var 1)) (fun _ => blkOk_by (by rfl)) (dg_name 2 (fun _ => sc_law_is_value.nd)) (dxp_one (dxt_not (dxt_tru (E.blk _).K (dx_callb (E.blk _) B_law_is_base_value (by decide) (dxv_cons (dx_ix (E.blk _) (dx_var 0) dx_int) (dxv_cons (dx_var 2) dxv_nil)))))) (dx_var 2))) (dx_lst dxa_nil) (nomark _))))))), fun avs Q h => ?_⟩)
  · unfold sp2 at h; split at h <;> first | rfl | exact h.elim
  · unfold sp2 at h; split at h
    · rename_i k d
      obtain ⟨⟨hk, hd⟩, h⟩ := h
      rcases hk with hb | ⟨b, hb, rfl | rfl⟩
      · rw [isVK_B hb] at h
        rcases hb with rfl | ⟨n, n0, n1, rfl⟩
        · (repeat ((conv => whnf); refine And.intro (by first | exact rfl | exact trivial | exact ⟨by decide, by decide, by decide⟩ | exact ⟨by decide, by decide⟩ | exact ⟨List.cons_ne_nil _ _, Nat.le_of_ble_eq_true rfl⟩ | exact ⟨rfl, rfl⟩ | exact eqOk_str | exact eqOk_int | exact eqOk_bool | exact Nat.le_of_ble_eq_true rfl | exact eqOk_tnil | exact eqOk_nil | assumption) ?_)); (try (conv => whnf)); exact ⟨⟨.inl rfl, hd⟩, h⟩
        · (repeat ((conv => whnf); refine And.intro (by first | exact rfl | exact trivial | exact ⟨by decide, by decide, by decide⟩ | exact ⟨by decide, by decide⟩ | exact ⟨List.cons_ne_nil _ _, Nat.le_of_ble_eq_true rfl⟩ | exact ⟨rfl, rfl⟩ | exact eqOk_str | exact eqOk_int | exact eqOk_bool | exact Nat.le_of_ble_eq_true rfl | exact eqOk_tnil | exact eqOk_nil | assumption) ?_)); (try (conv => whnf)); exact ⟨⟨.inr ⟨n, n0, n1, rfl⟩, hd⟩, h⟩
      · rw [isVK_m hb] at h
        cases d with
        | tuple ds =>
          match ds, h with
          | [], h => (repeat ((conv => whnf); refine And.intro (by first | exact rfl | exact trivial | exact ⟨by decide, by decide, by decide⟩ | exact ⟨by decide, by decide⟩ | exact ⟨List.cons_ne_nil _ _, Nat.le_of_ble_eq_true rfl⟩ | exact ⟨rfl, rfl⟩ | exact eqOk_str | exact eqOk_int | exact eqOk_bool | exact Nat.le_of_ble_eq_true rfl | exact eqOk_tnil | exact eqOk_nil | assumption) ?_)); (try (conv => whnf)); exact h
          | [x], h =>
            replace h : Q (.bool (isVB b x)) := h
            (repeat ((conv => whnf); refine And.intro (by first | exact rfl | exact trivial | exact ⟨by decide, by decide, by decide⟩ | exact ⟨by decide, by decide⟩ | exact ⟨List.cons_ne_nil _ _, Nat.le_of_ble_eq_true rfl⟩ | exact ⟨rfl, rfl⟩ | exact eqOk_str | exact eqOk_int | exact eqOk_bool | exact Nat.le_of_ble_eq_true rfl | exact eqOk_tnil | exact eqOk_nil | assumption) ?_)); (try (conv => whnf))
            refine ⟨⟨hb, hd.item (List.mem_cons_self ..)⟩, ?_⟩
            (conv => whnf)
            cases e : isVB b x with
            | true => rw [e] at h; (repeat ((conv => whnf); refine And.intro (by first | exact rfl | exact trivial | exact ⟨by decide, by decide, by decide⟩ | exact ⟨by decide, by decide⟩ | exact ⟨List.cons_ne_nil _ _, Nat.le_of_ble_eq_true rfl⟩ | exact ⟨rfl, rfl⟩ | exact eqOk_str | exact eqOk_int | exact eqOk_bool | exact Nat.le_of_ble_eq_true rfl | exact eqOk_tnil | exact eqOk_nil | assumption) ?_)); (try (conv => whnf)); exact h
            | false => rw [e] at h; (repeat ((conv => whnf); refine And.intro (by first | exact rfl | exact trivial | exact ⟨by decide, by decide, by decide⟩ | exact ⟨by decide, by decide⟩ | exact ⟨List.cons_ne_nil _ _, Nat.le_of_ble_eq_true rfl⟩ | exact ⟨rfl, rfl⟩ | exact eqOk_str | exact eqOk_int | exact eqOk_bool | exact Nat.le_of_ble_eq_true rfl | exact eqOk_tnil | exact eqOk_nil | assumption) ?_)); (try (conv => whnf)); exact h
          | x :: y :: l, h => (repeat ((conv => whnf); refine And.intro (by first | exact rfl | exact trivial | exact ⟨by decide, by decide, by decide⟩ | exact ⟨by decide, by decide⟩ | exact ⟨List.cons_ne_nil _ _, Nat.le_of_ble_eq_true rfl⟩ | exact ⟨rfl, rfl⟩ | exact eqOk_str | exact eqOk_int | exact eqOk_bool | exact Nat.le_of_ble_eq_true rfl | exact eqOk_tnil | exact eqOk_nil | assumption) ?_)); (try (conv => whnf)); exact h
        | _ => (repeat ((conv => whnf); refine And.intro (by first | exact rfl | exact trivial | exact ⟨by decide, by decide, by decide⟩ | exact ⟨by decide, by decide⟩ | exact ⟨List.cons_ne_nil _ _, Nat.le_of_ble_eq_true rfl⟩ | exact ⟨rfl, rfl⟩ | exact eqOk_str | exact eqOk_int | exact eqOk_bool | exact Nat.le_of_ble_eq_true rfl | exact eqOk_tnil | exact eqOk_nil | assumption) ?_)); (try (conv => whnf)); exact h
      · rw [isVK_r hb] at h
        cases d with
        | tuple ds =>
          replace h : Q (.bool (ds.all (isVB b))) := h
          (repeat ((conv => whnf); refine And.intro (by first | exact rfl | exact trivial | exact ⟨by decide, by decide, by decide⟩ | exact ⟨by decide, by decide⟩ | exact ⟨List.cons_ne_nil _ _, Nat.le_of_ble_eq_true rfl⟩ | exact ⟨rfl, rfl⟩ | exact eqOk_str | exact eqOk_int | exact eqOk_bool | exact Nat.le_of_ble_eq_true rfl | exact eqOk_tnil | exact eqOk_nil | assumption) ?_)); (try (conv => whnf))
          refine lc_pure (fun x => !isVB b x) id _ _ (by have := hd.len; simpa using this) (fun x hx ds' acc hl ht hf => ?_) ?_
          · (repeat ((conv => whnf); refine And.intro (by first | exact rfl | exact trivial | exact ⟨by decide, by decide, by decide⟩ | exact ⟨by decide, by decide⟩ | exact ⟨List.cons_ne_nil _ _, Nat.le_of_ble_eq_true rfl⟩ | exact ⟨rfl, rfl⟩ | exact eqOk_str | exact eqOk_int | exact eqOk_bool | exact Nat.le_of_ble_eq_true rfl | exact eqOk_tnil | exact eqOk_nil | assumption) ?_)); (try (conv => whnf))
            refine ⟨⟨hb, hd.item hx⟩, ?_⟩
            (conv => whnf)
            cases e : isVB b x with
            | true => (repeat ((conv => whnf); refine And.intro (by first | exact rfl | exact trivial | exact ⟨by decide, by decide, by decide⟩ | exact ⟨by decide, by decide⟩ | exact ⟨List.cons_ne_nil _ _, Nat.le_of_ble_eq_true rfl⟩ | exact ⟨rfl, rfl⟩ | exact eqOk_str | exact eqOk_int | exact eqOk_bool | exact Nat.le_of_ble_eq_true rfl | exact eqOk_tnil | exact eqOk_nil | assumption) ?_)); (try (conv => whnf)); exact hf (by rw [e]; rfl)
            | false => (repeat ((conv => whnf); refine And.intro (by first | exact rfl | exact trivial | exact ⟨by decide, by decide, by decide⟩ | exact ⟨by decide, by decide⟩ | exact ⟨List.cons_ne_nil _ _, Nat.le_of_ble_eq_true rfl⟩ | exact ⟨rfl, rfl⟩ | exact eqOk_str | exact eqOk_int | exact eqOk_bool | exact Nat.le_of_ble_eq_true rfl | exact eqOk_tnil | exact eqOk_nil | assumption) ?_)); (try (conv => whnf)); exact ht (by rw [e]; rfl)
          · rw [List.nil_append, List.map_id]
            (repeat ((conv => whnf); refine And.intro (by first | exact rfl | exact trivial | exact ⟨by decide, by decide, by decide⟩ | exact ⟨by decide, by decide⟩ | exact ⟨List.cons_ne_nil _ _, Nat.le_of_ble_eq_true rfl⟩ | exact ⟨rfl, rfl⟩ | exact eqOk_str | exact eqOk_int | exact eqOk_bool | exact Nat.le_of_ble_eq_true rfl | exact eqOk_tnil | exact eqOk_nil | assumption) ?_)); (try (conv => whnf))
            rw [eqv_nil, filter_not]
            exact h
        | _ => (repeat ((conv => whnf); refine And.intro (by first | exact rfl | exact trivial | exact ⟨by decide, by decide, by decide⟩ | exact ⟨by decide, by decide⟩ | exact ⟨List.cons_ne_nil _ _, Nat.le_of_ble_eq_true rfl⟩ | exact ⟨rfl, rfl⟩ | exact eqOk_str | exact eqOk_int | exact eqOk_bool | exact Nat.le_of_ble_eq_true rfl | exact eqOk_tnil | exact eqOk_nil | assumption) ?_)); (try (conv => whnf)); exact h
    · exact h.elim
/-- no ~ in it -/
def noTil (d : PyData) : Bool := match d with
  | .str s => !strIn (Str.ofString "~") s
  | _ => true
def plainD (d : PyData) : Bool := match d with
  | .str s => !strIn (Str.ofString "~") s
  | .tuple xs => xs.all noTil
  | _ => true
end K10
end
section
set_option autoImplicit false
set_option linter.all false
set_option maxRecDepth 100000
set_option maxHeartbeats 4000000
namespace K10
open PySem PySem.Spec L2 DL
variable {P : Program} {w : World} {K : PySem.W.Frag} {mg : Str → Option Value} {base : Heap}
theorem sc_is_integer : FnScope ["thing"] ["thing"] (defScope s_is_integer) := ⟨rfl, rfl, rfl, by decide +kernel, rfl, by decide +kernel, by decide +kernel⟩
theorem sc_is_tuple : FnScope ["thing", "least", "most"] ["thing", "least", "most"] (defScope s_is_tuple) := ⟨rfl, rfl, rfl, by decide +kernel, rfl, by decide +kernel, by decide +kernel⟩
theorem sc_is_base_value : FnScope ["base", "thing", "sign"] ["base", "thing"] (defScope s_is_base_value) := ⟨rfl, rfl, rfl, by decide +kernel, rfl, by decide +kernel, by decide +kernel⟩
theorem sc_is_value : FnScope ["kind", "thing", "item"] ["kind", "thing"] (defScope s_is_value) := ⟨rfl, rfl, rfl, by decide +kernel, rfl, by decide +kernel, by decide +kernel⟩
/-! the program's -/
theorem B_is_integer (D : DefOk K mg "is_integer" s_is_integer ["thing"]) (T : Txt mg) : FnB P w K mg base 1 "is_integer" ["thing"] (sp1 isIntD) := by
  refine fnB_of D sc_is_integer (fun avs Q h => ?_) (fun f cd A outer s H E => ⟨_, (dss_one (ds_ret (dx_and (dx_isT "int" (by simp) E (by intro _; rfl) T.b_isinstance (by intro _; rfl) T.b_int boot_intT (dx_var 0)) (dx_one (dx_not (dx_isT "bool" (by simp) E (by intro _; rfl) T.b_isinstance (by intro _; rfl) T.b_bool boot_boolT (dx_var 0))))))), fun avs Q h => ?_⟩)
  · unfold sp1 at h; split at h <;> first | rfl | exact h.elim
  · unfold sp1 at h; split at h
    · rename_i x
      cases x <;> exact h
    · exact h.elim
def isTupB (x : PyData) (a b : Int) : Bool := match x with
  | .tuple ds => decide (a ≤ (ds.length : Int)) && decide ((ds.length : Int) ≤ b)
  | _ => false
def spTupB : SpD := fun avs Q => match avs with
  | [.d x, .d (.int a), .d (.int b)] => Q (.bool (isTupB x a b))
  | _ => False
theorem B_is_tuple (D : DefOk K mg "is_tuple" s_is_tuple ["thing", "least", "most"]) (T : Txt mg) : FnB P w K mg base 1 "is_tuple" ["thing", "least", "most"] spTupB := by
  refine fnB_of D sc_is_tuple (fun avs Q h => ?_) (fun f cd A outer s H E => ⟨_, (dss_one (ds_ret (dx_and (dx_isT "tuple" (by simp) E (by intro _; rfl) T.b_isinstance (by intro _; rfl) T.b_tuple boot_tuple (dx_var 0)) (dx_one (dx_chn E (fun _ _ => op_leD) (fun _ _ => op_leD) (ops_le K) (ops_le K) (dx_var 1) (dx_call1B (r := rLenD) E (fun _ _ _ _ => call_lenD) (cs_len K) (by intro _; rfl) T.b_len boot_lenD (dx_var 0)) (dx_var 2) (by with_unfolding_all rfl)))))), fun avs Q h => ?_⟩)
  · unfold spTupB at h; split at h <;> first | rfl | exact h.elim
  · unfold spTupB at h; split at h
    · rename_i x a b
      cases x with
      | tuple ds =>
        replace h : Q (.bool (decide (a ≤ (ds.length : Int)) && decide ((ds.length : Int) ≤ b))) := h
        (repeat ((conv => whnf); refine And.intro (by first | exact rfl | exact trivial | exact ⟨by decide, by decide, by decide⟩ | exact ⟨by decide, by decide⟩ | exact ⟨List.cons_ne_nil _ _, Nat.le_of_ble_eq_true rfl⟩ | exact ⟨rfl, rfl⟩ | exact eqOk_str | exact eqOk_int | exact eqOk_bool | exact Nat.le_of_ble_eq_true rfl | exact eqOk_tnil | exact eqOk_nil | assumption) ?_)); (try (conv => whnf))
        cases e : decide (a ≤ (ds.length : Int)) with
        | false => rw [e] at h; exact h
        | true => rw [e] at h; exact h
      | _ => (repeat ((conv => whnf); refine And.intro (by first | exact rfl | exact trivial | exact ⟨by decide, by decide, by decide⟩ | exact ⟨by decide, by decide⟩ | exact ⟨List.cons_ne_nil _ _, Nat.le_of_ble_eq_true rfl⟩ | exact ⟨rfl, rfl⟩ | exact eqOk_str | exact eqOk_int | exact eqOk_bool | exact Nat.le_of_ble_eq_true rfl | exact eqOk_tnil | exact eqOk_nil | assumption) ?_)); (try (conv => whnf)); exact h
    · exact h.elim
def sgB (d : PyData) : Bool := match d with
  | .str s => match s.cps.toList with
    | [c] => sgOk c
    | _ => false
  | _ => false
theorem sgs_sgB (x : Str) : (signs x).all sgB = x.cps.toList.all sgOk := by
  unfold signs
  rw [List.all_map]
  rfl
theorem B_is_base_value (D : DefOk K mg "is_base_value" s_is_base_value ["base", "thing"]) (T : Txt mg) (B_is_integer : FnB P w K mg base 1 "is_integer" ["thing"] (sp1 isIntD)) : FnB P w K mg base 2 "is_base_value" ["base", "thing"] (sp2 (fun b d => IsB b ∧ Fit d) isVB) := by
  refine fnB_of D sc_is_base_value (fun avs Q h => ?_) (fun f cd A outer s H E => ⟨_, (dss_cons (ds_if (dxt_cmp E (fun _ h => op_eqX h) (ops_eq K) (dx_ix E (dx_var 0) dx_int) dx_str (nomark _)) (dss_one (ds_ret (dx_and (dx_callb E B_is_integer (by decide) (dxv_cons (dx_var 1) dxv_nil)) (dx_one (dx_chn (r' := fun _ => _) E (fun _ _ => op_leD) (fun _ _ => op_lt) (ops_le K) (ops_int K ltB) dx_int (dx_var 1) (dx_ix E (dx_var 0) dx_int) (by with_unfolding_all rfl)))))) dss_nil)
  (dss_one (ds_ret (dx_and (dx_isT "str" (by simp) E (by intro _; rfl) T.b_isinstance (by intro _; rfl) T.b_str boot_strT (dx_var 1)) (dx_and (dx_cmp E (fun _ _ => op_leD) (ops_le K) (dx_call1B (r := rLenD) E (fun _ _ _ _ => call_lenD) (cs_len K) (by intro _; rfl) T.b_len boot_lenD (dx_var 1)) dx_int (nomark _)) (dx_one (dx_call1B (r := rAll) E (fun _ c _ _ => cr_all c) (cs_all K) (by intro _; rfl) T.b_all boot_all (dx_fr (dxf_lc [("sign", 2)] E (fun _ => sc_is_base_value.nd) (dxi_seq E (dx_var 1)) (fun _ => blkOk_by (by rfl)) (dg_name 2 (fun _ => sc_is_base_value.nd)) dxp_nil (dx_chn (E.blk _) (fun _ _ => op_leD) (fun _ _ => op_leD) (ops_le K) (ops_le K) dx_str (dx_var 2) dx_str (by with_unfolding_all rfl))))))))))), fun avs Q h => ?_⟩)
  · unfold sp2 at h; split at h <;> first | rfl | exact h.elim
  · unfold sp2 at h; split at h
    · rename_i b d
      obtain ⟨⟨hb, hd⟩, h⟩ := h
      rcases hb with rfl | ⟨n, n0, n1, rfl⟩
      · cases d with
        | str s =>
          replace h : Q (.bool (decide (s.length ≤ 12) && s.cps.toList.all sgOk)) := h
          have hd := hd.str
          (repeat ((conv => whnf); refine And.intro (by first | exact rfl | exact trivial | exact ⟨by decide, by decide, by decide⟩ | exact ⟨by decide, by decide⟩ | exact ⟨List.cons_ne_nil _ _, Nat.le_of_ble_eq_true rfl⟩ | exact ⟨rfl, rfl⟩ | exact eqOk_str | exact eqOk_int | exact eqOk_bool | exact Nat.le_of_ble_eq_true rfl | exact eqOk_tnil | exact eqOk_nil | assumption) ?_)); (try (conv => whnf))
          have el : decide ((s.length : Int) ≤ 12) = decide (s.length ≤ 12) := decide_eq_decide.mpr (by omega)
          rw [el]
          cases e1 : decide (s.length ≤ 12) with
          | false => rw [e1] at h; exact h
          | true =>
            rw [e1] at h
            (conv => whnf)
            refine lc_map (fun d => .bool (sgB d)) _ _ (by rw [signs_length]; simpa using hd) (fun d hd ds' acc hl ht => ?_) ?_
            · obtain ⟨c, _, rfl⟩ := List.mem_map.mp hd
              have hs : sgB (.str ⟨#[c]⟩) = (decide (32 ≤ c) && decide (c ≤ 126)) := rfl
              rw [hs] at ht
              (repeat ((conv => whnf); refine And.intro (by first | exact rfl | exact trivial | exact ⟨by decide, by decide, by decide⟩ | exact ⟨by decide, by decide⟩ | exact ⟨List.cons_ne_nil _ _, Nat.le_of_ble_eq_true rfl⟩ | exact ⟨rfl, rfl⟩ | exact eqOk_str | exact eqOk_int | exact eqOk_bool | exact Nat.le_of_ble_eq_true rfl | exact eqOk_tnil | exact eqOk_nil | assumption) ?_)); (try (conv => whnf))
              rw [sp_le]
              cases a1 : decide (32 ≤ c) with
              | false => rw [a1] at ht; exact ⟨hl, ht⟩
              | true =>
                rw [a1] at ht
                (conv => whnf)
                rw [le_ti]
                exact ⟨hl, ht⟩
            · rw [List.nil_append]
              (conv => whnf)
              rw [bools_map]
              (conv => whnf)
              rw [all_map, sgs_sgB]
              exact h
        | _ => (repeat ((conv => whnf); refine And.intro (by first | exact rfl | exact trivial | exact ⟨by decide, by decide, by decide⟩ | exact ⟨by decide, by decide⟩ | exact ⟨List.cons_ne_nil _ _, Nat.le_of_ble_eq_true rfl⟩ | exact ⟨rfl, rfl⟩ | exact eqOk_str | exact eqOk_int | exact eqOk_bool | exact Nat.le_of_ble_eq_true rfl | exact eqOk_tnil | exact eqOk_nil | assumption) ?_)); (try (conv => whnf)); exact h
      · cases d with
        | int i =>
          replace h : Q (.bool (decide (0 ≤ i) && ltB i n)) := h
          (repeat ((conv => whnf); refine And.intro (by first | exact rfl | exact trivial | exact ⟨by decide, by decide, by decide⟩ | exact ⟨by decide, by decide⟩ | exact ⟨List.cons_ne_nil _ _, Nat.le_of_ble_eq_true rfl⟩ | exact ⟨rfl, rfl⟩ | exact eqOk_str | exact eqOk_int | exact eqOk_bool | exact Nat.le_of_ble_eq_true rfl | exact eqOk_tnil | exact eqOk_nil | assumption) ?_)); (try (conv => whnf))
          cases e1 : decide (0 ≤ i) with
          | false => rw [e1] at h; exact h
          | true => rw [e1] at h; exact h
        | _ => (repeat ((conv => whnf); refine And.intro (by first | exact rfl | exact trivial | exact ⟨by decide, by decide, by decide⟩ | exact ⟨by decide, by decide⟩ | exact ⟨List.cons_ne_nil _ _, Nat.le_of_ble_eq_true rfl⟩ | exact ⟨rfl, rfl⟩ | exact eqOk_str | exact eqOk_int | exact eqOk_bool | exact Nat.le_of_ble_eq_true rfl | exact eqOk_tnil | exact eqOk_nil | assumption) ?_)); (try (conv => whnf)); exact h
    · exact h.elim
theorem B_is_value (D : DefOk K mg "is_value" s_is_value ["kind", "thing"]) (T : Txt mg) (B_is_tuple : FnB P w K mg base 1 "is_tuple" ["thing", "least", "most"] spTupB) (B_is_base_value : FnB P w K mg base 2 "is_base_value" ["base", "thing"] (sp2 (fun b d => IsB b ∧ Fit d) isVB)) :
    FnB P w K mg base 3 "is_value" ["kind", "thing"] (sp2 (fun k d => IsK k ∧ Fit d) isVK) := by
  refine fnB_of D sc_is_value (fun avs Q h => ?_) (fun f cd A outer s H E => ⟨_, (dss_cons (ds_if (dxt_cmp E (fun _ h => op_eqX h) (ops_eq K) (dx_ix E (dx_var 0) dx_int) dx_str (nomark _)) (dss_one (ds_ret (dx_or (dx_cmp E (r := fun _ => _) (fun _ _ => op_isN) (ops_is K) (dx_var 1) dx_non (nomark _)) (dx_one (dx_and (dx_callb E B_is_tuple (by decide) (dxv_cons (dx_var 1) (dxv_cons dx_int (dxv_cons dx_int dxv_nil)))) (dx_one (dx_callb E B_is_base_value (by decide) (dxv_cons (dx_ix E (dx_var 0) dx_int) (dxv_cons (dx_ix E (dx_var 1) dx_int) dxv_nil))))))))) dss_nil)
  (dss_cons (ds_if (dxt_cmp E (fun _ h => op_eqX h) (ops_eq K) (dx_ix E (dx_var 0) dx_int) dx_str (nomark _)) (dss_one (ds_ret (dx_and (dx_isT "tuple" (by simp) E (by intro _; rfl) T.b_isinstance (by intro _; rfl) T.b_tuple boot_tuple (dx_var 1)) (dx_one (dx_call1B (r := rAll) E (fun _ c _ _ => cr_all c) (cs_all K) (by intro _; rfl) T.b_all boot_all (dx_fr (dxf_lc [("item", 2)] E (fun _ => sc_is_value.nd) (dxi_seq E (dx_var 1)) (fun _ => blkOk_by (by rfl)) (dg_name 2 (fun _ => sc_is_value.nd)) dxp_nil (dx_callb (E.blk _) B_is_base_value (by decide) (dxv_cons (dx_ix (E.blk _) (dx_var 0) dx_int) (dxv_cons (dx_var 2) dxv_nil)))))))))) dss_nil)
  (dss_one (ds_ret (dx_callb E B_is_base_value (by decide) (dxv_cons (dx_var 0) (dxv_cons (dx_var 1) dxv_nil))))))), fun avs Q h => ?_⟩)
  · unfold sp2 at h; split at h <;> first | rfl | exact h.elim
  · unfold sp2 at h; split at h
    · rename_i k d
      obtain ⟨⟨hk, hd⟩, h⟩ := h
      rcases hk with hb | ⟨b, hb, rfl | rfl⟩
      · rw [isVK_B hb] at h
        rcases hb with rfl | ⟨n, n0, n1, rfl⟩
        · (repeat ((conv => whnf); refine And.intro (by first | exact rfl | exact trivial | exact ⟨by decide, by decide, by decide⟩ | exact ⟨by decide, by decide⟩ | exact ⟨List.cons_ne_nil _ _, Nat.le_of_ble_eq_true rfl⟩ | exact ⟨rfl, rfl⟩ | exact eqOk_str | exact eqOk_int | exact eqOk_bool | exact Nat.le_of_ble_eq_true rfl | exact eqOk_tnil | exact eqOk_nil | assumption) ?_)); (try (conv => whnf)); exact ⟨⟨.inl rfl, hd⟩, h⟩
        · (repeat ((conv => whnf); refine And.intro (by first | exact rfl | exact trivial | exact ⟨by decide, by decide, by decide⟩ | exact ⟨by decide, by decide⟩ | exact ⟨List.cons_ne_nil _ _, Nat.le_of_ble_eq_true rfl⟩ | exact ⟨rfl, rfl⟩ | exact eqOk_str | exact eqOk_int | exact eqOk_bool | exact Nat.le_of_ble_eq_true rfl | exact eqOk_tnil | exact eqOk_nil | assumption) ?_)); (try (conv => whnf)); exact ⟨⟨.inr ⟨n, n0, n1, rfl⟩, hd⟩, h⟩
      · rw [isVK_m hb] at h
        cases d with
        | tuple ds =>
          match ds, h with
          | [], h => (repeat ((conv => whnf); refine And.intro (by first | exact rfl | exact trivial | exact ⟨by decide, by decide, by decide⟩ | exact ⟨by decide, by decide⟩ | exact ⟨List.cons_ne_nil _ _, Nat.le_of_ble_eq_true rfl⟩ | exact ⟨rfl, rfl⟩ | exact eqOk_str | exact eqOk_int | exact eqOk_bool | exact Nat.le_of_ble_eq_true rfl | exact eqOk_tnil | exact eqOk_nil | assumption) ?_)); (try (conv => whnf)); exact h
          | [x], h =>
            replace h : Q (.bool (isVB b x)) := h
            (repeat ((conv => whnf); refine And.intro (by first | exact rfl | exact trivial | exact ⟨by decide, by decide, by decide⟩ | exact ⟨by decide, by decide⟩ | exact ⟨List.cons_ne_nil _ _, Nat.le_of_ble_eq_true rfl⟩ | exact ⟨rfl, rfl⟩ | exact eqOk_str | exact eqOk_int | exact eqOk_bool | exact Nat.le_of_ble_eq_true rfl | exact eqOk_tnil | exact eqOk_nil | assumption) ?_)); (try (conv => whnf))
            exact ⟨⟨hb, hd.item (List.mem_cons_self ..)⟩, h⟩
          | x :: y :: l, h =>
            (repeat ((conv => whnf); refine And.intro (by first | exact rfl | exact trivial | exact ⟨by decide, by decide, by decide⟩ | exact ⟨by decide, by decide⟩ | exact ⟨List.cons_ne_nil _ _, Nat.le_of_ble_eq_true rfl⟩ | exact ⟨rfl, rfl⟩ | exact eqOk_str | exact eqOk_int | exact eqOk_bool | exact Nat.le_of_ble_eq_true rfl | exact eqOk_tnil | exact eqOk_nil | assumption) ?_)); (try (conv => whnf))
            have e : isTupB (.tuple (x :: y :: l)) 1 1 = false := by
              simp only [isTupB, List.length_cons]
              rw [Bool.and_eq_false_iff]
              exact .inr (decide_eq_false (by omega))
            rw [e]
            exact h
        | _ => (repeat ((conv => whnf); refine And.intro (by first | exact rfl | exact trivial | exact ⟨by decide, by decide, by decide⟩ | exact ⟨by decide, by decide⟩ | exact ⟨List.cons_ne_nil _ _, Nat.le_of_ble_eq_true rfl⟩ | exact ⟨rfl, rfl⟩ | exact eqOk_str | exact eqOk_int | exact eqOk_bool | exact Nat.le_of_ble_eq_true rfl | exact eqOk_tnil | exact eqOk_nil | assumption) ?_)); (try (conv => whnf)); exact h
      · rw [isVK_r hb] at h
        cases d with
        | tuple ds =>
          replace h : Q (.bool (ds.all (isVB b))) := h
          (repeat ((conv => whnf); refine And.intro (by first | exact rfl | exact trivial | exact ⟨by decide, by decide, by decide⟩ | exact ⟨by decide, by decide⟩ | exact ⟨List.cons_ne_nil _ _, Nat.le_of_ble_eq_true rfl⟩ | exact ⟨rfl, rfl⟩ | exact eqOk_str | exact eqOk_int | exact eqOk_bool | exact Nat.le_of_ble_eq_true rfl | exact eqOk_tnil | exact eqOk_nil | assumption) ?_)); (try (conv => whnf))
          refine lc_map (fun d => .bool (isVB b d)) _ _ (by have := hd.len; simpa using this) (fun x hx ds' acc hl ht => ?_) ?_
          · (repeat ((conv => whnf); refine And.intro (by first | exact rfl | exact trivial | exact ⟨by decide, by decide, by decide⟩ | exact ⟨by decide, by decide⟩ | exact ⟨List.cons_ne_nil _ _, Nat.le_of_ble_eq_true rfl⟩ | exact ⟨rfl, rfl⟩ | exact eqOk_str | exact eqOk_int | exact eqOk_bool | exact Nat.le_of_ble_eq_true rfl | exact eqOk_tnil | exact eqOk_nil | assumption) ?_)); (try (conv => whnf))
            refine ⟨⟨hb, hd.item hx⟩, ?_⟩
            exact ⟨hl, ht⟩
          · rw [List.nil_append]
            (conv => whnf)
            rw [bools_map]
            (conv => whnf)
            rw [all_map]
            exact h
        | _ => (repeat ((conv => whnf); refine And.intro (by first | exact rfl | exact trivial | exact ⟨by decide, by decide, by decide⟩ | exact ⟨by decide, by decide⟩ | exact ⟨List.cons_ne_nil _ _, Nat.le_of_ble_eq_true rfl⟩ | exact ⟨rfl, rfl⟩ | exact eqOk_str | exact eqOk_int | exact eqOk_bool | exact Nat.le_of_ble_eq_true rfl | exact eqOk_tnil | exact eqOk_nil | assumption) ?_)); (try (conv => whnf)); exact h
    · exact h.elim
end K10
end
section
set_option autoImplicit false
set_option linter.all false
set_option maxRecDepth 100000
set_option maxHeartbeats 4000000
namespace K10
open PySem PySem.Spec L2 DL
variable {P : Program} {w : World} {K : PySem.W.Frag} {mg : Str → Option Value} {base : Heap}
theorem sc_law_odd : FnScope ["bag", "menu"] ["bag"] (defScope s_law_odd) := ⟨rfl, rfl, rfl, by decide +kernel, rfl, by decide +kernel, by decide +kernel⟩
/-! ### odd things -/
def spOdd : SpD := fun avs Q => match avs with
  | [.bag] => ∀ d, Dt 4 100 d → Q d
  | _ => False
def dtB (n b : Nat) (d : PyData) : Bool := decide (d.depth ≤ n) && d.showable && decide (d.shown.length ≤ b)
theorem dtB_dt {n b : Nat} {d : PyData} (h : dtB n b d = true) : Dt n b d := by
  unfold dtB at h
  rw [Bool.and_eq_true, Bool.and_eq_true, decide_eq_true_eq, decide_eq_true_eq] at h
  exact ⟨h.1.1, h.1.2, h.2⟩
theorem B_law_odd (D : DefOk K mg "_law_odd" s_law_odd ["bag"]) (T : Txt mg) (B_law_some : FnB P w K mg base 2 "_law_some" ["bag", "things"] spSome) : FnB P w K mg base 3 "_law_odd" ["bag"] spOdd := by
  refine fnB_of D sc_law_odd (fun avs Q h => ?_) (fun f cd A outer s H E => ⟨_, (dss_cons (ds_set 1 (fun _ => sc_law_odd.nd) (dx_lst (dxa_cons dx_non (dxa_cons dx_bl (dxa_cons dx_bl (dxa_cons dx_int (dxa_cons dx_int (dxa_cons (dx_neg dx_int) (dxa_cons dx_int (dxa_cons dx_int (dxa_cons (dx_op E (r := fun _ => _) (fun _ _ => op_pow) (ops_pow K) dx_int dx_int) (dxa_cons dx_str (dxa_cons dx_str (dxa_cons dx_str (dxa_cons dx_str (dxa_cons dx_str (dxa_cons dx_str (dxa_cons dx_str dxa_nil))))))))))))))))))
  (dss_cons (ds_set 1 (fun _ => sc_law_odd.nd) (dx_op E (fun _ _ => op_addD) (ops_add K) (dx_var 1) (dx_lst (dxa_cons dx_str (dxa_cons dx_str (dxa_cons dx_str (dxa_cons (dx_tup dxa_nil) (dxa_cons (dx_lst dxa_nil) (dxa_cons dx_dict0 (dxa_cons (dx_tup (dxa_cons dx_str dxa_nil)) (dxa_cons (dx_tup (dxa_cons dx_str (dxa_cons dx_int dxa_nil))) (dxa_cons (dx_tup (dxa_cons dx_str (dxa_cons dx_int dxa_nil))) (dxa_cons (dx_tup (dxa_cons dx_str (dxa_cons dx_int dxa_nil))) dxa_nil)))))))))))))
  (dss_cons (ds_set 1 (fun _ => sc_law_odd.nd) (dx_op E (fun _ _ => op_addD) (ops_add K) (dx_var 1) (dx_lst (dxa_cons (dx_tup (dxa_cons dx_str (dxa_cons dx_bl dxa_nil))) (dxa_cons (dx_tup (dxa_cons dx_str (dxa_cons dx_int dxa_nil))) (dxa_cons (dx_tup (dxa_cons dx_str (dxa_cons (dx_tup (dxa_cons dx_str dxa_nil)) dxa_nil))) (dxa_cons (dx_tup (dxa_cons dx_str (dxa_cons (dx_tup (dxa_cons dx_str (dxa_cons dx_int dxa_nil))) dxa_nil))) dxa_nil)))))))
  (dss_cons (ds_set 1 (fun _ => sc_law_odd.nd) (dx_op E (fun _ _ => op_addD) (ops_add K) (dx_var 1) (dx_lst (dxa_cons (dx_tup (dxa_cons dx_str (dxa_cons (dx_tup (dxa_cons dx_str (dxa_cons (dx_tup (dxa_cons dx_str dxa_nil)) dxa_nil))) dxa_nil))) (dxa_cons (dx_tup (dxa_cons dx_str dxa_nil)) (dxa_cons (dx_tup (dxa_cons dx_str (dxa_cons dx_str dxa_nil))) (dxa_cons dx_str (dxa_cons dx_str dxa_nil))))))))
  (dss_cons (ds_set 1 (fun _ => sc_law_odd.nd) (dx_op E (fun _ _ => op_addD) (ops_add K) (dx_var 1) (dx_lst (dxa_cons dx_str (dxa_cons dx_str (dxa_cons dx_str (dxa_cons dx_str (dxa_cons dx_str (dxa_cons (dx_tup (dxa_cons dx_str dxa_nil)) (dxa_cons (dx_tup (dxa_cons dx_non dxa_nil)) (dxa_cons (dx_lst (dxa_cons dx_int dxa_nil)) dxa_nil)))))))))))
  (dss_cons (ds_set 1 (fun _ => sc_law_odd.nd) (dx_op E (fun _ _ => op_addD) (ops_add K) (dx_var 1) (dx_lst (dxa_cons (dx_tup (dxa_cons (dx_tup dxa_nil) dxa_nil)) (dxa_cons (dx_tup (dxa_cons dx_int dxa_nil)) (dxa_cons (dx_tup (dxa_cons dx_str dxa_nil)) (dxa_cons dx_dict_si (dxa_cons dx_dict_in (dxa_cons (dx_tup (dxa_cons dx_str (dxa_cons dx_int dxa_nil))) (dxa_cons (dx_tup (dxa_cons dx_str (dxa_cons dx_int dxa_nil))) (dxa_cons (dx_tup (dxa_cons dx_str (dxa_cons dx_int dxa_nil))) (dxa_cons (dx_tup (dxa_cons dx_str (dxa_cons (dx_tup (dxa_cons dx_str (dxa_cons dx_int dxa_nil))) dxa_nil))) dxa_nil))))))))))))
  (dss_one (ds_ret (dx_callb E B_law_some (by decide) (dxv_cons (dx_var 0) (dxv_cons (dx_op E (fun _ _ => op_addD) (ops_add K) (dx_var 1) (dx_lst (dxa_cons (dx_tup (dxa_cons dx_str (dxa_cons (dx_tup (dxa_cons dx_str (dxa_cons dx_int dxa_nil))) (dxa_cons (dx_tup (dxa_cons (dx_tup (dxa_cons dx_str (dxa_cons dx_int dxa_nil))) dxa_nil)) dxa_nil)))) (dxa_cons (dx_tup (dxa_cons dx_str (dxa_cons dx_int dxa_nil))) (dxa_cons (dx_tup (dxa_cons dx_str (dxa_cons (dx_tup (dxa_cons dx_str (dxa_cons dx_str dxa_nil))) dxa_nil))) dxa_nil))))) dxv_nil))))))))))), fun avs Q h => ?_⟩)
  · unfold spOdd at h; split at h <;> first | rfl | exact h.elim
  · unfold spOdd at h; split at h
    · refine seq_one (fun ws : List PyData => ws ≠ [] ∧ ws.length ≤ 100 ∧ ws.all (dtB 4 100) = true) (fun ws => [.bag, .dat false (.list ws)]) (fun key => ?_) (fun ws hw => ?_)
      · (repeat ((conv => whnf); refine And.intro (by first | exact rfl | exact trivial | exact ⟨by decide, by decide, by decide⟩ | exact ⟨by decide, by decide⟩ | exact ⟨List.cons_ne_nil _ _, Nat.le_of_ble_eq_true rfl⟩ | exact ⟨rfl, rfl⟩ | exact eqOk_str | exact eqOk_int | exact eqOk_bool | exact Nat.le_of_ble_eq_true rfl | exact eqOk_tnil | exact eqOk_nil | assumption) ?_)); (try (conv => whnf))
        exact key _ ⟨by simp, by simp, by decide +kernel⟩
      have step : ∀ {ws es : List PyData} {n m : Nat}, (ws ≠ [] ∧ ws.length ≤ n ∧ ws.all (dtB 4 100) = true) → n + es.length ≤ m → es.all (dtB 4 100) = true → ws ++ es ≠ [] ∧ (ws ++ es).length ≤ m ∧ (ws ++ es).all (dtB 4 100) = true := fun h1 h2 h3 =>
        ⟨by simp [h1.1], by rw [List.length_append]; have := h1.2.1; omega, by rw [List.all_append, h1.2.2, h3]; rfl⟩
      have sz2 : ∀ {ws es : List PyData} {n : Nat}, (ws ≠ [] ∧ ws.length ≤ n ∧ ws.all (dtB 4 100) = true) → n + es.length ≤ 1000 → ws.length + es.length ≤ sizeLine := fun h1 h2 => sz (by have := h1.2.1; omega)
      refine seq_one (fun ws : List PyData => ws ≠ [] ∧ ws.length ≤ 200 ∧ ws.all (dtB 4 100) = true) (fun ws => [.bag, .dat false (.list ws)]) (fun key => ?_) (fun ws hw2 => ?_)
      · (repeat ((conv => whnf); refine And.intro (by first | exact rfl | exact trivial | exact ⟨by decide, by decide, by decide⟩ | exact ⟨by decide, by decide⟩ | exact ⟨List.cons_ne_nil _ _, Nat.le_of_ble_eq_true rfl⟩ | exact ⟨rfl, rfl⟩ | exact eqOk_str | exact eqOk_int | exact eqOk_bool | exact Nat.le_of_ble_eq_true rfl | exact eqOk_tnil | exact eqOk_nil | assumption) ?_)); (try (conv => whnf))
        exact ⟨sz2 hw (by simp), key _ (step hw (by simp) (by decide +kernel))⟩
      refine seq_one (fun ws : List PyData => ws ≠ [] ∧ ws.length ≤ 300 ∧ ws.all (dtB 4 100) = true) (fun ws => [.bag, .dat false (.list ws)]) (fun key => ?_) (fun ws hw3 => ?_)
      · (repeat ((conv => whnf); refine And.intro (by first | exact rfl | exact trivial | exact ⟨by decide, by decide, by decide⟩ | exact ⟨by decide, by decide⟩ | exact ⟨List.cons_ne_nil _ _, Nat.le_of_ble_eq_true rfl⟩ | exact ⟨rfl, rfl⟩ | exact eqOk_str | exact eqOk_int | exact eqOk_bool | exact Nat.le_of_ble_eq_true rfl | exact eqOk_tnil | exact eqOk_nil | assumption) ?_)); (try (conv => whnf))
        exact ⟨sz2 hw2 (by simp), key _ (step hw2 (by simp) (by decide +kernel))⟩
      refine seq_one (fun ws : List PyData => ws ≠ [] ∧ ws.length ≤ 400 ∧ ws.all (dtB 4 100) = true) (fun ws => [.bag, .dat false (.list ws)]) (fun key => ?_) (fun ws hw4 => ?_)
      · (repeat ((conv => whnf); refine And.intro (by first | exact rfl | exact trivial | exact ⟨by decide, by decide, by decide⟩ | exact ⟨by decide, by decide⟩ | exact ⟨List.cons_ne_nil _ _, Nat.le_of_ble_eq_true rfl⟩ | exact ⟨rfl, rfl⟩ | exact eqOk_str | exact eqOk_int | exact eqOk_bool | exact Nat.le_of_ble_eq_true rfl | exact eqOk_tnil | exact eqOk_nil | assumption) ?_)); (try (conv => whnf))
        exact ⟨sz2 hw3 (by simp), key _ (step hw3 (by simp) (by decide +kernel))⟩
      refine seq_one (fun ws : List PyData => ws ≠ [] ∧ ws.length ≤ 500 ∧ ws.all (dtB 4 100) = true) (fun ws => [.bag, .dat false (.list ws)]) (fun key => ?_) (fun ws hw5 => ?_)
      · (repeat ((conv => whnf); refine And.intro (by first | exact rfl | exact trivial | exact ⟨by decide, by decide, by decide⟩ | exact ⟨by decide, by decide⟩ | exact ⟨List.cons_ne_nil _ _, Nat.le_of_ble_eq_true rfl⟩ | exact ⟨rfl, rfl⟩ | exact eqOk_str | exact eqOk_int | exact eqOk_bool | exact Nat.le_of_ble_eq_true rfl | exact eqOk_tnil | exact eqOk_nil | assumption) ?_)); (try (conv => whnf))
        exact ⟨sz2 hw4 (by simp), key _ (step hw4 (by simp) (by decide +kernel))⟩
      refine seq_one (fun ws : List PyData => ws ≠ [] ∧ ws.length ≤ 600 ∧ ws.all (dtB 4 100) = true) (fun ws => [.bag, .dat false (.list ws)]) (fun key => ?_) (fun ws hw6 => ?_)
      · (repeat ((conv => whnf); refine And.intro (by first | exact rfl | exact trivial | exact ⟨by decide, by decide, by decide⟩ | exact ⟨by decide, by decide⟩ | exact ⟨List.cons_ne_nil _ _, Nat.le_of_ble_eq_true rfl⟩ | exact ⟨rfl, rfl⟩ | exact eqOk_str | exact eqOk_int | exact eqOk_bool | exact Nat.le_of_ble_eq_true rfl | exact eqOk_tnil | exact eqOk_nil | assumption) ?_)); (try (conv => whnf))
        exact ⟨sz2 hw5 (by simp), key _ (step hw5 (by simp) (by decide +kernel))⟩
      (repeat ((conv => whnf); refine And.intro (by first | exact rfl | exact trivial | exact ⟨by decide, by decide, by decide⟩ | exact ⟨by decide, by decide⟩ | exact ⟨List.cons_ne_nil _ _, Nat.le_of_ble_eq_true rfl⟩ | exact ⟨rfl, rfl⟩ | exact eqOk_str | exact eqOk_int | exact eqOk_bool | exact Nat.le_of_ble_eq_true rfl | exact eqOk_tnil | exact eqOk_nil | assumption) ?_)); (try (conv => whnf))
      refine ⟨sz2 hw6 (by simp), ?_⟩
      (repeat ((conv => whnf); refine And.intro (by first | exact rfl | exact trivial | exact ⟨by decide, by decide, by decide⟩ | exact ⟨by decide, by decide⟩ | exact ⟨List.cons_ne_nil _ _, Nat.le_of_ble_eq_true rfl⟩ | exact ⟨rfl, rfl⟩ | exact eqOk_str | exact eqOk_int | exact eqOk_bool | exact Nat.le_of_ble_eq_true rfl | exact eqOk_tnil | exact eqOk_nil | assumption) ?_)); (try (conv => whnf))
      have fin : ∀ {ws : List PyData} (es : List PyData), (ws ≠ [] ∧ ws.length ≤ 600 ∧ ws.all (dtB 4 100) = true) → 600 + es.length ≤ 1000 → es.all (dtB 4 100) = true → (ws ++ es ≠ [] ∧ (ws ++ es).length < 1073741824) ∧ ∀ x ∈ ws ++ es, Q x := fun es h1 h2 h3 => by
        have f := step h1 h2 h3
        exact ⟨⟨f.1, Nat.lt_of_le_of_lt f.2.1 (by decide)⟩, fun x hx => h x (dtB_dt (List.all_eq_true.mp f.2.2 x hx))⟩
      exact fin _ hw6 (by simp) (by decide +kernel)
    · exact h.elim
end K10
end
section
set_option autoImplicit false
set_option linter.all false
set_option maxRecDepth 100000
set_option maxHeartbeats 4000000
namespace K10
open PySem PySem.Spec L2 DL
variable {P : Program} {w : World} {K : PySem.W.Frag} {mg : Str → Option Value} {base : Heap}
theorem sc_law_bent : FnScope ["bag", "thing", "at", "ways", "is_moved"] ["bag", "thing"] (defScope s_law_bent) := ⟨rfl, rfl, rfl, by decide +kernel, rfl, by decide +kernel, by decide +kernel⟩
/-! ### things bent somewhere -/
def spBent (n : Nat) : SpD := fun avs Q => match avs with
  | [.bag, .d x] => ∃ b, Ds n b x ∧ b ≤ 6000000 ∧ ∀ d, Dt (n + 4) (3 * b + 700) d → Q d
  | _ => False
def spBentX : Nat → SpD
  | 0 => fun _ _ => False
  | n + 1 => spBent n
theorem big {n : Nat} (h : n ≤ 16000000) : n ≤ sizeLine := Nat.le_trans h (by decide)
theorem atI_nat {α : Type} {xs : List α} {r : Int} (h0 : 0 ≤ r) (h1 : r < xs.length) : atI xs r = xs[r.toNat]? := by
  unfold atI ixN
  rw [if_pos h0, if_pos h1]
  rfl
theorem spBentX_at {n b : Nat} {x : PyData} {Q : PyData → Prop} (hn : 1 ≤ n) (h1 : Ds (n - 1) b x) (h2 : b ≤ 6000000) (h3 : ∀ d, Dt (n + 3) (3 * b + 700) d → Q d) : spBentX n [.bag, .d x] Q := by
  cases n with
  | zero => omega
  | succ m => exact ⟨b, h1, h2, fun d hd => h3 d (hd.mono (by omega) (Nat.le_refl _))⟩
theorem dt_one {n b : Nat} {d : PyData} (h : Dt n b d) : DtA n (b + 2) [d] := (dtA_cons h (dtA_nil (b := 0))).mono (Nat.le_refl _) (Nat.le_refl _)
theorem B_law_bent (D : DefOk K mg "_law_bent" s_law_bent ["bag", "thing"]) (T : Txt mg) (B_law_take : FnB P w K mg base 1 "_law_take" ["bag", "many"] spTake) (B_law_some : FnB P w K mg base 2 "_law_some" ["bag", "things"] spSome) (B_law_is_int : FnB P w K mg base 1 "_law_is_int" ["thing"] (sp1 isIntD)) (B_law_odd : FnB P w K mg base 3 "_law_odd" ["bag"] spOdd) :
    ∀ n, FnB P w K mg base (n + 4) "_law_bent" ["bag", "thing"] (spBentX n) := by
  intro n
  induction n with
  | zero => exact (fnB_no D).mono (Nat.zero_le _)
  | succ n B_law_bent =>
    refine fnB_of D sc_law_bent (fun avs Q h => ?_) (fun f cd A outer s H E => ⟨_, (dss_cons (ds_if (dxw_t (dxw_and (dxt_val (dx_isT "tuple" (by simp) E (by intro _; rfl) T.b_isinstance (by intro _; rfl) T.b_tuple boot_tuple (dx_var 1))) (dxw_and (dxt_cmp E (fun _ h => op_neX h) (ops_ne K) (dx_var 1) (dx_tup dxa_nil) (nomark _)) (dxw_and1 (dxt_cmp E (r := fun _ => _) (fun _ _ => op_gt) (ops_int K gtB) (dx_callb E B_law_take (by omega) (dxv_cons (dx_var 0) (dxv_cons dx_int dxv_nil))) dx_int (nomark _)))))) (dss_cons (ds_set 2 (fun _ => sc_law_bent.nd) (dx_callb E B_law_take (by omega) (dxv_cons (dx_var 0) (dxv_cons (dx_call1B (r := rLenD) E (fun _ _ _ _ => call_lenD) (cs_len K) (by intro _; rfl) T.b_len boot_lenD (dx_var 1)) dxv_nil))))
  (dss_one (ds_ret (dx_op E (fun _ _ => op_addD) (ops_add K) (dx_op E (fun _ _ => op_addD) (ops_add K) (dx_slice E (dx_var 1) dxo_none (dxo_some (dx_var 2))) (dx_tup (dxa_cons (dx_callb E B_law_bent (by omega) (dxv_cons (dx_var 0) (dxv_cons (dx_ix E (dx_var 1) (dx_var 2)) dxv_nil))) dxa_nil))) (dx_slice E (dx_var 1) (dxo_some (dx_op E (fun _ _ => op_addD) (ops_add K) (dx_var 2) dx_int)) dxo_none))))) dss_nil)
  (dss_cons (ds_if (dxw_t (dxw_or (dxt_not (dxt_val (dx_isT "tuple" (by simp) E (by intro _; rfl) T.b_isinstance (by intro _; rfl) T.b_tuple boot_tuple (dx_var 1)))) (dxw_or1 (dxt_cmp E (fun _ h => op_eqX h) (ops_eq K) (dx_callb E B_law_take (by omega) (dxv_cons (dx_var 0) (dxv_cons dx_int dxv_nil))) dx_int (nomark _))))) (dss_cons (ds_set 4 (fun _ => sc_law_bent.nd) (dx_and (dx_callb E B_law_is_int (by omega) (dxv_cons (dx_var 1) dxv_nil)) (dx_one (dx_cmp E (fun _ h => op_eqX h) (ops_eq K) (dx_callb E B_law_take (by omega) (dxv_cons (dx_var 0) (dxv_cons dx_int dxv_nil))) dx_int (nomark _)))))
  (dss_one (ds_ret (dx_if (dxt_tru E.K (dx_var 4)) (dx_op E (fun _ _ => op_addD) (ops_add K) (dx_var 1) (dx_callb E B_law_some (by omega) (dxv_cons (dx_var 0) (dxv_cons (dx_lst (dxa_cons dx_int (dxa_cons (dx_neg dx_int) dxa_nil))) dxv_nil)))) (dx_callb E B_law_odd (by omega) (dxv_cons (dx_var 0) dxv_nil)))))) dss_nil)
  (dss_cons (ds_set 2 (fun _ => sc_law_bent.nd) (dx_callb E B_law_take (by omega) (dxv_cons (dx_var 0) (dxv_cons (dx_op E (fun _ _ => op_addD) (ops_add K) (dx_call1B (r := rLenD) E (fun _ _ _ _ => call_lenD) (cs_len K) (by intro _; rfl) T.b_len boot_lenD (dx_var 1)) dx_int) dxv_nil))))
  (dss_cons (ds_set 3 (fun _ => sc_law_bent.nd) (dx_lst (dxa_cons (dx_call1Ty (r := rListD) E (fun _ _ => call_listD) (cs_list K) (by intro _; rfl) T.b_list boot_listT (dx_var 1)) (dxa_cons (dx_slice E (dx_var 1) dxo_none (dxo_some (dx_neg dx_int))) (dxa_cons (dx_slice E (dx_var 1) (dxo_some dx_int) dxo_none) (dxa_cons (dx_rev E (dx_var 1)) (dxa_cons (dx_op E (fun _ _ => op_addD) (ops_add K) (dx_var 1) (dx_slice E (dx_var 1) dxo_none (dxo_some dx_int))) (dxa_cons (dx_tup (dxa_cons (dx_var 1) dxa_nil)) dxa_nil))))))))
  (dss_one (ds_ret (dx_callb E B_law_some (by omega) (dxv_cons (dx_var 0) (dxv_cons (dx_op E (fun _ _ => op_addD) (ops_add K) (dx_var 3) (dx_lst (dxa_cons (dx_op E (fun _ _ => op_addD) (ops_add K) (dx_op E (fun _ _ => op_addD) (ops_add K) (dx_slice E (dx_var 1) dxo_none (dxo_some (dx_var 2))) (dx_tup (dxa_cons (dx_callb E B_law_odd (by omega) (dxv_cons (dx_var 0) dxv_nil)) dxa_nil))) (dx_slice E (dx_var 1) (dxo_some (dx_var 2)) dxo_none)) dxa_nil))) dxv_nil))))))))), fun avs Q h => ?_⟩)
    · replace h : spBent n avs Q := h
      unfold spBent at h; split at h <;> first | rfl | exact h.elim
    · replace h : spBent n avs Q := h
      unfold spBent at h; split at h
      · rename_i x
        obtain ⟨b, hx, hb, h⟩ := h
        have odd : ∀ d, Dt 4 100 d → Q d := fun d hd => h d (hd.mono (by omega) (by omega))
        cases x with
        | tuple ds =>
          have hi := hx.1.items
          have hl := hi.len
          have n1 := hx.1.tup_depth
          have sm := sm_tup hx.2
          refine seq_ifd (fun z => z = true → ds ≠ []) (fun Q hq => ?_) (fun z => ?_) fun _ => ?_
          · cases ds with
            | nil => (repeat ((conv => whnf); refine And.intro (by first | exact rfl | exact trivial | exact ⟨by decide, by decide, by decide⟩ | exact ⟨by decide, by decide⟩ | exact ⟨List.cons_ne_nil _ _, Nat.le_of_ble_eq_true rfl⟩ | exact ⟨rfl, rfl⟩ | exact eqOk_str | exact eqOk_int | exact eqOk_bool | exact Nat.le_of_ble_eq_true rfl | exact eqOk_tnil | exact eqOk_nil | assumption) ?_)); (try (conv => whnf)); exact hq false (fun z => nomatch z)
            | cons a l =>
              (repeat ((conv => whnf); refine And.intro (by first | exact rfl | exact trivial | exact ⟨by decide, by decide, by decide⟩ | exact ⟨by decide, by decide⟩ | exact ⟨List.cons_ne_nil _ _, Nat.le_of_ble_eq_true rfl⟩ | exact ⟨rfl, rfl⟩ | exact eqOk_str | exact eqOk_int | exact eqOk_bool | exact Nat.le_of_ble_eq_true rfl | exact eqOk_tnil | exact eqOk_nil | assumption) ?_)); (try (conv => whnf))
              exact fun r _ _ => hq _ fun _ z => nomatch z
          · have ne := z rfl
            have pos := List.length_pos_iff.mpr ne
            (repeat ((conv => whnf); refine And.intro (by first | exact rfl | exact trivial | exact ⟨by decide, by decide, by decide⟩ | exact ⟨by decide, by decide⟩ | exact ⟨List.cons_ne_nil _ _, Nat.le_of_ble_eq_true rfl⟩ | exact ⟨rfl, rfl⟩ | exact eqOk_str | exact eqOk_int | exact eqOk_bool | exact Nat.le_of_ble_eq_true rfl | exact eqOk_tnil | exact eqOk_nil | assumption) ?_)); (try (conv => whnf))
            refine ⟨⟨by omega, by omega⟩, fun r r0 r1 => ?_⟩
            obtain ⟨d, hd, e⟩ := atI_in (xs := ds) r0 r1
            (repeat ((conv => whnf); refine And.intro (by first | exact rfl | exact trivial | exact ⟨by decide, by decide, by decide⟩ | exact ⟨by decide, by decide⟩ | exact ⟨List.cons_ne_nil _ _, Nat.le_of_ble_eq_true rfl⟩ | exact ⟨rfl, rfl⟩ | exact eqOk_str | exact eqOk_int | exact eqOk_bool | exact Nat.le_of_ble_eq_true rfl | exact eqOk_tnil | exact eqOk_nil | assumption) ?_)); (try (conv => whnf))
            rw [e]
            (repeat ((conv => whnf); refine And.intro (by first | exact rfl | exact trivial | exact ⟨by decide, by decide, by decide⟩ | exact ⟨by decide, by decide⟩ | exact ⟨List.cons_ne_nil _ _, Nat.le_of_ble_eq_true rfl⟩ | exact ⟨rfl, rfl⟩ | exact eqOk_str | exact eqOk_int | exact eqOk_bool | exact Nat.le_of_ble_eq_true rfl | exact eqOk_tnil | exact eqOk_nil | assumption) ?_)); (try (conv => whnf))
            rw [atI_nat r0 r1] at e
            obtain ⟨b1, b2, b3, h1, h2, h3, h4⟩ := hi.split e
            have l1 := h1.len
            have l3 := h3.len
            refine spBentX_at n1 ⟨h2, sm d hd⟩ (by omega) fun d' hd' => ?_
            (repeat ((conv => whnf); refine And.intro (by first | exact rfl | exact trivial | exact ⟨by decide, by decide, by decide⟩ | exact ⟨by decide, by decide⟩ | exact ⟨List.cons_ne_nil _ _, Nat.le_of_ble_eq_true rfl⟩ | exact ⟨rfl, rfl⟩ | exact eqOk_str | exact eqOk_int | exact eqOk_bool | exact Nat.le_of_ble_eq_true rfl | exact eqOk_tnil | exact eqOk_nil | assumption) ?_)); (try (conv => whnf))
            rw [cut_to r0]
            refine ⟨big (by show (ds.take r.toNat).length + 1 ≤ _; omega), ?_⟩
            (repeat ((conv => whnf); refine And.intro (by first | exact rfl | exact trivial | exact ⟨by decide, by decide, by decide⟩ | exact ⟨by decide, by decide⟩ | exact ⟨List.cons_ne_nil _ _, Nat.le_of_ble_eq_true rfl⟩ | exact ⟨rfl, rfl⟩ | exact eqOk_str | exact eqOk_int | exact eqOk_bool | exact Nat.le_of_ble_eq_true rfl | exact eqOk_tnil | exact eqOk_nil | assumption) ?_)); (try (conv => whnf))
            rw [cut_from (by omega), show (r + 1).toNat = r.toNat + 1 by omega]
            refine ⟨big (by rw [List.length_append]; show (ds.take r.toNat).length + 1 + (ds.drop (r.toNat + 1)).length ≤ _; omega), ?_⟩
            refine h _ ?_
            have ht := (h1.mono (m := n + 3) (by omega) (Nat.le_refl _)).append ((dt_one hd').append (h3.mono (m := n + 3) (by omega) (Nat.le_refl _)))
            rw [← List.append_assoc] at ht
            exact (dt_tup ht).mono (by omega) (by omega)
          refine seq_ifd (fun _ => True) (fun Q hq => ?_) (fun _ => ?_) fun _ => ?_
          · (repeat ((conv => whnf); refine And.intro (by first | exact rfl | exact trivial | exact ⟨by decide, by decide, by decide⟩ | exact ⟨by decide, by decide⟩ | exact ⟨List.cons_ne_nil _ _, Nat.le_of_ble_eq_true rfl⟩ | exact ⟨rfl, rfl⟩ | exact eqOk_str | exact eqOk_int | exact eqOk_bool | exact Nat.le_of_ble_eq_true rfl | exact eqOk_tnil | exact eqOk_nil | assumption) ?_)); (try (conv => whnf))
            intro r r0 r1
            (repeat ((conv => whnf); refine And.intro (by first | exact rfl | exact trivial | exact ⟨by decide, by decide, by decide⟩ | exact ⟨by decide, by decide⟩ | exact ⟨List.cons_ne_nil _ _, Nat.le_of_ble_eq_true rfl⟩ | exact ⟨rfl, rfl⟩ | exact eqOk_str | exact eqOk_int | exact eqOk_bool | exact Nat.le_of_ble_eq_true rfl | exact eqOk_tnil | exact eqOk_nil | assumption) ?_)); (try (conv => whnf))
            exact hq _ trivial
          · (repeat ((conv => whnf); refine And.intro (by first | exact rfl | exact trivial | exact ⟨by decide, by decide, by decide⟩ | exact ⟨by decide, by decide⟩ | exact ⟨List.cons_ne_nil _ _, Nat.le_of_ble_eq_true rfl⟩ | exact ⟨rfl, rfl⟩ | exact eqOk_str | exact eqOk_int | exact eqOk_bool | exact Nat.le_of_ble_eq_true rfl | exact eqOk_tnil | exact eqOk_nil | assumption) ?_)); (try (conv => whnf))
            exact odd
          (repeat ((conv => whnf); refine And.intro (by first | exact rfl | exact trivial | exact ⟨by decide, by decide, by decide⟩ | exact ⟨by decide, by decide⟩ | exact ⟨List.cons_ne_nil _ _, Nat.le_of_ble_eq_true rfl⟩ | exact ⟨rfl, rfl⟩ | exact eqOk_str | exact eqOk_int | exact eqOk_bool | exact Nat.le_of_ble_eq_true rfl | exact eqOk_tnil | exact eqOk_nil | assumption) ?_)); (try (conv => whnf))
          refine ⟨⟨by omega, by omega⟩, fun r r0 r1 => ?_⟩
          (repeat ((conv => whnf); refine And.intro (by first | exact rfl | exact trivial | exact ⟨by decide, by decide, by decide⟩ | exact ⟨by decide, by decide⟩ | exact ⟨List.cons_ne_nil _ _, Nat.le_of_ble_eq_true rfl⟩ | exact ⟨rfl, rfl⟩ | exact eqOk_str | exact eqOk_int | exact eqOk_bool | exact Nat.le_of_ble_eq_true rfl | exact eqOk_tnil | exact eqOk_nil | assumption) ?_)); (try (conv => whnf))
          have c1 : cutD ds none (some 1) = ds.take 1 := cut_to (by omega)
          have c2 : cutD ds (some 1) none = ds.drop 1 := cut_from (by omega)
          rw [c1]
          refine ⟨big (by rw [List.length_take]; omega), ?_⟩
          (repeat ((conv => whnf); refine And.intro (by first | exact rfl | exact trivial | exact ⟨by decide, by decide, by decide⟩ | exact ⟨by decide, by decide⟩ | exact ⟨List.cons_ne_nil _ _, Nat.le_of_ble_eq_true rfl⟩ | exact ⟨rfl, rfl⟩ | exact eqOk_str | exact eqOk_int | exact eqOk_bool | exact Nat.le_of_ble_eq_true rfl | exact eqOk_tnil | exact eqOk_nil | assumption) ?_)); (try (conv => whnf))
          intro o ho
          obtain ⟨b1, b2, h1, h2, h3⟩ := hi.halves r.toNat
          have l1 := h1.len
          have l2 := h2.len
          (repeat ((conv => whnf); refine And.intro (by first | exact rfl | exact trivial | exact ⟨by decide, by decide, by decide⟩ | exact ⟨by decide, by decide⟩ | exact ⟨List.cons_ne_nil _ _, Nat.le_of_ble_eq_true rfl⟩ | exact ⟨rfl, rfl⟩ | exact eqOk_str | exact eqOk_int | exact eqOk_bool | exact Nat.le_of_ble_eq_true rfl | exact eqOk_tnil | exact eqOk_nil | assumption) ?_)); (try (conv => whnf))
          rw [cut_to r0]
          refine ⟨big (by show (ds.take r.toNat).length + 1 ≤ _; omega), ?_⟩
          (repeat ((conv => whnf); refine And.intro (by first | exact rfl | exact trivial | exact ⟨by decide, by decide, by decide⟩ | exact ⟨by decide, by decide⟩ | exact ⟨List.cons_ne_nil _ _, Nat.le_of_ble_eq_true rfl⟩ | exact ⟨rfl, rfl⟩ | exact eqOk_str | exact eqOk_int | exact eqOk_bool | exact Nat.le_of_ble_eq_true rfl | exact eqOk_tnil | exact eqOk_nil | assumption) ?_)); (try (conv => whnf))
          rw [cut_from r0]
          refine ⟨big (by rw [List.length_append]; show (ds.take r.toNat).length + 1 + (ds.drop r.toNat).length ≤ _; omega), ?_⟩
          (repeat ((conv => whnf); refine And.intro (by first | exact rfl | exact trivial | exact ⟨by decide, by decide, by decide⟩ | exact ⟨by decide, by decide⟩ | exact ⟨List.cons_ne_nil _ _, Nat.le_of_ble_eq_true rfl⟩ | exact ⟨rfl, rfl⟩ | exact eqOk_str | exact eqOk_int | exact eqOk_bool | exact Nat.le_of_ble_eq_true rfl | exact eqOk_tnil | exact eqOk_nil | assumption) ?_)); (try (conv => whnf))
          have up : ∀ {c : Nat} {es : List PyData}, DtA (n - 1) c es → c ≤ 2 * b → Dt (n + 4) (3 * b + 700) (.tuple es) := fun h1 h2 => (dt_tup h1).mono (by omega) (by omega)
          intro x hx'
          simp only [List.mem_append, List.mem_cons, List.not_mem_nil, or_false] at hx'
          rcases hx' with (rfl | rfl | rfl | rfl | rfl | rfl) | rfl
          · exact h _ ((dt_lst hi).mono (by omega) (by omega))
          · exact h _ (up (hi.cut _ _) (by omega))
          · exact h _ (up (hi.cut _ _) (by omega))
          · exact h _ (up hi.reverse (by omega))
          · exact h _ (up (hi.append (hi.take 1)) (by omega))
          · exact h _ ((dt_tup (dt_one hx.1)).mono (by omega) (by omega))
          · refine h _ ?_
            have ht := (h1.mono (m := n + 3) (by omega) (Nat.le_refl _)).append ((dt_one (ho.mono (m := n + 3) (by omega) (Nat.le_refl _))).append (h2.mono (m := n + 3) (by omega) (Nat.le_refl _)))
            rw [← List.append_assoc] at ht
            exact (dt_tup ht).mono (by omega) (by omega)
        | int i =>
          (repeat ((conv => whnf); refine And.intro (by first | exact rfl | exact trivial | exact ⟨by decide, by decide, by decide⟩ | exact ⟨by decide, by decide⟩ | exact ⟨List.cons_ne_nil _ _, Nat.le_of_ble_eq_true rfl⟩ | exact ⟨rfl, rfl⟩ | exact eqOk_str | exact eqOk_int | exact eqOk_bool | exact Nat.le_of_ble_eq_true rfl | exact eqOk_tnil | exact eqOk_nil | assumption) ?_)); (try (conv => whnf))
          intro r r0 r1
          (repeat ((conv => whnf); refine And.intro (by first | exact rfl | exact trivial | exact ⟨by decide, by decide, by decide⟩ | exact ⟨by decide, by decide⟩ | exact ⟨List.cons_ne_nil _ _, Nat.le_of_ble_eq_true rfl⟩ | exact ⟨rfl, rfl⟩ | exact eqOk_str | exact eqOk_int | exact eqOk_bool | exact Nat.le_of_ble_eq_true rfl | exact eqOk_tnil | exact eqOk_nil | assumption) ?_)); (try (conv => whnf))
          rw [eqv_int]
          have hs : i.natAbs < 1000 := by have := hx.2; simp only [smI, decide_eq_true_eq] at this; exact this
          cases e : (r == 0) with
          | true =>
            (repeat ((conv => whnf); refine And.intro (by first | exact rfl | exact trivial | exact ⟨by decide, by decide, by decide⟩ | exact ⟨by decide, by decide⟩ | exact ⟨List.cons_ne_nil _ _, Nat.le_of_ble_eq_true rfl⟩ | exact ⟨rfl, rfl⟩ | exact eqOk_str | exact eqOk_int | exact eqOk_bool | exact Nat.le_of_ble_eq_true rfl | exact eqOk_tnil | exact eqOk_nil | assumption) ?_)); (try (conv => whnf))
            intro y hy
            have hy' : y = .int 1 ∨ y = .int (-1) := by simpa using hy
            rcases hy' with rfl | rfl
            · exact h _ ((dt_int (n := 0) (by omega)).mono (by omega) (by omega))
            · exact h _ ((dt_int (n := 0) (by omega)).mono (by omega) (by omega))
          | false => (repeat ((conv => whnf); refine And.intro (by first | exact rfl | exact trivial | exact ⟨by decide, by decide, by decide⟩ | exact ⟨by decide, by decide⟩ | exact ⟨List.cons_ne_nil _ _, Nat.le_of_ble_eq_true rfl⟩ | exact ⟨rfl, rfl⟩ | exact eqOk_str | exact eqOk_int | exact eqOk_bool | exact Nat.le_of_ble_eq_true rfl | exact eqOk_tnil | exact eqOk_nil | assumption) ?_)); (try (conv => whnf)); exact odd
        | _ => (repeat ((conv => whnf); refine And.intro (by first | exact rfl | exact trivial | exact ⟨by decide, by decide, by decide⟩ | exact ⟨by decide, by decide⟩ | exact ⟨List.cons_ne_nil _ _, Nat.le_of_ble_eq_true rfl⟩ | exact ⟨rfl, rfl⟩ | exact eqOk_str | exact eqOk_int | exact eqOk_bool | exact Nat.le_of_ble_eq_true rfl | exact eqOk_tnil | exact eqOk_nil | assumption) ?_)); (try (conv => whnf)); exact odd
      · exact h.elim
end K10
end
section
set_option autoImplicit false
set_option linter.all false
set_option maxRecDepth 100000
set_option maxHeartbeats 4000000
namespace K10
open PySem PySem.Spec L2 DL
variable {P : Program} {w : World} {K : PySem.W.Frag} {mg : Str → Option Value} {base : Heap}
structure Txt2 (mg : Str → Option Value) : Prop extends Txt mg where
  b_set : mg "set" = none
  b_sorted : mg "sorted" = none
  b_min : mg "min" = none
  b_max : mg "max" = none
theorem sc_is_name : FnScope ["thing", "sign"] ["thing"] (defScope s_is_name) := ⟨rfl, rfl, rfl, by decide +kernel, rfl, by decide +kernel, by decide +kernel⟩
theorem sc_is_base : FnScope ["thing"] ["thing"] (defScope s_is_base) := ⟨rfl, rfl, rfl, by decide +kernel, rfl, by decide +kernel, by decide +kernel⟩
theorem sc_is_kind : FnScope ["thing"] ["thing"] (defScope s_is_kind) := ⟨rfl, rfl, rfl, by decide +kernel, rfl, by decide +kernel, by decide +kernel⟩
theorem sc_is_field : FnScope ["thing"] ["thing"] (defScope s_is_field) := ⟨rfl, rfl, rfl, by decide +kernel, rfl, by decide +kernel, by decide +kernel⟩
theorem sc_is_form : FnScope ["thing", "field", "name", "_"] ["thing"] (defScope s_is_form) := ⟨rfl, rfl, rfl, by decide +kernel, rfl, by decide +kernel, by decide +kernel⟩
theorem sc_law_is_name : FnScope ["thing", "sign"] ["thing"] (defScope s_law_is_name) := ⟨rfl, rfl, rfl, by decide +kernel, rfl, by decide +kernel, by decide +kernel⟩
theorem sc_law_is_form : FnScope ["thing", "field"] ["thing"] (defScope s_law_is_form) := ⟨rfl, rfl, rfl, by decide +kernel, rfl, by decide +kernel, by decide +kernel⟩
/-! ### names -/
def azOk (c : Nat) : Bool := decide (97 ≤ c) && decide (c ≤ 122)
def nameB (x : PyData) : Bool := match x with
  | .str s => (decide (1 ≤ s.length) && decide (s.length ≤ 8)) && s.cps.toList.all azOk
  | _ => false
def spFitB (f : PyData → Bool) : SpD := fun avs Q => match avs with
  | [.d x] => Fit x ∧ Q (.bool (f x))
  | _ => False
theorem a_le (c : Nat) : strLe (Str.ofString "a") ⟨#[c]⟩ = decide (97 ≤ c) := by rw [show Str.ofString "a" = ⟨#[97]⟩ from by decide +kernel]; exact sg_le ..
theorem le_z (c : Nat) : strLe ⟨#[c]⟩ (Str.ofString "z") = decide (c ≤ 122) := by rw [show Str.ofString "z" = ⟨#[122]⟩ from by decide +kernel]; exact sg_le ..
def azD (d : PyData) : Bool := match d with
  | .str s => match s.cps.toList with
    | [c] => azOk c
    | _ => false
  | _ => false
theorem signs_az (x : Str) : (signs x).all azD = x.cps.toList.all azOk := by
  unfold signs
  rw [List.all_map]
  rfl
theorem B_is_name (D : DefOk K mg "is_name" s_is_name ["thing"]) (T : Txt mg) : FnB P w K mg base 1 "is_name" ["thing"] (spFitB nameB) := by
  refine fnB_of D sc_is_name (fun avs Q h => ?_) (fun f cd A outer s H E => ⟨_, (dss_one (ds_ret (dx_and (dx_isT "str" (by simp) E (by intro _; rfl) T.b_isinstance (by intro _; rfl) T.b_str boot_strT (dx_var 0)) (dx_and (dx_chn E (fun _ _ => op_leD) (fun _ _ => op_leD) (ops_le K) (ops_le K) dx_int (dx_call1B (r := rLenD) E (fun _ _ _ _ => call_lenD) (cs_len K) (by intro _; rfl) T.b_len boot_lenD (dx_var 0)) dx_int (by with_unfolding_all rfl)) (dx_one (dx_call1B (r := rAll) E (fun _ c _ _ => cr_all c) (cs_all K) (by intro _; rfl) T.b_all boot_all (dx_fr (dxf_lc [("sign", 1)] E (fun _ => sc_is_name.nd) (dxi_seq E (dx_var 0)) (fun _ => blkOk_by (by rfl)) (dg_name 1 (fun _ => sc_is_name.nd)) dxp_nil (dx_chn (E.blk _) (fun _ _ => op_leD) (fun _ _ => op_leD) (ops_le K) (ops_le K) dx_str (dx_var 1) dx_str (by with_unfolding_all rfl)))))))))), fun avs Q h => ?_⟩)
  · unfold spFitB at h; split at h <;> first | rfl | exact h.elim
  · unfold spFitB at h; split at h
    · rename_i x
      obtain ⟨hx, h⟩ := h
      cases x with
      | str s =>
        replace h : Q (.bool ((decide (1 ≤ s.length) && decide (s.length ≤ 8)) && s.cps.toList.all azOk)) := h
        have hs := hx.str
        (repeat ((conv => whnf); refine And.intro (by first | exact rfl | exact trivial | exact ⟨by decide, by decide, by decide⟩ | exact ⟨by decide, by decide⟩ | exact ⟨List.cons_ne_nil _ _, Nat.le_of_ble_eq_true rfl⟩ | exact ⟨rfl, rfl⟩ | exact eqOk_str | exact eqOk_int | exact eqOk_bool | exact Nat.le_of_ble_eq_true rfl | exact eqOk_tnil | exact eqOk_nil | assumption) ?_)); (try (conv => whnf))
        have z1 : decide ((1 : Int) ≤ (s.length : Int)) = decide (1 ≤ s.length) := decide_eq_decide.mpr (by omega)
        have z2 : decide ((s.length : Int) ≤ 8) = decide (s.length ≤ 8) := decide_eq_decide.mpr (by omega)
        rw [z1]
        cases e1 : decide (1 ≤ s.length) with
        | false => rw [e1] at h; exact h
        | true =>
          rw [e1, Bool.true_and] at h
          (conv => whnf)
          rw [z2]
          cases e2 : decide (s.length ≤ 8) with
          | false => rw [e2] at h; exact h
          | true =>
            rw [e2, Bool.true_and] at h
            (conv => whnf)
            refine lc_map (fun d => .bool (azD d)) _ _ (by rw [signs_length]; simpa using hs) (fun d hd ds' acc hl ht => ?_) ?_
            · obtain ⟨c, _, rfl⟩ := List.mem_map.mp hd
              have hs : azD (.str ⟨#[c]⟩) = (decide (97 ≤ c) && decide (c ≤ 122)) := rfl
              rw [hs] at ht
              (repeat ((conv => whnf); refine And.intro (by first | exact rfl | exact trivial | exact ⟨by decide, by decide, by decide⟩ | exact ⟨by decide, by decide⟩ | exact ⟨List.cons_ne_nil _ _, Nat.le_of_ble_eq_true rfl⟩ | exact ⟨rfl, rfl⟩ | exact eqOk_str | exact eqOk_int | exact eqOk_bool | exact Nat.le_of_ble_eq_true rfl | exact eqOk_tnil | exact eqOk_nil | assumption) ?_)); (try (conv => whnf))
              rw [a_le]
              cases a1 : decide (97 ≤ c) with
              | false => rw [a1] at ht; exact ⟨hl, ht⟩
              | true =>
                rw [a1] at ht
                (conv => whnf)
                rw [le_z]
                exact ⟨hl, ht⟩
            · rw [List.nil_append]
              (conv => whnf)
              rw [bools_map]
              (conv => whnf)
              rw [all_map, signs_az]
              exact h
      | _ => (repeat ((conv => whnf); refine And.intro (by first | exact rfl | exact trivial | exact ⟨by decide, by decide, by decide⟩ | exact ⟨by decide, by decide⟩ | exact ⟨List.cons_ne_nil _ _, Nat.le_of_ble_eq_true rfl⟩ | exact ⟨rfl, rfl⟩ | exact eqOk_str | exact eqOk_int | exact eqOk_bool | exact Nat.le_of_ble_eq_true rfl | exact eqOk_tnil | exact eqOk_nil | assumption) ?_)); (try (conv => whnf)); exact h
    · exact h.elim
theorem in_abc (c : Nat) : strIn ⟨#[c]⟩ (Str.ofString "abcdefghijklmnopqrstuvwxyz") = azOk c := by
  have e : strIn ⟨#[c]⟩ (Str.ofString "abcdefghijklmnopqrstuvwxyz") = decide (c ∈ (Str.ofString "abcdefghijklmnopqrstuvwxyz").cps.toList) := PySem.StrLaws.found_one _ c
  rw [e]
  have e2 : (Str.ofString "abcdefghijklmnopqrstuvwxyz").cps.toList = (List.range 26).map (97 + ·) := by decide +kernel
  rw [e2]
  unfold azOk
  rw [← Bool.decide_and]
  refine decide_eq_decide.mpr ?_
  rw [List.mem_map]
  constructor
  · rintro ⟨i, hi, rfl⟩
    rw [List.mem_range] at hi
    omega
  · intro h
    exact ⟨c - 97, List.mem_range.mpr (by omega), by omega⟩
theorem signs_bad (x : Str) : ((signs x).filter fun d => !azD d).isEmpty = x.cps.toList.all azOk := by
  rw [← signs_az]
  exact filter_not
theorem B_law_is_name (D : DefOk K mg "_law_is_name" s_law_is_name ["thing"]) (T : Txt mg) : FnB P w K mg base 1 "_law_is_name" ["thing"] (spFitB nameB) := by
  refine fnB_of D sc_law_is_name (fun avs Q h => ?_) (fun f cd A outer s H E => ⟨_, (dss_cons (ds_if (dxw_t (dxw_or (dxt_not (dxt_val (dx_isT "str" (by simp) E (by intro _; rfl) T.b_isinstance (by intro _; rfl) T.b_str boot_strT (dx_var 0)))) (dxw_or1 (dxt_not (dxt_chn E (fun _ _ => op_leD) (fun _ _ => op_leD) (ops_le K) (ops_le K) dx_int (dx_call1B (r := rLenD) E (fun _ _ _ _ => call_lenD) (cs_len K) (by intro _; rfl) T.b_len boot_lenD (dx_var 0)) dx_int (by with_unfolding_all rfl)))))) (dss_one (ds_ret dx_bl)) dss_nil)
  (dss_one (ds_ret (dx_cmp E (fun _ h => op_eqX h) (ops_eq K) (dx_fr (dxf_lc [("sign", 1)] E (fun _ => sc_law_is_name.nd) (dxi_seq E (dx_var 0)) (fun _ => blkOk_by (by rfl)) (dg_name 1 (fun _ => sc_law_is_name.nd)) (dxp_one (dxt_cmp (E.blk _) (r := fun K => rInX K true) (fun _ _ => op_notinX) (ops_in K true) (dx_var 1) dx_str (by with_unfolding_all rfl))) (dx_var 1))) (dx_lst dxa_nil) (nomark _))))), fun avs Q h => ?_⟩)
  · unfold spFitB at h; split at h <;> first | rfl | exact h.elim
  · unfold spFitB at h; split at h
    · rename_i x
      obtain ⟨hx, h⟩ := h
      cases x with
      | str s =>
        replace h : Q (.bool ((decide (1 ≤ s.length) && decide (s.length ≤ 8)) && s.cps.toList.all azOk)) := h
        have hs := hx.str
        have z1 : decide ((1 : Int) ≤ (s.length : Int)) = decide (1 ≤ s.length) := decide_eq_decide.mpr (by omega)
        have z2 : decide ((s.length : Int) ≤ 8) = decide (s.length ≤ 8) := decide_eq_decide.mpr (by omega)
        refine seq_if (!(decide (1 ≤ s.length) && decide (s.length ≤ 8))) (fun Q hq => ?_) (fun z => ?_) fun z => ?_
        · (repeat ((conv => whnf); refine And.intro (by first | exact rfl | exact trivial | exact ⟨by decide, by decide, by decide⟩ | exact ⟨by decide, by decide⟩ | exact ⟨List.cons_ne_nil _ _, Nat.le_of_ble_eq_true rfl⟩ | exact ⟨rfl, rfl⟩ | exact eqOk_str | exact eqOk_int | exact eqOk_bool | exact Nat.le_of_ble_eq_true rfl | exact eqOk_tnil | exact eqOk_nil | assumption) ?_)); (try (conv => whnf))
          rw [z1]
          cases e1 : decide (1 ≤ s.length) with
          | false => rw [e1] at hq; exact hq
          | true =>
            rw [e1] at hq
            (conv => whnf)
            rw [z2]
            exact hq
        · rw [Bool.not_eq_true'] at z
          rw [z] at h
          exact h
        · rw [Bool.not_eq_false'] at z
          rw [z, Bool.true_and] at h
          (repeat ((conv => whnf); refine And.intro (by first | exact rfl | exact trivial | exact ⟨by decide, by decide, by decide⟩ | exact ⟨by decide, by decide⟩ | exact ⟨List.cons_ne_nil _ _, Nat.le_of_ble_eq_true rfl⟩ | exact ⟨rfl, rfl⟩ | exact eqOk_str | exact eqOk_int | exact eqOk_bool | exact Nat.le_of_ble_eq_true rfl | exact eqOk_tnil | exact eqOk_nil | assumption) ?_)); (try (conv => whnf))
          refine lc_pure (fun d => !azD d) id _ _ (by rw [signs_length]; simpa using hs) (fun d hd ds' acc hl ht hf => ?_) ?_
          · obtain ⟨c, _, rfl⟩ := List.mem_map.mp hd
            have hs : azD (.str ⟨#[c]⟩) = azOk c := rfl
            (repeat ((conv => whnf); refine And.intro (by first | exact rfl | exact trivial | exact ⟨by decide, by decide, by decide⟩ | exact ⟨by decide, by decide⟩ | exact ⟨List.cons_ne_nil _ _, Nat.le_of_ble_eq_true rfl⟩ | exact ⟨rfl, rfl⟩ | exact eqOk_str | exact eqOk_int | exact eqOk_bool | exact Nat.le_of_ble_eq_true rfl | exact eqOk_tnil | exact eqOk_nil | assumption) ?_)); (try (conv => whnf))
            rw [in_abc]
            cases a1 : azOk c with
            | true => exact hf (by rw [hs, a1]; rfl)
            | false => exact ⟨hl, ht (by rw [hs, a1]; rfl)⟩
          · rw [List.nil_append, List.map_id]
            (repeat ((conv => whnf); refine And.intro (by first | exact rfl | exact trivial | exact ⟨by decide, by decide, by decide⟩ | exact ⟨by decide, by decide⟩ | exact ⟨List.cons_ne_nil _ _, Nat.le_of_ble_eq_true rfl⟩ | exact ⟨rfl, rfl⟩ | exact eqOk_str | exact eqOk_int | exact eqOk_bool | exact Nat.le_of_ble_eq_true rfl | exact eqOk_tnil | exact eqOk_nil | assumption) ?_)); (try (conv => whnf))
            rw [eqv_nil, signs_bad]
            exact h
      | _ => (repeat ((conv => whnf); refine And.intro (by first | exact rfl | exact trivial | exact ⟨by decide, by decide, by decide⟩ | exact ⟨by decide, by decide⟩ | exact ⟨List.cons_ne_nil _ _, Nat.le_of_ble_eq_true rfl⟩ | exact ⟨rfl, rfl⟩ | exact eqOk_str | exact eqOk_int | exact eqOk_bool | exact Nat.le_of_ble_eq_true rfl | exact eqOk_tnil | exact eqOk_nil | assumption) ?_)); (try (conv => whnf)); exact h
    · exact h.elim
/-! ### bases, kinds -/
theorem isBD_two {a b : PyData} : isBD (.tuple [a, b]) = (PyData.eqv a (.str "pick") && (isIntD b && match b with
  | .int n => decide (1 ≤ n) && decide (n ≤ 4)
  | _ => false)) := by
  cases a with
  | str x =>
    cases b with
    | int n =>
      show (x == Str.ofString "pick" && (decide (1 ≤ n) && decide (n ≤ 4))) = (PyData.eqv (.str x) (.str "pick") && (true && (decide (1 ≤ n) && decide (n ≤ 4))))
      rw [eqv_str, Bool.true_and]
    | _ => show false = (PyData.eqv (.str x) (.str "pick") && (false && _)); rw [Bool.false_and, Bool.and_false]
  | _ => cases b <;> rfl
theorem isBD_one {a : PyData} : isBD (.tuple [a]) = PyData.eqv a (.str "word") := by
  cases a <;> rfl
theorem isTupB_two {x y : PyData} {l : List PyData} : isTupB (.tuple (x :: y :: l)) 1 1 = false := by
  simp only [isTupB, List.length_cons]
  rw [Bool.and_eq_false_iff]
  exact .inr (decide_eq_false (by omega))
theorem isTupB_three {x y z : PyData} {l : List PyData} : isTupB (.tuple (x :: y :: z :: l)) 2 2 = false := by
  simp only [isTupB, List.length_cons]
  rw [Bool.and_eq_false_iff]
  exact .inr (decide_eq_false (by omega))
theorem isBD_three {x y z : PyData} {l : List PyData} : isBD (.tuple (x :: y :: z :: l)) = false := by cases x <;> cases y <;> rfl
theorem B_is_base (D : DefOk K mg "is_base" s_is_base ["thing"]) (T : Txt mg) (B_is_tuple : FnB P w K mg base 1 "is_tuple" ["thing", "least", "most"] spTupB) (B_is_integer : FnB P w K mg base 1 "is_integer" ["thing"] (sp1 isIntD)) : FnB P w K mg base 2 "is_base" ["thing"] (sp1 isBD) := by
  refine fnB_of D sc_is_base (fun avs Q h => ?_) (fun f cd A outer s H E => ⟨_, (dss_cons (ds_if (dxt_tru E.K (dx_callb E B_is_tuple (by decide) (dxv_cons (dx_var 0) (dxv_cons dx_int (dxv_cons dx_int dxv_nil))))) (dss_one (ds_ret (dx_and (dx_cmp E (fun _ h => op_eqA h) (ops_eqA K) (dx_ix E (dx_var 0) dx_int) dx_str (nomark _)) (dx_and (dx_callb E B_is_integer (by decide) (dxv_cons (dx_ix E (dx_var 0) dx_int) dxv_nil)) (dx_one (dx_chn E (fun _ _ => op_leD) (fun _ _ => op_leD) (ops_le K) (ops_le K) dx_int (dx_ix E (dx_var 0) dx_int) dx_int (by with_unfolding_all rfl))))))) dss_nil)
  (dss_one (ds_ret (dx_and (dx_callb E B_is_tuple (by decide) (dxv_cons (dx_var 0) (dxv_cons dx_int (dxv_cons dx_int dxv_nil)))) (dx_one (dx_cmp E (fun _ h => op_eqA h) (ops_eqA K) (dx_ix E (dx_var 0) dx_int) dx_str (nomark _))))))), fun avs Q h => ?_⟩)
  · unfold sp1 at h; split at h <;> first | rfl | exact h.elim
  · unfold sp1 at h; split at h
    · rename_i x
      cases x with
      | tuple ds =>
        match ds, h with
        | [], h => (repeat ((conv => whnf); refine And.intro (by first | exact rfl | exact trivial | exact ⟨by decide, by decide, by decide⟩ | exact ⟨by decide, by decide⟩ | exact ⟨List.cons_ne_nil _ _, Nat.le_of_ble_eq_true rfl⟩ | exact ⟨rfl, rfl⟩ | exact eqOk_str | exact eqOk_int | exact eqOk_bool | exact Nat.le_of_ble_eq_true rfl | exact eqOk_tnil | exact eqOk_nil | assumption) ?_)); (try (conv => whnf)); exact h
        | [a], h => rw [isBD_one] at h; (repeat ((conv => whnf); refine And.intro (by first | exact rfl | exact trivial | exact ⟨by decide, by decide, by decide⟩ | exact ⟨by decide, by decide⟩ | exact ⟨List.cons_ne_nil _ _, Nat.le_of_ble_eq_true rfl⟩ | exact ⟨rfl, rfl⟩ | exact eqOk_str | exact eqOk_int | exact eqOk_bool | exact Nat.le_of_ble_eq_true rfl | exact eqOk_tnil | exact eqOk_nil | assumption) ?_)); (try (conv => whnf)); exact h
        | [a, b], h =>
          rw [isBD_two] at h
          (repeat ((conv => whnf); refine And.intro (by first | exact rfl | exact trivial | exact ⟨by decide, by decide, by decide⟩ | exact ⟨by decide, by decide⟩ | exact ⟨List.cons_ne_nil _ _, Nat.le_of_ble_eq_true rfl⟩ | exact ⟨rfl, rfl⟩ | exact eqOk_str | exact eqOk_int | exact eqOk_bool | exact Nat.le_of_ble_eq_true rfl | exact eqOk_tnil | exact eqOk_nil | assumption) ?_)); (try (conv => whnf))
          cases e : PyData.eqv a (.str "pick") with
          | false => rw [e] at h; exact h
          | true =>
            rw [e, Bool.true_and] at h
            (conv => whnf)
            cases b with
            | int n =>
              replace h : Q (.bool (decide (1 ≤ n) && decide (n ≤ 4))) := h
              (conv => whnf)
              cases e1 : decide ((1 : Int) ≤ n) with
              | false => rw [e1] at h; exact h
              | true => rw [e1] at h; exact h
            | _ => exact h
        | a :: b :: c :: l, h =>
          rw [isBD_three] at h
          (repeat ((conv => whnf); refine And.intro (by first | exact rfl | exact trivial | exact ⟨by decide, by decide, by decide⟩ | exact ⟨by decide, by decide⟩ | exact ⟨List.cons_ne_nil _ _, Nat.le_of_ble_eq_true rfl⟩ | exact ⟨rfl, rfl⟩ | exact eqOk_str | exact eqOk_int | exact eqOk_bool | exact Nat.le_of_ble_eq_true rfl | exact eqOk_tnil | exact eqOk_nil | assumption) ?_)); (try (conv => whnf))
          rw [isTupB_three]
          (repeat ((conv => whnf); refine And.intro (by first | exact rfl | exact trivial | exact ⟨by decide, by decide, by decide⟩ | exact ⟨by decide, by decide⟩ | exact ⟨List.cons_ne_nil _ _, Nat.le_of_ble_eq_true rfl⟩ | exact ⟨rfl, rfl⟩ | exact eqOk_str | exact eqOk_int | exact eqOk_bool | exact Nat.le_of_ble_eq_true rfl | exact eqOk_tnil | exact eqOk_nil | assumption) ?_)); (try (conv => whnf))
          rw [isTupB_two]
          exact h
      | _ => (repeat ((conv => whnf); refine And.intro (by first | exact rfl | exact trivial | exact ⟨by decide, by decide, by decide⟩ | exact ⟨by decide, by decide⟩ | exact ⟨List.cons_ne_nil _ _, Nat.le_of_ble_eq_true rfl⟩ | exact ⟨rfl, rfl⟩ | exact eqOk_str | exact eqOk_int | exact eqOk_bool | exact Nat.le_of_ble_eq_true rfl | exact eqOk_tnil | exact eqOk_nil | assumption) ?_)); (try (conv => whnf)); exact h
    · exact h.elim
theorem isKD_two {a b : PyData} : isKD (.tuple [a, b]) = if inD a [.str "maybe", .str "row"] = true then isBD b else isBD (.tuple [a, b]) := by
  cases a with
  | str m =>
    rw [inS2]
    unfold isKD
    show (isBD (.tuple [.str m, b]) || ((m == Str.ofString "maybe" || m == Str.ofString "row") && isBD b)) = _
    by_cases z : (m == Str.ofString "maybe" || m == Str.ofString "row") = true
    · rw [if_pos z, z, Bool.true_and, isBD_two]
      rw [Bool.or_eq_true, beq_iff_eq, beq_iff_eq] at z
      have : PyData.eqv (.str m) (.str "pick") = false := by
        rw [eqv_str]
        rcases z with rfl | rfl <;> decide
      rw [this, Bool.false_and, Bool.false_or]
    · rw [if_neg z, Bool.not_eq_true] at *
      rw [z, Bool.false_and, Bool.or_false]
  | _ => cases b <;> rfl
theorem isKD_else {x : PyData} (h : isTupB x 2 2 = false) : isKD x = isBD x := by
  unfold isKD
  cases x with
  | tuple ds =>
    match ds, h with
    | [], _ => rfl
    | [a], _ => cases a <;> simp
    | [a, b], h => cases h
    | a :: b :: c :: l, _ => cases a <;> simp
  | _ => rfl
theorem B_is_kind (D : DefOk K mg "is_kind" s_is_kind ["thing"]) (T : Txt mg) (B_is_tuple : FnB P w K mg base 1 "is_tuple" ["thing", "least", "most"] spTupB) (B_is_base : FnB P w K mg base 2 "is_base" ["thing"] (sp1 isBD)) : FnB P w K mg base 3 "is_kind" ["thing"] (sp1 isKD) := by
  refine fnB_of D sc_is_kind (fun avs Q h => ?_) (fun f cd A outer s H E => ⟨_, (dss_cons (ds_if (dxw_t (dxw_and (dxt_tru E.K (dx_callb E B_is_tuple (by decide) (dxv_cons (dx_var 0) (dxv_cons dx_int (dxv_cons dx_int dxv_nil))))) (dxw_and1 (dxt_cmp E (r := fun K => rInA K false) (fun _ h => op_inA h) (ops_inA K false) (dx_ix E (dx_var 0) dx_int) (dx_tup (dxa_cons dx_str (dxa_cons dx_str dxa_nil))) (by with_unfolding_all rfl))))) (dss_one (ds_ret (dx_callb E B_is_base (by decide) (dxv_cons (dx_ix E (dx_var 0) dx_int) dxv_nil)))) dss_nil)
  (dss_one (ds_ret (dx_callb E B_is_base (by decide) (dxv_cons (dx_var 0) dxv_nil))))), fun avs Q h => ?_⟩)
  · unfold sp1 at h; split at h <;> first | rfl | exact h.elim
  · unfold sp1 at h; split at h
    · rename_i x
      cases e : isTupB x 2 2 with
      | false =>
        rw [isKD_else e] at h
        refine seq_if false (fun Q hq => ?_) (fun z => nomatch z) fun _ => ?_
        · (conv => whnf)
          rw [e]
          (repeat ((conv => whnf); refine And.intro (by first | exact rfl | exact trivial | exact ⟨by decide, by decide, by decide⟩ | exact ⟨by decide, by decide⟩ | exact ⟨List.cons_ne_nil _ _, Nat.le_of_ble_eq_true rfl⟩ | exact ⟨rfl, rfl⟩ | exact eqOk_str | exact eqOk_int | exact eqOk_bool | exact Nat.le_of_ble_eq_true rfl | exact eqOk_tnil | exact eqOk_nil | assumption) ?_)); (try (conv => whnf))
          exact hq
        · exact h
      | true =>
        cases x with
        | tuple ds =>
          match ds, e, h with
          | [a, b], e, h =>
            rw [isKD_two] at h
            refine seq_if (inD a [.str "maybe", .str "row"]) (fun Q hq => ?_) (fun z => ?_) fun z => ?_
            · (repeat ((conv => whnf); refine And.intro (by first | exact rfl | exact trivial | exact ⟨by decide, by decide, by decide⟩ | exact ⟨by decide, by decide⟩ | exact ⟨List.cons_ne_nil _ _, Nat.le_of_ble_eq_true rfl⟩ | exact ⟨rfl, rfl⟩ | exact eqOk_str | exact eqOk_int | exact eqOk_bool | exact Nat.le_of_ble_eq_true rfl | exact eqOk_tnil | exact eqOk_nil | assumption) ?_)); (try (conv => whnf))
              exact ⟨.inl ⟨_, rfl⟩, hq⟩
            · rw [z, if_pos rfl] at h
              exact h
            · rw [z, if_neg (by decide)] at h
              exact h
          | a :: b :: c :: l, e, h => rw [isTupB_three] at e; cases e
        | _ => cases e
    · exact h.elim
/-! ### forms -/
def fieldB (x : PyData) : Bool := match x with
  | .tuple [n, k] => nameB n && isKD k
  | _ => false
theorem B_is_field (D : DefOk K mg "is_field" s_is_field ["thing"]) (T : Txt mg) (B_is_tuple : FnB P w K mg base 1 "is_tuple" ["thing", "least", "most"] spTupB) (B_is_name : FnB P w K mg base 1 "is_name" ["thing"] (spFitB nameB)) (B_is_kind : FnB P w K mg base 3 "is_kind" ["thing"] (sp1 isKD)) : FnB P w K mg base 4 "is_field" ["thing"] (spFitB fieldB) := by
  refine fnB_of D sc_is_field (fun avs Q h => ?_) (fun f cd A outer s H E => ⟨_, (dss_one (ds_ret (dx_and (dx_callb E B_is_tuple (by decide) (dxv_cons (dx_var 0) (dxv_cons dx_int (dxv_cons dx_int dxv_nil)))) (dx_and (dx_callb E B_is_name (by decide) (dxv_cons (dx_ix E (dx_var 0) dx_int) dxv_nil)) (dx_one (dx_callb E B_is_kind (by decide) (dxv_cons (dx_ix E (dx_var 0) dx_int) dxv_nil))))))), fun avs Q h => ?_⟩)
  · unfold spFitB at h; split at h <;> first | rfl | exact h.elim
  · unfold spFitB at h; split at h
    · rename_i x
      obtain ⟨hx, h⟩ := h
      cases x with
      | tuple ds =>
        match ds, hx, h with
        | [], hx, h => (repeat ((conv => whnf); refine And.intro (by first | exact rfl | exact trivial | exact ⟨by decide, by decide, by decide⟩ | exact ⟨by decide, by decide⟩ | exact ⟨List.cons_ne_nil _ _, Nat.le_of_ble_eq_true rfl⟩ | exact ⟨rfl, rfl⟩ | exact eqOk_str | exact eqOk_int | exact eqOk_bool | exact Nat.le_of_ble_eq_true rfl | exact eqOk_tnil | exact eqOk_nil | assumption) ?_)); (try (conv => whnf)); exact h
        | [a], hx, h => (repeat ((conv => whnf); refine And.intro (by first | exact rfl | exact trivial | exact ⟨by decide, by decide, by decide⟩ | exact ⟨by decide, by decide⟩ | exact ⟨List.cons_ne_nil _ _, Nat.le_of_ble_eq_true rfl⟩ | exact ⟨rfl, rfl⟩ | exact eqOk_str | exact eqOk_int | exact eqOk_bool | exact Nat.le_of_ble_eq_true rfl | exact eqOk_tnil | exact eqOk_nil | assumption) ?_)); (try (conv => whnf)); exact h
        | [a, b], hx, h =>
          replace h : Q (.bool (nameB a && isKD b)) := h
          (repeat ((conv => whnf); refine And.intro (by first | exact rfl | exact trivial | exact ⟨by decide, by decide, by decide⟩ | exact ⟨by decide, by decide⟩ | exact ⟨List.cons_ne_nil _ _, Nat.le_of_ble_eq_true rfl⟩ | exact ⟨rfl, rfl⟩ | exact eqOk_str | exact eqOk_int | exact eqOk_bool | exact Nat.le_of_ble_eq_true rfl | exact eqOk_tnil | exact eqOk_nil | assumption) ?_)); (try (conv => whnf))
          refine ⟨hx.item (by simp), ?_⟩
          (conv => whnf)
          cases e : nameB a with
          | false => rw [e] at h; exact h
          | true => rw [e] at h; exact h
        | a :: b :: c :: l, hx, h => (repeat ((conv => whnf); refine And.intro (by first | exact rfl | exact trivial | exact ⟨by decide, by decide, by decide⟩ | exact ⟨by decide, by decide⟩ | exact ⟨List.cons_ne_nil _ _, Nat.le_of_ble_eq_true rfl⟩ | exact ⟨rfl, rfl⟩ | exact eqOk_str | exact eqOk_int | exact eqOk_bool | exact Nat.le_of_ble_eq_true rfl | exact eqOk_tnil | exact eqOk_nil | assumption) ?_)); (try (conv => whnf)); rw [isTupB_three]; exact h
      | _ => (repeat ((conv => whnf); refine And.intro (by first | exact rfl | exact trivial | exact ⟨by decide, by decide, by decide⟩ | exact ⟨by decide, by decide⟩ | exact ⟨List.cons_ne_nil _ _, Nat.le_of_ble_eq_true rfl⟩ | exact ⟨rfl, rfl⟩ | exact eqOk_str | exact eqOk_int | exact eqOk_bool | exact Nat.le_of_ble_eq_true rfl | exact eqOk_tnil | exact eqOk_nil | assumption) ?_)); (try (conv => whnf)); exact h
    · exact h.elim
/-- the name of a field -/
def nmKey (f : PyData) : Key := match f with
  | .tuple [.str n, _] => .inr n
  | _ => .inl 0
def formB (x : PyData) : Bool := match x with
  | .tuple fs => (decide (1 ≤ fs.length) && decide (fs.length ≤ 5)) && (fs.all fieldB && decide ((onceK (fs.map nmKey)).length = fs.length))
  | _ => false
theorem field_is {f : PyData} (h : fieldB f = true) : ∃ n k, f = .tuple [.str n, k] := by
  cases f with
  | tuple ds =>
    match ds, h with
    | [], h => cases h
    | [a], h => cases h
    | [a, b], h =>
      cases a with
      | str n => exact ⟨n, b, rfl⟩
      | _ => cases h
    | a :: b :: c :: l, h => cases h
  | _ => cases h
theorem scW_names {g : DTG} {tt : DTT} {te : DT} {vs : List Nat} {Q : List Key → GS → Prop} {Γ : GS} (hs : ∀ f, fieldB f = true → ∀ ds acc, acc.length + 1 < scanBound → scW g tt te vs Q ds (addK acc (nmKey f)) Γ → scW g tt te vs Q (f :: ds) acc Γ) :
    ∀ (fs : List PyData) (acc : List Key), fs.all fieldB = true → acc.length + fs.length < 100 → Q ((fs.map nmKey).foldl addK acc) Γ → scW g tt te vs Q fs acc Γ
  | [], acc, _, _, q => q
  | f :: fs, acc, ha, hl, q => by
    rw [List.all_cons, Bool.and_eq_true] at ha
    rw [List.length_cons] at hl
    refine hs f ha.1 fs acc (Nat.lt_trans (by omega : acc.length + 1 < 102) (by decide)) (scW_names hs fs _ ha.2 ?_ q)
    rw [addK_length]; split <;> omega
theorem B_is_form (D : DefOk K mg "is_form" s_is_form ["thing"]) (T : Txt2 mg) (B_is_tuple : FnB P w K mg base 1 "is_tuple" ["thing", "least", "most"] spTupB) (B_is_field : FnB P w K mg base 4 "is_field" ["thing"] (spFitB fieldB)) : FnB P w K mg base 5 "is_form" ["thing"] (spFitB formB) := by
  refine fnB_of D sc_is_form (fun avs Q h => ?_) (fun f cd A outer s H E => ⟨_, (dss_cons (ds_if (dxw_t (dxw_or (dxt_not (dxt_tru E.K (dx_callb E B_is_tuple (by decide) (dxv_cons (dx_var 0) (dxv_cons dx_int (dxv_cons dx_int dxv_nil)))))) (dxw_or1 (dxt_not (dxt_val (dx_call1B (r := rAll) E (fun _ c _ _ => cr_all c) (cs_all K) (by intro _; rfl) T.b_all boot_all (dx_fr (dxf_lc [("field", 1)] E (fun _ => sc_is_form.nd) (dxi_seq E (dx_var 0)) (fun _ => blkOk_by (by rfl)) (dg_name 1 (fun _ => sc_is_form.nd)) dxp_nil (dx_callb (E.blk _) B_is_field (by decide) (dxv_cons (dx_var 1) dxv_nil)))))))))) (dss_one (ds_ret dx_bl)) dss_nil)
  (dss_one (ds_ret (dx_cmp E (fun _ h => op_eqX h) (ops_eq K) (dx_lenSc [("name", 2), ("_", 3)] E (fun _ => sc_is_form.nd) (by intro _; rfl) T.b_len (dxi_seq E (dx_var 0)) (fun _ => blkOk_by (by rfl)) (dg_tup (n := 2) (E.blk _) (dgs_cons (dg_name 2 (fun _ => sc_is_form.nd)) (dgs_cons (dg_name 3 (fun _ => sc_is_form.nd)) dgs_nil))) dxp_nil (dx_var 2)) (dx_call1B (r := rLenD) E (fun _ _ _ _ => call_lenD) (cs_len K) (by intro _; rfl) T.b_len boot_lenD (dx_var 0)) (nomark _))))), fun avs Q h => ?_⟩)
  · unfold spFitB at h; split at h <;> first | rfl | exact h.elim
  · unfold spFitB at h; split at h
    · rename_i x
      obtain ⟨hx, h⟩ := h
      cases x with
      | tuple fs =>
        have hl := hx.len
        replace h : Q (.bool ((decide (1 ≤ fs.length) && decide (fs.length ≤ 5)) && (fs.all fieldB && decide ((onceK (fs.map nmKey)).length = fs.length)))) := h
        have et : isTupB (.tuple fs) 1 5 = (decide (1 ≤ fs.length) && decide (fs.length ≤ 5)) := by
          show (decide ((1 : Int) ≤ (fs.length : Int)) && decide ((fs.length : Int) ≤ 5)) = _
          rw [show decide ((1 : Int) ≤ (fs.length : Int)) = decide (1 ≤ fs.length) from decide_eq_decide.mpr (by omega), show decide ((fs.length : Int) ≤ 5) = decide (fs.length ≤ 5) from decide_eq_decide.mpr (by omega)]
        refine seq_if (!((decide (1 ≤ fs.length) && decide (fs.length ≤ 5)) && fs.all fieldB)) (fun Q hq => ?_) (fun z => ?_) fun z => ?_
        · (repeat ((conv => whnf); refine And.intro (by first | exact rfl | exact trivial | exact ⟨by decide, by decide, by decide⟩ | exact ⟨by decide, by decide⟩ | exact ⟨List.cons_ne_nil _ _, Nat.le_of_ble_eq_true rfl⟩ | exact ⟨rfl, rfl⟩ | exact eqOk_str | exact eqOk_int | exact eqOk_bool | exact Nat.le_of_ble_eq_true rfl | exact eqOk_tnil | exact eqOk_nil | assumption) ?_)); (try (conv => whnf))
          rw [et]
          cases e1 : (decide (1 ≤ fs.length) && decide (fs.length ≤ 5)) with
          | false => rw [e1] at hq; exact hq
          | true =>
            rw [e1, Bool.true_and] at hq
            (conv => whnf)
            refine lc_map (fun d => .bool (fieldB d)) _ _ (by simpa using hl) (fun d hd ds' acc hl2 ht => ?_) ?_
            · (repeat ((conv => whnf); refine And.intro (by first | exact rfl | exact trivial | exact ⟨by decide, by decide, by decide⟩ | exact ⟨by decide, by decide⟩ | exact ⟨List.cons_ne_nil _ _, Nat.le_of_ble_eq_true rfl⟩ | exact ⟨rfl, rfl⟩ | exact eqOk_str | exact eqOk_int | exact eqOk_bool | exact Nat.le_of_ble_eq_true rfl | exact eqOk_tnil | exact eqOk_nil | assumption) ?_)); (try (conv => whnf))
              exact ⟨hx.item hd, hl2, ht⟩
            · rw [List.nil_append]
              (conv => whnf)
              rw [bools_map]
              (conv => whnf)
              rw [all_map]
              exact hq
        · rw [Bool.not_eq_true'] at z
          rw [← Bool.and_assoc, z] at h
          exact h
        · rw [Bool.not_eq_false', Bool.and_eq_true, Bool.and_eq_true, decide_eq_true_eq, decide_eq_true_eq] at z
          rw [decide_eq_true z.1.1, decide_eq_true z.1.2, z.2] at h
          (repeat ((conv => whnf); refine And.intro (by first | exact rfl | exact trivial | exact ⟨by decide, by decide, by decide⟩ | exact ⟨by decide, by decide⟩ | exact ⟨List.cons_ne_nil _ _, Nat.le_of_ble_eq_true rfl⟩ | exact ⟨rfl, rfl⟩ | exact eqOk_str | exact eqOk_int | exact eqOk_bool | exact Nat.le_of_ble_eq_true rfl | exact eqOk_tnil | exact eqOk_nil | assumption) ?_)); (try (conv => whnf))
          refine scW_names (fun f hf ds acc few k => ?_) fs [] z.2 (by simp; omega) ?_
          · obtain ⟨n, k2, rfl⟩ := field_is hf
            (repeat ((conv => whnf); refine And.intro (by first | exact rfl | exact trivial | exact ⟨by decide, by decide, by decide⟩ | exact ⟨by decide, by decide⟩ | exact ⟨List.cons_ne_nil _ _, Nat.le_of_ble_eq_true rfl⟩ | exact ⟨rfl, rfl⟩ | exact eqOk_str | exact eqOk_int | exact eqOk_bool | exact Nat.le_of_ble_eq_true rfl | exact eqOk_tnil | exact eqOk_nil | assumption) ?_)); (try (conv => whnf))
            exact k
          · (repeat ((conv => whnf); refine And.intro (by first | exact rfl | exact trivial | exact ⟨by decide, by decide, by decide⟩ | exact ⟨by decide, by decide⟩ | exact ⟨List.cons_ne_nil _ _, Nat.le_of_ble_eq_true rfl⟩ | exact ⟨rfl, rfl⟩ | exact eqOk_str | exact eqOk_int | exact eqOk_bool | exact Nat.le_of_ble_eq_true rfl | exact eqOk_tnil | exact eqOk_nil | assumption) ?_)); (try (conv => whnf))
            rw [eqv_int]
            have e : (((onceK (fs.map nmKey)).length : Int) == (fs.length : Int)) = decide ((onceK (fs.map nmKey)).length = fs.length) := by
              by_cases z : (onceK (fs.map nmKey)).length = fs.length
              · rw [decide_eq_true z, z]; exact beq_self_eq_true _
              · rw [decide_eq_false z]; exact beq_eq_false_iff_ne.mpr (by omega)
            rw [show ((List.foldl addK [] (fs.map nmKey)).length : Int) = ((onceK (fs.map nmKey)).length : Int) from rfl, e]
            exact h
      | _ => (repeat ((conv => whnf); refine And.intro (by first | exact rfl | exact trivial | exact ⟨by decide, by decide, by decide⟩ | exact ⟨by decide, by decide⟩ | exact ⟨List.cons_ne_nil _ _, Nat.le_of_ble_eq_true rfl⟩ | exact ⟨rfl, rfl⟩ | exact eqOk_str | exact eqOk_int | exact eqOk_bool | exact Nat.le_of_ble_eq_true rfl | exact eqOk_tnil | exact eqOk_nil | assumption) ?_)); (try (conv => whnf)); exact h
    · exact h.elim
end K10
end
section
set_option autoImplicit false
set_option linter.all false
set_option maxRecDepth 100000
set_option maxHeartbeats 4000000
namespace K10
open PySem PySem.Spec L2 DL
variable {P : Program} {w : World} {K : PySem.W.Frag} {mg : Str → Option Value} {base : Heap}
theorem isKD_K {x : PyData} (h : isKD x = true) : IsK x := by
  have base : ∀ {b : PyData}, isBD b = true → IsB b := by
    intro b hb
    cases b with
    | tuple ds =>
      match ds, hb with
      | [], hb => cases hb
      | [a], hb => cases a with
        | str z =>
          have hb' : (z == Str.ofString "word") = true := hb
          rw [eq_of_beq hb']
          exact .inl rfl
        | _ => cases hb
      | [a, c], hb => cases a with
        | str z => cases c with
          | int n =>
            have hb' : (z == Str.ofString "pick" && (decide (1 ≤ n) && decide (n ≤ 4))) = true := hb
            rw [Bool.and_eq_true, Bool.and_eq_true, decide_eq_true_eq, decide_eq_true_eq] at hb'
            rw [eq_of_beq hb'.1]
            exact .inr ⟨n, hb'.2.1, hb'.2.2, rfl⟩
          | _ => cases hb
        | _ => cases hb
      | a :: c :: d :: l, hb => cases a <;> cases c <;> cases hb
    | _ => cases hb
  unfold isKD at h
  rw [Bool.or_eq_true] at h
  rcases h with h | h
  · exact .inl (base h)
  · cases x with
    | tuple ds =>
      match ds, h with
      | [], h => cases h
      | [a], h => cases a <;> cases h
      | [a, c], h => cases a with
        | str z =>
          have h' : ((z == Str.ofString "maybe" || z == Str.ofString "row") && isBD c) = true := h
          rw [Bool.and_eq_true, Bool.or_eq_true] at h'
          obtain ⟨h1 | h1, h2⟩ := h'
          · rw [eq_of_beq h1]; exact .inr ⟨c, base h2, .inl rfl⟩
          · rw [eq_of_beq h1]; exact .inr ⟨c, base h2, .inr rfl⟩
        | _ => cases h
      | a :: c :: d :: l, h => cases a <;> cases h
    | _ => cases h
def nmD (f : PyData) : PyData := match f with
  | .tuple [n, _] => n
  | _ => .none
theorem keys_names : ∀ {fs : List PyData}, fs.all fieldB = true → keysD (fs.map nmD) = some (fs.map nmKey)
  | [], _ => rfl
  | f :: fs, h => by
    rw [List.all_cons, Bool.and_eq_true] at h
    obtain ⟨n, k, rfl⟩ := field_is h.1
    have ih := keys_names h.2
    simp only [List.map_cons, nmD, keysD, DL.keyOf, ih, nmKey]
theorem B_law_is_form (D : DefOk K mg "_law_is_form" s_law_is_form ["thing"]) (T : Txt2 mg) (B_law_is_name : FnB P w K mg base 1 "_law_is_name" ["thing"] (spFitB nameB)) (B_law_is_kind : FnB P w K mg base 3 "_law_is_kind" ["thing"] (sp1 isKD)) : FnB P w K mg base 4 "_law_is_form" ["thing"] (spFitB formB) := by
  refine fnB_of D sc_law_is_form (fun avs Q h => ?_) (fun f cd A outer s H E => ⟨_, (dss_cons (ds_if (dxw_t (dxw_or (dxt_not (dxt_val (dx_isT "tuple" (by simp) E (by intro _; rfl) T.b_isinstance (by intro _; rfl) T.b_tuple boot_tuple (dx_var 0)))) (dxw_or1 (dxt_not (dxt_chn E (fun _ _ => op_leD) (fun _ _ => op_leD) (ops_le K) (ops_le K) dx_int (dx_call1B (r := rLenD) E (fun _ _ _ _ => call_lenD) (cs_len K) (by intro _; rfl) T.b_len boot_lenD (dx_var 0)) dx_int (by with_unfolding_all rfl)))))) (dss_one (ds_ret dx_bl)) dss_nil)
  (dss_cons (ds_for E (dxi_seq E (dx_var 0)) (dg_name 1 (fun _ => sc_law_is_form.nd)) (dss_one (ds_if (dxw_t (dxw_or (dxt_not (dxt_val (dx_isT "tuple" (by simp) E (by intro _; rfl) T.b_isinstance (by intro _; rfl) T.b_tuple boot_tuple (dx_var 1)))) (dxw_or (dxt_cmp E (fun _ h => op_neX h) (ops_ne K) (dx_call1B (r := rLenD) E (fun _ _ _ _ => call_lenD) (cs_len K) (by intro _; rfl) T.b_len boot_lenD (dx_var 1)) dx_int (nomark _)) (dxw_or (dxt_not (dxt_tru E.K (dx_callb E B_law_is_name (by decide) (dxv_cons (dx_ix E (dx_var 1) dx_int) dxv_nil)))) (dxw_or1 (dxt_not (dxt_tru E.K (dx_callb E B_law_is_kind (by decide) (dxv_cons (dx_ix E (dx_var 1) dx_int) dxv_nil))))))))) (dss_one (ds_ret dx_bl)) dss_nil)))
  (dss_one (ds_ret (dx_cmp E (fun _ h => op_eqX h) (ops_eq K) (dx_lenSet E (by intro _; rfl) T.b_len (by intro _; rfl) T.b_set (dx_fr (dxf_lc [("field", 1)] E (fun _ => sc_law_is_form.nd) (dxi_seq E (dx_var 0)) (fun _ => blkOk_by (by rfl)) (dg_name 1 (fun _ => sc_law_is_form.nd)) dxp_nil (dx_ix (E.blk _) (dx_var 1) dx_int)))) (dx_call1B (r := rLenD) E (fun _ _ _ _ => call_lenD) (cs_len K) (by intro _; rfl) T.b_len boot_lenD (dx_var 0)) (nomark _)))))), fun avs Q h => ?_⟩)
  · unfold spFitB at h; split at h <;> first | rfl | exact h.elim
  · unfold spFitB at h; split at h
    · rename_i x
      obtain ⟨hx, h⟩ := h
      cases x with
      | tuple fs =>
        have hl := hx.len
        replace h : Q (.bool ((decide (1 ≤ fs.length) && decide (fs.length ≤ 5)) && (fs.all fieldB && decide ((onceK (fs.map nmKey)).length = fs.length)))) := h
        have z1 : decide ((1 : Int) ≤ (fs.length : Int)) = decide (1 ≤ fs.length) := decide_eq_decide.mpr (by omega)
        have z2 : decide ((fs.length : Int) ≤ 5) = decide (fs.length ≤ 5) := decide_eq_decide.mpr (by omega)
        refine seq_if (!(decide (1 ≤ fs.length) && decide (fs.length ≤ 5))) (fun Q hq => ?_) (fun z => ?_) fun z => ?_
        · (repeat ((conv => whnf); refine And.intro (by first | exact rfl | exact trivial | exact ⟨by decide, by decide, by decide⟩ | exact ⟨by decide, by decide⟩ | exact ⟨List.cons_ne_nil _ _, Nat.le_of_ble_eq_true rfl⟩ | exact ⟨rfl, rfl⟩ | exact eqOk_str | exact eqOk_int | exact eqOk_bool | exact Nat.le_of_ble_eq_true rfl | exact eqOk_tnil | exact eqOk_nil | assumption) ?_)); (try (conv => whnf))
          rw [z1]
          cases e1 : decide (1 ≤ fs.length) with
          | false => rw [e1] at hq; exact hq
          | true =>
            rw [e1] at hq
            (conv => whnf)
            rw [z2]
            exact hq
        · rw [Bool.not_eq_true'] at z
          rw [z] at h
          exact h
        rw [Bool.not_eq_false'] at z
        rw [z, Bool.true_and] at h
        rw [Bool.and_eq_true, decide_eq_true_eq, decide_eq_true_eq] at z
        refine seq_abs (fun Γ => ∃ s1, Γ = [.dat false (.tuple fs), s1] ∧ (s1 = .un ∨ ∃ d, s1 = .dat false d) ∧ fs.all fieldB = true) (fun nx hnx => ?_) ?_
        · refine for_inv (fun ds Γ => ∃ s1, Γ = [.dat false (.tuple fs), s1] ∧ (s1 = .un ∨ ∃ d, s1 = .dat false d) ∧ fs.all fieldB = ds.all fieldB ∧ ∀ f ∈ ds, Fit f) (fun F hF => ?_) ?_ ?_
          · (repeat ((conv => whnf); refine And.intro (by first | exact rfl | exact trivial | exact ⟨by decide, by decide, by decide⟩ | exact ⟨by decide, by decide⟩ | exact ⟨List.cons_ne_nil _ _, Nat.le_of_ble_eq_true rfl⟩ | exact ⟨rfl, rfl⟩ | exact eqOk_str | exact eqOk_int | exact eqOk_bool | exact Nat.le_of_ble_eq_true rfl | exact eqOk_tnil | exact eqOk_nil | assumption) ?_)); (try (conv => whnf))
            exact hF _ _ ⟨_, rfl, .inl rfl, rfl, fun f hf => hx.item hf⟩
          · rintro Γ ⟨s1, rfl, hs, e, _⟩
            exact hnx _ ⟨_, rfl, hs, e⟩
          · rintro f ds Γ ⟨s1, rfl, _, e, hf⟩ rest hrest
            have hf0 := hf f (List.mem_cons_self ..)
            rw [List.all_cons] at e
            refine one_if (Γ := [.dat false (.tuple fs), .dat false f]) (!fieldB f) (fun Q hq => ?_) (fun z2 => ?_) fun z2 => hrest _ ⟨_, rfl, .inr ⟨_, rfl⟩, ?_, fun g hg => hf g (List.mem_cons_of_mem _ hg)⟩
            · cases f with
              | tuple gs =>
                match gs, hf0, hq with
                | [], hf0, hq => (repeat ((conv => whnf); refine And.intro (by first | exact rfl | exact trivial | exact ⟨by decide, by decide, by decide⟩ | exact ⟨by decide, by decide⟩ | exact ⟨List.cons_ne_nil _ _, Nat.le_of_ble_eq_true rfl⟩ | exact ⟨rfl, rfl⟩ | exact eqOk_str | exact eqOk_int | exact eqOk_bool | exact Nat.le_of_ble_eq_true rfl | exact eqOk_tnil | exact eqOk_nil | assumption) ?_)); (try (conv => whnf)); exact hq
                | [a], hf0, hq => (repeat ((conv => whnf); refine And.intro (by first | exact rfl | exact trivial | exact ⟨by decide, by decide, by decide⟩ | exact ⟨by decide, by decide⟩ | exact ⟨List.cons_ne_nil _ _, Nat.le_of_ble_eq_true rfl⟩ | exact ⟨rfl, rfl⟩ | exact eqOk_str | exact eqOk_int | exact eqOk_bool | exact Nat.le_of_ble_eq_true rfl | exact eqOk_tnil | exact eqOk_nil | assumption) ?_)); (try (conv => whnf)); exact hq
                | [a, b], hf0, hq =>
                  replace hq : Q (!(nameB a && isKD b)) _ := hq
                  (repeat ((conv => whnf); refine And.intro (by first | exact rfl | exact trivial | exact ⟨by decide, by decide, by decide⟩ | exact ⟨by decide, by decide⟩ | exact ⟨List.cons_ne_nil _ _, Nat.le_of_ble_eq_true rfl⟩ | exact ⟨rfl, rfl⟩ | exact eqOk_str | exact eqOk_int | exact eqOk_bool | exact Nat.le_of_ble_eq_true rfl | exact eqOk_tnil | exact eqOk_nil | assumption) ?_)); (try (conv => whnf))
                  refine ⟨hf0.item (by simp), ?_⟩
                  (conv => whnf)
                  cases e1 : nameB a with
                  | false => rw [e1] at hq; (repeat ((conv => whnf); refine And.intro (by first | exact rfl | exact trivial | exact ⟨by decide, by decide, by decide⟩ | exact ⟨by decide, by decide⟩ | exact ⟨List.cons_ne_nil _ _, Nat.le_of_ble_eq_true rfl⟩ | exact ⟨rfl, rfl⟩ | exact eqOk_str | exact eqOk_int | exact eqOk_bool | exact Nat.le_of_ble_eq_true rfl | exact eqOk_tnil | exact eqOk_nil | assumption) ?_)); (try (conv => whnf)); exact hq
                  | true =>
                    rw [e1, Bool.true_and] at hq
                    (repeat ((conv => whnf); refine And.intro (by first | exact rfl | exact trivial | exact ⟨by decide, by decide, by decide⟩ | exact ⟨by decide, by decide⟩ | exact ⟨List.cons_ne_nil _ _, Nat.le_of_ble_eq_true rfl⟩ | exact ⟨rfl, rfl⟩ | exact eqOk_str | exact eqOk_int | exact eqOk_bool | exact Nat.le_of_ble_eq_true rfl | exact eqOk_tnil | exact eqOk_nil | assumption) ?_)); (try (conv => whnf))
                    cases e2 : isKD b with
                    | false => rw [e2] at hq; (repeat ((conv => whnf); refine And.intro (by first | exact rfl | exact trivial | exact ⟨by decide, by decide, by decide⟩ | exact ⟨by decide, by decide⟩ | exact ⟨List.cons_ne_nil _ _, Nat.le_of_ble_eq_true rfl⟩ | exact ⟨rfl, rfl⟩ | exact eqOk_str | exact eqOk_int | exact eqOk_bool | exact Nat.le_of_ble_eq_true rfl | exact eqOk_tnil | exact eqOk_nil | assumption) ?_)); (try (conv => whnf)); exact hq
                    | true => rw [e2] at hq; (repeat ((conv => whnf); refine And.intro (by first | exact rfl | exact trivial | exact ⟨by decide, by decide, by decide⟩ | exact ⟨by decide, by decide⟩ | exact ⟨List.cons_ne_nil _ _, Nat.le_of_ble_eq_true rfl⟩ | exact ⟨rfl, rfl⟩ | exact eqOk_str | exact eqOk_int | exact eqOk_bool | exact Nat.le_of_ble_eq_true rfl | exact eqOk_tnil | exact eqOk_nil | assumption) ?_)); (try (conv => whnf)); exact hq
                | a :: b :: c :: l, hf0, hq =>
                  (repeat ((conv => whnf); refine And.intro (by first | exact rfl | exact trivial | exact ⟨by decide, by decide, by decide⟩ | exact ⟨by decide, by decide⟩ | exact ⟨List.cons_ne_nil _ _, Nat.le_of_ble_eq_true rfl⟩ | exact ⟨rfl, rfl⟩ | exact eqOk_str | exact eqOk_int | exact eqOk_bool | exact Nat.le_of_ble_eq_true rfl | exact eqOk_tnil | exact eqOk_nil | assumption) ?_)); (try (conv => whnf))
                  exact hq
              | _ => (repeat ((conv => whnf); refine And.intro (by first | exact rfl | exact trivial | exact ⟨by decide, by decide, by decide⟩ | exact ⟨by decide, by decide⟩ | exact ⟨List.cons_ne_nil _ _, Nat.le_of_ble_eq_true rfl⟩ | exact ⟨rfl, rfl⟩ | exact eqOk_str | exact eqOk_int | exact eqOk_bool | exact Nat.le_of_ble_eq_true rfl | exact eqOk_tnil | exact eqOk_nil | assumption) ?_)); (try (conv => whnf)); exact hq
            · rw [Bool.not_eq_true'] at z2
              rw [z2, Bool.false_and] at e
              rw [e] at h
              exact h
            · rw [Bool.not_eq_false'] at z2
              rw [e, z2, Bool.true_and]
        · rintro Γ ⟨s1, rfl, hs, ha⟩
          rw [ha, Bool.true_and] at h
          have hk := keys_names ha
          rcases hs with rfl | ⟨d0, rfl⟩
          all_goals (repeat ((conv => whnf); refine And.intro (by first | exact rfl | exact trivial | exact ⟨by decide, by decide, by decide⟩ | exact ⟨by decide, by decide⟩ | exact ⟨List.cons_ne_nil _ _, Nat.le_of_ble_eq_true rfl⟩ | exact ⟨rfl, rfl⟩ | exact eqOk_str | exact eqOk_int | exact eqOk_bool | exact Nat.le_of_ble_eq_true rfl | exact eqOk_tnil | exact eqOk_nil | assumption) ?_)); (try (conv => whnf))
          · refine lc_map nmD _ _ (by simp; omega) (fun f hf ds' acc hl2 ht => ?_) ?_
            · obtain ⟨n, k, rfl⟩ := field_is (List.all_eq_true.mp ha f hf)
              (repeat ((conv => whnf); refine And.intro (by first | exact rfl | exact trivial | exact ⟨by decide, by decide, by decide⟩ | exact ⟨by decide, by decide⟩ | exact ⟨List.cons_ne_nil _ _, Nat.le_of_ble_eq_true rfl⟩ | exact ⟨rfl, rfl⟩ | exact eqOk_str | exact eqOk_int | exact eqOk_bool | exact Nat.le_of_ble_eq_true rfl | exact eqOk_tnil | exact eqOk_nil | assumption) ?_)); (try (conv => whnf))
              exact ht
            · rw [List.nil_append]
              (conv => whnf)
              rw [hk]
              (conv => whnf)
              refine And.intro (by rw [List.length_map]; exact Nat.lt_of_le_of_lt (Nat.succ_le_succ z.2) (by decide)) ?_
              (repeat ((conv => whnf); refine And.intro (by first | exact rfl | exact trivial | exact ⟨by decide, by decide, by decide⟩ | exact ⟨by decide, by decide⟩ | exact ⟨List.cons_ne_nil _ _, Nat.le_of_ble_eq_true rfl⟩ | exact ⟨rfl, rfl⟩ | exact eqOk_str | exact eqOk_int | exact eqOk_bool | exact Nat.le_of_ble_eq_true rfl | exact eqOk_tnil | exact eqOk_nil | assumption) ?_)); (try (conv => whnf))
              rw [eqv_int]
              have e : (((onceK (fs.map nmKey)).length : Int) == (fs.length : Int)) = decide ((onceK (fs.map nmKey)).length = fs.length) := by
                by_cases z : (onceK (fs.map nmKey)).length = fs.length
                · rw [decide_eq_true z, z]; exact beq_self_eq_true _
                · rw [decide_eq_false z]; exact beq_eq_false_iff_ne.mpr (by omega)
              rw [e]
              exact h
          · refine lc_map nmD _ _ (by simp; omega) (fun f hf ds' acc hl2 ht => ?_) ?_
            · obtain ⟨n, k, rfl⟩ := field_is (List.all_eq_true.mp ha f hf)
              (repeat ((conv => whnf); refine And.intro (by first | exact rfl | exact trivial | exact ⟨by decide, by decide, by decide⟩ | exact ⟨by decide, by decide⟩ | exact ⟨List.cons_ne_nil _ _, Nat.le_of_ble_eq_true rfl⟩ | exact ⟨rfl, rfl⟩ | exact eqOk_str | exact eqOk_int | exact eqOk_bool | exact Nat.le_of_ble_eq_true rfl | exact eqOk_tnil | exact eqOk_nil | assumption) ?_)); (try (conv => whnf))
              exact ht
            · rw [List.nil_append]
              (conv => whnf)
              rw [hk]
              (conv => whnf)
              refine And.intro (by rw [List.length_map]; exact Nat.lt_of_le_of_lt (Nat.succ_le_succ z.2) (by decide)) ?_
              (repeat ((conv => whnf); refine And.intro (by first | exact rfl | exact trivial | exact ⟨by decide, by decide, by decide⟩ | exact ⟨by decide, by decide⟩ | exact ⟨List.cons_ne_nil _ _, Nat.le_of_ble_eq_true rfl⟩ | exact ⟨rfl, rfl⟩ | exact eqOk_str | exact eqOk_int | exact eqOk_bool | exact Nat.le_of_ble_eq_true rfl | exact eqOk_tnil | exact eqOk_nil | assumption) ?_)); (try (conv => whnf))
              rw [eqv_int]
              have e : (((onceK (fs.map nmKey)).length : Int) == (fs.length : Int)) = decide ((onceK (fs.map nmKey)).length = fs.length) := by
                by_cases z : (onceK (fs.map nmKey)).length = fs.length
                · rw [decide_eq_true z, z]; exact beq_self_eq_true _
                · rw [decide_eq_false z]; exact beq_eq_false_iff_ne.mpr (by omega)
              rw [e]
              exact h
      | _ => (repeat ((conv => whnf); refine And.intro (by first | exact rfl | exact trivial | exact ⟨by decide, by decide, by decide⟩ | exact ⟨by decide, by decide⟩ | exact ⟨List.cons_ne_nil _ _, Nat.le_of_ble_eq_true rfl⟩ | exact ⟨rfl, rfl⟩ | exact eqOk_str | exact eqOk_int | exact eqOk_bool | exact Nat.le_of_ble_eq_true rfl | exact eqOk_tnil | exact eqOk_nil | assumption) ?_)); (try (conv => whnf)); exact h
    · exact h.elim
theorem formB_F {x : PyData} (h : formB x = true) : IsF x := by
  cases x with
  | tuple fs =>
    have h' : ((decide (1 ≤ fs.length) && decide (fs.length ≤ 5)) && (fs.all fieldB && decide ((onceK (fs.map nmKey)).length = fs.length))) = true := h
    rw [Bool.and_eq_true, Bool.and_eq_true, Bool.and_eq_true, decide_eq_true_eq, decide_eq_true_eq] at h'
    obtain ⟨⟨h1, h2⟩, h3, _⟩ := h'
    refine ⟨fs, rfl, fun z => by rw [z] at h1; exact absurd h1 (by decide), by omega, fun f hf => ?_⟩
    have hb := List.all_eq_true.mp h3 f hf
    obtain ⟨n, k, rfl⟩ := field_is hb
    have hb' : (nameB (.str n) && isKD k) = true := hb
    rw [Bool.and_eq_true] at hb'
    have hn : ((decide (1 ≤ n.length) && decide (n.length ≤ 8)) && n.cps.toList.all azOk) = true := hb'.1
    rw [Bool.and_eq_true, Bool.and_eq_true, decide_eq_true_eq, decide_eq_true_eq] at hn
    refine ⟨n, k, rfl, isWb_mk hn.1.2 fun c hc => ?_, isKD_K hb'.2⟩
    have := List.all_eq_true.mp hn.2 c hc
    unfold azOk at this
    rw [Bool.and_eq_true, decide_eq_true_eq, decide_eq_true_eq] at this
    omega
  | _ => cases h
end K10
end
section
set_option autoImplicit false
set_option linter.all false
set_option maxRecDepth 100000
set_option maxHeartbeats 4000000
namespace K10
open PySem PySem.Spec L2 DL Evl
variable {P : Program} {w : World} {K : PySem.W.Frag} {mg : Str → Option Value} {base : Heap}
theorem sc_law_errors : FnScope ["one", "two", "three", "found"] ["one", "two", "three"] (defScope s_law_errors) := ⟨rfl, rfl, rfl, by decide +kernel, rfl, by decide +kernel, by decide +kernel⟩
theorem sc_law_classes : FnScope ["error", "found", "k"] ["error"] (defScope s_law_classes) := ⟨rfl, rfl, rfl, by decide +kernel, rfl, by decide +kernel, by decide +kernel⟩
theorem sc_law_kept_by : FnScope ["errors", "found"] ["errors"] (defScope s_law_kept_by) := ⟨rfl, rfl, rfl, by decide +kernel, rfl, by decide +kernel, by decide +kernel⟩
/-! ### the errors' own __init__ -/
theorem init_first {H : Hp} {a C dx : Addr} {fs : List (Str × V)} (hd : H dx = none) (ne : dx ≠ a) : (∀ b o, H b = some o → b ≠ a → (upd (upd H dx (exd dx fs)) a (exo a C (some dx))) b = some o) ∧ (upd (upd H dx (exd dx fs)) a (exo a C (some dx))) a = some (exo a C (some dx)) ∧ (upd (upd H dx (exd dx fs)) a (exo a C (some dx))) dx = some (exd dx fs) :=
  ⟨fun b o hb hba => by rw [upd_ne hba, upd_ne (ne_of_none hb hd)]; exact hb, upd_same, by rw [upd_ne ne, upd_same]⟩
theorem init_more {H H1 : Hp} {a C dx : Addr} {fs gs : List (Str × V)} (hd : H dx = none) (ne : dx ≠ a) (h : (∀ b o, H b = some o → b ≠ a → H1 b = some o) ∧ H1 a = some (exo a C (some dx)) ∧ H1 dx = some (exd dx fs)) :
    (∀ b o, H b = some o → b ≠ a → (upd H1 dx (exd dx gs)) b = some o) ∧ (upd H1 dx (exd dx gs)) a = some (exo a C (some dx)) ∧ (upd H1 dx (exd dx gs)) dx = some (exd dx gs) :=
  ⟨fun b o hb hba => by rw [upd_ne (ne_of_none hb hd)]; exact h.1 b o hb hba, by rw [upd_ne (Ne.symm ne)]; exact h.2.1, upd_same⟩
abbrev i_FallsApart : Stmt := inClass (topS 13) 0
theorem sc_i_FallsApart : FnScope ["self", "spot"] ["self", "spot"] (defScope i_FallsApart) := ⟨rfl, rfl, rfl, by decide +kernel, rfl, by decide +kernel, by decide +kernel⟩
theorem I_FallsApart {C f : Addr} {fd : FuncData} (F : Fun K "__init__" "FallsApart.__init__" i_FallsApart f fd) (T : OexC K C) (no : ∀ n ∈ (["spot"] : List Str), PySem.W.findIn K (.ref C) n = some none) : FnG P w K mg base 1 f fd ["self", "spot"] (spIn C ["spot"]) := by
  refine fnG_of F sc_i_FallsApart (fun vs H Q E ⟨a, ws, e, hl, _⟩ => by rw [e, List.length_cons, hl]; rfl) fun cd A outer s H vs Q hr gu ⟨a, ws, e, hl, ha, k⟩ => ?_
  match ws, hl with
  | [x], _ =>
    subst e
    refine ⟨_, (pss_one (ps_ost (pe_var (i := 0) rfl (by first | exact Or.inl rfl | exact Or.inr (Or.inl rfl) | exact Or.inr (Or.inr rfl))) (pe_var (i := 1) rfl (by first | exact Or.inl rfl | exact Or.inr (Or.inl rfl) | exact Or.inr (Or.inr rfl))))), ?_⟩
    refine ⟨x, rfl, .ref a, rfl, a, C, rfl, T, no _ (by simp), .inl ⟨ha, fun dx hd ne => ?_⟩⟩
    have h1 := init_first (C := C) (fs := [("spot", x)]) hd ne
    exact k _ h1.1 (.inr ⟨dx, h1.2⟩)
abbrev i_HasRing : Stmt := inClass (topS 14) 0
theorem sc_i_HasRing : FnScope ["self", "way"] ["self", "way"] (defScope i_HasRing) := ⟨rfl, rfl, rfl, by decide +kernel, rfl, by decide +kernel, by decide +kernel⟩
theorem I_HasRing {C f : Addr} {fd : FuncData} (F : Fun K "__init__" "HasRing.__init__" i_HasRing f fd) (T : OexC K C) (no : ∀ n ∈ (["way"] : List Str), PySem.W.findIn K (.ref C) n = some none) : FnG P w K mg base 1 f fd ["self", "way"] (spIn C ["way"]) := by
  refine fnG_of F sc_i_HasRing (fun vs H Q E ⟨a, ws, e, hl, _⟩ => by rw [e, List.length_cons, hl]; rfl) fun cd A outer s H vs Q hr gu ⟨a, ws, e, hl, ha, k⟩ => ?_
  match ws, hl with
  | [x], _ =>
    subst e
    refine ⟨_, (pss_one (ps_ost (pe_var (i := 0) rfl (by first | exact Or.inl rfl | exact Or.inr (Or.inl rfl) | exact Or.inr (Or.inr rfl))) (pe_var (i := 1) rfl (by first | exact Or.inl rfl | exact Or.inr (Or.inl rfl) | exact Or.inr (Or.inr rfl))))), ?_⟩
    refine ⟨x, rfl, .ref a, rfl, a, C, rfl, T, no _ (by simp), .inl ⟨ha, fun dx hd ne => ?_⟩⟩
    have h1 := init_first (C := C) (fs := [("way", x)]) hd ne
    exact k _ h1.1 (.inr ⟨dx, h1.2⟩)
abbrev i_Joined : Stmt := inClass (topS 15) 0
theorem sc_i_Joined : FnScope ["self", "index"] ["self", "index"] (defScope i_Joined) := ⟨rfl, rfl, rfl, by decide +kernel, rfl, by decide +kernel, by decide +kernel⟩
theorem I_Joined {C f : Addr} {fd : FuncData} (F : Fun K "__init__" "Joined.__init__" i_Joined f fd) (T : OexC K C) (no : ∀ n ∈ (["index"] : List Str), PySem.W.findIn K (.ref C) n = some none) : FnG P w K mg base 1 f fd ["self", "index"] (spIn C ["index"]) := by
  refine fnG_of F sc_i_Joined (fun vs H Q E ⟨a, ws, e, hl, _⟩ => by rw [e, List.length_cons, hl]; rfl) fun cd A outer s H vs Q hr gu ⟨a, ws, e, hl, ha, k⟩ => ?_
  match ws, hl with
  | [x], _ =>
    subst e
    refine ⟨_, (pss_one (ps_ost (pe_var (i := 0) rfl (by first | exact Or.inl rfl | exact Or.inr (Or.inl rfl) | exact Or.inr (Or.inr rfl))) (pe_var (i := 1) rfl (by first | exact Or.inl rfl | exact Or.inr (Or.inl rfl) | exact Or.inr (Or.inr rfl))))), ?_⟩
    refine ⟨x, rfl, .ref a, rfl, a, C, rfl, T, no _ (by simp), .inl ⟨ha, fun dx hd ne => ?_⟩⟩
    have h1 := init_first (C := C) (fs := [("index", x)]) hd ne
    exact k _ h1.1 (.inr ⟨dx, h1.2⟩)
abbrev i_NoCopy : Stmt := inClass (topS 17) 0
theorem sc_i_NoCopy : FnScope ["self", "name"] ["self", "name"] (defScope i_NoCopy) := ⟨rfl, rfl, rfl, by decide +kernel, rfl, by decide +kernel, by decide +kernel⟩
theorem I_NoCopy {C f : Addr} {fd : FuncData} (F : Fun K "__init__" "NoCopy.__init__" i_NoCopy f fd) (T : OexC K C) (no : ∀ n ∈ (["name"] : List Str), PySem.W.findIn K (.ref C) n = some none) : FnG P w K mg base 1 f fd ["self", "name"] (spIn C ["name"]) := by
  refine fnG_of F sc_i_NoCopy (fun vs H Q E ⟨a, ws, e, hl, _⟩ => by rw [e, List.length_cons, hl]; rfl) fun cd A outer s H vs Q hr gu ⟨a, ws, e, hl, ha, k⟩ => ?_
  match ws, hl with
  | [x], _ =>
    subst e
    refine ⟨_, (pss_one (ps_ost (pe_var (i := 0) rfl (by first | exact Or.inl rfl | exact Or.inr (Or.inl rfl) | exact Or.inr (Or.inr rfl))) (pe_var (i := 1) rfl (by first | exact Or.inl rfl | exact Or.inr (Or.inl rfl) | exact Or.inr (Or.inr rfl))))), ?_⟩
    refine ⟨x, rfl, .ref a, rfl, a, C, rfl, T, no _ (by simp), .inl ⟨ha, fun dx hd ne => ?_⟩⟩
    have h1 := init_first (C := C) (fs := [("name", x)]) hd ne
    exact k _ h1.1 (.inr ⟨dx, h1.2⟩)
abbrev i_NoField : Stmt := inClass (topS 18) 0
theorem sc_i_NoField : FnScope ["self", "name"] ["self", "name"] (defScope i_NoField) := ⟨rfl, rfl, rfl, by decide +kernel, rfl, by decide +kernel, by decide +kernel⟩
theorem I_NoField {C f : Addr} {fd : FuncData} (F : Fun K "__init__" "NoField.__init__" i_NoField f fd) (T : OexC K C) (no : ∀ n ∈ (["name"] : List Str), PySem.W.findIn K (.ref C) n = some none) : FnG P w K mg base 1 f fd ["self", "name"] (spIn C ["name"]) := by
  refine fnG_of F sc_i_NoField (fun vs H Q E ⟨a, ws, e, hl, _⟩ => by rw [e, List.length_cons, hl]; rfl) fun cd A outer s H vs Q hr gu ⟨a, ws, e, hl, ha, k⟩ => ?_
  match ws, hl with
  | [x], _ =>
    subst e
    refine ⟨_, (pss_one (ps_ost (pe_var (i := 0) rfl (by first | exact Or.inl rfl | exact Or.inr (Or.inl rfl) | exact Or.inr (Or.inr rfl))) (pe_var (i := 1) rfl (by first | exact Or.inl rfl | exact Or.inr (Or.inl rfl) | exact Or.inr (Or.inr rfl))))), ?_⟩
    refine ⟨x, rfl, .ref a, rfl, a, C, rfl, T, no _ (by simp), .inl ⟨ha, fun dx hd ne => ?_⟩⟩
    have h1 := init_first (C := C) (fs := [("name", x)]) hd ne
    exact k _ h1.1 (.inr ⟨dx, h1.2⟩)
abbrev i_NoLot : Stmt := inClass (topS 19) 0
theorem sc_i_NoLot : FnScope ["self", "lot"] ["self", "lot"] (defScope i_NoLot) := ⟨rfl, rfl, rfl, by decide +kernel, rfl, by decide +kernel, by decide +kernel⟩
theorem I_NoLot {C f : Addr} {fd : FuncData} (F : Fun K "__init__" "NoLot.__init__" i_NoLot f fd) (T : OexC K C) (no : ∀ n ∈ (["lot"] : List Str), PySem.W.findIn K (.ref C) n = some none) : FnG P w K mg base 1 f fd ["self", "lot"] (spIn C ["lot"]) := by
  refine fnG_of F sc_i_NoLot (fun vs H Q E ⟨a, ws, e, hl, _⟩ => by rw [e, List.length_cons, hl]; rfl) fun cd A outer s H vs Q hr gu ⟨a, ws, e, hl, ha, k⟩ => ?_
  match ws, hl with
  | [x], _ =>
    subst e
    refine ⟨_, (pss_one (ps_ost (pe_var (i := 0) rfl (by first | exact Or.inl rfl | exact Or.inr (Or.inl rfl) | exact Or.inr (Or.inr rfl))) (pe_var (i := 1) rfl (by first | exact Or.inl rfl | exact Or.inr (Or.inl rfl) | exact Or.inr (Or.inr rfl))))), ?_⟩
    refine ⟨x, rfl, .ref a, rfl, a, C, rfl, T, no _ (by simp), .inl ⟨ha, fun dx hd ne => ?_⟩⟩
    have h1 := init_first (C := C) (fs := [("lot", x)]) hd ne
    exact k _ h1.1 (.inr ⟨dx, h1.2⟩)
abbrev i_NoPast : Stmt := inClass (topS 20) 0
theorem sc_i_NoPast : FnScope ["self", "lot"] ["self", "lot"] (defScope i_NoPast) := ⟨rfl, rfl, rfl, by decide +kernel, rfl, by decide +kernel, by decide +kernel⟩
theorem I_NoPast {C f : Addr} {fd : FuncData} (F : Fun K "__init__" "NoPast.__init__" i_NoPast f fd) (T : OexC K C) (no : ∀ n ∈ (["lot"] : List Str), PySem.W.findIn K (.ref C) n = some none) : FnG P w K mg base 1 f fd ["self", "lot"] (spIn C ["lot"]) := by
  refine fnG_of F sc_i_NoPast (fun vs H Q E ⟨a, ws, e, hl, _⟩ => by rw [e, List.length_cons, hl]; rfl) fun cd A outer s H vs Q hr gu ⟨a, ws, e, hl, ha, k⟩ => ?_
  match ws, hl with
  | [x], _ =>
    subst e
    refine ⟨_, (pss_one (ps_ost (pe_var (i := 0) rfl (by first | exact Or.inl rfl | exact Or.inr (Or.inl rfl) | exact Or.inr (Or.inr rfl))) (pe_var (i := 1) rfl (by first | exact Or.inl rfl | exact Or.inr (Or.inl rfl) | exact Or.inr (Or.inr rfl))))), ?_⟩
    refine ⟨x, rfl, .ref a, rfl, a, C, rfl, T, no _ (by simp), .inl ⟨ha, fun dx hd ne => ?_⟩⟩
    have h1 := init_first (C := C) (fs := [("lot", x)]) hd ne
    exact k _ h1.1 (.inr ⟨dx, h1.2⟩)
abbrev i_NoPlace : Stmt := inClass (topS 21) 0
theorem sc_i_NoPlace : FnScope ["self", "place"] ["self", "place"] (defScope i_NoPlace) := ⟨rfl, rfl, rfl, by decide +kernel, rfl, by decide +kernel, by decide +kernel⟩
theorem I_NoPlace {C f : Addr} {fd : FuncData} (F : Fun K "__init__" "NoPlace.__init__" i_NoPlace f fd) (T : OexC K C) (no : ∀ n ∈ (["place"] : List Str), PySem.W.findIn K (.ref C) n = some none) : FnG P w K mg base 1 f fd ["self", "place"] (spIn C ["place"]) := by
  refine fnG_of F sc_i_NoPlace (fun vs H Q E ⟨a, ws, e, hl, _⟩ => by rw [e, List.length_cons, hl]; rfl) fun cd A outer s H vs Q hr gu ⟨a, ws, e, hl, ha, k⟩ => ?_
  match ws, hl with
  | [x], _ =>
    subst e
    refine ⟨_, (pss_one (ps_ost (pe_var (i := 0) rfl (by first | exact Or.inl rfl | exact Or.inr (Or.inl rfl) | exact Or.inr (Or.inr rfl))) (pe_var (i := 1) rfl (by first | exact Or.inl rfl | exact Or.inr (Or.inl rfl) | exact Or.inr (Or.inr rfl))))), ?_⟩
    refine ⟨x, rfl, .ref a, rfl, a, C, rfl, T, no _ (by simp), .inl ⟨ha, fun dx hd ne => ?_⟩⟩
    have h1 := init_first (C := C) (fs := [("place", x)]) hd ne
    exact k _ h1.1 (.inr ⟨dx, h1.2⟩)
abbrev i_NoRoad : Stmt := inClass (topS 22) 0
theorem sc_i_NoRoad : FnScope ["self", "one", "other"] ["self", "one", "other"] (defScope i_NoRoad) := ⟨rfl, rfl, rfl, by decide +kernel, rfl, by decide +kernel, by decide +kernel⟩
theorem I_NoRoad {C f : Addr} {fd : FuncData} (F : Fun K "__init__" "NoRoad.__init__" i_NoRoad f fd) (T : OexC K C) (no : ∀ n ∈ (["one", "other"] : List Str), PySem.W.findIn K (.ref C) n = some none) : FnG P w K mg base 1 f fd ["self", "one", "other"] (spIn C ["one", "other"]) := by
  refine fnG_of F sc_i_NoRoad (fun vs H Q E ⟨a, ws, e, hl, _⟩ => by rw [e, List.length_cons, hl]; rfl) fun cd A outer s H vs Q hr gu ⟨a, ws, e, hl, ha, k⟩ => ?_
  match ws, hl with
  | [x, y], _ =>
    subst e
    refine ⟨_, (pss_cons (ps_ost (pe_var (i := 0) rfl (by first | exact Or.inl rfl | exact Or.inr (Or.inl rfl) | exact Or.inr (Or.inr rfl))) (pe_var (i := 1) rfl (by first | exact Or.inl rfl | exact Or.inr (Or.inl rfl) | exact Or.inr (Or.inr rfl)))) (pss_one (ps_ost (pe_var (i := 0) rfl (by first | exact Or.inl rfl | exact Or.inr (Or.inl rfl) | exact Or.inr (Or.inr rfl))) (pe_var (i := 2) rfl (by first | exact Or.inl rfl | exact Or.inr (Or.inl rfl) | exact Or.inr (Or.inr rfl)))))), ?_⟩
    refine ⟨x, rfl, .ref a, rfl, a, C, rfl, T, no _ (by simp), .inl ⟨ha, fun dx hd ne => ?_⟩⟩
    have h1 := init_first (C := C) (fs := [("one", x)]) hd ne
    exact ⟨y, rfl, .ref a, rfl, a, C, rfl, T, no _ (by simp), .inr ⟨dx, _, h1.2.1, h1.2.2, Nat.le_of_ble_eq_true rfl, k _ (init_more hd ne h1).1 (.inr ⟨dx, (init_more hd ne h1).2⟩)⟩⟩
abbrev i_NoText : Stmt := inClass (topS 23) 0
theorem sc_i_NoText : FnScope ["self", "line"] ["self", "line"] (defScope i_NoText) := ⟨rfl, rfl, rfl, by decide +kernel, rfl, by decide +kernel, by decide +kernel⟩
theorem I_NoText {C f : Addr} {fd : FuncData} (F : Fun K "__init__" "NoText.__init__" i_NoText f fd) (T : OexC K C) (no : ∀ n ∈ (["line"] : List Str), PySem.W.findIn K (.ref C) n = some none) : FnG P w K mg base 1 f fd ["self", "line"] (spIn C ["line"]) := by
  refine fnG_of F sc_i_NoText (fun vs H Q E ⟨a, ws, e, hl, _⟩ => by rw [e, List.length_cons, hl]; rfl) fun cd A outer s H vs Q hr gu ⟨a, ws, e, hl, ha, k⟩ => ?_
  match ws, hl with
  | [x], _ =>
    subst e
    refine ⟨_, (pss_one (ps_ost (pe_var (i := 0) rfl (by first | exact Or.inl rfl | exact Or.inr (Or.inl rfl) | exact Or.inr (Or.inr rfl))) (pe_var (i := 1) rfl (by first | exact Or.inl rfl | exact Or.inr (Or.inl rfl) | exact Or.inr (Or.inr rfl))))), ?_⟩
    refine ⟨x, rfl, .ref a, rfl, a, C, rfl, T, no _ (by simp), .inl ⟨ha, fun dx hd ne => ?_⟩⟩
    have h1 := init_first (C := C) (fs := [("line", x)]) hd ne
    exact k _ h1.1 (.inr ⟨dx, h1.2⟩)
abbrev i_NoValue : Stmt := inClass (topS 24) 0
theorem sc_i_NoValue : FnScope ["self", "value"] ["self", "value"] (defScope i_NoValue) := ⟨rfl, rfl, rfl, by decide +kernel, rfl, by decide +kernel, by decide +kernel⟩
theorem I_NoValue {C f : Addr} {fd : FuncData} (F : Fun K "__init__" "NoValue.__init__" i_NoValue f fd) (T : OexC K C) (no : ∀ n ∈ (["value"] : List Str), PySem.W.findIn K (.ref C) n = some none) : FnG P w K mg base 1 f fd ["self", "value"] (spIn C ["value"]) := by
  refine fnG_of F sc_i_NoValue (fun vs H Q E ⟨a, ws, e, hl, _⟩ => by rw [e, List.length_cons, hl]; rfl) fun cd A outer s H vs Q hr gu ⟨a, ws, e, hl, ha, k⟩ => ?_
  match ws, hl with
  | [x], _ =>
    subst e
    refine ⟨_, (pss_one (ps_ost (pe_var (i := 0) rfl (by first | exact Or.inl rfl | exact Or.inr (Or.inl rfl) | exact Or.inr (Or.inr rfl))) (pe_var (i := 1) rfl (by first | exact Or.inl rfl | exact Or.inr (Or.inl rfl) | exact Or.inr (Or.inr rfl))))), ?_⟩
    refine ⟨x, rfl, .ref a, rfl, a, C, rfl, T, no _ (by simp), .inl ⟨ha, fun dx hd ne => ?_⟩⟩
    have h1 := init_first (C := C) (fs := [("value", x)]) hd ne
    exact k _ h1.1 (.inr ⟨dx, h1.2⟩)
abbrev i_NotAnywhere : Stmt := inClass (topS 25) 0
theorem sc_i_NotAnywhere : FnScope ["self", "way", "worth"] ["self", "way", "worth"] (defScope i_NotAnywhere) := ⟨rfl, rfl, rfl, by decide +kernel, rfl, by decide +kernel, by decide +kernel⟩
theorem I_NotAnywhere {C f : Addr} {fd : FuncData} (F : Fun K "__init__" "NotAnywhere.__init__" i_NotAnywhere f fd) (T : OexC K C) (no : ∀ n ∈ (["way", "worth"] : List Str), PySem.W.findIn K (.ref C) n = some none) : FnG P w K mg base 1 f fd ["self", "way", "worth"] (spIn C ["way", "worth"]) := by
  refine fnG_of F sc_i_NotAnywhere (fun vs H Q E ⟨a, ws, e, hl, _⟩ => by rw [e, List.length_cons, hl]; rfl) fun cd A outer s H vs Q hr gu ⟨a, ws, e, hl, ha, k⟩ => ?_
  match ws, hl with
  | [x, y], _ =>
    subst e
    refine ⟨_, (pss_cons (ps_ost (pe_var (i := 0) rfl (by first | exact Or.inl rfl | exact Or.inr (Or.inl rfl) | exact Or.inr (Or.inr rfl))) (pe_var (i := 1) rfl (by first | exact Or.inl rfl | exact Or.inr (Or.inl rfl) | exact Or.inr (Or.inr rfl)))) (pss_one (ps_ost (pe_var (i := 0) rfl (by first | exact Or.inl rfl | exact Or.inr (Or.inl rfl) | exact Or.inr (Or.inr rfl))) (pe_var (i := 2) rfl (by first | exact Or.inl rfl | exact Or.inr (Or.inl rfl) | exact Or.inr (Or.inr rfl)))))), ?_⟩
    refine ⟨x, rfl, .ref a, rfl, a, C, rfl, T, no _ (by simp), .inl ⟨ha, fun dx hd ne => ?_⟩⟩
    have h1 := init_first (C := C) (fs := [("way", x)]) hd ne
    exact ⟨y, rfl, .ref a, rfl, a, C, rfl, T, no _ (by simp), .inr ⟨dx, _, h1.2.1, h1.2.2, Nat.le_of_ble_eq_true rfl, k _ (init_more hd ne h1).1 (.inr ⟨dx, (init_more hd ne h1).2⟩)⟩⟩
abbrev i_NotFinite : Stmt := inClass (topS 26) 0
theorem sc_i_NotFinite : FnScope ["self", "spot"] ["self", "spot"] (defScope i_NotFinite) := ⟨rfl, rfl, rfl, by decide +kernel, rfl, by decide +kernel, by decide +kernel⟩
theorem I_NotFinite {C f : Addr} {fd : FuncData} (F : Fun K "__init__" "NotFinite.__init__" i_NotFinite f fd) (T : OexC K C) (no : ∀ n ∈ (["spot"] : List Str), PySem.W.findIn K (.ref C) n = some none) : FnG P w K mg base 1 f fd ["self", "spot"] (spIn C ["spot"]) := by
  refine fnG_of F sc_i_NotFinite (fun vs H Q E ⟨a, ws, e, hl, _⟩ => by rw [e, List.length_cons, hl]; rfl) fun cd A outer s H vs Q hr gu ⟨a, ws, e, hl, ha, k⟩ => ?_
  match ws, hl with
  | [x], _ =>
    subst e
    refine ⟨_, (pss_one (ps_ost (pe_var (i := 0) rfl (by first | exact Or.inl rfl | exact Or.inr (Or.inl rfl) | exact Or.inr (Or.inr rfl))) (pe_var (i := 1) rfl (by first | exact Or.inl rfl | exact Or.inr (Or.inl rfl) | exact Or.inr (Or.inr rfl))))), ?_⟩
    refine ⟨x, rfl, .ref a, rfl, a, C, rfl, T, no _ (by simp), .inl ⟨ha, fun dx hd ne => ?_⟩⟩
    have h1 := init_first (C := C) (fs := [("spot", x)]) hd ne
    exact k _ h1.1 (.inr ⟨dx, h1.2⟩)
abbrev i_NotKept : Stmt := inClass (topS 27) 0
theorem sc_i_NotKept : FnScope ["self", "index", "fault"] ["self", "index", "fault"] (defScope i_NotKept) := ⟨rfl, rfl, rfl, by decide +kernel, rfl, by decide +kernel, by decide +kernel⟩
theorem I_NotKept {C f : Addr} {fd : FuncData} (F : Fun K "__init__" "NotKept.__init__" i_NotKept f fd) (T : OexC K C) (no : ∀ n ∈ (["index", "fault"] : List Str), PySem.W.findIn K (.ref C) n = some none) : FnG P w K mg base 1 f fd ["self", "index", "fault"] (spIn C ["index", "fault"]) := by
  refine fnG_of F sc_i_NotKept (fun vs H Q E ⟨a, ws, e, hl, _⟩ => by rw [e, List.length_cons, hl]; rfl) fun cd A outer s H vs Q hr gu ⟨a, ws, e, hl, ha, k⟩ => ?_
  match ws, hl with
  | [x, y], _ =>
    subst e
    refine ⟨_, (pss_cons (ps_ost (pe_var (i := 0) rfl (by first | exact Or.inl rfl | exact Or.inr (Or.inl rfl) | exact Or.inr (Or.inr rfl))) (pe_var (i := 1) rfl (by first | exact Or.inl rfl | exact Or.inr (Or.inl rfl) | exact Or.inr (Or.inr rfl)))) (pss_one (ps_ost (pe_var (i := 0) rfl (by first | exact Or.inl rfl | exact Or.inr (Or.inl rfl) | exact Or.inr (Or.inr rfl))) (pe_var (i := 2) rfl (by first | exact Or.inl rfl | exact Or.inr (Or.inl rfl) | exact Or.inr (Or.inr rfl)))))), ?_⟩
    refine ⟨x, rfl, .ref a, rfl, a, C, rfl, T, no _ (by simp), .inl ⟨ha, fun dx hd ne => ?_⟩⟩
    have h1 := init_first (C := C) (fs := [("index", x)]) hd ne
    exact ⟨y, rfl, .ref a, rfl, a, C, rfl, T, no _ (by simp), .inr ⟨dx, _, h1.2.1, h1.2.2, Nat.le_of_ble_eq_true rfl, k _ (init_more hd ne h1).1 (.inr ⟨dx, (init_more hd ne h1).2⟩)⟩⟩
abbrev i_Parted : Stmt := inClass (topS 29) 0
theorem sc_i_Parted : FnScope ["self", "worth", "way", "other"] ["self", "worth", "way", "other"] (defScope i_Parted) := ⟨rfl, rfl, rfl, by decide +kernel, rfl, by decide +kernel, by decide +kernel⟩
theorem I_Parted {C f : Addr} {fd : FuncData} (F : Fun K "__init__" "Parted.__init__" i_Parted f fd) (T : OexC K C) (no : ∀ n ∈ (["worth", "way", "other"] : List Str), PySem.W.findIn K (.ref C) n = some none) : FnG P w K mg base 1 f fd ["self", "worth", "way", "other"] (spIn C ["worth", "way", "other"]) := by
  refine fnG_of F sc_i_Parted (fun vs H Q E ⟨a, ws, e, hl, _⟩ => by rw [e, List.length_cons, hl]; rfl) fun cd A outer s H vs Q hr gu ⟨a, ws, e, hl, ha, k⟩ => ?_
  match ws, hl with
  | [x, y, z], _ =>
    subst e
    refine ⟨_, (pss_cons (ps_ost (pe_var (i := 0) rfl (by first | exact Or.inl rfl | exact Or.inr (Or.inl rfl) | exact Or.inr (Or.inr rfl))) (pe_var (i := 1) rfl (by first | exact Or.inl rfl | exact Or.inr (Or.inl rfl) | exact Or.inr (Or.inr rfl)))) (pss_cons (ps_ost (pe_var (i := 0) rfl (by first | exact Or.inl rfl | exact Or.inr (Or.inl rfl) | exact Or.inr (Or.inr rfl))) (pe_var (i := 2) rfl (by first | exact Or.inl rfl | exact Or.inr (Or.inl rfl) | exact Or.inr (Or.inr rfl)))) (pss_one (ps_ost (pe_var (i := 0) rfl (by first | exact Or.inl rfl | exact Or.inr (Or.inl rfl) | exact Or.inr (Or.inr rfl))) (pe_var (i := 3) rfl (by first | exact Or.inl rfl | exact Or.inr (Or.inl rfl) | exact Or.inr (Or.inr rfl))))))), ?_⟩
    refine ⟨x, rfl, .ref a, rfl, a, C, rfl, T, no _ (by simp), .inl ⟨ha, fun dx hd ne => ?_⟩⟩
    have h1 := init_first (C := C) (fs := [("worth", x)]) hd ne
    exact ⟨y, rfl, .ref a, rfl, a, C, rfl, T, no _ (by simp), .inr ⟨dx, _, h1.2.1, h1.2.2, Nat.le_of_ble_eq_true rfl, ⟨z, rfl, .ref a, rfl, a, C, rfl, T, no _ (by simp), .inr ⟨dx, _, (init_more hd ne h1).2.1, (init_more hd ne h1).2.2, Nat.le_of_ble_eq_true rfl, k _ (init_more hd ne (init_more hd ne h1)).1 (.inr ⟨dx, (init_more hd ne (init_more hd ne h1)).2⟩)⟩⟩⟩⟩
abbrev i_Taken : Stmt := inClass (topS 30) 0
theorem sc_i_Taken : FnScope ["self", "name"] ["self", "name"] (defScope i_Taken) := ⟨rfl, rfl, rfl, by decide +kernel, rfl, by decide +kernel, by decide +kernel⟩
theorem I_Taken {C f : Addr} {fd : FuncData} (F : Fun K "__init__" "Taken.__init__" i_Taken f fd) (T : OexC K C) (no : ∀ n ∈ (["name"] : List Str), PySem.W.findIn K (.ref C) n = some none) : FnG P w K mg base 1 f fd ["self", "name"] (spIn C ["name"]) := by
  refine fnG_of F sc_i_Taken (fun vs H Q E ⟨a, ws, e, hl, _⟩ => by rw [e, List.length_cons, hl]; rfl) fun cd A outer s H vs Q hr gu ⟨a, ws, e, hl, ha, k⟩ => ?_
  match ws, hl with
  | [x], _ =>
    subst e
    refine ⟨_, (pss_one (ps_ost (pe_var (i := 0) rfl (by first | exact Or.inl rfl | exact Or.inr (Or.inl rfl) | exact Or.inr (Or.inr rfl))) (pe_var (i := 1) rfl (by first | exact Or.inl rfl | exact Or.inr (Or.inl rfl) | exact Or.inr (Or.inr rfl))))), ?_⟩
    refine ⟨x, rfl, .ref a, rfl, a, C, rfl, T, no _ (by simp), .inl ⟨ha, fun dx hd ne => ?_⟩⟩
    have h1 := init_first (C := C) (fs := [("name", x)]) hd ne
    exact k _ h1.1 (.inr ⟨dx, h1.2⟩)
abbrev i_TooMany : Stmt := inClass (topS 31) 0
theorem sc_i_TooMany : FnScope ["self", "most"] ["self", "most"] (defScope i_TooMany) := ⟨rfl, rfl, rfl, by decide +kernel, rfl, by decide +kernel, by decide +kernel⟩
theorem I_TooMany {C f : Addr} {fd : FuncData} (F : Fun K "__init__" "TooMany.__init__" i_TooMany f fd) (T : OexC K C) (no : ∀ n ∈ (["most"] : List Str), PySem.W.findIn K (.ref C) n = some none) : FnG P w K mg base 1 f fd ["self", "most"] (spIn C ["most"]) := by
  refine fnG_of F sc_i_TooMany (fun vs H Q E ⟨a, ws, e, hl, _⟩ => by rw [e, List.length_cons, hl]; rfl) fun cd A outer s H vs Q hr gu ⟨a, ws, e, hl, ha, k⟩ => ?_
  match ws, hl with
  | [x], _ =>
    subst e
    refine ⟨_, (pss_one (ps_ost (pe_var (i := 0) rfl (by first | exact Or.inl rfl | exact Or.inr (Or.inl rfl) | exact Or.inr (Or.inr rfl))) (pe_var (i := 1) rfl (by first | exact Or.inl rfl | exact Or.inr (Or.inl rfl) | exact Or.inr (Or.inr rfl))))), ?_⟩
    refine ⟨x, rfl, .ref a, rfl, a, C, rfl, T, no _ (by simp), .inl ⟨ha, fun dx hd ne => ?_⟩⟩
    have h1 := init_first (C := C) (fs := [("most", x)]) hd ne
    exact k _ h1.1 (.inr ⟨dx, h1.2⟩)
abbrev i_Wrong : Stmt := inClass (topS 33) 0
theorem sc_i_Wrong : FnScope ["self", "place"] ["self", "place"] (defScope i_Wrong) := ⟨rfl, rfl, rfl, by decide +kernel, rfl, by decide +kernel, by decide +kernel⟩
theorem I_Wrong {C f : Addr} {fd : FuncData} (F : Fun K "__init__" "Wrong.__init__" i_Wrong f fd) (T : OexC K C) (no : ∀ n ∈ (["place"] : List Str), PySem.W.findIn K (.ref C) n = some none) : FnG P w K mg base 1 f fd ["self", "place"] (spIn C ["place"]) := by
  refine fnG_of F sc_i_Wrong (fun vs H Q E ⟨a, ws, e, hl, _⟩ => by rw [e, List.length_cons, hl]; rfl) fun cd A outer s H vs Q hr gu ⟨a, ws, e, hl, ha, k⟩ => ?_
  match ws, hl with
  | [x], _ =>
    subst e
    refine ⟨_, (pss_one (ps_ost (pe_var (i := 0) rfl (by first | exact Or.inl rfl | exact Or.inr (Or.inl rfl) | exact Or.inr (Or.inr rfl))) (pe_var (i := 1) rfl (by first | exact Or.inl rfl | exact Or.inr (Or.inl rfl) | exact Or.inr (Or.inr rfl))))), ?_⟩
    refine ⟨x, rfl, .ref a, rfl, a, C, rfl, T, no _ (by simp), .inl ⟨ha, fun dx hd ne => ?_⟩⟩
    have h1 := init_first (C := C) (fs := [("place", x)]) hd ne
    exact k _ h1.1 (.inr ⟨dx, h1.2⟩)
/-! ### their classes -/
def mroB (W C : Addr) : List Value := [.ref C, .ref W, .type "ValueError", .type "Exception", .type "BaseException", .type "object"]
structure XcF (K : PySem.W.Frag) (mg : Str → Option Value) (W : Addr) (x : Str) (C : Addr) : Prop where
  T : XcC K C
  m : mg x = some (.ref C)
  mro : ∃ cd, PySem.W.clsIn K C = some cd ∧ cd.mro = mroB W C
structure XcN (K : PySem.W.Frag) (mg : Str → Option Value) (W : Addr) (x : Str) (C : Addr) : Prop extends XcF K mg W x C where
  i0 : PySem.W.findIn K (.ref C) "__init__" = some (some (.builtin "ValueError.__init__"))
structure XcG (K : PySem.W.Frag) (mg : Str → Option Value) (W : Addr) (x q : Str) (ns : List Str) (st : Stmt) (C : Addr) : Prop extends XcF K mg W x C where
  no : ∀ n ∈ ns, PySem.W.findIn K (.ref C) n = some none
  ini : ∃ f fd, PySem.W.findIn K (.ref C) "__init__" = some (some (.ref f)) ∧ PySem.W.typeIn K (.ref f) = some (.type "function") ∧ Fun K "__init__" q st f fd ∧ Binds K fd ("self" :: ns) []
structure Errs (K : PySem.W.Frag) (mg : Str → Option Value) (W : Addr) (c : Nat → Addr) : Prop where
  e_FallsApart : XcG K mg W "FallsApart" "FallsApart.__init__" ["spot"] i_FallsApart (c 0)
  e_HasRing : XcG K mg W "HasRing" "HasRing.__init__" ["way"] i_HasRing (c 1)
  e_Joined : XcG K mg W "Joined" "Joined.__init__" ["index"] i_Joined (c 2)
  e_NoCommand : XcN K mg W "NoCommand" (c 3)
  e_NoCopy : XcG K mg W "NoCopy" "NoCopy.__init__" ["name"] i_NoCopy (c 4)
  e_NoField : XcG K mg W "NoField" "NoField.__init__" ["name"] i_NoField (c 5)
  e_NoLot : XcG K mg W "NoLot" "NoLot.__init__" ["lot"] i_NoLot (c 6)
  e_NoPast : XcG K mg W "NoPast" "NoPast.__init__" ["lot"] i_NoPast (c 7)
  e_NoPlace : XcG K mg W "NoPlace" "NoPlace.__init__" ["place"] i_NoPlace (c 8)
  e_NoRoad : XcG K mg W "NoRoad" "NoRoad.__init__" ["one", "other"] i_NoRoad (c 9)
  e_NoText : XcG K mg W "NoText" "NoText.__init__" ["line"] i_NoText (c 10)
  e_NoValue : XcG K mg W "NoValue" "NoValue.__init__" ["value"] i_NoValue (c 11)
  e_NotAnywhere : XcG K mg W "NotAnywhere" "NotAnywhere.__init__" ["way", "worth"] i_NotAnywhere (c 12)
  e_NotFinite : XcG K mg W "NotFinite" "NotFinite.__init__" ["spot"] i_NotFinite (c 13)
  e_NotKept : XcG K mg W "NotKept" "NotKept.__init__" ["index", "fault"] i_NotKept (c 14)
  e_Nothing : XcN K mg W "Nothing" (c 15)
  e_Parted : XcG K mg W "Parted" "Parted.__init__" ["worth", "way", "other"] i_Parted (c 16)
  e_Taken : XcG K mg W "Taken" "Taken.__init__" ["name"] i_Taken (c 17)
  e_TooMany : XcG K mg W "TooMany" "TooMany.__init__" ["most"] i_TooMany (c 18)
  e_Unlike : XcN K mg W "Unlike" (c 19)
  e_Wrong : XcG K mg W "Wrong" "Wrong.__init__" ["place"] i_Wrong (c 20)
  nd : ∀ i, i < 21 → ∀ j, j < 21 → c i = c j → i = j
  nw : ∀ i, i < 21 → c i ≠ W
  wm : mg "WayError" = some (.ref W)
  wc : (PySem.W.clsIn K W).isSome = true
  wt : PySem.W.typeIn K (.ref W) = some (.type "type")
section
variable {W : Addr} {c : Nat → Addr}
theorem Errs.f (E : Errs K mg W c) : ∀ i, i < 21 → XcC K (c i) ∧ ∃ cd, PySem.W.clsIn K (c i) = some cd ∧ cd.mro = mroB W (c i)
  | 0, _ => ⟨E.e_FallsApart.T, E.e_FallsApart.mro⟩
  | 1, _ => ⟨E.e_HasRing.T, E.e_HasRing.mro⟩
  | 2, _ => ⟨E.e_Joined.T, E.e_Joined.mro⟩
  | 3, _ => ⟨E.e_NoCommand.T, E.e_NoCommand.mro⟩
  | 4, _ => ⟨E.e_NoCopy.T, E.e_NoCopy.mro⟩
  | 5, _ => ⟨E.e_NoField.T, E.e_NoField.mro⟩
  | 6, _ => ⟨E.e_NoLot.T, E.e_NoLot.mro⟩
  | 7, _ => ⟨E.e_NoPast.T, E.e_NoPast.mro⟩
  | 8, _ => ⟨E.e_NoPlace.T, E.e_NoPlace.mro⟩
  | 9, _ => ⟨E.e_NoRoad.T, E.e_NoRoad.mro⟩
  | 10, _ => ⟨E.e_NoText.T, E.e_NoText.mro⟩
  | 11, _ => ⟨E.e_NoValue.T, E.e_NoValue.mro⟩
  | 12, _ => ⟨E.e_NotAnywhere.T, E.e_NotAnywhere.mro⟩
  | 13, _ => ⟨E.e_NotFinite.T, E.e_NotFinite.mro⟩
  | 14, _ => ⟨E.e_NotKept.T, E.e_NotKept.mro⟩
  | 15, _ => ⟨E.e_Nothing.T, E.e_Nothing.mro⟩
  | 16, _ => ⟨E.e_Parted.T, E.e_Parted.mro⟩
  | 17, _ => ⟨E.e_Taken.T, E.e_Taken.mro⟩
  | 18, _ => ⟨E.e_TooMany.T, E.e_TooMany.mro⟩
  | 19, _ => ⟨E.e_Unlike.T, E.e_Unlike.mro⟩
  | 20, _ => ⟨E.e_Wrong.T, E.e_Wrong.mro⟩
  | n + 21, h => absurd h (by omega)
theorem Errs.mro (E : Errs K mg W c) {i : Nat} (hi : i < 21) (v : Value) : PySem.W.subIn K (.ref (c i)) v = some ((mroB W (c i)).contains v) := by
  obtain ⟨cd, e1, e2⟩ := (E.f i hi).2
  show PySem.W.mroIn K (c i) v = _
  unfold PySem.W.mroIn
  rw [e1, Option.bind_some, e2, if_neg (by intro z; cases z)]
theorem Errs.kc (E : Errs K mg W c) {i j : Nat} (hi : i < 21) (hj : j < 21) : PySem.W.kitOne K (.ref (c i)) (.ref (c j)) = some (decide (i = j)) := by
  unfold PySem.W.kitOne
  by_cases h : i = j
  · subst h
    rw [if_pos (beq_self_eq_true _), decide_eq_true rfl]
  · have ne : c i ≠ c j := fun e => h (E.nd i hi j hj e)
    have nb : (Value.ref (c i) == Value.ref (c j)) = false := beq_eq_false_iff_ne.mpr fun e => ne (Value.ref.inj e)
    rw [nb, if_neg (by decide), decide_eq_false h]
    show (if ((PySem.W.clsIn K (c j)).isSome && PySem.W.typeIn K (.ref (c j)) == some (.type "type")) = true then PySem.W.subIn K (.ref (c i)) (.ref (c j)) else none) = _
    rw [if_pos (by rw [(E.f j hj).1.cl, (E.f j hj).1.T.tyC]; rfl), E.mro hi]
    have hw : c j ≠ W := E.nw j hj
    unfold mroB
    simp [ne.symm, hw]
theorem Errs.kw (E : Errs K mg W c) {i : Nat} (hi : i < 21) : PySem.W.kitOne K (.ref (c i)) (.ref W) = some true := by
  unfold PySem.W.kitOne
  have nb : (Value.ref (c i) == Value.ref W) = false := beq_eq_false_iff_ne.mpr fun e => E.nw i hi (Value.ref.inj e)
  rw [nb, if_neg (by decide)]
  show (if ((PySem.W.clsIn K W).isSome && PySem.W.typeIn K (.ref W) == some (.type "type")) = true then PySem.W.subIn K (.ref (c i)) (.ref W) else none) = _
  rw [if_pos (by rw [E.wc, E.wt]; rfl), E.mro hi]
  unfold mroB
  simp
theorem Errs.kv (E : Errs K mg W c) {i : Nat} (hi : i < 21) : PySem.W.kitOne K (.ref (c i)) (.type "ValueError") = some true := by
  unfold PySem.W.kitOne
  rw [if_neg (by intro z; exact nomatch (eq_of_beq z))]
  show (if PySem.W.kitMeta "ValueError" = true then PySem.W.subIn K (.ref (c i)) (.type "ValueError") else none) = _
  rw [if_pos (by decide +kernel), E.mro hi]
  unfold mroB
  simp
/-! ### defs by a raw promise -/
structure FnR (P : Program) (w : World) (K : PySem.W.Frag) (mg : Str → Option Value) (base : Heap) (k : Nat) (x : Str) (ps : List Str) (sp : Sp) : Prop where
  ex : ∃ f fd, FnG P w K mg base k f fd ps sp ∧ mg x = some (.ref f) ∧ PySem.W.keepIn K (.ref f) = true ∧ Binds K fd ps []
def cf1 (c : Nat → Addr) (x y z : V) : List (Addr × List (Str × V)) := [(c 0, [("spot", x)]), (c 1, [("way", x)]), (c 2, [("index", x)]), (c 3, []), (c 4, [("name", x)]), (c 5, [("name", x)]), (c 6, [("lot", x)])]
def cf2 (c : Nat → Addr) (x y z : V) : List (Addr × List (Str × V)) := [(c 7, [("lot", x)]), (c 8, [("place", x)]), (c 9, [("other", y), ("one", x)]), (c 10, [("line", x)]), (c 11, [("value", x)]), (c 12, [("worth", y), ("way", x)])]
def cf3 (c : Nat → Addr) (x y z : V) : List (Addr × List (Str × V)) := [(c 13, [("spot", x)]), (c 14, [("fault", y), ("index", x)]), (c 15, []), (c 16, [("other", z), ("way", y), ("worth", x)]), (c 17, [("name", x)]), (c 18, [("most", x)])]
def cf4 (c : Nat → Addr) (x y z : V) : List (Addr × List (Str × V)) := [(c 19, []), (c 20, [("place", x)])]
def cfs (c : Nat → Addr) (x y z : V) : List (Addr × List (Str × V)) := ((cf1 c x y z ++ cf2 c x y z) ++ cf3 c x y z) ++ cf4 c x y z
def spErr (c : Nat → Addr) : Sp := fun vs H Q _ => ∃ x y z, vs = [x, y, z] ∧ ∀ p as H2, Ex H H2 → H p = none → H2 p = some (.lst (as.map V.ref)) → XcL H2 as (cfs c x y z) → Q (.ref p) H2
theorem B_law_errors (D : DefOk K mg "_law_errors" s_law_errors ["one", "two", "three"]) (E : Errs K mg W c) : FnR P w K mg base 3 "_law_errors" ["one", "two", "three"] (spErr c) := by
  obtain ⟨f, fd, F, m, b⟩ := D.ex
  refine ⟨⟨f, fd, fnG_of F sc_law_errors (fun vs H Q E ⟨x, y, z, e, _⟩ => by rw [e]; rfl) (fun cd A outer s H vs Q hr gu h => ?_), m, F.kp, b⟩⟩
  obtain ⟨x, y, z, rfl, k⟩ := h
  obtain ⟨f_0, fd_0, i_0, t_0, F_0, b_0⟩ := E.e_FallsApart.ini
  have I_0 := I_FallsApart (P := P) (w := w) (mg := mg) (base := base) F_0 E.e_FallsApart.T.T E.e_FallsApart.no
  obtain ⟨f_1, fd_1, i_1, t_1, F_1, b_1⟩ := E.e_HasRing.ini
  have I_1 := I_HasRing (P := P) (w := w) (mg := mg) (base := base) F_1 E.e_HasRing.T.T E.e_HasRing.no
  obtain ⟨f_2, fd_2, i_2, t_2, F_2, b_2⟩ := E.e_Joined.ini
  have I_2 := I_Joined (P := P) (w := w) (mg := mg) (base := base) F_2 E.e_Joined.T.T E.e_Joined.no
  obtain ⟨f_4, fd_4, i_4, t_4, F_4, b_4⟩ := E.e_NoCopy.ini
  have I_4 := I_NoCopy (P := P) (w := w) (mg := mg) (base := base) F_4 E.e_NoCopy.T.T E.e_NoCopy.no
  obtain ⟨f_5, fd_5, i_5, t_5, F_5, b_5⟩ := E.e_NoField.ini
  have I_5 := I_NoField (P := P) (w := w) (mg := mg) (base := base) F_5 E.e_NoField.T.T E.e_NoField.no
  obtain ⟨f_6, fd_6, i_6, t_6, F_6, b_6⟩ := E.e_NoLot.ini
  have I_6 := I_NoLot (P := P) (w := w) (mg := mg) (base := base) F_6 E.e_NoLot.T.T E.e_NoLot.no
  obtain ⟨f_7, fd_7, i_7, t_7, F_7, b_7⟩ := E.e_NoPast.ini
  have I_7 := I_NoPast (P := P) (w := w) (mg := mg) (base := base) F_7 E.e_NoPast.T.T E.e_NoPast.no
  obtain ⟨f_8, fd_8, i_8, t_8, F_8, b_8⟩ := E.e_NoPlace.ini
  have I_8 := I_NoPlace (P := P) (w := w) (mg := mg) (base := base) F_8 E.e_NoPlace.T.T E.e_NoPlace.no
  obtain ⟨f_9, fd_9, i_9, t_9, F_9, b_9⟩ := E.e_NoRoad.ini
  have I_9 := I_NoRoad (P := P) (w := w) (mg := mg) (base := base) F_9 E.e_NoRoad.T.T E.e_NoRoad.no
  obtain ⟨f_10, fd_10, i_10, t_10, F_10, b_10⟩ := E.e_NoText.ini
  have I_10 := I_NoText (P := P) (w := w) (mg := mg) (base := base) F_10 E.e_NoText.T.T E.e_NoText.no
  obtain ⟨f_11, fd_11, i_11, t_11, F_11, b_11⟩ := E.e_NoValue.ini
  have I_11 := I_NoValue (P := P) (w := w) (mg := mg) (base := base) F_11 E.e_NoValue.T.T E.e_NoValue.no
  obtain ⟨f_12, fd_12, i_12, t_12, F_12, b_12⟩ := E.e_NotAnywhere.ini
  have I_12 := I_NotAnywhere (P := P) (w := w) (mg := mg) (base := base) F_12 E.e_NotAnywhere.T.T E.e_NotAnywhere.no
  obtain ⟨f_13, fd_13, i_13, t_13, F_13, b_13⟩ := E.e_NotFinite.ini
  have I_13 := I_NotFinite (P := P) (w := w) (mg := mg) (base := base) F_13 E.e_NotFinite.T.T E.e_NotFinite.no
  obtain ⟨f_14, fd_14, i_14, t_14, F_14, b_14⟩ := E.e_NotKept.ini
  have I_14 := I_NotKept (P := P) (w := w) (mg := mg) (base := base) F_14 E.e_NotKept.T.T E.e_NotKept.no
  obtain ⟨f_16, fd_16, i_16, t_16, F_16, b_16⟩ := E.e_Parted.ini
  have I_16 := I_Parted (P := P) (w := w) (mg := mg) (base := base) F_16 E.e_Parted.T.T E.e_Parted.no
  obtain ⟨f_17, fd_17, i_17, t_17, F_17, b_17⟩ := E.e_Taken.ini
  have I_17 := I_Taken (P := P) (w := w) (mg := mg) (base := base) F_17 E.e_Taken.T.T E.e_Taken.no
  obtain ⟨f_18, fd_18, i_18, t_18, F_18, b_18⟩ := E.e_TooMany.ini
  have I_18 := I_TooMany (P := P) (w := w) (mg := mg) (base := base) F_18 E.e_TooMany.T.T E.e_TooMany.no
  obtain ⟨f_20, fd_20, i_20, t_20, F_20, b_20⟩ := E.e_Wrong.ini
  have I_20 := I_Wrong (P := P) (w := w) (mg := mg) (base := base) F_20 E.e_Wrong.T.T E.e_Wrong.no
  refine ⟨_, (pss_cut (ps_set (i := 3) sc_law_errors.nd rfl (.inl rfl) (pe_lst (pa_cons (pe_mkX E.e_FallsApart.T.T i_0 t_0 I_0 hr gu b_0 rfl E.e_FallsApart.m (pa_cons (pe_var (i := 0) rfl (by first | exact Or.inl rfl | exact Or.inr (Or.inl rfl) | exact Or.inr (Or.inr rfl))) pa_nil)) (pa_cons (pe_mkX E.e_HasRing.T.T i_1 t_1 I_1 hr gu b_1 rfl E.e_HasRing.m (pa_cons (pe_var (i := 0) rfl (by first | exact Or.inl rfl | exact Or.inr (Or.inl rfl) | exact Or.inr (Or.inr rfl))) pa_nil)) (pa_cons (pe_mkX E.e_Joined.T.T i_2 t_2 I_2 hr gu b_2 rfl E.e_Joined.m (pa_cons (pe_var (i := 0) rfl (by first | exact Or.inl rfl | exact Or.inr (Or.inl rfl) | exact Or.inr (Or.inr rfl))) pa_nil)) (pa_cons (pe_mk0 E.e_NoCommand.T.T E.e_NoCommand.i0 rfl E.e_NoCommand.m) (pa_cons (pe_mkX E.e_NoCopy.T.T i_4 t_4 I_4 hr gu b_4 rfl E.e_NoCopy.m (pa_cons (pe_var (i := 0) rfl (by first | exact Or.inl rfl | exact Or.inr (Or.inl rfl) | exact Or.inr (Or.inr rfl))) pa_nil)) (pa_cons (pe_mkX E.e_NoField.T.T i_5 t_5 I_5 hr gu b_5 rfl E.e_NoField.m (pa_cons (pe_var (i := 0) rfl (by first | exact Or.inl rfl | exact Or.inr (Or.inl rfl) | exact Or.inr (Or.inr rfl))) pa_nil)) (pa_cons (pe_mkX E.e_NoLot.T.T i_6 t_6 I_6 hr gu b_6 rfl E.e_NoLot.m (pa_cons (pe_var (i := 0) rfl (by first | exact Or.inl rfl | exact Or.inr (Or.inl rfl) | exact Or.inr (Or.inr rfl))) pa_nil)) pa_nil)))))))))
    (pss_cut (ps_expr (pe_bm PySem.F.plainAttrs_list PySem.F.slot_list_extend PySem.F.type_list_extend mt_extend (pe_var (i := 3) rfl (by first | exact Or.inl rfl | exact Or.inr (Or.inl rfl) | exact Or.inr (Or.inr rfl))) (pa_cons (pe_lst (pa_cons (pe_mkX E.e_NoPast.T.T i_7 t_7 I_7 hr gu b_7 rfl E.e_NoPast.m (pa_cons (pe_var (i := 0) rfl (by first | exact Or.inl rfl | exact Or.inr (Or.inl rfl) | exact Or.inr (Or.inr rfl))) pa_nil)) (pa_cons (pe_mkX E.e_NoPlace.T.T i_8 t_8 I_8 hr gu b_8 rfl E.e_NoPlace.m (pa_cons (pe_var (i := 0) rfl (by first | exact Or.inl rfl | exact Or.inr (Or.inl rfl) | exact Or.inr (Or.inr rfl))) pa_nil)) (pa_cons (pe_mkX E.e_NoRoad.T.T i_9 t_9 I_9 hr gu b_9 rfl E.e_NoRoad.m (pa_cons (pe_var (i := 0) rfl (by first | exact Or.inl rfl | exact Or.inr (Or.inl rfl) | exact Or.inr (Or.inr rfl))) (pa_cons (pe_var (i := 1) rfl (by first | exact Or.inl rfl | exact Or.inr (Or.inl rfl) | exact Or.inr (Or.inr rfl))) pa_nil))) (pa_cons (pe_mkX E.e_NoText.T.T i_10 t_10 I_10 hr gu b_10 rfl E.e_NoText.m (pa_cons (pe_var (i := 0) rfl (by first | exact Or.inl rfl | exact Or.inr (Or.inl rfl) | exact Or.inr (Or.inr rfl))) pa_nil)) (pa_cons (pe_mkX E.e_NoValue.T.T i_11 t_11 I_11 hr gu b_11 rfl E.e_NoValue.m (pa_cons (pe_var (i := 0) rfl (by first | exact Or.inl rfl | exact Or.inr (Or.inl rfl) | exact Or.inr (Or.inr rfl))) pa_nil)) (pa_cons (pe_mkX E.e_NotAnywhere.T.T i_12 t_12 I_12 hr gu b_12 rfl E.e_NotAnywhere.m (pa_cons (pe_var (i := 0) rfl (by first | exact Or.inl rfl | exact Or.inr (Or.inl rfl) | exact Or.inr (Or.inr rfl))) (pa_cons (pe_var (i := 1) rfl (by first | exact Or.inl rfl | exact Or.inr (Or.inl rfl) | exact Or.inr (Or.inr rfl))) pa_nil))) pa_nil))))))) pa_nil)))
    (pss_cut (ps_expr (pe_bm PySem.F.plainAttrs_list PySem.F.slot_list_extend PySem.F.type_list_extend mt_extend (pe_var (i := 3) rfl (by first | exact Or.inl rfl | exact Or.inr (Or.inl rfl) | exact Or.inr (Or.inr rfl))) (pa_cons (pe_lst (pa_cons (pe_mkX E.e_NotFinite.T.T i_13 t_13 I_13 hr gu b_13 rfl E.e_NotFinite.m (pa_cons (pe_var (i := 0) rfl (by first | exact Or.inl rfl | exact Or.inr (Or.inl rfl) | exact Or.inr (Or.inr rfl))) pa_nil)) (pa_cons (pe_mkX E.e_NotKept.T.T i_14 t_14 I_14 hr gu b_14 rfl E.e_NotKept.m (pa_cons (pe_var (i := 0) rfl (by first | exact Or.inl rfl | exact Or.inr (Or.inl rfl) | exact Or.inr (Or.inr rfl))) (pa_cons (pe_var (i := 1) rfl (by first | exact Or.inl rfl | exact Or.inr (Or.inl rfl) | exact Or.inr (Or.inr rfl))) pa_nil))) (pa_cons (pe_mk0 E.e_Nothing.T.T E.e_Nothing.i0 rfl E.e_Nothing.m) (pa_cons (pe_mkX E.e_Parted.T.T i_16 t_16 I_16 hr gu b_16 rfl E.e_Parted.m (pa_cons (pe_var (i := 0) rfl (by first | exact Or.inl rfl | exact Or.inr (Or.inl rfl) | exact Or.inr (Or.inr rfl))) (pa_cons (pe_var (i := 1) rfl (by first | exact Or.inl rfl | exact Or.inr (Or.inl rfl) | exact Or.inr (Or.inr rfl))) (pa_cons (pe_var (i := 2) rfl (by first | exact Or.inl rfl | exact Or.inr (Or.inl rfl) | exact Or.inr (Or.inr rfl))) pa_nil)))) (pa_cons (pe_mkX E.e_Taken.T.T i_17 t_17 I_17 hr gu b_17 rfl E.e_Taken.m (pa_cons (pe_var (i := 0) rfl (by first | exact Or.inl rfl | exact Or.inr (Or.inl rfl) | exact Or.inr (Or.inr rfl))) pa_nil)) (pa_cons (pe_mkX E.e_TooMany.T.T i_18 t_18 I_18 hr gu b_18 rfl E.e_TooMany.m (pa_cons (pe_var (i := 0) rfl (by first | exact Or.inl rfl | exact Or.inr (Or.inl rfl) | exact Or.inr (Or.inr rfl))) pa_nil)) pa_nil))))))) pa_nil)))
    (pss_one (ps_ret (pe_op op_cat (pe_var (i := 3) rfl (by first | exact Or.inl rfl | exact Or.inr (Or.inl rfl) | exact Or.inr (Or.inr rfl))) (pe_lst (pa_cons (pe_mk0 E.e_Unlike.T.T E.e_Unlike.i0 rfl E.e_Unlike.m) (pa_cons (pe_mkX E.e_Wrong.T.T i_20 t_20 I_20 hr gu b_20 rfl E.e_Wrong.m (pa_cons (pe_var (i := 0) rfl (by first | exact Or.inl rfl | exact Or.inr (Or.inl rfl) | exact Or.inr (Or.inr rfl))) pa_nil)) pa_nil))))))))), ?_⟩
  have ev1 : EvXA _ [some x, some y, some z, none] H (cf1 c x y z) := (evxa_cons (evx_mk (ns := ["spot"]) (ea_cons (ev_var (i := 0) (v := x) rfl) ea_nil) rfl (Nat.le_of_ble_eq_true rfl)) (evxa_cons (evx_mk (ns := ["way"]) (ea_cons (ev_var (i := 0) (v := x) rfl) ea_nil) rfl (Nat.le_of_ble_eq_true rfl)) (evxa_cons (evx_mk (ns := ["index"]) (ea_cons (ev_var (i := 0) (v := x) rfl) ea_nil) rfl (Nat.le_of_ble_eq_true rfl)) (evxa_cons evx_mk0 (evxa_cons (evx_mk (ns := ["name"]) (ea_cons (ev_var (i := 0) (v := x) rfl) ea_nil) rfl (Nat.le_of_ble_eq_true rfl)) (evxa_cons (evx_mk (ns := ["name"]) (ea_cons (ev_var (i := 0) (v := x) rfl) ea_nil) rfl (Nat.le_of_ble_eq_true rfl)) (evxa_cons (evx_mk (ns := ["lot"]) (ea_cons (ev_var (i := 0) (v := x) rfl) ea_nil) rfl (Nat.le_of_ble_eq_true rfl)) evxa_nil)))))))
  refine ⟨fun σ' H' => ∃ p as, σ' = [some x, some y, some z, some (.ref p)] ∧ Ex H H' ∧ H p = none ∧ H' p = some (.lst (as.map V.ref)) ∧ XcL H' as (cf1 c x y z), el_lstX ev1 (Nat.le_of_ble_eq_true rfl) H (Ex.refl _) _ fun p as H2 hp e2 h2 hx => ⟨p, as, rfl, e2, hp, h2, hx⟩, ?_⟩
  rintro σ1 H1 ⟨p, as, rfl, e1, hp, h1, hx⟩
  have ev2 : EvXA _ [some x, some y, some z, some (.ref p)] H1 (cf2 c x y z) := (evxa_cons (evx_mk (ns := ["lot"]) (ea_cons (ev_var (i := 0) (v := x) rfl) ea_nil) rfl (Nat.le_of_ble_eq_true rfl)) (evxa_cons (evx_mk (ns := ["place"]) (ea_cons (ev_var (i := 0) (v := x) rfl) ea_nil) rfl (Nat.le_of_ble_eq_true rfl)) (evxa_cons (evx_mk (ns := ["one", "other"]) (ea_cons (ev_var (i := 0) (v := x) rfl) (ea_cons (ev_var (i := 1) (v := y) rfl) ea_nil)) rfl (Nat.le_of_ble_eq_true rfl)) (evxa_cons (evx_mk (ns := ["line"]) (ea_cons (ev_var (i := 0) (v := x) rfl) ea_nil) rfl (Nat.le_of_ble_eq_true rfl)) (evxa_cons (evx_mk (ns := ["value"]) (ea_cons (ev_var (i := 0) (v := x) rfl) ea_nil) rfl (Nat.le_of_ble_eq_true rfl)) (evxa_cons (evx_mk (ns := ["way", "worth"]) (ea_cons (ev_var (i := 0) (v := x) rfl) (ea_cons (ev_var (i := 1) (v := y) rfl) ea_nil)) rfl (Nat.le_of_ble_eq_true rfl)) evxa_nil))))))
  refine ⟨fun σ' H' => ∃ p as, σ' = [some x, some y, some z, some (.ref p)] ∧ Ex H H' ∧ H p = none ∧ H' p = some (.lst (as.map V.ref)) ∧ XcL H' as (cf1 c x y z ++ cf2 c x y z), s_extX e1 hp rfl h1 hx ev2 (Nat.le_of_ble_eq_true rfl) (Nat.le_of_ble_eq_true rfl) fun as' H' e' h' hx' => ⟨p, as', rfl, e', hp, h', hx'⟩, ?_⟩
  rintro σ1 H1 ⟨p, as, rfl, e1, hp, h1, hx⟩
  have ev3 : EvXA _ [some x, some y, some z, some (.ref p)] H1 (cf3 c x y z) := (evxa_cons (evx_mk (ns := ["spot"]) (ea_cons (ev_var (i := 0) (v := x) rfl) ea_nil) rfl (Nat.le_of_ble_eq_true rfl)) (evxa_cons (evx_mk (ns := ["index", "fault"]) (ea_cons (ev_var (i := 0) (v := x) rfl) (ea_cons (ev_var (i := 1) (v := y) rfl) ea_nil)) rfl (Nat.le_of_ble_eq_true rfl)) (evxa_cons evx_mk0 (evxa_cons (evx_mk (ns := ["worth", "way", "other"]) (ea_cons (ev_var (i := 0) (v := x) rfl) (ea_cons (ev_var (i := 1) (v := y) rfl) (ea_cons (ev_var (i := 2) (v := z) rfl) ea_nil))) rfl (Nat.le_of_ble_eq_true rfl)) (evxa_cons (evx_mk (ns := ["name"]) (ea_cons (ev_var (i := 0) (v := x) rfl) ea_nil) rfl (Nat.le_of_ble_eq_true rfl)) (evxa_cons (evx_mk (ns := ["most"]) (ea_cons (ev_var (i := 0) (v := x) rfl) ea_nil) rfl (Nat.le_of_ble_eq_true rfl)) evxa_nil))))))
  refine ⟨fun σ' H' => ∃ p as, σ' = [some x, some y, some z, some (.ref p)] ∧ Ex H H' ∧ H p = none ∧ H' p = some (.lst (as.map V.ref)) ∧ XcL H' as ((cf1 c x y z ++ cf2 c x y z) ++ cf3 c x y z), s_extX e1 hp rfl h1 hx ev3 (Nat.le_of_ble_eq_true rfl) (Nat.le_of_ble_eq_true rfl) fun as' H' e' h' hx' => ⟨p, as', rfl, e', hp, h', hx'⟩, ?_⟩
  rintro σ1 H1 ⟨p, as, rfl, e1, hp, h1, hx⟩
  have ev4 : EvXA _ [some x, some y, some z, some (.ref p)] H1 (cf4 c x y z) := (evxa_cons evx_mk0 (evxa_cons (evx_mk (ns := ["place"]) (ea_cons (ev_var (i := 0) (v := x) rfl) ea_nil) rfl (Nat.le_of_ble_eq_true rfl)) evxa_nil))
  refine ⟨.ref p, rfl, el_lstX ev4 (Nat.le_of_ble_eq_true rfl) H1 (Ex.refl _) _ fun q as2 H2 hq e2 h2 hx2 => ⟨p, q, as.map V.ref, as2.map V.ref, rfl, rfl, e2 p _ h1, h2, ?_, fun r hr => k r (as ++ as2) _ (e1.trans (e2.trans (Ex.new hr))) (fresh_back (e1.trans e2) hr) (by rw [upd_same, List.map_append]) (((hx.ex e2).append hx2).ex (Ex.new hr))⟩⟩
  refine sz_of ?_
  rw [List.length_map, List.length_map, hx.length, hx2.length]
  exact Nat.le_of_ble_eq_true rfl
end
end K10
end
section
set_option autoImplicit false
set_option linter.all false
set_option maxRecDepth 100000
set_option maxHeartbeats 4000000
namespace K10
open PySem PySem.Spec L2 DL Evl
variable {P : Program} {w : World} {K : PySem.W.Frag} {mg : Str → Option Value} {base : Heap} {W : Addr} {c : Nat → Addr}
/-! ### the classes that an error is of -/
theorem boot_isI : bootBuiltins "isinstance" = some (.builtin "isinstance") := by decide +kernel
def spCls (c : Nat → Addr) : Sp := fun vs H Q _ => ∃ (a : Addr) (i : Nat) (fs : List (Str × V)), vs = [.ref a] ∧ i < 21 ∧ XcAt H a (c i) fs ∧ ∀ p H2, Ex H H2 → H p = none → H2 p = some (.lst [.int i]) → Q (.ref p) H2
theorem given_one : ∀ i, i < 21 → given 21 (fun k => decide (i = k)) (fun k => V.int k) = [V.int i] := by decide
theorem B_law_classes (D : DefOk K mg "_law_classes" s_law_classes ["error"]) (T : Txt mg) (E : Errs K mg W c) : FnR P w K mg base 3 "_law_classes" ["error"] (spCls c) := by
  obtain ⟨f, fd, F, m, b⟩ := D.ex
  refine ⟨⟨f, fd, fnG_of F sc_law_classes (fun vs H Q E ⟨a, i, fs, e, _⟩ => by rw [e]; rfl) (fun cd A outer s H vs Q hr gu h => ?_), m, F.kp, b⟩⟩
  obtain ⟨a, i, fs, rfl, hi, hx, k⟩ := h
  refine ⟨_, (pss_cut (ps_set (i := 1) sc_law_classes.nd rfl (by first | exact Or.inl rfl | exact Or.inr rfl) (pe_lst (pa_cons (pe_callB call_isX rfl T.b_isinstance boot_isI (pa_cons (pe_var (i := 0) rfl (by first | exact Or.inl rfl | exact Or.inr (Or.inl rfl) | exact Or.inr (Or.inr rfl))) (pa_cons (pe_glob (v := .ref (c 0)) rfl E.e_FallsApart.m rfl) pa_nil))) (pa_cons (pe_callB call_isX rfl T.b_isinstance boot_isI (pa_cons (pe_var (i := 0) rfl (by first | exact Or.inl rfl | exact Or.inr (Or.inl rfl) | exact Or.inr (Or.inr rfl))) (pa_cons (pe_glob (v := .ref (c 1)) rfl E.e_HasRing.m rfl) pa_nil))) (pa_cons (pe_callB call_isX rfl T.b_isinstance boot_isI (pa_cons (pe_var (i := 0) rfl (by first | exact Or.inl rfl | exact Or.inr (Or.inl rfl) | exact Or.inr (Or.inr rfl))) (pa_cons (pe_glob (v := .ref (c 2)) rfl E.e_Joined.m rfl) pa_nil))) pa_nil)))))
    (pss_cut (ps_expr (pe_bm PySem.F.plainAttrs_list PySem.F.slot_list_extend PySem.F.type_list_extend mt_extend (pe_var (i := 1) rfl (by first | exact Or.inl rfl | exact Or.inr (Or.inl rfl) | exact Or.inr (Or.inr rfl))) (pa_cons (pe_lst (pa_cons (pe_callB call_isX rfl T.b_isinstance boot_isI (pa_cons (pe_var (i := 0) rfl (by first | exact Or.inl rfl | exact Or.inr (Or.inl rfl) | exact Or.inr (Or.inr rfl))) (pa_cons (pe_glob (v := .ref (c 3)) rfl E.e_NoCommand.m rfl) pa_nil))) (pa_cons (pe_callB call_isX rfl T.b_isinstance boot_isI (pa_cons (pe_var (i := 0) rfl (by first | exact Or.inl rfl | exact Or.inr (Or.inl rfl) | exact Or.inr (Or.inr rfl))) (pa_cons (pe_glob (v := .ref (c 4)) rfl E.e_NoCopy.m rfl) pa_nil))) (pa_cons (pe_callB call_isX rfl T.b_isinstance boot_isI (pa_cons (pe_var (i := 0) rfl (by first | exact Or.inl rfl | exact Or.inr (Or.inl rfl) | exact Or.inr (Or.inr rfl))) (pa_cons (pe_glob (v := .ref (c 5)) rfl E.e_NoField.m rfl) pa_nil))) pa_nil)))) pa_nil)))
    (pss_cut (ps_expr (pe_bm PySem.F.plainAttrs_list PySem.F.slot_list_extend PySem.F.type_list_extend mt_extend (pe_var (i := 1) rfl (by first | exact Or.inl rfl | exact Or.inr (Or.inl rfl) | exact Or.inr (Or.inr rfl))) (pa_cons (pe_lst (pa_cons (pe_callB call_isX rfl T.b_isinstance boot_isI (pa_cons (pe_var (i := 0) rfl (by first | exact Or.inl rfl | exact Or.inr (Or.inl rfl) | exact Or.inr (Or.inr rfl))) (pa_cons (pe_glob (v := .ref (c 6)) rfl E.e_NoLot.m rfl) pa_nil))) (pa_cons (pe_callB call_isX rfl T.b_isinstance boot_isI (pa_cons (pe_var (i := 0) rfl (by first | exact Or.inl rfl | exact Or.inr (Or.inl rfl) | exact Or.inr (Or.inr rfl))) (pa_cons (pe_glob (v := .ref (c 7)) rfl E.e_NoPast.m rfl) pa_nil))) (pa_cons (pe_callB call_isX rfl T.b_isinstance boot_isI (pa_cons (pe_var (i := 0) rfl (by first | exact Or.inl rfl | exact Or.inr (Or.inl rfl) | exact Or.inr (Or.inr rfl))) (pa_cons (pe_glob (v := .ref (c 8)) rfl E.e_NoPlace.m rfl) pa_nil))) pa_nil)))) pa_nil)))
    (pss_cut (ps_expr (pe_bm PySem.F.plainAttrs_list PySem.F.slot_list_extend PySem.F.type_list_extend mt_extend (pe_var (i := 1) rfl (by first | exact Or.inl rfl | exact Or.inr (Or.inl rfl) | exact Or.inr (Or.inr rfl))) (pa_cons (pe_lst (pa_cons (pe_callB call_isX rfl T.b_isinstance boot_isI (pa_cons (pe_var (i := 0) rfl (by first | exact Or.inl rfl | exact Or.inr (Or.inl rfl) | exact Or.inr (Or.inr rfl))) (pa_cons (pe_glob (v := .ref (c 9)) rfl E.e_NoRoad.m rfl) pa_nil))) (pa_cons (pe_callB call_isX rfl T.b_isinstance boot_isI (pa_cons (pe_var (i := 0) rfl (by first | exact Or.inl rfl | exact Or.inr (Or.inl rfl) | exact Or.inr (Or.inr rfl))) (pa_cons (pe_glob (v := .ref (c 10)) rfl E.e_NoText.m rfl) pa_nil))) (pa_cons (pe_callB call_isX rfl T.b_isinstance boot_isI (pa_cons (pe_var (i := 0) rfl (by first | exact Or.inl rfl | exact Or.inr (Or.inl rfl) | exact Or.inr (Or.inr rfl))) (pa_cons (pe_glob (v := .ref (c 11)) rfl E.e_NoValue.m rfl) pa_nil))) pa_nil)))) pa_nil)))
    (pss_cut (ps_expr (pe_bm PySem.F.plainAttrs_list PySem.F.slot_list_extend PySem.F.type_list_extend mt_extend (pe_var (i := 1) rfl (by first | exact Or.inl rfl | exact Or.inr (Or.inl rfl) | exact Or.inr (Or.inr rfl))) (pa_cons (pe_lst (pa_cons (pe_callB call_isX rfl T.b_isinstance boot_isI (pa_cons (pe_var (i := 0) rfl (by first | exact Or.inl rfl | exact Or.inr (Or.inl rfl) | exact Or.inr (Or.inr rfl))) (pa_cons (pe_glob (v := .ref (c 12)) rfl E.e_NotAnywhere.m rfl) pa_nil))) (pa_cons (pe_callB call_isX rfl T.b_isinstance boot_isI (pa_cons (pe_var (i := 0) rfl (by first | exact Or.inl rfl | exact Or.inr (Or.inl rfl) | exact Or.inr (Or.inr rfl))) (pa_cons (pe_glob (v := .ref (c 13)) rfl E.e_NotFinite.m rfl) pa_nil))) (pa_cons (pe_callB call_isX rfl T.b_isinstance boot_isI (pa_cons (pe_var (i := 0) rfl (by first | exact Or.inl rfl | exact Or.inr (Or.inl rfl) | exact Or.inr (Or.inr rfl))) (pa_cons (pe_glob (v := .ref (c 14)) rfl E.e_NotKept.m rfl) pa_nil))) pa_nil)))) pa_nil)))
    (pss_cut (ps_expr (pe_bm PySem.F.plainAttrs_list PySem.F.slot_list_extend PySem.F.type_list_extend mt_extend (pe_var (i := 1) rfl (by first | exact Or.inl rfl | exact Or.inr (Or.inl rfl) | exact Or.inr (Or.inr rfl))) (pa_cons (pe_lst (pa_cons (pe_callB call_isX rfl T.b_isinstance boot_isI (pa_cons (pe_var (i := 0) rfl (by first | exact Or.inl rfl | exact Or.inr (Or.inl rfl) | exact Or.inr (Or.inr rfl))) (pa_cons (pe_glob (v := .ref (c 15)) rfl E.e_Nothing.m rfl) pa_nil))) (pa_cons (pe_callB call_isX rfl T.b_isinstance boot_isI (pa_cons (pe_var (i := 0) rfl (by first | exact Or.inl rfl | exact Or.inr (Or.inl rfl) | exact Or.inr (Or.inr rfl))) (pa_cons (pe_glob (v := .ref (c 16)) rfl E.e_Parted.m rfl) pa_nil))) (pa_cons (pe_callB call_isX rfl T.b_isinstance boot_isI (pa_cons (pe_var (i := 0) rfl (by first | exact Or.inl rfl | exact Or.inr (Or.inl rfl) | exact Or.inr (Or.inr rfl))) (pa_cons (pe_glob (v := .ref (c 17)) rfl E.e_Taken.m rfl) pa_nil))) pa_nil)))) pa_nil)))
    (pss_cut (ps_expr (pe_bm PySem.F.plainAttrs_list PySem.F.slot_list_extend PySem.F.type_list_extend mt_extend (pe_var (i := 1) rfl (by first | exact Or.inl rfl | exact Or.inr (Or.inl rfl) | exact Or.inr (Or.inr rfl))) (pa_cons (pe_lst (pa_cons (pe_callB call_isX rfl T.b_isinstance boot_isI (pa_cons (pe_var (i := 0) rfl (by first | exact Or.inl rfl | exact Or.inr (Or.inl rfl) | exact Or.inr (Or.inr rfl))) (pa_cons (pe_glob (v := .ref (c 18)) rfl E.e_TooMany.m rfl) pa_nil))) (pa_cons (pe_callB call_isX rfl T.b_isinstance boot_isI (pa_cons (pe_var (i := 0) rfl (by first | exact Or.inl rfl | exact Or.inr (Or.inl rfl) | exact Or.inr (Or.inr rfl))) (pa_cons (pe_glob (v := .ref (c 19)) rfl E.e_Unlike.m rfl) pa_nil))) (pa_cons (pe_callB call_isX rfl T.b_isinstance boot_isI (pa_cons (pe_var (i := 0) rfl (by first | exact Or.inl rfl | exact Or.inr (Or.inl rfl) | exact Or.inr (Or.inr rfl))) (pa_cons (pe_glob (v := .ref (c 20)) rfl E.e_Wrong.m rfl) pa_nil))) pa_nil)))) pa_nil)))
    (pss_one (ps_ret (pe_lc (own := [("k", 2)]) rfl sc_law_classes.nd (pi_range1 rfl T.b_range (pa_cons (pe_callB DL.call_lenD rfl T.b_len boot_lenD (pa_cons (pe_var (i := 1) rfl (by first | exact Or.inl rfl | exact Or.inr (Or.inl rfl) | exact Or.inr (Or.inr rfl))) pa_nil)) pa_nil)) (blkOk_by (by rfl)) (fun s H C cl fp => pg_name (i := 2) sc_law_classes.nd rfl (by first | exact Or.inl rfl | exact Or.inr rfl) (by first | exact .inl rfl | exact .inr rfl)) (fun s H C cl fp => pts_one (pt_val (pe_ix (r := rIxL K) ix_list (pe_var (i := 1) rfl (by first | exact Or.inl rfl | exact Or.inr (Or.inl rfl) | exact Or.inr (Or.inr rfl))) (pe_var (i := 2) rfl (by first | exact Or.inl rfl | exact Or.inr (Or.inl rfl) | exact Or.inr (Or.inr rfl))) (fun _ _ => rfl)) (fun _ => rfl))) (fun s H C cl fp => (pe_var (i := 2) rfl (by first | exact Or.inl rfl | exact Or.inr (Or.inl rfl) | exact Or.inr (Or.inr rfl)))) (fun _ => rfl))))))))))), ?_⟩
  have e1 := Ex.refl H
  have ev0 : EvA _ [some (.ref a), none, none] H [.bl (decide (i = 0)), .bl (decide (i = 1)), .bl (decide (i = 2))] := (ea_cons (ev_cb (ea_cons (ev_var (i := 0) (v := .ref a) rfl) (ea_cons ev_c ea_nil)) (rc_isX (.own _) (hx.ex e1) (E.f i hi).1 (E.kc (j := 0) hi (by decide)))) (ea_cons (ev_cb (ea_cons (ev_var (i := 0) (v := .ref a) rfl) (ea_cons ev_c ea_nil)) (rc_isX (.own _) (hx.ex e1) (E.f i hi).1 (E.kc (j := 1) hi (by decide)))) (ea_cons (ev_cb (ea_cons (ev_var (i := 0) (v := .ref a) rfl) (ea_cons ev_c ea_nil)) (rc_isX (.own _) (hx.ex e1) (E.f i hi).1 (E.kc (j := 2) hi (by decide)))) ea_nil)))
  refine ⟨fun σ' H' => ∃ p, σ' = [some (.ref a), some (.ref p), none] ∧ Ex H H' ∧ H p = none ∧ H' p = some (.lst [.bl (decide (i = 0)), .bl (decide (i = 1)), .bl (decide (i = 2))]), s_asgL (el_lst ev0 (Nat.le_of_ble_eq_true rfl)) fun p H1 hp e1 h1 => ⟨p, rfl, e1, hp, h1⟩, ?_⟩
  clear ev0 e1
  rintro σ1 H1 ⟨p, rfl, e1, hp, h1⟩
  have ev1 : EvA _ [some (.ref a), some (.ref p), none] H1 [.bl (decide (i = 3)), .bl (decide (i = 4)), .bl (decide (i = 5))] := (ea_cons (ev_cb (ea_cons (ev_var (i := 0) (v := .ref a) rfl) (ea_cons ev_c ea_nil)) (rc_isX (.own _) (hx.ex e1) (E.f i hi).1 (E.kc (j := 3) hi (by decide)))) (ea_cons (ev_cb (ea_cons (ev_var (i := 0) (v := .ref a) rfl) (ea_cons ev_c ea_nil)) (rc_isX (.own _) (hx.ex e1) (E.f i hi).1 (E.kc (j := 4) hi (by decide)))) (ea_cons (ev_cb (ea_cons (ev_var (i := 0) (v := .ref a) rfl) (ea_cons ev_c ea_nil)) (rc_isX (.own _) (hx.ex e1) (E.f i hi).1 (E.kc (j := 5) hi (by decide)))) ea_nil)))
  refine ⟨fun σ' H' => ∃ p, σ' = [some (.ref a), some (.ref p), none] ∧ Ex H H' ∧ H p = none ∧ H' p = some (.lst [.bl (decide (i = 0)), .bl (decide (i = 1)), .bl (decide (i = 2)), .bl (decide (i = 3)), .bl (decide (i = 4)), .bl (decide (i = 5))]), s_extV e1 hp rfl h1 ev1 (Nat.le_of_ble_eq_true rfl) (Nat.le_of_ble_eq_true rfl) fun H' e' h' => ⟨p, rfl, e', hp, h'⟩, ?_⟩
  clear ev1 h1 e1
  clear H1
  rintro σ1 H1 ⟨p, rfl, e1, hp, h1⟩
  have ev2 : EvA _ [some (.ref a), some (.ref p), none] H1 [.bl (decide (i = 6)), .bl (decide (i = 7)), .bl (decide (i = 8))] := (ea_cons (ev_cb (ea_cons (ev_var (i := 0) (v := .ref a) rfl) (ea_cons ev_c ea_nil)) (rc_isX (.own _) (hx.ex e1) (E.f i hi).1 (E.kc (j := 6) hi (by decide)))) (ea_cons (ev_cb (ea_cons (ev_var (i := 0) (v := .ref a) rfl) (ea_cons ev_c ea_nil)) (rc_isX (.own _) (hx.ex e1) (E.f i hi).1 (E.kc (j := 7) hi (by decide)))) (ea_cons (ev_cb (ea_cons (ev_var (i := 0) (v := .ref a) rfl) (ea_cons ev_c ea_nil)) (rc_isX (.own _) (hx.ex e1) (E.f i hi).1 (E.kc (j := 8) hi (by decide)))) ea_nil)))
  refine ⟨fun σ' H' => ∃ p, σ' = [some (.ref a), some (.ref p), none] ∧ Ex H H' ∧ H p = none ∧ H' p = some (.lst [.bl (decide (i = 0)), .bl (decide (i = 1)), .bl (decide (i = 2)), .bl (decide (i = 3)), .bl (decide (i = 4)), .bl (decide (i = 5)), .bl (decide (i = 6)), .bl (decide (i = 7)), .bl (decide (i = 8))]), s_extV e1 hp rfl h1 ev2 (Nat.le_of_ble_eq_true rfl) (Nat.le_of_ble_eq_true rfl) fun H' e' h' => ⟨p, rfl, e', hp, h'⟩, ?_⟩
  clear ev2 h1 e1
  clear H1
  rintro σ1 H1 ⟨p, rfl, e1, hp, h1⟩
  have ev3 : EvA _ [some (.ref a), some (.ref p), none] H1 [.bl (decide (i = 9)), .bl (decide (i = 10)), .bl (decide (i = 11))] := (ea_cons (ev_cb (ea_cons (ev_var (i := 0) (v := .ref a) rfl) (ea_cons ev_c ea_nil)) (rc_isX (.own _) (hx.ex e1) (E.f i hi).1 (E.kc (j := 9) hi (by decide)))) (ea_cons (ev_cb (ea_cons (ev_var (i := 0) (v := .ref a) rfl) (ea_cons ev_c ea_nil)) (rc_isX (.own _) (hx.ex e1) (E.f i hi).1 (E.kc (j := 10) hi (by decide)))) (ea_cons (ev_cb (ea_cons (ev_var (i := 0) (v := .ref a) rfl) (ea_cons ev_c ea_nil)) (rc_isX (.own _) (hx.ex e1) (E.f i hi).1 (E.kc (j := 11) hi (by decide)))) ea_nil)))
  refine ⟨fun σ' H' => ∃ p, σ' = [some (.ref a), some (.ref p), none] ∧ Ex H H' ∧ H p = none ∧ H' p = some (.lst [.bl (decide (i = 0)), .bl (decide (i = 1)), .bl (decide (i = 2)), .bl (decide (i = 3)), .bl (decide (i = 4)), .bl (decide (i = 5)), .bl (decide (i = 6)), .bl (decide (i = 7)), .bl (decide (i = 8)), .bl (decide (i = 9)), .bl (decide (i = 10)), .bl (decide (i = 11))]), s_extV e1 hp rfl h1 ev3 (Nat.le_of_ble_eq_true rfl) (Nat.le_of_ble_eq_true rfl) fun H' e' h' => ⟨p, rfl, e', hp, h'⟩, ?_⟩
  clear ev3 h1 e1
  clear H1
  rintro σ1 H1 ⟨p, rfl, e1, hp, h1⟩
  have ev4 : EvA _ [some (.ref a), some (.ref p), none] H1 [.bl (decide (i = 12)), .bl (decide (i = 13)), .bl (decide (i = 14))] := (ea_cons (ev_cb (ea_cons (ev_var (i := 0) (v := .ref a) rfl) (ea_cons ev_c ea_nil)) (rc_isX (.own _) (hx.ex e1) (E.f i hi).1 (E.kc (j := 12) hi (by decide)))) (ea_cons (ev_cb (ea_cons (ev_var (i := 0) (v := .ref a) rfl) (ea_cons ev_c ea_nil)) (rc_isX (.own _) (hx.ex e1) (E.f i hi).1 (E.kc (j := 13) hi (by decide)))) (ea_cons (ev_cb (ea_cons (ev_var (i := 0) (v := .ref a) rfl) (ea_cons ev_c ea_nil)) (rc_isX (.own _) (hx.ex e1) (E.f i hi).1 (E.kc (j := 14) hi (by decide)))) ea_nil)))
  refine ⟨fun σ' H' => ∃ p, σ' = [some (.ref a), some (.ref p), none] ∧ Ex H H' ∧ H p = none ∧ H' p = some (.lst [.bl (decide (i = 0)), .bl (decide (i = 1)), .bl (decide (i = 2)), .bl (decide (i = 3)), .bl (decide (i = 4)), .bl (decide (i = 5)), .bl (decide (i = 6)), .bl (decide (i = 7)), .bl (decide (i = 8)), .bl (decide (i = 9)), .bl (decide (i = 10)), .bl (decide (i = 11)), .bl (decide (i = 12)), .bl (decide (i = 13)), .bl (decide (i = 14))]), s_extV e1 hp rfl h1 ev4 (Nat.le_of_ble_eq_true rfl) (Nat.le_of_ble_eq_true rfl) fun H' e' h' => ⟨p, rfl, e', hp, h'⟩, ?_⟩
  clear ev4 h1 e1
  clear H1
  rintro σ1 H1 ⟨p, rfl, e1, hp, h1⟩
  have ev5 : EvA _ [some (.ref a), some (.ref p), none] H1 [.bl (decide (i = 15)), .bl (decide (i = 16)), .bl (decide (i = 17))] := (ea_cons (ev_cb (ea_cons (ev_var (i := 0) (v := .ref a) rfl) (ea_cons ev_c ea_nil)) (rc_isX (.own _) (hx.ex e1) (E.f i hi).1 (E.kc (j := 15) hi (by decide)))) (ea_cons (ev_cb (ea_cons (ev_var (i := 0) (v := .ref a) rfl) (ea_cons ev_c ea_nil)) (rc_isX (.own _) (hx.ex e1) (E.f i hi).1 (E.kc (j := 16) hi (by decide)))) (ea_cons (ev_cb (ea_cons (ev_var (i := 0) (v := .ref a) rfl) (ea_cons ev_c ea_nil)) (rc_isX (.own _) (hx.ex e1) (E.f i hi).1 (E.kc (j := 17) hi (by decide)))) ea_nil)))
  refine ⟨fun σ' H' => ∃ p, σ' = [some (.ref a), some (.ref p), none] ∧ Ex H H' ∧ H p = none ∧ H' p = some (.lst [.bl (decide (i = 0)), .bl (decide (i = 1)), .bl (decide (i = 2)), .bl (decide (i = 3)), .bl (decide (i = 4)), .bl (decide (i = 5)), .bl (decide (i = 6)), .bl (decide (i = 7)), .bl (decide (i = 8)), .bl (decide (i = 9)), .bl (decide (i = 10)), .bl (decide (i = 11)), .bl (decide (i = 12)), .bl (decide (i = 13)), .bl (decide (i = 14)), .bl (decide (i = 15)), .bl (decide (i = 16)), .bl (decide (i = 17))]), s_extV e1 hp rfl h1 ev5 (Nat.le_of_ble_eq_true rfl) (Nat.le_of_ble_eq_true rfl) fun H' e' h' => ⟨p, rfl, e', hp, h'⟩, ?_⟩
  clear ev5 h1 e1
  clear H1
  rintro σ1 H1 ⟨p, rfl, e1, hp, h1⟩
  have ev6 : EvA _ [some (.ref a), some (.ref p), none] H1 [.bl (decide (i = 18)), .bl (decide (i = 19)), .bl (decide (i = 20))] := (ea_cons (ev_cb (ea_cons (ev_var (i := 0) (v := .ref a) rfl) (ea_cons ev_c ea_nil)) (rc_isX (.own _) (hx.ex e1) (E.f i hi).1 (E.kc (j := 18) hi (by decide)))) (ea_cons (ev_cb (ea_cons (ev_var (i := 0) (v := .ref a) rfl) (ea_cons ev_c ea_nil)) (rc_isX (.own _) (hx.ex e1) (E.f i hi).1 (E.kc (j := 19) hi (by decide)))) (ea_cons (ev_cb (ea_cons (ev_var (i := 0) (v := .ref a) rfl) (ea_cons ev_c ea_nil)) (rc_isX (.own _) (hx.ex e1) (E.f i hi).1 (E.kc (j := 20) hi (by decide)))) ea_nil)))
  refine ⟨fun σ' H' => ∃ p, σ' = [some (.ref a), some (.ref p), none] ∧ Ex H H' ∧ H p = none ∧ H' p = some (.lst [.bl (decide (i = 0)), .bl (decide (i = 1)), .bl (decide (i = 2)), .bl (decide (i = 3)), .bl (decide (i = 4)), .bl (decide (i = 5)), .bl (decide (i = 6)), .bl (decide (i = 7)), .bl (decide (i = 8)), .bl (decide (i = 9)), .bl (decide (i = 10)), .bl (decide (i = 11)), .bl (decide (i = 12)), .bl (decide (i = 13)), .bl (decide (i = 14)), .bl (decide (i = 15)), .bl (decide (i = 16)), .bl (decide (i = 17)), .bl (decide (i = 18)), .bl (decide (i = 19)), .bl (decide (i = 20))]), s_extV e1 hp rfl h1 ev6 (Nat.le_of_ble_eq_true rfl) (Nat.le_of_ble_eq_true rfl) fun H' e' h' => ⟨p, rfl, e', hp, h'⟩, ?_⟩
  clear ev6 h1 e1
  clear H1
  rintro σ1 H1 ⟨p, rfl, e1, hp, h1⟩
  have hb : ∀ k : Nat, k < 21 → ([.bl (decide (i = 0)), .bl (decide (i = 1)), .bl (decide (i = 2)), .bl (decide (i = 3)), .bl (decide (i = 4)), .bl (decide (i = 5)), .bl (decide (i = 6)), .bl (decide (i = 7)), .bl (decide (i = 8)), .bl (decide (i = 9)), .bl (decide (i = 10)), .bl (decide (i = 11)), .bl (decide (i = 12)), .bl (decide (i = 13)), .bl (decide (i = 14)), .bl (decide (i = 15)), .bl (decide (i = 16)), .bl (decide (i = 17)), .bl (decide (i = 18)), .bl (decide (i = 19)), .bl (decide (i = 20))] : List V)[k]? = some (.bl (decide (i = k))) := fun k hk => by
    have : ∀ k, k < 21 → ((List.range 21).map fun j => V.bl (decide (i = j)))[k]? = some (.bl (decide (i = k))) := fun k hk => by rw [List.getElem?_map, List.getElem?_range hk]; rfl
    exact this k hk
  refine s_retL (xs := [.int i]) ?_ fun q H2 hq e2 h2 => k q H2 (e1.trans e2) (fresh_back e1 hq) h2
  rw [← given_one i hi]
  have hw : ∀ x : V, wipe ((wipe [some (V.ref a), some (V.ref p), none] [2]).set 2 (some x)) [2] = wipe [some (V.ref a), some (V.ref p), none] [2] := fun x => rfl
  refine el_lcR1 (n := 21) (fun k => decide (i = k)) (fun k => V.int k) (ea_cons (ev_cb (ea_cons (ev_var (i := 1) (v := .ref p) rfl) ea_nil) (fun H2 e2 Q q => ⟨_, 21, rfl, .inl ⟨_, sq_of (e2 p _ h1), rfl⟩, q H2 (Ex.refl _)⟩)) ea_nil) (by decide) hw (fun k H2 e2 hk => ?_) (fun k H2 e2 hk _ => ?_)
  · exact et_B (ev_op (ev_var (i := 1) (v := .ref p) rfl) (ev_var (i := 2) (v := .int k) rfl) (rv_ixL (sq_of (e2 p _ h1)) (by rw [atI_nat (by omega) (by show (k : Int) < 21; exact hk)]; exact hb k (by omega))))
  · exact ev_var (i := 2) (v := .int k) rfl
end K10
end
section
set_option autoImplicit false
set_option linter.all false
set_option maxRecDepth 100000
set_option maxHeartbeats 4000000
namespace K10
open PySem PySem.Spec L2 DL Evl
variable {P : Program} {w : World} {K : PySem.W.Frag} {mg : Str → Option Value} {base : Heap} {W : Addr} {c : Nat → Addr}
/-! ### what the errors keep -/
theorem ev_kept (E : Errs K mg W c) {k : Nat} {σ : L2.St} {H : Hp} {p : Addr} {as : List Addr} {x y z v : V} {n : Str} {fs : List (Str × V)} (hk : k < 21) (hσ : σ[0]? = some (some (.ref p))) (hp : H p = some (.lst (as.map V.ref))) (hx : XcL H as (cfs c x y z)) (hcf : (cfs c x y z)[k]? = some (c k, fs))
    (no : PySem.W.findIn K (.ref (c k)) n = some none) (l : fs.lookup n = some v) : Ev (tXg K n (tOp (rIxL K) (tVar 0) (tC (.int k)))) σ H v := by
  obtain ⟨a, ea, xa⟩ := hx.at_ hcf
  have hl : k < as.length := (List.getElem?_eq_some_iff.mp ea).1
  refine ev_xg (ev_op (ev_var hσ) ev_c (rv_ixL (sq_of hp) (v := .ref a) ?_)) xa (E.f k hk).1 no l
  rw [atI_nat (by omega) (by rw [List.length_map]; omega), List.getElem?_map, show ((k : Int)).toNat = k from rfl, ea]
  rfl
def spKept (c : Nat → Addr) : Sp := fun vs H Q _ => ∃ (p : Addr) (as : List Addr) (x y z : V), vs = [.ref p] ∧ H p = some (.lst (as.map V.ref)) ∧ XcL H as (cfs c x y z) ∧
  ∀ (q l1 l2 : Addr) (H2 : Hp), Ex H H2 → H q = none → H l1 = none → H l2 = none → H2 q = some (.tup [.ref l1, .ref l2, z]) → H2 l1 = some (.lst (List.replicate 18 x)) → H2 l2 = some (.lst (List.replicate 4 y)) → Q (.ref q) H2
theorem B_law_kept_by (D : DefOk K mg "_law_kept_by" s_law_kept_by ["errors"]) (E : Errs K mg W c) : FnR P w K mg base 3 "_law_kept_by" ["errors"] (spKept c) := by
  obtain ⟨f, fd, F, m, b⟩ := D.ex
  refine ⟨⟨f, fd, fnG_of F sc_law_kept_by (fun vs H Q E ⟨p, as, x, y, z, e, _⟩ => by rw [e]; rfl) (fun cd A outer s H vs Q hr gu h => ?_), m, F.kp, b⟩⟩
  obtain ⟨p, as, x, y, z, rfl, hp, hx, k⟩ := h
  refine ⟨_, (pss_cut (ps_set (i := 1) sc_law_kept_by.nd rfl (by first | exact Or.inl rfl | exact Or.inr rfl) (pe_lst (pa_cons (pe_xg (pe_ix (r := rIxL K) ix_list (pe_var (i := 0) rfl (by first | exact Or.inl rfl | exact Or.inr (Or.inl rfl) | exact Or.inr (Or.inr rfl))) pe_int (fun _ _ => rfl))) (pa_cons (pe_xg (pe_ix (r := rIxL K) ix_list (pe_var (i := 0) rfl (by first | exact Or.inl rfl | exact Or.inr (Or.inl rfl) | exact Or.inr (Or.inr rfl))) pe_int (fun _ _ => rfl))) (pa_cons (pe_xg (pe_ix (r := rIxL K) ix_list (pe_var (i := 0) rfl (by first | exact Or.inl rfl | exact Or.inr (Or.inl rfl) | exact Or.inr (Or.inr rfl))) pe_int (fun _ _ => rfl))) (pa_cons (pe_xg (pe_ix (r := rIxL K) ix_list (pe_var (i := 0) rfl (by first | exact Or.inl rfl | exact Or.inr (Or.inl rfl) | exact Or.inr (Or.inr rfl))) pe_int (fun _ _ => rfl))) (pa_cons (pe_xg (pe_ix (r := rIxL K) ix_list (pe_var (i := 0) rfl (by first | exact Or.inl rfl | exact Or.inr (Or.inl rfl) | exact Or.inr (Or.inr rfl))) pe_int (fun _ _ => rfl))) (pa_cons (pe_xg (pe_ix (r := rIxL K) ix_list (pe_var (i := 0) rfl (by first | exact Or.inl rfl | exact Or.inr (Or.inl rfl) | exact Or.inr (Or.inr rfl))) pe_int (fun _ _ => rfl))) pa_nil))))))))
    (pss_cut (ps_expr (pe_bm PySem.F.plainAttrs_list PySem.F.slot_list_extend PySem.F.type_list_extend mt_extend (pe_var (i := 1) rfl (by first | exact Or.inl rfl | exact Or.inr (Or.inl rfl) | exact Or.inr (Or.inr rfl))) (pa_cons (pe_lst (pa_cons (pe_xg (pe_ix (r := rIxL K) ix_list (pe_var (i := 0) rfl (by first | exact Or.inl rfl | exact Or.inr (Or.inl rfl) | exact Or.inr (Or.inr rfl))) pe_int (fun _ _ => rfl))) (pa_cons (pe_xg (pe_ix (r := rIxL K) ix_list (pe_var (i := 0) rfl (by first | exact Or.inl rfl | exact Or.inr (Or.inl rfl) | exact Or.inr (Or.inr rfl))) pe_int (fun _ _ => rfl))) (pa_cons (pe_xg (pe_ix (r := rIxL K) ix_list (pe_var (i := 0) rfl (by first | exact Or.inl rfl | exact Or.inr (Or.inl rfl) | exact Or.inr (Or.inr rfl))) pe_int (fun _ _ => rfl))) (pa_cons (pe_xg (pe_ix (r := rIxL K) ix_list (pe_var (i := 0) rfl (by first | exact Or.inl rfl | exact Or.inr (Or.inl rfl) | exact Or.inr (Or.inr rfl))) pe_int (fun _ _ => rfl))) (pa_cons (pe_xg (pe_ix (r := rIxL K) ix_list (pe_var (i := 0) rfl (by first | exact Or.inl rfl | exact Or.inr (Or.inl rfl) | exact Or.inr (Or.inr rfl))) pe_int (fun _ _ => rfl))) (pa_cons (pe_xg (pe_ix (r := rIxL K) ix_list (pe_var (i := 0) rfl (by first | exact Or.inl rfl | exact Or.inr (Or.inl rfl) | exact Or.inr (Or.inr rfl))) pe_int (fun _ _ => rfl))) pa_nil))))))) pa_nil)))
    (pss_cut (ps_expr (pe_bm PySem.F.plainAttrs_list PySem.F.slot_list_extend PySem.F.type_list_extend mt_extend (pe_var (i := 1) rfl (by first | exact Or.inl rfl | exact Or.inr (Or.inl rfl) | exact Or.inr (Or.inr rfl))) (pa_cons (pe_lst (pa_cons (pe_xg (pe_ix (r := rIxL K) ix_list (pe_var (i := 0) rfl (by first | exact Or.inl rfl | exact Or.inr (Or.inl rfl) | exact Or.inr (Or.inr rfl))) pe_int (fun _ _ => rfl))) (pa_cons (pe_xg (pe_ix (r := rIxL K) ix_list (pe_var (i := 0) rfl (by first | exact Or.inl rfl | exact Or.inr (Or.inl rfl) | exact Or.inr (Or.inr rfl))) pe_int (fun _ _ => rfl))) (pa_cons (pe_xg (pe_ix (r := rIxL K) ix_list (pe_var (i := 0) rfl (by first | exact Or.inl rfl | exact Or.inr (Or.inl rfl) | exact Or.inr (Or.inr rfl))) pe_int (fun _ _ => rfl))) (pa_cons (pe_xg (pe_ix (r := rIxL K) ix_list (pe_var (i := 0) rfl (by first | exact Or.inl rfl | exact Or.inr (Or.inl rfl) | exact Or.inr (Or.inr rfl))) pe_int (fun _ _ => rfl))) (pa_cons (pe_xg (pe_ix (r := rIxL K) ix_list (pe_var (i := 0) rfl (by first | exact Or.inl rfl | exact Or.inr (Or.inl rfl) | exact Or.inr (Or.inr rfl))) pe_int (fun _ _ => rfl))) pa_nil)))))) pa_nil)))
    (pss_cut (ps_expr (pe_bm PySem.F.plainAttrs_list PySem.F.slot_list_append PySem.F.type_list_append mt_append (pe_var (i := 1) rfl (by first | exact Or.inl rfl | exact Or.inr (Or.inl rfl) | exact Or.inr (Or.inr rfl))) (pa_cons (pe_xg (pe_ix (r := rIxL K) ix_list (pe_var (i := 0) rfl (by first | exact Or.inl rfl | exact Or.inr (Or.inl rfl) | exact Or.inr (Or.inr rfl))) pe_int (fun _ _ => rfl))) pa_nil)))
    (pss_one (ps_ret (pe_tup (pa_cons (pe_var (i := 1) rfl (by first | exact Or.inl rfl | exact Or.inr (Or.inl rfl) | exact Or.inr (Or.inr rfl))) (pa_cons (pe_lst (pa_cons (pe_xg (pe_ix (r := rIxL K) ix_list (pe_var (i := 0) rfl (by first | exact Or.inl rfl | exact Or.inr (Or.inl rfl) | exact Or.inr (Or.inr rfl))) pe_int (fun _ _ => rfl))) (pa_cons (pe_xg (pe_ix (r := rIxL K) ix_list (pe_var (i := 0) rfl (by first | exact Or.inl rfl | exact Or.inr (Or.inl rfl) | exact Or.inr (Or.inr rfl))) pe_int (fun _ _ => rfl))) (pa_cons (pe_xg (pe_ix (r := rIxL K) ix_list (pe_var (i := 0) rfl (by first | exact Or.inl rfl | exact Or.inr (Or.inl rfl) | exact Or.inr (Or.inr rfl))) pe_int (fun _ _ => rfl))) (pa_cons (pe_xg (pe_ix (r := rIxL K) ix_list (pe_var (i := 0) rfl (by first | exact Or.inl rfl | exact Or.inr (Or.inl rfl) | exact Or.inr (Or.inr rfl))) pe_int (fun _ _ => rfl))) pa_nil))))) (pa_cons (pe_xg (pe_ix (r := rIxL K) ix_list (pe_var (i := 0) rfl (by first | exact Or.inl rfl | exact Or.inr (Or.inl rfl) | exact Or.inr (Or.inr rfl))) pe_int (fun _ _ => rfl))) pa_nil)))))))))), ?_⟩
  have ev0 : EvA _ [some (.ref p), none] H (List.replicate 6 x) := (ea_cons (ev_kept E (v := x) (n := "spot") (k := 0) (by decide) rfl hp hx rfl (E.e_FallsApart.no _ (by simp)) rfl) (ea_cons (ev_kept E (v := x) (n := "way") (k := 1) (by decide) rfl hp hx rfl (E.e_HasRing.no _ (by simp)) rfl) (ea_cons (ev_kept E (v := x) (n := "index") (k := 2) (by decide) rfl hp hx rfl (E.e_Joined.no _ (by simp)) rfl) (ea_cons (ev_kept E (v := x) (n := "name") (k := 4) (by decide) rfl hp hx rfl (E.e_NoCopy.no _ (by simp)) rfl) (ea_cons (ev_kept E (v := x) (n := "name") (k := 5) (by decide) rfl hp hx rfl (E.e_NoField.no _ (by simp)) rfl) (ea_cons (ev_kept E (v := x) (n := "lot") (k := 6) (by decide) rfl hp hx rfl (E.e_NoLot.no _ (by simp)) rfl) ea_nil))))))
  refine ⟨fun σ' H' => ∃ l, σ' = [some (.ref p), some (.ref l)] ∧ Ex H H' ∧ H l = none ∧ H' l = some (.lst (List.replicate 6 x)), s_asgL (el_lst ev0 (Nat.le_of_ble_eq_true rfl)) fun l H1 hl e1 h1 => ⟨l, rfl, e1, hl, h1⟩, ?_⟩
  clear ev0
  rintro σ1 H1 ⟨l, rfl, e1, hl, h1⟩
  have ev1 : EvA _ [some (.ref p), some (.ref l)] H1 (List.replicate 6 x) := (ea_cons (ev_kept E (v := x) (n := "lot") (k := 7) (by decide) rfl (e1 p _ hp) (hx.ex e1) rfl (E.e_NoPast.no _ (by simp)) rfl) (ea_cons (ev_kept E (v := x) (n := "place") (k := 8) (by decide) rfl (e1 p _ hp) (hx.ex e1) rfl (E.e_NoPlace.no _ (by simp)) rfl) (ea_cons (ev_kept E (v := x) (n := "one") (k := 9) (by decide) rfl (e1 p _ hp) (hx.ex e1) rfl (E.e_NoRoad.no _ (by simp)) rfl) (ea_cons (ev_kept E (v := x) (n := "line") (k := 10) (by decide) rfl (e1 p _ hp) (hx.ex e1) rfl (E.e_NoText.no _ (by simp)) rfl) (ea_cons (ev_kept E (v := x) (n := "value") (k := 11) (by decide) rfl (e1 p _ hp) (hx.ex e1) rfl (E.e_NoValue.no _ (by simp)) rfl) (ea_cons (ev_kept E (v := x) (n := "way") (k := 12) (by decide) rfl (e1 p _ hp) (hx.ex e1) rfl (E.e_NotAnywhere.no _ (by simp)) rfl) ea_nil))))))
  refine ⟨fun σ' H' => ∃ l, σ' = [some (.ref p), some (.ref l)] ∧ Ex H H' ∧ H l = none ∧ H' l = some (.lst (List.replicate 12 x)), s_extV e1 hl rfl h1 ev1 (Nat.le_of_ble_eq_true rfl) (Nat.le_of_ble_eq_true rfl) fun H' e' h' => ⟨l, rfl, e', hl, h'⟩, ?_⟩
  clear ev1 h1 e1
  clear H1
  rintro σ1 H1 ⟨l, rfl, e1, hl, h1⟩
  have ev2 : EvA _ [some (.ref p), some (.ref l)] H1 (List.replicate 5 x) := (ea_cons (ev_kept E (v := x) (n := "spot") (k := 13) (by decide) rfl (e1 p _ hp) (hx.ex e1) rfl (E.e_NotFinite.no _ (by simp)) rfl) (ea_cons (ev_kept E (v := x) (n := "index") (k := 14) (by decide) rfl (e1 p _ hp) (hx.ex e1) rfl (E.e_NotKept.no _ (by simp)) rfl) (ea_cons (ev_kept E (v := x) (n := "worth") (k := 16) (by decide) rfl (e1 p _ hp) (hx.ex e1) rfl (E.e_Parted.no _ (by simp)) rfl) (ea_cons (ev_kept E (v := x) (n := "name") (k := 17) (by decide) rfl (e1 p _ hp) (hx.ex e1) rfl (E.e_Taken.no _ (by simp)) rfl) (ea_cons (ev_kept E (v := x) (n := "most") (k := 18) (by decide) rfl (e1 p _ hp) (hx.ex e1) rfl (E.e_TooMany.no _ (by simp)) rfl) ea_nil)))))
  refine ⟨fun σ' H' => ∃ l, σ' = [some (.ref p), some (.ref l)] ∧ Ex H H' ∧ H l = none ∧ H' l = some (.lst (List.replicate 17 x)), s_extV e1 hl rfl h1 ev2 (Nat.le_of_ble_eq_true rfl) (Nat.le_of_ble_eq_true rfl) fun H' e' h' => ⟨l, rfl, e', hl, h'⟩, ?_⟩
  clear ev2 h1 e1
  clear H1
  rintro σ1 H1 ⟨l, rfl, e1, hl, h1⟩
  have ev8 : Ev _ [some (.ref p), some (.ref l)] H1 x := (ev_kept E (v := x) (n := "place") (k := 20) (by decide) rfl (e1 p _ hp) (hx.ex e1) rfl (E.e_Wrong.no _ (by simp)) rfl)
  refine ⟨fun σ' H' => ∃ l, σ' = [some (.ref p), some (.ref l)] ∧ Ex H H' ∧ H l = none ∧ H' l = some (.lst (List.replicate 18 x)), s_appV e1 hl rfl h1 ev8 (Nat.le_of_ble_eq_true rfl) fun H' e' h' => ⟨l, rfl, e', hl, h'⟩, ?_⟩
  clear ev8 h1 e1
  clear H1
  rintro σ1 H1 ⟨l, rfl, e1, hl, h1⟩
  have ev9 : EvA _ [some (.ref p), some (.ref l)] H1 (List.replicate 4 y) := (ea_cons (ev_kept E (v := y) (n := "other") (k := 9) (by decide) rfl (e1 p _ hp) (hx.ex e1) rfl (E.e_NoRoad.no _ (by simp)) rfl) (ea_cons (ev_kept E (v := y) (n := "worth") (k := 12) (by decide) rfl (e1 p _ hp) (hx.ex e1) rfl (E.e_NotAnywhere.no _ (by simp)) rfl) (ea_cons (ev_kept E (v := y) (n := "fault") (k := 14) (by decide) rfl (e1 p _ hp) (hx.ex e1) rfl (E.e_NotKept.no _ (by simp)) rfl) (ea_cons (ev_kept E (v := y) (n := "way") (k := 16) (by decide) rfl (e1 p _ hp) (hx.ex e1) rfl (E.e_Parted.no _ (by simp)) rfl) ea_nil))))
  refine ⟨.ref l, rfl, el_lst ev9 (Nat.le_of_ble_eq_true rfl) H1 (Ex.refl _) _ fun l2 H2 hl2 e2 h2 => ?_⟩
  have ev10 : Ev _ [some (.ref p), some (.ref l)] H2 z := (ev_kept E (v := z) (n := "other") (k := 16) (by decide) rfl ((e1.trans e2) p _ hp) (hx.ex (e1.trans e2)) rfl (E.e_Parted.no _ (by simp)) rfl)
  refine ev10 H2 (Ex.refl _) _ fun H3 e3 => ⟨Nat.le_trans (Nat.le_of_ble_eq_true rfl : 3 ≤ 1000) (by decide), fun q hq => ?_⟩
  have e03 := e1.trans (e2.trans e3)
  exact k q l l2 _ (e03.trans (Ex.new hq)) (fresh_back e03 hq) hl (fresh_back e1 hl2) upd_same ((Ex.new hq) _ _ ((e2.trans e3) _ _ h1)) ((Ex.new hq) _ _ (e3 _ _ h2))
end K10
end
section
set_option autoImplicit false
set_option linter.all false
set_option maxRecDepth 100000
set_option maxHeartbeats 4000000
namespace K10
open PySem PySem.Spec L2 DL Evl
variable {P : Program} {w : World} {K : PySem.W.Frag} {mg : Str → Option Value} {base : Heap} {W : Addr} {c : Nat → Addr}
theorem sc_law_are_errors_right : FnScope ["bag", "errors", "one", "two", "three", "k", "error"] ["bag"] (defScope s_law_are_errors_right) := ⟨rfl, rfl, rfl, by decide +kernel, rfl, by decide +kernel, by decide +kernel⟩
/-! ### alike: the same objects in two tuples -/
def spAlkR (K : PySem.W.Frag) : Sp := fun vs H Q _ => ∃ (a b : Addr) (xs ys : List V) (d : PyData) (O1 O2 : Prot), vs = [.ref a, .ref b] ∧ SqT K H a xs ∧ SqT K H b ys ∧ Paired (EqI K H 8) xs ys ∧ RpB K O1 H (.ref a) d ∧ RpB K O2 H (.ref b) d ∧ (d.showable = true ∧ d.depth ≤ 60 ∧ d.shown.length ≤ sizeLine) ∧ Q (.bl true) H
theorem B_law_alikeR (D : DefOk K mg "_law_alike" s_law_alike ["found", "due"]) (T : Txt mg) : FnR P w K mg base 3 "_law_alike" ["found", "due"] (spAlkR K) := by
  obtain ⟨f, fd, F, m, b⟩ := D.ex
  refine ⟨⟨f, fd, fnG_of F sc_law_alike (fun vs H Q E ⟨a, b, xs, ys, d, O1, O2, e, _⟩ => by rw [e]; rfl) (fun cd A outer s H vs Q hr gu h => ?_), m, F.kp, b⟩⟩
  obtain ⟨a, b, xs, ys, d, O1, O2, rfl, h1, h2, hp, r1, r2, hs, k⟩ := h
  refine ⟨_, pss_one (ps_ret (pe_and (pe_cmpR (op_eqI hr) (pe_var (i := 0) rfl (by first | exact Or.inl rfl | exact Or.inr (Or.inl rfl) | exact Or.inr (Or.inr rfl))) (pe_var (i := 1) rfl (by first | exact Or.inl rfl | exact Or.inr (Or.inl rfl) | exact Or.inr (Or.inr rfl))) (by with_unfolding_all rfl))
    (pe_one (pe_cmpR op_eq (pe_callB (call_reprD ⟨_, hr⟩ gu) rfl T.b_repr boot_repr (pa_cons (pe_var (i := 0) rfl (by first | exact Or.inl rfl | exact Or.inr (Or.inl rfl) | exact Or.inr (Or.inr rfl))) pa_nil)) (pe_callB (call_reprD ⟨_, hr⟩ gu) rfl T.b_repr boot_repr (pa_cons (pe_var (i := 1) rfl (by first | exact Or.inl rfl | exact Or.inr (Or.inl rfl) | exact Or.inr (Or.inr rfl))) pa_nil)) (by with_unfolding_all rfl))))), ?_⟩
  refine ⟨.ref a, rfl, .ref b, rfl, a, b, xs, ys, rfl, rfl, h1, h2, hp, true, rfl, ?_⟩
  rw [if_pos rfl]
  refine ⟨.ref a, rfl, .ref a, d, O1, rfl, r1, hs, .ref b, rfl, .ref b, d, O2, rfl, r2, hs, rfl, ?_⟩
  rw [decide_eq_true rfl]
  exact k
/-! ### what is around -/
abbrev F4 (F : FC) (a1 a2 a4 a3 : Addr) : FC := (((F.plus a1).plus a2).plus a4).plus a3
structure Tr (K : PySem.W.Frag) (F : FC) (H0 : Hp) (a1 a2 a3 a4 : Addr) (v1 v2 : V) (d1 d2 : PyData) (x1 : List V) (x2 : List (Key × V)) (x3 : List V) (H : Hp) : Prop where
  S : StOk K (F4 F a1 a2 a4 a3) [] H []
  r1 : Rp K (F4 F a1 a2 a4 a3).P H v1 d1
  r2 : Rp K (F4 F a1 a2 a4 a3).P H v2 d2
  h1 : H a1 = some (.lst x1)
  h2 : H a2 = some (.dK x2)
  h3 : H a3 = some (.lst x3)
  h4 : H a4 = some (.lst [])
  fr : ∀ a o, H0 a = some o → ¬ F.Z a → H a = some o
structure Ap (F : FC) (H0 : Hp) (a1 a2 a3 a4 : Addr) : Prop where
  n13 : a1 ≠ a3
  n14 : a1 ≠ a4
  n34 : a3 ≠ a4
  f1 : H0 a1 = none
  f2 : H0 a2 = none
  f3 : H0 a3 = none
  f4 : H0 a4 = none
  zP : ∀ a, F.Z a → F.P a
  trk : ∀ a, F.P a → ∃ o, H0 a = some o
section
variable {F : FC} {H0 H H' : Hp} {a1 a2 a3 a4 : Addr} {v1 v2 : V} {d1 d2 : PyData} {x1 x3 : List V} {x2 : List (Key × V)}
theorem Ap.np (A : Ap F H0 a1 a2 a3 a4) {a : Addr} (h : H0 a = none) : ¬ F.P a := fun z => by
  obtain ⟨o, e⟩ := A.trk a z
  rw [h] at e; cases e
theorem Tr.ex (T : Tr K F H0 a1 a2 a3 a4 v1 v2 d1 d2 x1 x2 x3 H) (e : Ex H H') : Tr K F H0 a1 a2 a3 a4 v1 v2 d1 d2 x1 x2 x3 H' :=
  ⟨T.S.ext e, T.r1.keep (keeps_ext e), T.r2.keep (keeps_ext e), e _ _ T.h1, e _ _ T.h2, e _ _ T.h3, e _ _ T.h4, fun a o h n => e _ _ (T.fr a o h n)⟩
theorem keeps_upd {O : Prot} {p : Addr} {o : HO} (h : O p) : Keeps O H O (upd H p o) := fun a u e n => ⟨(upd_ne (fun z : a = p => n (by rw [z]; exact h))).trans e, n⟩
theorem lst_dK {a b : Addr} {xs : List V} {ks : List (Key × V)} (h : H a = some (.lst xs)) (g : H b = some (.dK ks)) : a ≠ b := fun z => by
  rw [z, g] at h; cases h
theorem Tr.w1 (A : Ap F H0 a1 a2 a3 a4) (T : Tr K F H0 a1 a2 a3 a4 v1 v2 d1 d2 x1 x2 x3 H) (x : List V) : Tr K F H0 a1 a2 a3 a4 v1 v2 d1 d2 x x2 x3 (upd H a1 (.lst x)) := by
  have hP : (F4 F a1 a2 a4 a3).P a1 := .inl (.inl (.inl (.inr rfl)))
  exact ⟨T.S.updP hP fun z => A.np A.f1 (A.zP _ z), T.r1.keep (keeps_upd hP), T.r2.keep (keeps_upd hP), upd_same, (upd_ne (Ne.symm (lst_dK T.h1 T.h2))).trans T.h2, (upd_ne (Ne.symm A.n13)).trans T.h3, (upd_ne (Ne.symm A.n14)).trans T.h4,
    fun a o h n => (upd_ne (ne_of_none h A.f1)).trans (T.fr a o h n)⟩
theorem Tr.w3 (A : Ap F H0 a1 a2 a3 a4) (T : Tr K F H0 a1 a2 a3 a4 v1 v2 d1 d2 x1 x2 x3 H) (x : List V) : Tr K F H0 a1 a2 a3 a4 v1 v2 d1 d2 x1 x2 x (upd H a3 (.lst x)) := by
  have hP : (F4 F a1 a2 a4 a3).P a3 := .inr rfl
  exact ⟨T.S.updP hP fun z => A.np A.f3 (A.zP _ z), T.r1.keep (keeps_upd hP), T.r2.keep (keeps_upd hP), (upd_ne A.n13).trans T.h1, (upd_ne (Ne.symm (lst_dK T.h3 T.h2))).trans T.h2, upd_same, (upd_ne (Ne.symm A.n34)).trans T.h4,
    fun a o h n => (upd_ne (ne_of_none h A.f3)).trans (T.fr a o h n)⟩
theorem Tr.w2 (A : Ap F H0 a1 a2 a3 a4) (T : Tr K F H0 a1 a2 a3 a4 v1 v2 d1 d2 x1 x2 x3 H) (x : List (Key × V)) : Tr K F H0 a1 a2 a3 a4 v1 v2 d1 d2 x1 x x3 (upd H a2 (.dK x)) := by
  have hP : (F4 F a1 a2 a4 a3).P a2 := .inl (.inl (.inr rfl))
  exact ⟨T.S.updP hP fun z => A.np A.f2 (A.zP _ z), T.r1.keep (keeps_upd hP), T.r2.keep (keeps_upd hP), (upd_ne (lst_dK T.h1 T.h2)).trans T.h1, upd_same, (upd_ne (lst_dK T.h3 T.h2)).trans T.h3, (upd_ne (lst_dK T.h4 T.h2)).trans T.h4,
    fun a o h n => (upd_ne (ne_of_none h A.f2)).trans (T.fr a o h n)⟩
theorem StOk.less {F F' : FC} (S : StOk K F' [] H []) (eb : F'.bag = F.bag) (el : F'.left = F.left) (hP : ∀ a, F.P a → F'.P a) (zP : ∀ a, F.Z a → F.P a) : StOk K F [] H [] := by
  have kp : Keeps (Own F' [] []) H (Own F [] []) H := keeps_anti fun a q => .inl (hP a (FC.P_of_nil q))
  exact ⟨rfl, fun i d e => by simp at e, fun i d e => by simp at e, fun i j d e a h => by simp at h, fun i e => by simp at e, fun i e => by simp at e,
    fun a q => ⟨zP a (.inl q), (S.bagOk a (by rw [eb]; exact q)).2.keep kp rfl⟩, fun a q => ⟨zP a (.inr q), (S.leftOk a (by rw [el]; exact q)).2⟩, fun a q => by have := S.apart a (by rw [eb]; exact q); rw [el] at this; exact this, fun a q => S.trk a (hP a q)⟩
theorem spOdd_ev {ab : Addr} {Q : VK} (S : StOk K F [] H []) (hb : F.bag = some ab) (k : ∀ v d H', Dt 4 100 d → Rp K F.P H' v d → StOk K F [] H' [] → (∀ a o, H a = some o → ¬ F.Z a → H' a = some o) → Q v H') : spD K spOdd [.ref ab] H Q E0 :=
  ⟨F, [.bag], fun d => Dt 4 100 d, S, .cons ⟨ab, hb, rfl⟩ .nil, fun d hd => hd, fun v d H' r S' fr q => k v d H' q r S' fr⟩
end
/-! ### the text of a dict of two -/
theorem dt_dict2 {n b c : Nat} {d e : PyData} (h : Dt n b d) (g : Dt n c e) : Dt (n + 1) (b + c + 10) (.dict [(.int 0, d), (.int 1, e)]) := by
  obtain ⟨h1, h2, h3⟩ := h
  obtain ⟨g1, g2, g3⟩ := g
  refine ⟨?_, ?_, ?_⟩
  · simp only [PyData.depth, PyData.depthKv]; omega
  · simp only [PyData.showable, PyData.showableKv, h2, g2]; decide
  · have e : PyData.shownKv [(.int 0, d), (.int 1, e)] = [PyData.shown (.int 0) ++ ": " ++ d.shown, PyData.shown (.int 1) ++ ": " ++ e.shown] := by rw [PyData.shownKv_cons, PyData.shownKv_cons, PyData.shownKv_nil]
    rw [PyData.shown_dict, e]
    have j : ∀ x y : Str, (Str.join ", " [x, y]).length ≤ x.length + 2 + y.length := fun x y => by
      have : Str.join ", " [x, y] = x ++ ", " ++ y := rfl
      rw [this, strLen_append, strLen_append]
      exact Nat.le_refl _
    have j2 := j (PyData.shown (.int 0) ++ ": " ++ d.shown) (PyData.shown (.int 1) ++ ": " ++ PyData.shown ‹_›)
    rw [strLen_append, strLen_append]
    rw [strLen_append, strLen_append, strLen_append, strLen_append] at j2
    have z0 : (PyData.shown (.int 0)).length = 1 := by decide +kernel
    have z1 : (PyData.shown (.int 1)).length = 1 := by decide +kernel
    have z2 : (": " : Str).length = 2 := rfl
    have z3 : ("{" : Str).length = 1 := rfl
    have z4 : ("}" : Str).length = 1 := rfl
    rw [z0, z1, z2] at j2
    rw [z3, z4]
    omega
end K10
end
section
set_option autoImplicit false
set_option linter.all false
set_option maxRecDepth 100000
set_option maxHeartbeats 4000000
namespace K10
open PySem PySem.Spec L2 DL Evl
variable {P : Program} {w : World} {K : PySem.W.Frag} {mg : Str → Option Value} {base : Heap} {W : Addr} {c : Nat → Addr}
/-! ### the errors are right -/
theorem cfs_at (x y z : V) : ∀ i, i < 21 → ∃ fs, (cfs c x y z)[i]? = some (c i, fs)
  | 0, _ => ⟨_, rfl⟩
  | 1, _ => ⟨_, rfl⟩
  | 2, _ => ⟨_, rfl⟩
  | 3, _ => ⟨_, rfl⟩
  | 4, _ => ⟨_, rfl⟩
  | 5, _ => ⟨_, rfl⟩
  | 6, _ => ⟨_, rfl⟩
  | 7, _ => ⟨_, rfl⟩
  | 8, _ => ⟨_, rfl⟩
  | 9, _ => ⟨_, rfl⟩
  | 10, _ => ⟨_, rfl⟩
  | 11, _ => ⟨_, rfl⟩
  | 12, _ => ⟨_, rfl⟩
  | 13, _ => ⟨_, rfl⟩
  | 14, _ => ⟨_, rfl⟩
  | 15, _ => ⟨_, rfl⟩
  | 16, _ => ⟨_, rfl⟩
  | 17, _ => ⟨_, rfl⟩
  | 18, _ => ⟨_, rfl⟩
  | 19, _ => ⟨_, rfl⟩
  | 20, _ => ⟨_, rfl⟩
  | n + 21, h => absurd h (by omega)
theorem XcL.has {H : Hp} {as : List Addr} {x y z : V} (h : XcL H as (cfs c x y z)) {i : Nat} {v : V} (e : (as.map V.ref)[i]? = some v) : i < 21 ∧ ∃ a fs, v = .ref a ∧ XcAt H a (c i) fs := by
  rw [List.getElem?_map] at e
  cases ea : as[i]? with
  | none => rw [ea] at e; cases e
  | some a =>
    rw [ea] at e; cases e
    have hl : i < as.length := (List.getElem?_eq_some_iff.mp ea).1
    rw [h.length, show (cfs c x y z).length = 21 from rfl] at hl
    obtain ⟨fs, hf⟩ := cfs_at (c := c) x y z i hl
    obtain ⟨a2, e2, xa⟩ := h.at_ hf
    rw [ea] at e2; cases e2
    exact ⟨hl, a, fs, rfl, xa⟩
theorem rv_ne_same {K : PySem.W.Frag} {H : Hp} {p q : Addr} {i : Int} (h : H p = some (.lst [.int i])) (g : H q = some (.lst [.int i])) : RV (rNeX K) (.ref p) (.ref q) H (.bl false) := fun H1 e Q k => by
  refine .inr (.inl ⟨.list [.int i], .list [.int i], .lst (sq_of (e _ _ h)) (.cons (.int i) .nil), .lst (sq_of (e _ _ g)) (.cons (.int i) .nil), rfl, rfl, ?_⟩)
  have : PyData.eqv (.list [.int i]) (.list [.int i]) = true := by simp [PyData.eqv, PyData.eqvAll]
  rw [this]
  exact k H1 (Ex.refl _)
def spErrR : SpD := fun avs Q => match avs with
  | [.bag] => Q (.bool true)
  | _ => False
theorem rpA_rep {O : Prot} {H : Hp} {v : V} {d : PyData} (r : Rp K O H v d) : ∀ n, RpA K O H (List.replicate n v) (List.replicate n d)
  | 0 => .nil
  | n + 1 => .cons r (rpA_rep r n)
theorem eqI_rep {H : Hp} {n : Nat} {a : Addr} : ∀ m, Paired (EqI K H n) (List.replicate m (.ref a)) (List.replicate m (.ref a))
  | 0 => .nil
  | m + 1 => .cons (.same n a) (eqI_rep m)
theorem dtA_rep {n b : Nat} {d : PyData} (h : Dt n b d) : ∀ m, DtA n (m * (b + 2)) (List.replicate m d)
  | 0 => dtA_nil
  | m + 1 => (dtA_cons h (dtA_rep h m)).mono (Nat.le_refl _) (by rw [Nat.add_mul]; omega)
theorem flat_rep {v : V} : ∀ m, (List.replicate m [v]).flatten = List.replicate m v
  | 0 => rfl
  | m + 1 => by rw [List.replicate_succ, List.flatten_cons, flat_rep m]; rfl
theorem B_law_are_errors_right (D : DefOk K mg "_law_are_errors_right" s_law_are_errors_right ["bag"]) (T : Txt mg) (hen : mg "enumerate" = none) (hve : mg "ValueError" = none) (E : Errs K mg W c) (B_law_odd : FnB P w K mg base 3 "_law_odd" ["bag"] spOdd) (B_err : FnR P w K mg base 3 "_law_errors" ["one", "two", "three"] (spErr c))
    (B_cls : FnR P w K mg base 3 "_law_classes" ["error"] (spCls c)) (B_kept : FnR P w K mg base 3 "_law_kept_by" ["errors"] (spKept c)) (B_alk : FnR P w K mg base 3 "_law_alike" ["found", "due"] (spAlkR K)) : FnB P w K mg base 4 "_law_are_errors_right" ["bag"] spErrR := by
  obtain ⟨f, fd, F, m, b⟩ := D.ex
  obtain ⟨fO, fdO, GO, mO, kO, bO⟩ := B_law_odd.ex
  obtain ⟨fE, fdE, GE, mE, kE, bE⟩ := B_err.ex
  obtain ⟨fC, fdC, GC, mC, kC, bC⟩ := B_cls.ex
  obtain ⟨fK, fdK, GK, mK, kK, bK⟩ := B_kept.ex
  obtain ⟨fA, fdA, GA, mA, kA, bA⟩ := B_alk.ex
  refine ⟨⟨f, fd, fnG_of F sc_law_are_errors_right (fun vs H Q E ⟨F, avs, Qd, _, r, h, _⟩ => (paired_length r).trans (by unfold spErrR at h; split at h <;> first | rfl | exact h.elim)) (fun cd A outer s H0 vs Q hr gu h => ?_), m, F.kp, b⟩⟩
  obtain ⟨Fc, avs, Qd, S0, hav, h, kk⟩ := h
  unfold spErrR at h
  split at h
  case h_2 => exact h.elim
  obtain ⟨ab, hbag, rfl⟩ : ∃ ab, Fc.bag = some ab ∧ vs = [.ref ab] := by
    cases hav with
    | cons hb hr => cases hr; obtain ⟨a, e1, rfl⟩ := hb; exact ⟨a, e1, rfl⟩
  refine ⟨_, pss_cut (ps_par3 (i := 2) (j := 3) (l := 4) rfl sc_law_are_errors_right.nd rfl rfl rfl (by decide) (by decide) (by decide) rfl rfl rfl
      (pa_cons (pe_lst (pa_cons (pe_callG GO hr gu rfl mO kO bO (pa_cons (pe_var (i := 0) rfl (by first | exact Or.inl rfl | exact Or.inr (Or.inl rfl) | exact Or.inr (Or.inr rfl))) pa_nil)) pa_nil)) (pa_cons (pe_disp (pps_cons pe_int (pe_callG GO hr gu rfl mO kO bO (pa_cons (pe_var (i := 0) rfl (by first | exact Or.inl rfl | exact Or.inr (Or.inl rfl) | exact Or.inr (Or.inr rfl))) pa_nil)) pps_nil) rfl rfl (by simp) (by simp)) (pa_cons (pe_lst (pa_cons (pe_lst pa_nil) pa_nil)) pa_nil))) rfl rfl)
    (pss_cut (ps_set (i := 1) sc_law_are_errors_right.nd rfl (.inl rfl) (pe_callG GE hr gu rfl mE kE bE (pa_cons (pe_var (i := 2) rfl (by first | exact Or.inl rfl | exact Or.inr (Or.inl rfl) | exact Or.inr (Or.inr rfl))) (pa_cons (pe_var (i := 3) rfl (by first | exact Or.inl rfl | exact Or.inr (Or.inl rfl) | exact Or.inr (Or.inr rfl))) (pa_cons (pe_var (i := 4) rfl (by first | exact Or.inl rfl | exact Or.inr (Or.inl rfl) | exact Or.inr (Or.inr rfl))) pa_nil)))))
    (pss_cut (ps_expr (pe_bm PySem.F.plainAttrs_list PySem.F.slot_list_append PySem.F.type_list_append mt_append (pe_var (i := 2) rfl (by first | exact Or.inl rfl | exact Or.inr (Or.inl rfl) | exact Or.inr (Or.inr rfl))) (pa_cons pe_str pa_nil)))
    (pss_cut (ps_expr (pe_bm PySem.F.plainAttrs_list PySem.F.slot_list_append PySem.F.type_list_append mt_append (pe_var (i := 4) rfl (by first | exact Or.inl rfl | exact Or.inr (Or.inl rfl) | exact Or.inr (Or.inr rfl))) (pa_cons (pe_var (i := 2) rfl (by first | exact Or.inl rfl | exact Or.inr (Or.inl rfl) | exact Or.inr (Or.inr rfl))) pa_nil)))
    (pss_cut (ps_dput (by have := hr.un; show (A.deeper _).units + 1 < cLine; omega) (pe_var (i := 3) rfl (by first | exact Or.inl rfl | exact Or.inr (Or.inl rfl) | exact Or.inr (Or.inr rfl))) pe_int (pe_var (i := 2) rfl (by first | exact Or.inl rfl | exact Or.inr (Or.inl rfl) | exact Or.inr (Or.inr rfl))) rfl)
    (pss_cut (ps_for PassesOwn.never rfl (pi_enum rfl hen (pa_cons (pe_var (i := 1) rfl (by first | exact Or.inl rfl | exact Or.inr (Or.inl rfl) | exact Or.inr (Or.inr rfl))) pa_nil)) (pg_tup rfl (pgs_cons (pg_name (i := 5) sc_law_are_errors_right.nd rfl (.inl rfl)) (pgs_cons (pg_name (i := 6) sc_law_are_errors_right.nd rfl (.inl rfl)) pgs_nil)))
      (pss_one (ps_if (PW.pt (pw_or (pt_cmpR (op_neX hr) (pe_callG GC hr gu rfl mC kC bC (pa_cons (pe_var (i := 6) rfl (by first | exact Or.inl rfl | exact Or.inr (Or.inl rfl) | exact Or.inr (Or.inr rfl))) pa_nil)) (pe_lst (pa_cons (pe_var (i := 5) rfl (by first | exact Or.inl rfl | exact Or.inr (Or.inl rfl) | exact Or.inr (Or.inr rfl))) pa_nil)) (by with_unfolding_all rfl))
        (pw_or (pt_not (pt_val (pe_callB call_isX rfl T.b_isinstance boot_isI (pa_cons (pe_var (i := 6) rfl (by first | exact Or.inl rfl | exact Or.inr (Or.inl rfl) | exact Or.inr (Or.inr rfl))) (pa_cons (pe_glob (v := .ref W) rfl E.wm rfl) pa_nil))) (fun _ => rfl)))
        (pw_or1 (pt_not (pt_val (pe_callB call_isX rfl T.b_isinstance boot_isI (pa_cons (pe_var (i := 6) rfl (by first | exact Or.inl rfl | exact Or.inr (Or.inl rfl) | exact Or.inr (Or.inr rfl))) (pa_cons (pe_bltn (v := .ty "ValueError") rfl hve PyProof.Rows.Boot.«ValueError» rfl) pa_nil))) (fun _ => rfl))))))) (pss_one (ps_ret pe_bl)) pss_nil)))
    (pss_one (ps_ret (pe_callG GA hr gu rfl mA kA bA (pa_cons (pe_callG GK hr gu rfl mK kK bK (pa_cons (pe_var (i := 1) rfl (by first | exact Or.inl rfl | exact Or.inr (Or.inl rfl) | exact Or.inr (Or.inr rfl))) pa_nil)) (pa_cons (pe_tup (pa_cons (pe_op op_rep (pe_lst (pa_cons (pe_var (i := 2) rfl (by first | exact Or.inl rfl | exact Or.inr (Or.inl rfl) | exact Or.inr (Or.inr rfl))) pa_nil)) pe_int) (pa_cons (pe_op op_rep (pe_lst (pa_cons (pe_var (i := 3) rfl (by first | exact Or.inl rfl | exact Or.inr (Or.inl rfl) | exact Or.inr (Or.inr rfl))) pa_nil)) pe_int) (pa_cons (pe_var (i := 4) rfl (by first | exact Or.inl rfl | exact Or.inr (Or.inl rfl) | exact Or.inr (Or.inr rfl))) pa_nil)))) pa_nil)))))))))), ?_⟩
  -- one, two, three
  have zP : ∀ a, Fc.Z a → Fc.P a := fun a => S0.zP
  have keepF : ∀ {F' : FC} {H H' : Hp}, StOk K F' [] H [] → (∀ a o, H a = some o → ¬ F'.Z a → H' a = some o) → Keeps F'.P H F'.P H' := fun S fr a o e n => ⟨fr a o e fun z => n (S.zP z), n⟩
  have keepP : ∀ {F' : FC} {H : Hp} {p : Addr} {o : HO}, H p = none → Keeps F'.P H (F'.plus p).P (upd H p o) := fun hp a u e n => ⟨same_upd hp a u e, fun z => z.elim n fun q => ne_of_none e hp q⟩
  refine ⟨fun σ' H' => ∃ a1 a2 a3 a4 v1 v2 d1 d2, σ' = [some (.ref ab), none, some (.ref a1), some (.ref a2), some (.ref a3), none, none] ∧ Ap Fc H0 a1 a2 a3 a4 ∧ Dt 4 100 d1 ∧ Dt 4 100 d2 ∧ Tr K Fc H0 a1 a2 a3 a4 v1 v2 d1 d2 [v1] [(.inl 0, v2)] [.ref a4] H', ?_, ?_⟩
  · refine ⟨.ref ab, rfl, spOdd_ev S0 hbag fun v1 d1 H1 hd1 r1 S1 fr1 => ?_⟩
    refine ⟨sz_of (by simp), fun a1 n1 => ?_⟩
    intro a2 n2
    have S2 := S1.plus (o := .lst [v1]) n1
    have S3 := S2.plus (o := .dK []) n2
    have r1' := (r1.keep (keepP (F' := Fc) (o := .lst [v1]) n1)).keep (keepP (F' := Fc.plus a1) (o := .dK []) n2)
    refine ⟨.ref ab, rfl, spOdd_ev S3 hbag fun v2 d2 H2 hd2 r2 S4 fr2 => ?_⟩
    have nz : ∀ {a : Addr}, H1 a = none → ¬ Fc.Z a := fun {a} h z => by
      obtain ⟨o, e⟩ := S1.trk a (zP a z)
      rw [h] at e; cases e
    have n12 : H1 a2 = none := by
      have := n2
      by_cases z : a2 = a1
      · rw [z, upd_same] at this; cases this
      · rw [upd_ne z] at this; exact this
    have h1 : H2 a1 = some (.lst [v1]) := fr2 a1 _ ((upd_ne (ne_of_none upd_same n2)).trans upd_same) (nz n1)
    have h2 : H2 a2 = some (.dK []) := fr2 a2 _ upd_same (nz n12)
    have r1'' := r1'.keep (keepF S3 fr2)
    refine ⟨h2, [(.inl 0, v2)], rfl, Nat.le_of_ble_eq_true rfl, ?_⟩
    rw [show mergeK [] [((Sum.inl 0 : Key), v2)] = [((Sum.inl 0 : Key), v2)] from rfl]
    have S5 := S4.updP (p := a2) (o := .dK [((Sum.inl 0 : Key), v2)]) (.inr rfl) (nz n12)
    have q1 := r1''.keep (keeps_upd (o := .dK [((Sum.inl 0 : Key), v2)]) (show ((Fc.plus a1).plus a2).P a2 from .inr rfl))
    have q2 := r2.keep (keeps_upd (o := .dK [((Sum.inl 0 : Key), v2)]) (show ((Fc.plus a1).plus a2).P a2 from .inr rfl))
    refine ⟨Nat.zero_le _, fun a4 n4 => ?_⟩
    refine ⟨sz_of (by simp), fun a3 n3 => ?_⟩
    refine ⟨_, _, _, rfl, ?_⟩
    have S6 := S5.plus (o := .lst []) n4
    have S7 := S6.plus (o := .lst [.ref a4]) n3
    have p1 := (q1.keep (keepP (F' := (Fc.plus a1).plus a2) (o := .lst []) n4)).keep (keepP (F' := ((Fc.plus a1).plus a2).plus a4) (o := .lst [.ref a4]) n3)
    have p2 := (q2.keep (keepP (F' := (Fc.plus a1).plus a2) (o := .lst []) n4)).keep (keepP (F' := ((Fc.plus a1).plus a2).plus a4) (o := .lst [.ref a4]) n3)
    have t1 : ∀ a o, H0 a = some o → ∃ u, H1 a = some u := fun a o e => by
      by_cases z : Fc.Z a
      · exact S1.trk a (zP a z)
      · exact ⟨o, fr1 a o e z⟩
    have t2 : ∀ a o, H1 a = some o → ∃ u, H2 a = some u := fun a o e => by
      by_cases z : Fc.Z a
      · exact S4.trk a (.inl (.inl (zP a z)))
      · exact ⟨o, fr2 a o (same_upd n2 a o (same_upd n1 a o e)) z⟩
    have t3 : ∀ a o, H2 a = some o → ∃ u, (upd H2 a2 (.dK [((Sum.inl 0 : Key), v2)])) a = some u := fun a o e => by
      by_cases z : a = a2
      · exact ⟨_, by rw [z]; exact upd_same⟩
      · exact ⟨o, (upd_ne z).trans e⟩
    have b1 : ∀ {a}, H1 a = none → H0 a = none := fun {a} n => by
      cases e : H0 a with
      | none => rfl
      | some o => obtain ⟨u, g⟩ := t1 a o e; rw [n] at g; cases g
    have b2 : ∀ {a}, H2 a = none → H1 a = none := fun {a} n => by
      cases e : H1 a with
      | none => rfl
      | some o => obtain ⟨u, g⟩ := t2 a o e; rw [n] at g; cases g
    have b3 : ∀ {a}, (upd H2 a2 (.dK [((Sum.inl 0 : Key), v2)])) a = none → H2 a = none := fun {a} n => by
      cases e : H2 a with
      | none => rfl
      | some o => obtain ⟨u, g⟩ := t3 a o e; rw [n] at g; cases g
    have h1' : (upd H2 a2 (.dK [((Sum.inl 0 : Key), v2)])) a1 = some (.lst [v1]) := (upd_ne (lst_dK h1 h2)).trans h1
    have m14 : a1 ≠ a4 := fun z => by rw [z, n4] at h1'; cases h1'
    have m34 : a3 ≠ a4 := fun z => by rw [z, upd_same] at n3; cases n3
    have n3' : (upd H2 a2 (.dK [((Sum.inl 0 : Key), v2)])) a3 = none := (upd_ne m34).symm.trans n3
    have m13 : a1 ≠ a3 := fun z => by rw [z, n3'] at h1'; cases h1'
    have m24 : a2 ≠ a4 := fun z => by rw [← z, upd_same] at n4; cases n4
    have m23 : a2 ≠ a3 := fun z => by rw [← z, upd_same] at n3'; cases n3'
    refine ⟨a1, a2, a3, a4, v1, v2, d1, d2, rfl, ⟨m13, m14, m34, b1 n1, b1 n12, b1 (b2 (b3 n3')), b1 (b2 (b3 n4)), zP, S0.trk⟩, hd1, hd2, S7, p1, p2, ?_, ?_, upd_same, ?_, fun a o e z => ?_⟩
    · exact (upd_ne m13).trans ((upd_ne m14).trans h1')
    · exact (upd_ne m23).trans ((upd_ne m24).trans upd_same)
    · exact (upd_ne (Ne.symm m34)).trans upd_same
    · exact (same_upd n3 _ _ (same_upd n4 _ _ ((upd_ne (ne_of_none e (b1 n12))).trans (fr2 a o (same_upd n2 _ _ (same_upd n1 _ _ (fr1 a o e z))) z))))
  rintro σ1 H1 ⟨a1, a2, a3, a4, v1, v2, d1, d2, rfl, Ap1, hd1, hd2, Tr1⟩
  -- the errors
  refine ⟨fun σ' H' => ∃ p as, σ' = [some (.ref ab), some (.ref p), some (.ref a1), some (.ref a2), some (.ref a3), none, none] ∧ (H' p = some (.lst (as.map V.ref)) ∧ p ≠ a1 ∧ p ≠ a3) ∧ XcL H' as (cfs c (.ref a1) (.ref a2) (.ref a3)) ∧ Tr K Fc H0 a1 a2 a3 a4 v1 v2 d1 d2 [v1] [(.inl 0, v2)] [.ref a4] H', ?_, ?_⟩
  · exact ⟨.ref a1, rfl, .ref a2, rfl, .ref a3, rfl, .ref a1, .ref a2, .ref a3, rfl, fun p as H2 e2 np hp hx => ⟨p, as, rfl, ⟨hp, (fun z => by rw [z, Tr1.h1] at np; cases np), (fun z => by rw [z, Tr1.h3] at np; cases np)⟩, hx, Tr1.ex e2⟩⟩
  rintro σ1 H1 ⟨p, as, rfl, ⟨hp, np1, np3⟩, hx, Tr1⟩
  refine ⟨fun σ' H' => σ' = [some (.ref ab), some (.ref p), some (.ref a1), some (.ref a2), some (.ref a3), none, none] ∧ H' p = some (.lst (as.map V.ref)) ∧ XcL H' as (cfs c (.ref a1) (.ref a2) (.ref a3)) ∧ Tr K Fc H0 a1 a2 a3 a4 v1 v2 d1 d2 [v1, .str "more"] [(.inl 0, v2)] [.ref a4] H', ?_, ?_⟩
  · exact ⟨.ref a1, rfl, .inl ⟨rfl, _, sq_of Tr1.h1⟩, a1, _, _, rfl, rfl, Tr1.h1, sz_lt (by simp), rfl, (upd_ne np1).trans hp, hx.writeL Tr1.h1, Tr1.w1 Ap1 _⟩
  rintro σ1 H1 ⟨rfl, hp, hx, Tr1⟩
  refine ⟨fun σ' H' => σ' = [some (.ref ab), some (.ref p), some (.ref a1), some (.ref a2), some (.ref a3), none, none] ∧ H' p = some (.lst (as.map V.ref)) ∧ XcL H' as (cfs c (.ref a1) (.ref a2) (.ref a3)) ∧ Tr K Fc H0 a1 a2 a3 a4 v1 v2 d1 d2 [v1, .str "more"] [(.inl 0, v2)] [.ref a4, .ref a1] H', ?_, ?_⟩
  · exact ⟨.ref a3, rfl, .inl ⟨rfl, _, sq_of Tr1.h3⟩, .ref a1, rfl, a3, _, _, rfl, rfl, Tr1.h3, sz_lt (by simp), rfl, (upd_ne np3).trans hp, hx.writeL Tr1.h3, Tr1.w3 Ap1 _⟩
  rintro σ1 H1 ⟨rfl, hp, hx, Tr1⟩
  refine ⟨fun σ' H' => σ' = [some (.ref ab), some (.ref p), some (.ref a1), some (.ref a2), some (.ref a3), none, none] ∧ H' p = some (.lst (as.map V.ref)) ∧ XcL H' as (cfs c (.ref a1) (.ref a2) (.ref a3)) ∧ Tr K Fc H0 a1 a2 a3 a4 v1 v2 d1 d2 [v1, .str "more"] [(.inl 0, v2), (.inl 1, .ref a1)] [.ref a4, .ref a1] H', ?_, ?_⟩
  · exact ⟨.ref a1, rfl, .ref a2, rfl, a2, _, rfl, DPut.k (k := .inl 1) Tr1.h2 (sz_lt (by simp)), rfl, (upd_ne (lst_dK hp Tr1.h2)).trans hp, hx.writeD Tr1.h2, Tr1.w2 Ap1 _⟩
  rintro σ1 H1 ⟨rfl, hp, hx, Tr1⟩
  refine ⟨fun σ' H' => (∃ s5 s6, σ' = [some (.ref ab), some (.ref p), some (.ref a1), some (.ref a2), some (.ref a3), s5, s6]) ∧ Ex H1 H', ?_, ?_⟩
  · refine ⟨.ref p, rfl, p, as.map V.ref, rfl, sq_of hp, fun i m σ' H' => m = 21 - i ∧ i ≤ 21 ∧ (∃ s5 s6, σ' = [some (.ref ab), some (.ref p), some (.ref a1), some (.ref a2), some (.ref a3), s5, s6]) ∧ Ex H1 H', ⟨21, rfl, by decide, ⟨_, _, rfl⟩, Ex.refl _⟩, ?_⟩
    rintro i m σ' H' ⟨rfl, hi, ⟨s5, s6, rfl⟩, e⟩
    have hp' := e _ _ hp
    have hx' := hx.ex e
    have hlen : (as.map V.ref).length = 21 := by rw [List.length_map, hx.length]; rfl
    by_cases hlt : i < 21
    · refine .inr ⟨⟨as.map V.ref, _, sq_of hp', List.getElem?_eq_getElem (by omega)⟩, fun σ' H' => (∃ s5 s6, σ' = [some (.ref ab), some (.ref p), some (.ref a1), some (.ref a2), some (.ref a3), s5, s6]) ∧ Ex H1 H', fun σ2 H2 ⟨h1, h2⟩ => ⟨21 - (i + 1), by omega, rfl, by omega, h1, h2⟩, ?_⟩
      rintro x H2 ⟨T2, x0, rfl, nT, rfl, hx0⟩
      have hx0' := hx0 _ (sq_of hp')
      obtain ⟨hi2, a, fs, rfl, xa⟩ := XcL.has hx' hx0'
      have xa2 := xa.ex (Ex.new (o := .tup [.int i, .ref a]) nT)
      have e3 := e.trans (Ex.new (o := .tup [.int i, .ref a]) nT)
      refine ⟨T2, [.int i, .ref a], rfl, st_of upd_same, rfl, .int i, [.ref a], rfl, .ref a, [], rfl, rfl, ?_⟩
      refine s_if (b := false) ?_ (fun z => nomatch z) (fun _ H3 e4 => ⟨⟨_, _, rfl⟩, e3.trans e4⟩)
      have hcall : EvL (fun σ H Q => tCons (tVar 6) tNil σ H fun vs H1 => spCls c vs H1 Q E0) [some (.ref ab), some (.ref p), some (.ref a1), some (.ref a2), some (.ref a3), some (.int i), some (.ref a)] (upd H' T2 (.tup [.int i, .ref a])) [.int i] :=
        fun H1 e Q q => ⟨.ref a, rfl, a, i, fs, rfl, hi2, xa2.ex e, fun p H2 e2 hp h2 => q p H2 hp e2 h2⟩
      exact et_is (et_or (et_test (ev_opLL hcall (el_lst (ea_cons (ev_var (i := 5) (v := .int i) rfl) ea_nil) (Nat.le_of_ble_eq_true rfl)) (fun p q H h g e => rv_ne_same h g)))
        fun _ => et_or (et_not (et_B (ev_cb (ea_cons (ev_var (i := 6) (v := .ref a) rfl) (ea_cons ev_c ea_nil)) (rc_isX (.own W) xa2 (E.f i hi2).1 (E.kw hi2)))))
        fun _ => et_not (et_B (ev_cb (ea_cons (ev_var (i := 6) (v := .ref a) rfl) (ea_cons ev_c ea_nil)) (rc_isX (.ty "ValueError") xa2 (E.f i hi2).1 (E.kv hi2))))) rfl
    · exact .inl ⟨⟨as.map V.ref, sq_of hp', by omega⟩, ⟨_, _, rfl⟩, e⟩
  rintro σ2 H2 ⟨⟨s5, s6, rfl⟩, e⟩
  have hp := e _ _ hp
  have hx := hx.ex e
  have Tr1 := Tr1.ex e
  have npf : ∀ {a}, H2 a = none → ¬ Fc.P a := fun {a} n z => by
    obtain ⟨o, g⟩ := Tr1.S.trk a (.inl (.inl (.inl (.inl z))))
    rw [n] at g; cases g
  refine ⟨.ref p, rfl, p, as, .ref a1, .ref a2, .ref a3, rfl, hp, hx, fun q l1 l2 H3 e3 nq nl1 nl2 hq hl1 hl2 => ?_⟩
  refine ⟨.ref a1, rfl, sz_of (by simp), fun m1 nm1 => ⟨m1, 18, [.ref a1], rfl, rfl, upd_same, by decide, by decide, sz_of (by simp), fun w1 nw1 => ?_⟩⟩
  refine ⟨.ref a2, rfl, sz_of (by simp), fun m2 nm2 => ⟨m2, 4, [.ref a2], rfl, rfl, upd_same, by decide, by decide, sz_of (by simp), fun w2 nw2 => ?_⟩⟩
  refine ⟨.ref a3, rfl, sz_of (by simp), fun r nr => ?_⟩
  have f18 : (List.replicate (18 : Int).toNat [V.ref a1]).flatten = List.replicate 18 (V.ref a1) := flat_rep 18
  have f4 : (List.replicate (4 : Int).toNat [V.ref a2]).flatten = List.replicate 4 (V.ref a2) := flat_rep 4
  have k1 := Ex.new (o := .lst [V.ref a1]) nm1
  have k2 := Ex.new (o := .lst (List.replicate (18 : Int).toNat [V.ref a1]).flatten) nw1
  have k3 := Ex.new (o := .lst [V.ref a2]) nm2
  have k4 := Ex.new (o := .lst (List.replicate (4 : Int).toNat [V.ref a2]).flatten) nw2
  have k5 := Ex.new (o := .tup [V.ref w1, V.ref w2, V.ref a3]) nr
  have e31 := k1
  have e32 := e31.trans k2
  have e33 := e32.trans k3
  have e34 := e33.trans k4
  have e35 := e34.trans k5
  have hw1 := (k3.trans (k4.trans k5)) w1 _ upd_same
  have hw2 := k5 w2 _ upd_same
  rw [f18] at hw1
  rw [f4] at hw2
  have TrF := Tr1.ex (e3.trans e35)
  have nQ := npf nq
  have nL1 := npf nl1
  have nL2 := npf nl2
  have nW1 := npf (fresh_back e3 (fresh_back e31 nw1))
  have nW2 := npf (fresh_back e3 (fresh_back e33 nw2))
  have nR := npf (fresh_back e3 (fresh_back e34 nr))
  have hqF := e35 _ _ hq
  have hl1F := e35 _ _ hl1
  have hl2F := e35 _ _ hl2
  have up4 : ∀ a, Fc.P a → (F4 Fc a1 a2 a4 a3).P a := fun a h => .inl (.inl (.inl (.inl h)))
  have g1 := Rp.lst (K := K) (O := Fc.P) ⟨TrF.h1, Ap1.np Ap1.f1⟩ (.cons (TrF.r1.anti up4) (.cons (.str (Str.ofString "more")) .nil))
  have g2 := Rp.dic (K := K) (O := Fc.P) TrF.h2 (Ap1.np Ap1.f2) (RpA.cons (TrF.r2.anti up4) (.cons g1 .nil))
  have g3 := Rp.lst (K := K) (O := Fc.P) ⟨TrF.h3, Ap1.np Ap1.f3⟩ (.cons (Rp.lst ⟨TrF.h4, Ap1.np Ap1.f4⟩ .nil) (.cons g1 .nil))
  have gq := Rp.tup (K := K) (O := Fc.P) (.inl ⟨.inl hqF, nQ⟩) (.cons (Rp.lst ⟨hl1F, nL1⟩ (rpA_rep g1 18)) (.cons (Rp.lst ⟨hl2F, nL2⟩ (rpA_rep g2 4)) (.cons g3 .nil)))
  have gr := Rp.tup (K := K) (O := Fc.P) (.inl ⟨.inl (upd_same (H := _) (a := r)), nR⟩) (.cons (Rp.lst ⟨hw1, nW1⟩ (rpA_rep g1 18)) (.cons (Rp.lst ⟨hw2, nW2⟩ (rpA_rep g2 4)) (.cons g3 .nil)))
  have s1 : Dt 5 120 (.list [d1, .str "more"]) := (dt_lst (dtA_cons hd1 (dtA_cons (n := 4) (b := 8) (dtB_dt (by decide +kernel)) (dtA_nil (b := 0))))).mono (by decide) (by decide)
  have s2 : Dt 6 240 (.dict [(.int 0, d2), (.int 1, .list [d1, .str "more"])]) := (dt_dict2 (hd2.mono (n := 4) (m := 5) (by decide) (Nat.le_refl _)) s1).mono (by decide) (by decide)
  have s3 : Dt 6 140 (.list [.list [], .list [d1, .str "more"]]) := (dt_lst (dtA_cons (n := 5) (b := 2) (dtB_dt (by decide +kernel)) (dtA_cons s1 (dtA_nil (b := 0))))).mono (by decide) (by decide)
  have s4 : Dt 8 10000 (.tuple [.list (List.replicate 18 (.list [d1, .str "more"])), .list (List.replicate 4 (.dict [(.int 0, d2), (.int 1, .list [d1, .str "more"])])), .list [.list [], .list [d1, .str "more"]]]) :=
    (dt_tup (dtA_cons (n := 7) ((dt_lst (dtA_rep s1 18)).mono (by decide) (Nat.le_refl _)) (dtA_cons (dt_lst (dtA_rep s2 4)) (dtA_cons (s3.mono (by decide) (Nat.le_refl _)) (dtA_nil (b := 0)))))).mono (by decide) (by decide)
  refine ⟨q, r, [.ref l1, .ref l2, .ref a3], [.ref w1, .ref w2, .ref a3], _, Fc.P, Fc.P, rfl, st_of hqF, st_of upd_same, .cons (.inr ⟨l1, w1, _, _, rfl, rfl, .inl ⟨sq_of hl1F, sq_of hw1⟩, eqI_rep 18⟩) (.cons (.inr ⟨l2, w2, _, _, rfl, rfl, .inl ⟨sq_of hl2F, sq_of hw2⟩, eqI_rep 4⟩) (.cons (EqI.same 8 a3) .nil)),
    .inl gq, .inl gr, ⟨s4.2.1, Nat.le_trans s4.1 (by decide), Nat.le_trans s4.2.2 (by decide)⟩, ?_⟩
  exact kk (.bl true) (.bool true) _ (.bl true) (StOk.less TrF.S rfl rfl up4 zP) TrF.fr h
end K10
end
section
set_option autoImplicit false
set_option linter.all false
set_option maxRecDepth 100000
set_option maxHeartbeats 4000000
namespace K10
open PySem PySem.Spec L2 DL
variable {P : Program} {w : World} {K : PySem.W.Frag} {mg : Str → Option Value} {base : Heap}
theorem sc_law_worth : FnScope ["bag", "form", "name", "kind"] ["bag", "form"] (defScope s_law_worth) := ⟨rfl, rfl, rfl, by decide +kernel, rfl, by decide +kernel, by decide +kernel⟩
theorem sc_is_worth : FnScope ["form", "thing", "field", "value"] ["form", "thing"] (defScope s_is_worth) := ⟨rfl, rfl, rfl, by decide +kernel, rfl, by decide +kernel, by decide +kernel⟩
theorem sc_law_is_worth : FnScope ["form", "thing", "field", "value"] ["form", "thing"] (defScope s_law_is_worth) := ⟨rfl, rfl, rfl, by decide +kernel, rfl, by decide +kernel, by decide +kernel⟩
theorem sc_law_nested : FnScope ["bag", "thing", "many", "found", "turn"] ["bag", "thing", "many"] (defScope s_law_nested) := ⟨rfl, rfl, rfl, by decide +kernel, rfl, by decide +kernel, by decide +kernel⟩
theorem sc_law_are_told : FnScope ["thing", "due", "again", "shown", "found"] ["thing"] (defScope s_law_are_told) := ⟨rfl, rfl, rfl, by decide +kernel, rfl, by decide +kernel, by decide +kernel⟩
/-! ### how large values and forms are -/
theorem ds_word {n m : Nat} {d : PyData} (h : isWb n d = true) : Ds m (10 * n + 2) d := by
  obtain ⟨x, rfl, _, _⟩ := isWb_str h
  exact ds_str (dt_word h) (lay_wb h)
theorem ds_w {m : Nat} {x : Str} (h : isWb 5 (.str x) = true) : Ds m 52 (.str x) := ds_word h
theorem ds_V1 {m : Nat} {d : PyData} (h : IsV1 d) : Ds m 122 d := by
  rcases h with h | ⟨n, n0, n1, rfl⟩
  · exact ds_word h
  · exact (ds_int (by omega)).mono (Nat.le_refl _) (by decide)
theorem dsA_all {m b : Nat} {ds : List PyData} (h : ∀ d ∈ ds, Ds m b d) : DsA m ((b + 2) * ds.length) ds := by
  induction ds with
  | nil => exact dsA_nil
  | cons d ds ih =>
    refine (dsA_cons (h d (by simp)) (ih fun e he => h e (List.mem_cons_of_mem _ he))).mono (Nat.le_refl _) ?_
    rw [List.length_cons, Nat.mul_succ]; omega
theorem ds_V {d : PyData} (h : IsV d) : Ds 1 1491 d := by
  rcases h with rfl | h | ⟨ds, rfl, hl, hd⟩
  · exact ds_none.mono (Nat.le_refl _) (by decide)
  · exact (ds_V1 h).mono (Nat.le_refl _) (by decide)
  · refine (ds_tup (n := 0) (dsA_all fun x hx => ds_V1 (hd x hx))).mono (Nat.le_refl _) ?_
    have := Nat.mul_le_mul_left (122 + 2) hl
    omega
theorem ds_B {b : PyData} (h : IsB b) : Ds 1 90 b := by
  rcases h with rfl | ⟨n, n0, n1, rfl⟩
  · exact (ds_tup (n := 0) (dsA_cons (ds_w (by decide +kernel)) (dsA_nil (b := 0)))).mono (Nat.le_refl _) (by omega)
  · exact (ds_tup (n := 0) (dsA_cons (ds_w (by decide +kernel)) (dsA_cons (ds_int (by omega)) (dsA_nil (b := 0))))).mono (Nat.le_refl _) (by omega)
theorem ds_K {k : PyData} (h : IsK k) : Ds 2 160 k := by
  rcases h with h | ⟨b, hb, rfl | rfl⟩
  · exact (ds_B h).mono (by omega) (by omega)
  · exact (ds_tup (n := 1) (dsA_cons (ds_w (by decide +kernel)) (dsA_cons (ds_B hb) (dsA_nil (b := 0))))).mono (Nat.le_refl _) (by omega)
  · exact (ds_tup (n := 1) (dsA_cons (ds_w (by decide +kernel)) (dsA_cons (ds_B hb) (dsA_nil (b := 0))))).mono (Nat.le_refl _) (by omega)
theorem ds_Fd {f : PyData} (h : IsFd f) : Ds 3 260 f := by
  obtain ⟨n, k, rfl, hn, hk⟩ := h
  exact (ds_tup (n := 2) (dsA_cons (ds_word hn) (dsA_cons (ds_K hk) (dsA_nil (b := 0))))).mono (Nat.le_refl _) (by omega)
theorem ds_F {f : PyData} (h : IsF f) : Ds 4 1700 f := by
  obtain ⟨fs, rfl, _, hl, hf⟩ := h
  refine (ds_tup (dsA_all fun d hd => ds_Fd (hf d hd))).mono (Nat.le_refl _) ?_
  have := Nat.mul_le_mul_left (260 + 2) hl
  omega
theorem zip_mem {xs ys : List PyData} {p : PyData} (h : p ∈ zipD xs ys) : ∃ a b, a ∈ xs ∧ b ∈ ys ∧ p = .tuple [a, b] := by
  unfold zipD at h
  obtain ⟨i, hi⟩ := List.getElem?_of_mem h
  rw [List.getElem?_zipWith] at hi
  cases ea : xs[i]? with
  | none => rw [ea] at hi; cases hi
  | some a => cases eb : ys[i]? with
    | none => rw [ea, eb] at hi; cases hi
    | some b =>
      rw [ea, eb] at hi; cases hi
      exact ⟨a, b, List.mem_of_getElem? ea, List.mem_of_getElem? eb, rfl⟩
theorem lay_wb_dummy : True := trivial
/-! ### worths -/
def spWorthD : SpD := fun avs Q => match avs with
  | [.bag, .d f] => ∃ fs, f = .tuple fs ∧ IsF f ∧ ∀ ds, ds.length = fs.length → (∀ x ∈ ds, IsV x) → Q (.tuple ds)
  | _ => False
theorem B_law_worth (D : DefOk K mg "_law_worth" s_law_worth ["bag", "form"]) (T : Txt mg) (B_law_value : FnB P w K mg base 6 "_law_value" ["bag", "kind", "plainly"] spVal) : FnB P w K mg base 7 "_law_worth" ["bag", "form"] spWorthD := by
  refine fnB_of D sc_law_worth (fun avs Q h => ?_) (fun f cd A outer s H E => ⟨_, (dss_one (ds_ret (dx_call1Ty (r := rTupD) E (fun _ _ => call_tupD) (cs_tuple K) (by intro _; rfl) T.b_tuple boot_tuple (dx_fr (dxf_lc [("name", 2), ("kind", 3)] E (fun _ => sc_law_worth.nd) (dxi_seq E (dx_var 1)) (fun _ => blkOk_by (by rfl)) (dg_tup (n := 2) (E.blk _) (dgs_cons (dg_name 2 (fun _ => sc_law_worth.nd)) (dgs_cons (dg_name 3 (fun _ => sc_law_worth.nd)) dgs_nil))) dxp_nil (dx_callb (E.blk _) B_law_value (by decide) (dxv_cons (dx_var 0) (dxv_cons (dx_var 3) (dxv_cons dx_bl dxv_nil))))))))), fun avs Q h => ?_⟩)
  · unfold spWorthD at h; split at h <;> first | rfl | exact h.elim
  · unfold spWorthD at h; split at h
    · rename_i f
      obtain ⟨fs, rfl, hF, h⟩ := h
      obtain ⟨fs', ef, f0, f1, f2⟩ := id hF
      cases ef
      (repeat ((conv => whnf); refine And.intro (by first | exact rfl | exact trivial | exact ⟨by decide, by decide, by decide⟩ | exact ⟨by decide, by decide⟩ | exact ⟨List.cons_ne_nil _ _, Nat.le_of_ble_eq_true rfl⟩ | exact ⟨rfl, rfl⟩ | exact eqOk_str | exact eqOk_int | exact eqOk_bool | exact Nat.le_of_ble_eq_true rfl | exact eqOk_tnil | exact eqOk_nil | assumption) ?_)); (try (conv => whnf))
      refine lcW_of (fun ds acc => ds.length + acc.length = fs.length ∧ (∀ g ∈ ds, IsFd g) ∧ ∀ x ∈ acc, IsV x) ?hn ?hc _ _ ⟨by simp, f2, by simp⟩
      case hn =>
        intro acc ⟨hl, _, ha⟩
        rw [List.length_nil, Nat.zero_add] at hl
        (repeat ((conv => whnf); refine And.intro (by first | exact rfl | exact trivial | exact ⟨by decide, by decide, by decide⟩ | exact ⟨by decide, by decide⟩ | exact ⟨List.cons_ne_nil _ _, Nat.le_of_ble_eq_true rfl⟩ | exact ⟨rfl, rfl⟩ | exact eqOk_str | exact eqOk_int | exact eqOk_bool | exact Nat.le_of_ble_eq_true rfl | exact eqOk_tnil | exact eqOk_nil | assumption) ?_)); (try (conv => whnf))
        exact h acc hl ha
      case hc =>
        intro d ds acc ⟨hl, hd, ha⟩ ih
        rw [List.length_cons] at hl
        obtain ⟨n, k, rfl, _, hk⟩ := hd d (List.mem_cons_self ..)
        (repeat ((conv => whnf); refine And.intro (by first | exact rfl | exact trivial | exact ⟨by decide, by decide, by decide⟩ | exact ⟨by decide, by decide⟩ | exact ⟨List.cons_ne_nil _ _, Nat.le_of_ble_eq_true rfl⟩ | exact ⟨rfl, rfl⟩ | exact eqOk_str | exact eqOk_int | exact eqOk_bool | exact Nat.le_of_ble_eq_true rfl | exact eqOk_tnil | exact eqOk_nil | assumption) ?_)); (try (conv => whnf))
        intro v hv
        refine ⟨Nat.lt_of_lt_of_le (by omega : acc.length < 7) (by decide), ih _ ⟨by rw [List.length_append, List.length_singleton]; omega, fun g hg => hd g (List.mem_cons_of_mem _ hg), fun x hx => ?_⟩⟩
        rcases List.mem_append.mp hx with hx | hx
        · exact ha x hx
        · rw [List.mem_singleton] at hx; rw [hx]; exact hv
    · exact h.elim
def isW (p : PyData) : Bool := match p with
  | .tuple [.tuple [_, k], x] => isVK k x
  | _ => true
def worthB (fs : List PyData) (x : PyData) : Bool := match x with
  | .tuple ds => decide (ds.length = fs.length) && (zipD fs ds).all isW
  | _ => false
def spW : SpD := fun avs Q => match avs with
  | [.d f, .d x] => ∃ fs, f = .tuple fs ∧ (∀ g ∈ fs, IsFd g) ∧ fs.length ≤ 1000 ∧ Fit x ∧ Q (.bool (worthB fs x))
  | _ => False
theorem tup_eq {ds : List PyData} {n : Nat} : isTupB (.tuple ds) (n : Int) (n : Int) = decide (ds.length = n) := by
  show (decide ((n : Int) ≤ (ds.length : Int)) && decide ((ds.length : Int) ≤ (n : Int))) = _
  by_cases h : ds.length = n
  · rw [decide_eq_true h, decide_eq_true (by omega), decide_eq_true (by omega)]; rfl
  · rw [decide_eq_false h, Bool.and_eq_false_iff]
    by_cases h2 : n ≤ ds.length
    · exact .inr (decide_eq_false (by omega))
    · exact .inl (decide_eq_false (by omega))
theorem B_is_worth (D : DefOk K mg "is_worth" s_is_worth ["form", "thing"]) (T : Txt mg) (B_is_tuple : FnB P w K mg base 1 "is_tuple" ["thing", "least", "most"] spTupB) (B_is_value : FnB P w K mg base 3 "is_value" ["kind", "thing"] (sp2 (fun k d => IsK k ∧ Fit d) isVK)) :
    FnB P w K mg base 4 "is_worth" ["form", "thing"] spW := by
  refine fnB_of D sc_is_worth (fun avs Q h => ?_) (fun f cd A outer s H E => ⟨_, (dss_cons (ds_if (dxt_not (dxt_tru E.K (dx_callb E B_is_tuple (by decide) (dxv_cons (dx_var 1) (dxv_cons (dx_call1B (r := rLenD) E (fun _ _ _ _ => call_lenD) (cs_len K) (by intro _; rfl) T.b_len boot_lenD (dx_var 0)) (dxv_cons (dx_call1B (r := rLenD) E (fun _ _ _ _ => call_lenD) (cs_len K) (by intro _; rfl) T.b_len boot_lenD (dx_var 0)) dxv_nil)))))) (dss_one (ds_ret dx_bl)) dss_nil)
  (dss_one (ds_ret (dx_call1B (r := rAll) E (fun _ c _ _ => cr_all c) (cs_all K) (by intro _; rfl) T.b_all boot_all (dx_fr (dxf_lc [("field", 2), ("value", 3)] E (fun _ => sc_is_worth.nd) (dxi_zip E (by intro _; rfl) T.b_zip (dxa_cons (dx_var 0) (dxa_cons (dx_var 1) dxa_nil))) (fun _ => blkOk_by (by rfl)) (dg_tup (n := 2) (E.blk _) (dgs_cons (dg_name 2 (fun _ => sc_is_worth.nd)) (dgs_cons (dg_name 3 (fun _ => sc_is_worth.nd)) dgs_nil))) dxp_nil (dx_callb (E.blk _) B_is_value (by decide) (dxv_cons (dx_ix (E.blk _) (dx_var 2) dx_int) (dxv_cons (dx_var 3) dxv_nil))))))))), fun avs Q h => ?_⟩)
  · unfold spW at h; split at h <;> first | rfl | exact h.elim
  · unfold spW at h; split at h
    · rename_i f x
      obtain ⟨fs, rfl, hF, hl, hx, h⟩ := h
      cases x with
      | tuple ds =>
        replace h : Q (.bool (decide (ds.length = fs.length) && (zipD fs ds).all isW)) := h
        refine seq_if (!decide (ds.length = fs.length)) (fun Q hq => ?_) (fun z => ?_) fun z => ?_
        · (repeat ((conv => whnf); refine And.intro (by first | exact rfl | exact trivial | exact ⟨by decide, by decide, by decide⟩ | exact ⟨by decide, by decide⟩ | exact ⟨List.cons_ne_nil _ _, Nat.le_of_ble_eq_true rfl⟩ | exact ⟨rfl, rfl⟩ | exact eqOk_str | exact eqOk_int | exact eqOk_bool | exact Nat.le_of_ble_eq_true rfl | exact eqOk_tnil | exact eqOk_nil | assumption) ?_)); (try (conv => whnf))
          rw [tup_eq]
          exact hq
        · rw [Bool.not_eq_true'] at z
          rw [z] at h; exact h
        · rw [Bool.not_eq_false'] at z
          rw [z, Bool.true_and] at h
          (repeat ((conv => whnf); refine And.intro (by first | exact rfl | exact trivial | exact ⟨by decide, by decide, by decide⟩ | exact ⟨by decide, by decide⟩ | exact ⟨List.cons_ne_nil _ _, Nat.le_of_ble_eq_true rfl⟩ | exact ⟨rfl, rfl⟩ | exact eqOk_str | exact eqOk_int | exact eqOk_bool | exact Nat.le_of_ble_eq_true rfl | exact eqOk_tnil | exact eqOk_nil | assumption) ?_)); (try (conv => whnf))
          refine lc_map (fun p => .bool (isW p)) _ _ (by rw [zipD_length]; exact sz (by simp; omega)) (fun x hm ds' acc hl ht => ?_) ?_
          · obtain ⟨a, b, ha, hb, rfl⟩ := zip_mem hm
            obtain ⟨n, k, rfl, _, hk⟩ := hF a ha
            (repeat ((conv => whnf); refine And.intro (by first | exact rfl | exact trivial | exact ⟨by decide, by decide, by decide⟩ | exact ⟨by decide, by decide⟩ | exact ⟨List.cons_ne_nil _ _, Nat.le_of_ble_eq_true rfl⟩ | exact ⟨rfl, rfl⟩ | exact eqOk_str | exact eqOk_int | exact eqOk_bool | exact Nat.le_of_ble_eq_true rfl | exact eqOk_tnil | exact eqOk_nil | assumption) ?_)); (try (conv => whnf))
            exact ⟨⟨hk, hx.item hb⟩, hl, ht⟩
          · rw [List.nil_append]
            (conv => whnf)
            rw [bools_map]
            (conv => whnf)
            rw [all_map]
            exact h
      | _ => (repeat ((conv => whnf); refine And.intro (by first | exact rfl | exact trivial | exact ⟨by decide, by decide, by decide⟩ | exact ⟨by decide, by decide⟩ | exact ⟨List.cons_ne_nil _ _, Nat.le_of_ble_eq_true rfl⟩ | exact ⟨rfl, rfl⟩ | exact eqOk_str | exact eqOk_int | exact eqOk_bool | exact Nat.le_of_ble_eq_true rfl | exact eqOk_tnil | exact eqOk_nil | assumption) ?_)); (try (conv => whnf)); exact h
    · exact h.elim
theorem B_law_is_worth (D : DefOk K mg "_law_is_worth" s_law_is_worth ["form", "thing"]) (T : Txt mg) (B_law_is_value : FnB P w K mg base 3 "_law_is_value" ["kind", "thing"] (sp2 (fun k d => IsK k ∧ Fit d) isVK)) : FnB P w K mg base 4 "_law_is_worth" ["form", "thing"] spW := by
  refine fnB_of D sc_law_is_worth (fun avs Q h => ?_) (fun f cd A outer s H E => ⟨_, (dss_cons (ds_if (dxw_t (dxw_or (dxt_not (dxt_val (dx_isT "tuple" (by simp) E (by intro _; rfl) T.b_isinstance (by intro _; rfl) T.b_tuple boot_tuple (dx_var 1)))) (dxw_or1 (dxt_cmp E (fun _ h => op_neX h) (ops_ne K) (dx_call1B (r := rLenD) E (fun _ _ _ _ => call_lenD) (cs_len K) (by intro _; rfl) T.b_len boot_lenD (dx_var 1)) (dx_call1B (r := rLenD) E (fun _ _ _ _ => call_lenD) (cs_len K) (by intro _; rfl) T.b_len boot_lenD (dx_var 0)) (nomark _))))) (dss_one (ds_ret dx_bl)) dss_nil)
  (dss_one (ds_ret (dx_cmp E (fun _ h => op_eqX h) (ops_eq K) (dx_fr (dxf_lc [("field", 2), ("value", 3)] E (fun _ => sc_law_is_worth.nd) (dxi_zip E (by intro _; rfl) T.b_zip (dxa_cons (dx_var 0) (dxa_cons (dx_var 1) dxa_nil))) (fun _ => blkOk_by (by rfl)) (dg_tup (n := 2) (E.blk _) (dgs_cons (dg_name 2 (fun _ => sc_law_is_worth.nd)) (dgs_cons (dg_name 3 (fun _ => sc_law_is_worth.nd)) dgs_nil))) (dxp_one (dxt_not (dxt_tru (E.blk _).K (dx_callb (E.blk _) B_law_is_value (by decide) (dxv_cons (dx_ix (E.blk _) (dx_var 2) dx_int) (dxv_cons (dx_var 3) dxv_nil)))))) dx_int)) (dx_lst dxa_nil) (nomark _))))), fun avs Q h => ?_⟩)
  · unfold spW at h; split at h <;> first | rfl | exact h.elim
  · unfold spW at h; split at h
    · rename_i f x
      obtain ⟨fs, rfl, hF, hOl, hx, h⟩ := h
      cases x with
      | tuple ds =>
        replace h : Q (.bool (decide (ds.length = fs.length) && (zipD fs ds).all isW)) := h
        have el : ((ds.length : Int) == (fs.length : Int)) = decide (ds.length = fs.length) := by
          rw [Bool.eq_iff_iff, beq_iff_eq, decide_eq_true_eq]; omega
        refine seq_if (!decide (ds.length = fs.length)) (fun Q hq => ?_) (fun z => ?_) fun z => ?_
        · (repeat ((conv => whnf); refine And.intro (by first | exact rfl | exact trivial | exact ⟨by decide, by decide, by decide⟩ | exact ⟨by decide, by decide⟩ | exact ⟨List.cons_ne_nil _ _, Nat.le_of_ble_eq_true rfl⟩ | exact ⟨rfl, rfl⟩ | exact eqOk_str | exact eqOk_int | exact eqOk_bool | exact Nat.le_of_ble_eq_true rfl | exact eqOk_tnil | exact eqOk_nil | assumption) ?_)); (try (conv => whnf))
          rw [eqv_int, el]
          exact hq
        · rw [Bool.not_eq_true'] at z
          rw [z] at h; exact h
        · rw [Bool.not_eq_false'] at z
          rw [z, Bool.true_and] at h
          (repeat ((conv => whnf); refine And.intro (by first | exact rfl | exact trivial | exact ⟨by decide, by decide, by decide⟩ | exact ⟨by decide, by decide⟩ | exact ⟨List.cons_ne_nil _ _, Nat.le_of_ble_eq_true rfl⟩ | exact ⟨rfl, rfl⟩ | exact eqOk_str | exact eqOk_int | exact eqOk_bool | exact Nat.le_of_ble_eq_true rfl | exact eqOk_tnil | exact eqOk_nil | assumption) ?_)); (try (conv => whnf))
          refine lc_pure (fun x => !isW x) (fun _ => .int 1) _ _ (by rw [zipD_length]; exact sz (by simp; omega)) (fun x hm ds' acc hl ht hf => ?_) ?_
          · obtain ⟨a, b, ha, hb, rfl⟩ := zip_mem hm
            obtain ⟨n, k, rfl, _, hk⟩ := hF a ha
            (repeat ((conv => whnf); refine And.intro (by first | exact rfl | exact trivial | exact ⟨by decide, by decide, by decide⟩ | exact ⟨by decide, by decide⟩ | exact ⟨List.cons_ne_nil _ _, Nat.le_of_ble_eq_true rfl⟩ | exact ⟨rfl, rfl⟩ | exact eqOk_str | exact eqOk_int | exact eqOk_bool | exact Nat.le_of_ble_eq_true rfl | exact eqOk_tnil | exact eqOk_nil | assumption) ?_)); (try (conv => whnf))
            refine ⟨⟨hk, hx.item hb⟩, ?_⟩
            have ep : isW (.tuple [.tuple [.str n, k], b]) = isVK k b := rfl
            (repeat ((conv => whnf); refine And.intro (by first | exact rfl | exact trivial | exact ⟨by decide, by decide, by decide⟩ | exact ⟨by decide, by decide⟩ | exact ⟨List.cons_ne_nil _ _, Nat.le_of_ble_eq_true rfl⟩ | exact ⟨rfl, rfl⟩ | exact eqOk_str | exact eqOk_int | exact eqOk_bool | exact Nat.le_of_ble_eq_true rfl | exact eqOk_tnil | exact eqOk_nil | assumption) ?_)); (try (conv => whnf))
            cases e : isVK k b with
            | true => exact hf (by rw [ep, e]; rfl)
            | false => exact ⟨hl, ht (by rw [ep, e]; rfl)⟩
          · rw [List.nil_append]
            (repeat ((conv => whnf); refine And.intro (by first | exact rfl | exact trivial | exact ⟨by decide, by decide, by decide⟩ | exact ⟨by decide, by decide⟩ | exact ⟨List.cons_ne_nil _ _, Nat.le_of_ble_eq_true rfl⟩ | exact ⟨rfl, rfl⟩ | exact eqOk_str | exact eqOk_int | exact eqOk_bool | exact Nat.le_of_ble_eq_true rfl | exact eqOk_tnil | exact eqOk_nil | assumption) ?_)); (try (conv => whnf))
            rw [eqv_nil, filter_none]
            simpa using h
      | _ => (repeat ((conv => whnf); refine And.intro (by first | exact rfl | exact trivial | exact ⟨by decide, by decide, by decide⟩ | exact ⟨by decide, by decide⟩ | exact ⟨List.cons_ne_nil _ _, Nat.le_of_ble_eq_true rfl⟩ | exact ⟨rfl, rfl⟩ | exact eqOk_str | exact eqOk_int | exact eqOk_bool | exact Nat.le_of_ble_eq_true rfl | exact eqOk_tnil | exact eqOk_nil | assumption) ?_)); (try (conv => whnf)); exact h
    · exact h.elim
/-! ### nested -/
def spNest : SpD := fun avs Q => match avs with
  | [.bag, .d x, .d (.int m)] => Dt 4 100 x ∧ (0 ≤ m ∧ m ≤ 16) ∧ ∀ d, Dt 20 200 d → Q d
  | _ => False
theorem B_law_nested (D : DefOk K mg "_law_nested" s_law_nested ["bag", "thing", "many"]) (T : Txt mg) (B_law_take : FnB P w K mg base 1 "_law_take" ["bag", "many"] spTake) : FnB P w K mg base 2 "_law_nested" ["bag", "thing", "many"] spNest := by
  refine fnB_of D sc_law_nested (fun avs Q h => ?_) (fun f cd A outer s H E => ⟨_, (dss_cons (ds_set 3 (fun _ => sc_law_nested.nd) (dx_var 1))
  (dss_cons (ds_for E (dxi_range1 E (by intro _; rfl) T.b_range (dxa_cons (dx_var 2) dxa_nil)) (dg_name 4 (fun _ => sc_law_nested.nd)) (dss_one (ds_set 3 (fun _ => sc_law_nested.nd) (dx_if (dxt_cmp E (r := fun _ => _) (fun _ _ => op_gt) (ops_int K gtB) (dx_callb E B_law_take (by decide) (dxv_cons (dx_var 0) (dxv_cons dx_int dxv_nil))) dx_int (nomark _)) (dx_tup (dxa_cons (dx_var 3) dxa_nil)) (dx_lst (dxa_cons (dx_var 3) dxa_nil))))))
  (dss_one (ds_ret (dx_var 3))))), fun avs Q h => ?_⟩)
  · unfold spNest at h; split at h <;> first | rfl | exact h.elim
  · unfold spNest at h; split at h
    · rename_i x m
      obtain ⟨hx, ⟨m0, m1⟩, h⟩ := h
      refine seq_to [.bag, .dat false x, .dat false (.int m), .dat false x, .un] (fun nx hnx => by (repeat ((conv => whnf); refine And.intro (by first | exact rfl | exact trivial | exact ⟨by decide, by decide, by decide⟩ | exact ⟨by decide, by decide⟩ | exact ⟨List.cons_ne_nil _ _, Nat.le_of_ble_eq_true rfl⟩ | exact ⟨rfl, rfl⟩ | exact eqOk_str | exact eqOk_int | exact eqOk_bool | exact Nat.le_of_ble_eq_true rfl | exact eqOk_tnil | exact eqOk_nil | assumption) ?_)); (try (conv => whnf)); exact hnx) ?_
      refine seq_abs (fun Γ => ∃ d s4, Dt 20 200 d ∧ Γ = [.bag, .dat false x, .dat false (.int m), .dat false d, s4]) (fun nx hnx => ?_) ?_
      · refine for_inv (fun ds Γ => ∃ d s4, Dt (20 - ds.length) (200 - 5 * ds.length) d ∧ ds.length ≤ 16 ∧ Γ = [.bag, .dat false x, .dat false (.int m), .dat false d, s4]) (fun F hF => ?_) ?_ ?_
        · (repeat ((conv => whnf); refine And.intro (by first | exact rfl | exact trivial | exact ⟨by decide, by decide, by decide⟩ | exact ⟨by decide, by decide⟩ | exact ⟨List.cons_ne_nil _ _, Nat.le_of_ble_eq_true rfl⟩ | exact ⟨rfl, rfl⟩ | exact eqOk_str | exact eqOk_int | exact eqOk_bool | exact Nat.le_of_ble_eq_true rfl | exact eqOk_tnil | exact eqOk_nil | assumption) ?_)); (try (conv => whnf))
          refine ⟨by omega, hF _ _ ⟨x, _, ?_, ?_, rfl⟩⟩
          · refine hx.mono ?_ ?_ <;> simp only [rangeD, List.length_map, List.length_range] <;> omega
          · simp only [rangeD, List.length_map, List.length_range]; omega
        · rintro Γ ⟨d, s4, hd, _, rfl⟩
          exact hnx _ ⟨d, _, hd.mono (by simp) (by simp), rfl⟩
        · rintro t ts Γ ⟨d, s4, hd, hl, rfl⟩ rest hrest
          rw [List.length_cons] at hd hl
          have o1 : Dt (20 - ts.length) (200 - 5 * ts.length) (.tuple [d]) := (dt_tup (dt_one hd)).mono (by omega) (by omega)
          have o2 : Dt (20 - ts.length) (200 - 5 * ts.length) (.list [d]) := (dt_lst (dt_one hd)).mono (by omega) (by omega)
          (repeat ((conv => whnf); refine And.intro (by first | exact rfl | exact trivial | exact ⟨by decide, by decide, by decide⟩ | exact ⟨by decide, by decide⟩ | exact ⟨List.cons_ne_nil _ _, Nat.le_of_ble_eq_true rfl⟩ | exact ⟨rfl, rfl⟩ | exact eqOk_str | exact eqOk_int | exact eqOk_bool | exact Nat.le_of_ble_eq_true rfl | exact eqOk_tnil | exact eqOk_nil | assumption) ?_)); (try (conv => whnf))
          intro r r0 r1
          (conv => whnf)
          cases e : gtB r 0 with
          | true => (repeat ((conv => whnf); refine And.intro (by first | exact rfl | exact trivial | exact ⟨by decide, by decide, by decide⟩ | exact ⟨by decide, by decide⟩ | exact ⟨List.cons_ne_nil _ _, Nat.le_of_ble_eq_true rfl⟩ | exact ⟨rfl, rfl⟩ | exact eqOk_str | exact eqOk_int | exact eqOk_bool | exact Nat.le_of_ble_eq_true rfl | exact eqOk_tnil | exact eqOk_nil | assumption) ?_)); (try (conv => whnf)); exact hrest _ ⟨_, _, o1, by omega, rfl⟩
          | false => (repeat ((conv => whnf); refine And.intro (by first | exact rfl | exact trivial | exact ⟨by decide, by decide, by decide⟩ | exact ⟨by decide, by decide⟩ | exact ⟨List.cons_ne_nil _ _, Nat.le_of_ble_eq_true rfl⟩ | exact ⟨rfl, rfl⟩ | exact eqOk_str | exact eqOk_int | exact eqOk_bool | exact Nat.le_of_ble_eq_true rfl | exact eqOk_tnil | exact eqOk_nil | assumption) ?_)); (try (conv => whnf)); exact hrest _ ⟨_, _, o2, by omega, rfl⟩
      · rintro Γ ⟨d, s4, hd, rfl⟩
        (repeat ((conv => whnf); refine And.intro (by first | exact rfl | exact trivial | exact ⟨by decide, by decide, by decide⟩ | exact ⟨by decide, by decide⟩ | exact ⟨List.cons_ne_nil _ _, Nat.le_of_ble_eq_true rfl⟩ | exact ⟨rfl, rfl⟩ | exact eqOk_str | exact eqOk_int | exact eqOk_bool | exact Nat.le_of_ble_eq_true rfl | exact eqOk_tnil | exact eqOk_nil | assumption) ?_)); (try (conv => whnf))
        exact h d hd
    · exact h.elim
end K10
end
section
set_option autoImplicit false
set_option linter.all false
set_option maxRecDepth 100000
set_option maxHeartbeats 4000000
namespace K10
open PySem PySem.Spec L2 DL
variable {P : Program} {w : World} {K : PySem.W.Frag} {mg : Str → Option Value} {base : Heap}
theorem sc_law_are_values_told : FnScope ["bag", "kind", "value", "great", "some", "thing", "shown", "k"] ["bag", "kind"] (defScope s_law_are_values_told) := ⟨rfl, rfl, rfl, by decide +kernel, rfl, by decide +kernel, by decide +kernel⟩
/-! ### alike: lists of truths -/
def spAlikeL : SpD := fun avs Q => match avs with
  | [.d (.list a), .d (.list b)] => ∃ bs : List Bool, bs.length ≤ 10 ∧ a = bs.map .bool ∧ b = a ∧ Q (.bool true)
  | _ => False
theorem lay_bools : ∀ bs : List Bool, PyData.canLayAll0 (bs.map PyData.bool) = true
  | [] => rfl
  | b :: bs => by simp [PyData.canLayAll0, PyData.canLay0, lay_bools bs]
theorem eqv_bools : ∀ bs : List Bool, PyData.eqvAll (bs.map PyData.bool) (bs.map PyData.bool) = true
  | [] => rfl
  | b :: bs => by simp [PyData.eqvAll, PyData.eqv, eqv_bools bs]
theorem dt_bools : ∀ bs : List Bool, DtA 0 (10 * bs.length) (bs.map PyData.bool)
  | [] => dtA_nil
  | b :: bs => (dtA_cons (dt_bool (n := 0) (k := b)) (dt_bools bs)).mono (Nat.le_refl _) (by rw [List.length_cons]; omega)
theorem B_law_alikeL (D : DefOk K mg "_law_alike" s_law_alike ["found", "due"]) (T : Txt mg) : FnB P w K mg base 1 "_law_alike" ["found", "due"] spAlikeL := by
  refine fnB_of D sc_law_alike (fun avs Q h => ?_) (fun f cd A outer s H E => ⟨_, (dss_one (ds_ret (dx_and (dx_cmp E (fun _ h => op_eqX h) (ops_eq K) (dx_var 0) (dx_var 1) (nomark _)) (dx_one (dx_cmp E (fun _ h => op_eqX h) (ops_eq K) (dx_call1B (r := rReprD) E (fun _ _ h g => call_reprD ⟨_, h⟩ g) (cs_reprD K) (by intro _; rfl) T.b_repr boot_repr (dx_var 0)) (dx_call1B (r := rReprD) E (fun _ _ h g => call_reprD ⟨_, h⟩ g) (cs_reprD K) (by intro _; rfl) T.b_repr boot_repr (dx_var 1)) (nomark _)))))), fun avs Q h => ?_⟩)
  · unfold spAlikeL at h; split at h <;> first | rfl | exact h.elim
  · unfold spAlikeL at h; split at h
    · rename_i a b
      obtain ⟨bs, hl, rfl, rfl, h⟩ := h
      have hd : Dt 1 200 (.list (bs.map PyData.bool)) := (dt_lst (dt_bools bs)).mono (by decide) (by omega)
      have hs : SeqAt.shaped (.list (bs.map PyData.bool)) = true := by
        have h1 : PyData.canLay0 (.list (bs.map PyData.bool)) = true := by simp only [PyData.canLay0]; exact lay_bools bs
        have h2 : (PyData.list (bs.map PyData.bool)).depth ≤ 64 := Nat.le_trans hd.1 (by decide)
        unfold SeqAt.shaped
        rw [h1, decide_eq_true h2]; rfl
      have he : PyData.eqv (.list (bs.map PyData.bool)) (.list (bs.map PyData.bool)) = true := by simp only [PyData.eqv]; exact eqv_bools bs
      generalize PyData.list (bs.map PyData.bool) = z at hd hs he
      have sh : z.showable = true ∧ z.depth ≤ 60 ∧ z.shown.length ≤ sizeLine := ⟨hd.2.1, Nat.le_trans hd.1 (by decide), Nat.le_trans hd.2.2 (by decide)⟩
      (conv => whnf)
      refine ⟨.inr (.inl ⟨hs, hs⟩), ?_⟩
      rw [he]
      (conv => whnf)
      refine ⟨sh, ?_⟩
      (conv => whnf)
      refine ⟨sh, ?_⟩
      (conv => whnf)
      refine ⟨.inl rfl, ?_⟩
      rw [show PyData.eqv (.str z.shown) (.str z.shown) = true from beq_self_eq_true _]
      exact h
    · exact h.elim
/-! ### things told -/
def Th (x : PyData) : Prop := Dt 40 5000000 x
theorem Th.fit {x : PyData} (h : Th x) : Fit x := ⟨_, _, h, by decide⟩
theorem Th.shown {x : PyData} (h : Th x) : x.showable = true ∧ x.depth ≤ 60 ∧ x.shown.length ≤ sizeLine := ⟨h.2.1, Nat.le_trans h.1 (by decide), Nat.le_trans h.2.2 (by decide)⟩
def spTold : SpD := fun avs Q => match avs with
  | [.d x] => Th x ∧ Q (.bool true)
  | _ => False
theorem alikeL {bs : List Bool} {Q : PyData → Prop} (hl : bs.length ≤ 10) (h : Q (.bool true)) : spAlikeL [.d (.list (bs.map .bool)), .d (.list (bs.map .bool))] Q := ⟨bs, hl, rfl, rfl, h⟩
theorem B_law_are_told (D : DefOk K mg "_law_are_told" s_law_are_told ["thing"]) (T : Txt mg) (B_law_alike : FnB P w K mg base 1 "_law_alike" ["found", "due"] spAlikeL) (B_law_is_int : FnB P w K mg base 1 "_law_is_int" ["thing"] (sp1 isIntD)) (B_law_is_name : FnB P w K mg base 1 "_law_is_name" ["thing"] (spFitB nameB))
    (B_law_is_base : FnB P w K mg base 2 "_law_is_base" ["thing"] (sp1 isBD)) (B_law_is_kind : FnB P w K mg base 3 "_law_is_kind" ["thing"] (sp1 isKD)) (B_law_is_form : FnB P w K mg base 4 "_law_is_form" ["thing"] (spFitB formB))
    (B_is_integer : FnB P w K mg base 1 "is_integer" ["thing"] (sp1 isIntD)) (B_is_name : FnB P w K mg base 1 "is_name" ["thing"] (spFitB nameB)) (B_is_base : FnB P w K mg base 2 "is_base" ["thing"] (sp1 isBD)) (B_is_kind : FnB P w K mg base 3 "is_kind" ["thing"] (sp1 isKD)) (B_is_form : FnB P w K mg base 5 "is_form" ["thing"] (spFitB formB)) :
    FnB P w K mg base 6 "_law_are_told" ["thing"] spTold := by
  refine fnB_of D sc_law_are_told (fun avs Q h => ?_) (fun f cd A outer s H E => ⟨_, (dss_cons (ds_set 1 (fun _ => sc_law_are_told.nd) (dx_lst (dxa_cons (dx_callb E B_law_is_int (by decide) (dxv_cons (dx_var 0) dxv_nil)) (dxa_cons (dx_callb E B_law_is_name (by decide) (dxv_cons (dx_var 0) dxv_nil)) (dxa_cons (dx_callb E B_law_is_base (by decide) (dxv_cons (dx_var 0) dxv_nil)) (dxa_cons (dx_callb E B_law_is_kind (by decide) (dxv_cons (dx_var 0) dxv_nil)) (dxa_cons (dx_callb E B_law_is_form (by decide) (dxv_cons (dx_var 0) dxv_nil)) dxa_nil)))))))
  (dss_cons (ds_for E (dxi_range1 E (by intro _; rfl) T.b_range (dxa_cons dx_int dxa_nil)) (dg_name 2 (fun _ => sc_law_are_told.nd)) (dss_cons (ds_set 3 (fun _ => sc_law_are_told.nd) (dx_call1B (r := rReprD) E (fun _ _ h g => call_reprD ⟨_, h⟩ g) (cs_reprD K) (by intro _; rfl) T.b_repr boot_repr (dx_var 0)))
  (dss_cons (ds_set 4 (fun _ => sc_law_are_told.nd) (dx_lst (dxa_cons (dx_callb E B_is_integer (by decide) (dxv_cons (dx_var 0) dxv_nil)) (dxa_cons (dx_callb E B_is_name (by decide) (dxv_cons (dx_var 0) dxv_nil)) (dxa_cons (dx_callb E B_is_base (by decide) (dxv_cons (dx_var 0) dxv_nil)) (dxa_cons (dx_callb E B_is_kind (by decide) (dxv_cons (dx_var 0) dxv_nil)) (dxa_cons (dx_callb E B_is_form (by decide) (dxv_cons (dx_var 0) dxv_nil)) dxa_nil)))))))
  (dss_one (ds_if (dxw_t (dxw_or (dxt_not (dxt_tru E.K (dx_callb E B_law_alike (by decide) (dxv_cons (dx_var 4) (dxv_cons (dx_var 1) dxv_nil))))) (dxw_or1 (dxt_cmp E (fun _ h => op_neX h) (ops_ne K) (dx_call1B (r := rReprD) E (fun _ _ h g => call_reprD ⟨_, h⟩ g) (cs_reprD K) (by intro _; rfl) T.b_repr boot_repr (dx_var 0)) (dx_var 3) (nomark _))))) (dss_one (ds_ret dx_bl)) dss_nil)))))
  (dss_one (ds_ret dx_bl)))), fun avs Q h => ?_⟩)
  · unfold spTold at h; split at h <;> first | rfl | exact h.elim
  · unfold spTold at h; split at h
    · rename_i x
      obtain ⟨hx, h⟩ := h
      have hf := hx.fit
      have hs := hx.shown
      obtain ⟨b1, e1⟩ : ∃ b, isIntD x = b := ⟨_, rfl⟩
      obtain ⟨b2, e2⟩ : ∃ b, nameB x = b := ⟨_, rfl⟩
      obtain ⟨b3, e3⟩ : ∃ b, isBD x = b := ⟨_, rfl⟩
      obtain ⟨b4, e4⟩ : ∃ b, isKD x = b := ⟨_, rfl⟩
      obtain ⟨b5, e5⟩ : ∃ b, formB x = b := ⟨_, rfl⟩
      refine seq_to [.dat false x, .dat false (.list ([b1, b2, b3, b4, b5].map .bool)), .un, .un, .un] (fun nx hnx => ?_) ?_
      · (conv => whnf)
        refine ⟨hf, ?_⟩
        (conv => whnf)
        refine ⟨hf, ?_⟩
        (conv => whnf)
        rw [e1, e2, e3, e4, e5]
        refine ⟨Nat.le_trans (Nat.le_of_ble_eq_true rfl : _ ≤ 1000) (by decide), ?_⟩
        (repeat ((conv => whnf); refine And.intro (by first | exact rfl | exact trivial | exact ⟨by decide, by decide, by decide⟩ | exact ⟨by decide, by decide⟩ | exact ⟨List.cons_ne_nil _ _, Nat.le_of_ble_eq_true rfl⟩ | exact ⟨rfl, rfl⟩ | exact eqOk_str | exact eqOk_int | exact eqOk_bool | exact Nat.le_of_ble_eq_true rfl | exact eqOk_tnil | exact eqOk_nil | assumption) ?_)); (try (conv => whnf))
        exact hnx
      generalize hS : x.shown = S at hs
      refine seq_abs (fun Γ => ∃ s2 s3 s4, Γ = [.dat false x, .dat false (.list ([b1, b2, b3, b4, b5].map .bool)), s2, s3, s4]) (fun nx hnx => ?_) ?_
      · refine for_inv (fun ds Γ => ∃ s2 s3 s4, Γ = [.dat false x, .dat false (.list ([b1, b2, b3, b4, b5].map .bool)), s2, s3, s4]) (fun F hF => ?_) ?_ ?_
        · (repeat ((conv => whnf); refine And.intro (by first | exact rfl | exact trivial | exact ⟨by decide, by decide, by decide⟩ | exact ⟨by decide, by decide⟩ | exact ⟨List.cons_ne_nil _ _, Nat.le_of_ble_eq_true rfl⟩ | exact ⟨rfl, rfl⟩ | exact eqOk_str | exact eqOk_int | exact eqOk_bool | exact Nat.le_of_ble_eq_true rfl | exact eqOk_tnil | exact eqOk_nil | assumption) ?_)); (try (conv => whnf))
          exact hF _ _ ⟨_, _, _, rfl⟩
        · rintro Γ ⟨s2, s3, s4, rfl⟩
          exact hnx _ ⟨_, _, _, rfl⟩
        · rintro t ts Γ ⟨s2, s3, s4, rfl⟩ rest hrest
          refine seq_to [.dat false x, .dat false (.list ([b1, b2, b3, b4, b5].map .bool)), .dat false t, .dat false (.str S), s4] (fun nx2 hnx2 => ?_) ?_
          · (repeat ((conv => whnf); refine And.intro (by first | exact rfl | exact trivial | exact ⟨by decide, by decide, by decide⟩ | exact ⟨by decide, by decide⟩ | exact ⟨List.cons_ne_nil _ _, Nat.le_of_ble_eq_true rfl⟩ | exact ⟨rfl, rfl⟩ | exact eqOk_str | exact eqOk_int | exact eqOk_bool | exact Nat.le_of_ble_eq_true rfl | exact eqOk_tnil | exact eqOk_nil | assumption) ?_)); (try (conv => whnf))
            rw [← hS] at hs hnx2
            refine ⟨hs, ?_⟩
            exact hnx2
          refine seq_to [.dat false x, .dat false (.list ([b1, b2, b3, b4, b5].map .bool)), .dat false t, .dat false (.str S), .dat false (.list ([b1, b2, b3, b4, b5].map .bool))] (fun nx2 hnx2 => ?_) ?_
          · (conv => whnf)
            refine ⟨hf, ?_⟩
            (conv => whnf)
            refine ⟨hf, ?_⟩
            (conv => whnf)
            rw [e1, e2, e3, e4, e5]
            refine ⟨Nat.le_trans (Nat.le_of_ble_eq_true rfl : _ ≤ 1000) (by decide), ?_⟩
            (repeat ((conv => whnf); refine And.intro (by first | exact rfl | exact trivial | exact ⟨by decide, by decide, by decide⟩ | exact ⟨by decide, by decide⟩ | exact ⟨List.cons_ne_nil _ _, Nat.le_of_ble_eq_true rfl⟩ | exact ⟨rfl, rfl⟩ | exact eqOk_str | exact eqOk_int | exact eqOk_bool | exact Nat.le_of_ble_eq_true rfl | exact eqOk_tnil | exact eqOk_nil | assumption) ?_)); (try (conv => whnf))
            exact hnx2
          refine one_if false (fun Q hq => ?_) (fun z => nomatch z) fun _ => hrest _ ⟨_, _, _, rfl⟩
          (conv => whnf)
          refine ⟨[b1, b2, b3, b4, b5], Nat.le_of_ble_eq_true rfl, rfl, rfl, ?_⟩
          (repeat ((conv => whnf); refine And.intro (by first | exact rfl | exact trivial | exact ⟨by decide, by decide, by decide⟩ | exact ⟨by decide, by decide⟩ | exact ⟨List.cons_ne_nil _ _, Nat.le_of_ble_eq_true rfl⟩ | exact ⟨rfl, rfl⟩ | exact eqOk_str | exact eqOk_int | exact eqOk_bool | exact Nat.le_of_ble_eq_true rfl | exact eqOk_tnil | exact eqOk_nil | assumption) ?_)); (try (conv => whnf))
          rw [hS]
          refine ⟨hs, ?_⟩
          (conv => whnf)
          refine ⟨.inl rfl, ?_⟩
          rw [show PyData.eqv (.str S) (.str S) = true from beq_self_eq_true S]
          exact hq
      · rintro Γ ⟨s2, s3, s4, rfl⟩
        (repeat ((conv => whnf); refine And.intro (by first | exact rfl | exact trivial | exact ⟨by decide, by decide, by decide⟩ | exact ⟨by decide, by decide⟩ | exact ⟨List.cons_ne_nil _ _, Nat.le_of_ble_eq_true rfl⟩ | exact ⟨rfl, rfl⟩ | exact eqOk_str | exact eqOk_int | exact eqOk_bool | exact Nat.le_of_ble_eq_true rfl | exact eqOk_tnil | exact eqOk_nil | assumption) ?_)); (try (conv => whnf))
        exact h
    · exact h.elim
/-! ### values told -/
theorem tilde_12 : Dt 1 2000 (.str (Txt.mul "~" 12)) := (dtB_dt (n := 1) (b := 2000) (by decide +kernel))
theorem tilde_13 : Dt 1 2000 (.str (Txt.mul "~" 13)) := (dtB_dt (n := 1) (b := 2000) (by decide +kernel))
def spVTold : SpD := fun avs Q => match avs with
  | [.bag, .d k] => IsK k ∧ Q (.bool true)
  | _ => False
theorem tup_end {acc : List PyData} {Γ : GS} {nx : GS → Prop} (h : nx (Γ.set 3 (.dat false (.tuple acc)))) : ((Opd.val (.list acc)).wd Γ fun v => fTuple v fun c => (Opd.val c).wd Γ fun v => gDat 3 v Γ nx) := h
theorem tuple_of {n b : Nat} {d : PyData} (h : Ds n b d) : Ds (n + 1) (b + 5) (.tuple [d]) := (ds_tup (dsA_cons h (dsA_nil (b := 0)))).mono (Nat.le_refl _) (by omega)
theorem B_law_are_values_told (D : DefOk K mg "_law_are_values_told" s_law_are_values_told ["bag", "kind"]) (T : Txt mg) (B_law_value : FnB P w K mg base 6 "_law_value" ["bag", "kind", "plainly"] spVal) (B_law_some : FnB P w K mg base 2 "_law_some" ["bag", "things"] spSome) (B_law_take : FnB P w K mg base 1 "_law_take" ["bag", "many"] spTake)
    (B_law_base_value : FnB P w K mg base 5 "_law_base_value" ["bag", "base", "plainly"] spBv) (B_law_bent : FnB P w K mg base 10 "_law_bent" ["bag", "thing"] (spBentX 6)) (B_law_odd : FnB P w K mg base 3 "_law_odd" ["bag"] spOdd) (B_law_alike : FnB P w K mg base 1 "_law_alike" ["found", "due"] spAlike)
    (B_is_value : FnB P w K mg base 3 "is_value" ["kind", "thing"] (sp2 (fun k d => IsK k ∧ Fit d) isVK)) (B_law_is_value : FnB P w K mg base 3 "_law_is_value" ["kind", "thing"] (sp2 (fun k d => IsK k ∧ Fit d) isVK)) :
    FnB P w K mg base 11 "_law_are_values_told" ["bag", "kind"] spVTold := by
  refine fnB_of D sc_law_are_values_told (fun avs Q h => ?_) (fun f cd A outer s H E => ⟨_, (dss_cons (ds_set 2 (fun _ => sc_law_are_values_told.nd) (dx_callb E B_law_value (by decide) (dxv_cons (dx_var 0) (dxv_cons (dx_var 1) (dxv_cons dx_bl dxv_nil)))))
  (dss_cons (ds_set 3 (fun _ => sc_law_are_values_told.nd) (dx_if (dxt_cmp E (fun _ h => op_neX h) (ops_ne K) (dx_ix E (dx_var 1) dx_int) dx_str (nomark _)) (dx_op E (r := fun _ => rMulS) (fun _ _ => op_mulS) (ops_mulS K) dx_str (dx_callb E B_law_some (by decide) (dxv_cons (dx_var 0) (dxv_cons (dx_lst (dxa_cons dx_int (dxa_cons dx_int dxa_nil))) dxv_nil)))) (dx_op E (r := fun _ => _) (fun _ _ => op_sub) (ops_sub K) (dx_ix E (dx_var 1) dx_int) (dx_callb E B_law_take (by decide) (dxv_cons (dx_var 0) (dxv_cons dx_int dxv_nil))))))
  (dss_cons (ds_if (dxt_cmp E (fun _ h => op_eqX h) (ops_eq K) (dx_ix E (dx_var 1) dx_int) dx_str (nomark _)) (dss_one (ds_set 3 (fun _ => sc_law_are_values_told.nd) (dx_call1Ty (r := rTupD) E (fun _ _ => call_tupD) (cs_tuple K) (by intro _; rfl) T.b_tuple boot_tuple (dx_fr (dxf_lc [("k", 7)] E (fun _ => sc_law_are_values_told.nd) (dxi_range1 E (by intro _; rfl) T.b_range (dxa_cons (dx_callb E B_law_some (by decide) (dxv_cons (dx_var 0) (dxv_cons (dx_lst (dxa_cons dx_int (dxa_cons dx_int (dxa_cons dx_int dxa_nil)))) dxv_nil))) dxa_nil)) (fun _ => blkOk_by (by rfl)) (dg_name 7 (fun _ => sc_law_are_values_told.nd)) dxp_nil (dx_callb (E.blk _) B_law_base_value (by decide) (dxv_cons (dx_var 0) (dxv_cons (dx_ix (E.blk _) (dx_var 1) dx_int) (dxv_cons dx_bl dxv_nil))))))))) dss_nil)
  (dss_cons (ds_set 4 (fun _ => sc_law_are_values_told.nd) (dx_lst (dxa_cons (dx_var 2) (dxa_cons (dx_var 3) (dxa_cons (dx_callb E B_law_bent (by decide) (dxv_cons (dx_var 0) (dxv_cons (dx_var 2) dxv_nil))) (dxa_cons (dx_callb E B_law_bent (by decide) (dxv_cons (dx_var 0) (dxv_cons (dx_tup (dxa_cons (dx_var 2) dxa_nil)) dxv_nil))) (dxa_cons (dx_callb E B_law_odd (by decide) (dxv_cons (dx_var 0) dxv_nil)) (dxa_cons (dx_tup (dxa_cons (dx_var 2) dxa_nil)) (dxa_cons (dx_lst (dxa_cons (dx_var 2) dxa_nil)) (dxa_cons dx_non (dxa_cons (dx_tup dxa_nil) dxa_nil)))))))))))
  (dss_cons (ds_for E (dxi_seq E (dx_var 4)) (dg_name 5 (fun _ => sc_law_are_values_told.nd)) (dss_cons (ds_set 6 (fun _ => sc_law_are_values_told.nd) (dx_call1B (r := rReprD) E (fun _ _ h g => call_reprD ⟨_, h⟩ g) (cs_reprD K) (by intro _; rfl) T.b_repr boot_repr (dx_lst (dxa_cons (dx_var 1) (dxa_cons (dx_var 5) dxa_nil)))))
  (dss_one (ds_if (dxw_t (dxw_or (dxt_not (dxt_tru E.K (dx_callb E B_law_alike (by decide) (dxv_cons (dx_callb E B_is_value (by decide) (dxv_cons (dx_var 1) (dxv_cons (dx_var 5) dxv_nil))) (dxv_cons (dx_callb E B_law_is_value (by decide) (dxv_cons (dx_var 1) (dxv_cons (dx_var 5) dxv_nil))) dxv_nil))))) (dxw_or1 (dxt_cmp E (fun _ h => op_neX h) (ops_ne K) (dx_call1B (r := rReprD) E (fun _ _ h g => call_reprD ⟨_, h⟩ g) (cs_reprD K) (by intro _; rfl) T.b_repr boot_repr (dx_lst (dxa_cons (dx_var 1) (dxa_cons (dx_var 5) dxa_nil)))) (dx_var 6) (nomark _))))) (dss_one (ds_ret dx_bl)) dss_nil))))
  (dss_one (ds_ret dx_bl))))))), fun avs Q h => ?_⟩)
  · unfold spVTold at h; split at h <;> first | rfl | exact h.elim
  · unfold spVTold at h; split at h
    · rename_i k
      obtain ⟨hk, h⟩ := h
      refine seq_one (fun v : PyData => IsV v) (fun v => [.bag, .dat false k, .dat false v, .un, .un, .un, .un, .un]) (fun key => ?_) (fun v hv => ?_)
      · (repeat ((conv => whnf); refine And.intro (by first | exact rfl | exact trivial | exact ⟨by decide, by decide, by decide⟩ | exact ⟨by decide, by decide⟩ | exact ⟨List.cons_ne_nil _ _, Nat.le_of_ble_eq_true rfl⟩ | exact ⟨rfl, rfl⟩ | exact eqOk_str | exact eqOk_int | exact eqOk_bool | exact Nat.le_of_ble_eq_true rfl | exact eqOk_tnil | exact eqOk_nil | assumption) ?_)); (try (conv => whnf))
        exact fun d hd => key d hd
      have hvd := ds_V hv
      refine seq_one (fun g : PyData => Dt 1 2000 g) (fun g => [.bag, .dat false k, .dat false v, .dat false g, .un, .un, .un, .un]) (fun key => ?_) (fun g hg => ?_)
      · have til : ∀ x ∈ ([.int 12, .int 13] : List PyData), ∃ n : Int, x = .int n ∧ MulOk "~" n ∧ Dt 1 2000 (.str (Txt.mul "~" n)) := fun x hx => by
          have hx' : x = .int 12 ∨ x = .int 13 := by simpa using hx
          rcases hx' with rfl | rfl
          · exact ⟨_, rfl, mulOk_small (by decide) (by decide) (by decide), tilde_12⟩
          · exact ⟨_, rfl, mulOk_small (by decide) (by decide) (by decide), tilde_13⟩
        rcases hk with (rfl | ⟨n, n0, n1, rfl⟩) | ⟨b, hb, rfl | rfl⟩
        · (repeat ((conv => whnf); refine And.intro (by first | exact rfl | exact trivial | exact ⟨by decide, by decide, by decide⟩ | exact ⟨by decide, by decide⟩ | exact ⟨List.cons_ne_nil _ _, Nat.le_of_ble_eq_true rfl⟩ | exact ⟨rfl, rfl⟩ | exact eqOk_str | exact eqOk_int | exact eqOk_bool | exact Nat.le_of_ble_eq_true rfl | exact eqOk_tnil | exact eqOk_nil | assumption) ?_)); (try (conv => whnf))
          intro x hx
          obtain ⟨m, rfl, hm, hd⟩ := til x hx
          (repeat ((conv => whnf); refine And.intro (by first | exact rfl | exact trivial | exact ⟨by decide, by decide, by decide⟩ | exact ⟨by decide, by decide⟩ | exact ⟨List.cons_ne_nil _ _, Nat.le_of_ble_eq_true rfl⟩ | exact ⟨rfl, rfl⟩ | exact eqOk_str | exact eqOk_int | exact eqOk_bool | exact Nat.le_of_ble_eq_true rfl | exact eqOk_tnil | exact eqOk_nil | assumption) ?_)); (try (conv => whnf))
          exact key _ hd
        · (repeat ((conv => whnf); refine And.intro (by first | exact rfl | exact trivial | exact ⟨by decide, by decide, by decide⟩ | exact ⟨by decide, by decide⟩ | exact ⟨List.cons_ne_nil _ _, Nat.le_of_ble_eq_true rfl⟩ | exact ⟨rfl, rfl⟩ | exact eqOk_str | exact eqOk_int | exact eqOk_bool | exact Nat.le_of_ble_eq_true rfl | exact eqOk_tnil | exact eqOk_nil | assumption) ?_)); (try (conv => whnf))
          intro r r0 r1
          (repeat ((conv => whnf); refine And.intro (by first | exact rfl | exact trivial | exact ⟨by decide, by decide, by decide⟩ | exact ⟨by decide, by decide⟩ | exact ⟨List.cons_ne_nil _ _, Nat.le_of_ble_eq_true rfl⟩ | exact ⟨rfl, rfl⟩ | exact eqOk_str | exact eqOk_int | exact eqOk_bool | exact Nat.le_of_ble_eq_true rfl | exact eqOk_tnil | exact eqOk_nil | assumption) ?_)); (try (conv => whnf))
          exact key _ ((ds_int (n := 0) (i := n - r) (by omega)).1.mono (by decide) (by decide))
        · (repeat ((conv => whnf); refine And.intro (by first | exact rfl | exact trivial | exact ⟨by decide, by decide, by decide⟩ | exact ⟨by decide, by decide⟩ | exact ⟨List.cons_ne_nil _ _, Nat.le_of_ble_eq_true rfl⟩ | exact ⟨rfl, rfl⟩ | exact eqOk_str | exact eqOk_int | exact eqOk_bool | exact Nat.le_of_ble_eq_true rfl | exact eqOk_tnil | exact eqOk_nil | assumption) ?_)); (try (conv => whnf))
          intro x hx
          obtain ⟨m, rfl, hm, hd⟩ := til x hx
          (repeat ((conv => whnf); refine And.intro (by first | exact rfl | exact trivial | exact ⟨by decide, by decide, by decide⟩ | exact ⟨by decide, by decide⟩ | exact ⟨List.cons_ne_nil _ _, Nat.le_of_ble_eq_true rfl⟩ | exact ⟨rfl, rfl⟩ | exact eqOk_str | exact eqOk_int | exact eqOk_bool | exact Nat.le_of_ble_eq_true rfl | exact eqOk_tnil | exact eqOk_nil | assumption) ?_)); (try (conv => whnf))
          exact key _ hd
        · (repeat ((conv => whnf); refine And.intro (by first | exact rfl | exact trivial | exact ⟨by decide, by decide, by decide⟩ | exact ⟨by decide, by decide⟩ | exact ⟨List.cons_ne_nil _ _, Nat.le_of_ble_eq_true rfl⟩ | exact ⟨rfl, rfl⟩ | exact eqOk_str | exact eqOk_int | exact eqOk_bool | exact Nat.le_of_ble_eq_true rfl | exact eqOk_tnil | exact eqOk_nil | assumption) ?_)); (try (conv => whnf))
          intro x hx
          obtain ⟨m, rfl, hm, hd⟩ := til x hx
          (repeat ((conv => whnf); refine And.intro (by first | exact rfl | exact trivial | exact ⟨by decide, by decide, by decide⟩ | exact ⟨by decide, by decide⟩ | exact ⟨List.cons_ne_nil _ _, Nat.le_of_ble_eq_true rfl⟩ | exact ⟨rfl, rfl⟩ | exact eqOk_str | exact eqOk_int | exact eqOk_bool | exact Nat.le_of_ble_eq_true rfl | exact eqOk_tnil | exact eqOk_nil | assumption) ?_)); (try (conv => whnf))
          exact key _ hd
      refine seq_one (fun g : PyData => Dt 2 2000 g) (fun g => [.bag, .dat false k, .dat false v, .dat false g, .un, .un, .un, .un]) (fun key => ?_) (fun g2 hg2 => ?_)
      · have keep : Dt 2 2000 g := hg.mono (by decide) (Nat.le_refl _)
        rcases hk with (rfl | ⟨n, n0, n1, rfl⟩) | ⟨b, hb, rfl | rfl⟩
        · exact one_if false (fun Q hq => by (repeat ((conv => whnf); refine And.intro (by first | exact rfl | exact trivial | exact ⟨by decide, by decide, by decide⟩ | exact ⟨by decide, by decide⟩ | exact ⟨List.cons_ne_nil _ _, Nat.le_of_ble_eq_true rfl⟩ | exact ⟨rfl, rfl⟩ | exact eqOk_str | exact eqOk_int | exact eqOk_bool | exact Nat.le_of_ble_eq_true rfl | exact eqOk_tnil | exact eqOk_nil | assumption) ?_)); (try (conv => whnf)); exact hq) (fun z => nomatch z) fun _ => key g keep
        · exact one_if false (fun Q hq => by (repeat ((conv => whnf); refine And.intro (by first | exact rfl | exact trivial | exact ⟨by decide, by decide, by decide⟩ | exact ⟨by decide, by decide⟩ | exact ⟨List.cons_ne_nil _ _, Nat.le_of_ble_eq_true rfl⟩ | exact ⟨rfl, rfl⟩ | exact eqOk_str | exact eqOk_int | exact eqOk_bool | exact Nat.le_of_ble_eq_true rfl | exact eqOk_tnil | exact eqOk_nil | assumption) ?_)); (try (conv => whnf)); exact hq) (fun z => nomatch z) fun _ => key g keep
        · exact one_if false (fun Q hq => by (repeat ((conv => whnf); refine And.intro (by first | exact rfl | exact trivial | exact ⟨by decide, by decide, by decide⟩ | exact ⟨by decide, by decide⟩ | exact ⟨List.cons_ne_nil _ _, Nat.le_of_ble_eq_true rfl⟩ | exact ⟨rfl, rfl⟩ | exact eqOk_str | exact eqOk_int | exact eqOk_bool | exact Nat.le_of_ble_eq_true rfl | exact eqOk_tnil | exact eqOk_nil | assumption) ?_)); (try (conv => whnf)); exact hq) (fun z => nomatch z) fun _ => key g keep
        · refine one_if true (fun Q hq => by (repeat ((conv => whnf); refine And.intro (by first | exact rfl | exact trivial | exact ⟨by decide, by decide, by decide⟩ | exact ⟨by decide, by decide⟩ | exact ⟨List.cons_ne_nil _ _, Nat.le_of_ble_eq_true rfl⟩ | exact ⟨rfl, rfl⟩ | exact eqOk_str | exact eqOk_int | exact eqOk_bool | exact Nat.le_of_ble_eq_true rfl | exact eqOk_tnil | exact eqOk_nil | assumption) ?_)); (try (conv => whnf)); exact hq) (fun _ => ?_) (fun z => nomatch z)
          have nums : ∀ x ∈ ([.int 8, .int 9, .int 12] : List PyData), ∃ n : Int, 0 ≤ n ∧ n ≤ 12 ∧ x = .int n := by
            intro x hx
            simp only [List.mem_cons, List.not_mem_nil, or_false] at hx
            rcases hx with e | e | e <;> exact ⟨_, by omega, by omega, e⟩
          have fv : ∀ (d : PyData) (Γ : GS), (Opd.val d).frz Γ = Γ := fun _ _ => rfl
          have f0 : (Opd.sl 0).frz ([.bag, .dat false (.tuple [.str "row", b]), .dat false v, .dat false g, .un, .un, .un, .un] : GS) = [.bag, .dat false (.tuple [.str "row", b]), .dat false v, .dat false g, .un, .un, .un, .un] := rfl
          have f1 : (Opd.sl 1).frz ([.bag, .dat false (.tuple [.str "row", b]), .dat false v, .dat false g, .un, .un, .un, .un] : GS) = [.bag, .dat false (.tuple [.str "row", b]), .dat false v, .dat false g, .un, .un, .un, .un] := rfl
          (repeat ((conv => whnf); refine And.intro (by first | exact rfl | exact trivial | exact ⟨by decide, by decide, by decide⟩ | exact ⟨by decide, by decide⟩ | exact ⟨List.cons_ne_nil _ _, Nat.le_of_ble_eq_true rfl⟩ | exact ⟨rfl, rfl⟩ | exact eqOk_str | exact eqOk_int | exact eqOk_bool | exact Nat.le_of_ble_eq_true rfl | exact eqOk_tnil | exact eqOk_nil | assumption) ?_)); (try (conv => whnf))
          intro x hx
          obtain ⟨n, n0, n1, rfl⟩ := nums x hx
          simp only [fv, f0, f1]
          (repeat ((conv => whnf); refine And.intro (by first | exact rfl | exact trivial | exact ⟨by decide, by decide, by decide⟩ | exact ⟨by decide, by decide⟩ | exact ⟨List.cons_ne_nil _ _, Nat.le_of_ble_eq_true rfl⟩ | exact ⟨rfl, rfl⟩ | exact eqOk_str | exact eqOk_int | exact eqOk_bool | exact Nat.le_of_ble_eq_true rfl | exact eqOk_tnil | exact eqOk_nil | assumption) ?_)); (try (conv => whnf))
          refine ⟨⟨by omega, by omega⟩, ?_⟩
          refine lcW_of (fun ds acc => ds.length + acc.length ≤ 12 ∧ ∀ x ∈ acc, IsV1 x) ?hn ?hc _ _ ⟨?h0, by simp⟩
          case h0 => simp only [rangeD, List.length_map, List.length_range, List.length_nil]; omega
          case hc =>
            intro d ds acc ⟨hl, ha⟩ ih
            rw [List.length_cons] at hl
            (repeat ((conv => whnf); refine And.intro (by first | exact rfl | exact trivial | exact ⟨by decide, by decide, by decide⟩ | exact ⟨by decide, by decide⟩ | exact ⟨List.cons_ne_nil _ _, Nat.le_of_ble_eq_true rfl⟩ | exact ⟨rfl, rfl⟩ | exact eqOk_str | exact eqOk_int | exact eqOk_bool | exact Nat.le_of_ble_eq_true rfl | exact eqOk_tnil | exact eqOk_nil | assumption) ?_)); (try (conv => whnf))
            intro v hv
            refine ⟨Nat.lt_of_lt_of_le (by omega : acc.length < 13) (by decide), ih _ ⟨by rw [List.length_append, List.length_singleton]; omega, fun y hy => ?_⟩⟩
            rcases List.mem_append.mp hy with hy | hy
            · exact ha y hy
            · rw [List.mem_singleton] at hy; rw [hy]; exact hv
          case hn =>
            intro acc ⟨hl, ha⟩
            rw [List.length_nil, Nat.zero_add] at hl
            refine tup_end ?_
            refine key (.tuple acc) ?_
            have := Nat.mul_le_mul_left (122 + 2) hl
            exact (ds_tup (n := 0) (dsA_all fun x hx => ds_V1 (ha x hx))).1.mono (by decide) (by omega)
      have hkT : ∀ {x : PyData}, Th x → Dt 41 5000200 (.list [k, x]) := fun hx => (dt_lst (dtA_cons ((ds_K hk).1.mono (by decide) (Nat.le_refl _)) (dt_one hx))).mono (by decide) (by decide)
      refine seq_one (fun ws : List PyData => ws.length ≤ 9 ∧ ∀ y ∈ ws, Th y) (fun ws => [.bag, .dat false k, .dat false v, .dat false g2, .dat false (.list ws), .un, .un, .un]) (fun key => ?_) (fun ws hws => ?_)
      · have fv : ∀ (d : PyData) (Γ : GS), (Opd.val d).frz Γ = Γ := fun _ _ => rfl
        have f0 : (Opd.sl 0).frz ([.bag, .dat false k, .dat false v, .dat false g2, .un, .un, .un, .un] : GS) = [.bag, .dat false k, .dat false v, .dat false g2, .un, .un, .un, .un] := rfl
        have f1 : (Opd.sl 1).frz ([.bag, .dat false k, .dat false v, .dat false g2, .un, .un, .un, .un] : GS) = [.bag, .dat false k, .dat false v, .dat false g2, .un, .un, .un, .un] := rfl
        have f2 : (Opd.sl 2).frz ([.bag, .dat false k, .dat false v, .dat false g2, .un, .un, .un, .un] : GS) = [.bag, .dat false k, .dat false v, .dat false g2, .un, .un, .un, .un] := rfl
        have f3 : (Opd.sl 3).frz ([.bag, .dat false k, .dat false v, .dat false g2, .un, .un, .un, .un] : GS) = [.bag, .dat false k, .dat false v, .dat false g2, .un, .un, .un, .un] := rfl
        (repeat ((conv => whnf); refine And.intro (by first | exact rfl | exact trivial | exact ⟨by decide, by decide, by decide⟩ | exact ⟨by decide, by decide⟩ | exact ⟨List.cons_ne_nil _ _, Nat.le_of_ble_eq_true rfl⟩ | exact ⟨rfl, rfl⟩ | exact eqOk_str | exact eqOk_int | exact eqOk_bool | exact Nat.le_of_ble_eq_true rfl | exact eqOk_tnil | exact eqOk_nil | assumption) ?_)); (try (conv => whnf))
        refine ⟨1491, hvd.mono (by decide) (Nat.le_refl _), by decide, fun d1 hd1 => ?_⟩
        simp only [fv, f0, f1, f2, f3]
        (repeat ((conv => whnf); refine And.intro (by first | exact rfl | exact trivial | exact ⟨by decide, by decide, by decide⟩ | exact ⟨by decide, by decide⟩ | exact ⟨List.cons_ne_nil _ _, Nat.le_of_ble_eq_true rfl⟩ | exact ⟨rfl, rfl⟩ | exact eqOk_str | exact eqOk_int | exact eqOk_bool | exact Nat.le_of_ble_eq_true rfl | exact eqOk_tnil | exact eqOk_nil | assumption) ?_)); (try (conv => whnf))
        refine ⟨1496, (tuple_of hvd).mono (by decide) (Nat.le_refl _), by decide, fun d2 hd2 => ?_⟩
        simp only [fv, f0, f1, f2, f3]
        (repeat ((conv => whnf); refine And.intro (by first | exact rfl | exact trivial | exact ⟨by decide, by decide, by decide⟩ | exact ⟨by decide, by decide⟩ | exact ⟨List.cons_ne_nil _ _, Nat.le_of_ble_eq_true rfl⟩ | exact ⟨rfl, rfl⟩ | exact eqOk_str | exact eqOk_int | exact eqOk_bool | exact Nat.le_of_ble_eq_true rfl | exact eqOk_tnil | exact eqOk_nil | assumption) ?_)); (try (conv => whnf))
        intro o ho
        simp only [fv, f0, f1, f2, f3]
        (repeat ((conv => whnf); refine And.intro (by first | exact rfl | exact trivial | exact ⟨by decide, by decide, by decide⟩ | exact ⟨by decide, by decide⟩ | exact ⟨List.cons_ne_nil _ _, Nat.le_of_ble_eq_true rfl⟩ | exact ⟨rfl, rfl⟩ | exact eqOk_str | exact eqOk_int | exact eqOk_bool | exact Nat.le_of_ble_eq_true rfl | exact eqOk_tnil | exact eqOk_nil | assumption) ?_)); (try (conv => whnf))
        refine key _ ⟨by simp, fun y hy => ?_⟩
        simp only [List.mem_cons, List.not_mem_nil, or_false] at hy
        rcases hy with rfl | rfl | rfl | rfl | rfl | rfl | rfl | rfl | rfl
        · exact hvd.1.mono (by decide) (by decide)
        · exact hg2.mono (by decide) (by decide)
        · exact hd1.mono (by decide) (by decide)
        · exact hd2.mono (by decide) (by decide)
        · exact ho.mono (by decide) (by decide)
        · exact (tuple_of hvd).1.mono (by decide) (by decide)
        · exact (dt_lst (dt_one hvd.1)).mono (by decide) (by decide)
        · exact (dt_none (n := 0)).mono (by decide) (by decide)
        · exact (dt_tup (dtA_nil (n := 0) (b := 0))).mono (by decide) (by decide)
      refine seq_abs (fun Γ => ∃ s5 s6, Γ = [.bag, .dat false k, .dat false v, .dat false g2, .dat false (.list ws), s5, s6, .un]) (fun nx hnx => ?_) ?_
      · refine for_inv (fun ds Γ => ∃ s5 s6, Γ = [.bag, .dat false k, .dat false v, .dat false g2, .dat false (.list ws), s5, s6, .un] ∧ ∀ y ∈ ds, Th y) (fun F hF => ?_) ?_ ?_
        · (repeat ((conv => whnf); refine And.intro (by first | exact rfl | exact trivial | exact ⟨by decide, by decide, by decide⟩ | exact ⟨by decide, by decide⟩ | exact ⟨List.cons_ne_nil _ _, Nat.le_of_ble_eq_true rfl⟩ | exact ⟨rfl, rfl⟩ | exact eqOk_str | exact eqOk_int | exact eqOk_bool | exact Nat.le_of_ble_eq_true rfl | exact eqOk_tnil | exact eqOk_nil | assumption) ?_)); (try (conv => whnf))
          exact hF _ _ ⟨_, _, rfl, hws.2⟩
        · rintro Γ ⟨s5, s6, rfl, _⟩
          exact hnx _ ⟨_, _, rfl⟩
        · rintro x xs Γ ⟨s5, s6, rfl, hx⟩ rest hrest
          have hx0 := hx x (List.mem_cons_self ..)
          have hfx := hx0.fit
          have hsh := hkT hx0
          have hs : (PyData.list [k, x]).showable = true ∧ (PyData.list [k, x]).depth ≤ 60 ∧ (PyData.list [k, x]).shown.length ≤ sizeLine := ⟨hsh.2.1, Nat.le_trans hsh.1 (by decide), Nat.le_trans hsh.2.2 (by decide)⟩
          generalize hS : (PyData.list [k, x]).shown = S at hs
          refine seq_to [.bag, .dat false k, .dat false v, .dat false g2, .dat false (.list ws), .dat false x, .dat false (.str S), .un] (fun nx2 hnx2 => ?_) ?_
          · (repeat ((conv => whnf); refine And.intro (by first | exact rfl | exact trivial | exact ⟨by decide, by decide, by decide⟩ | exact ⟨by decide, by decide⟩ | exact ⟨List.cons_ne_nil _ _, Nat.le_of_ble_eq_true rfl⟩ | exact ⟨rfl, rfl⟩ | exact eqOk_str | exact eqOk_int | exact eqOk_bool | exact Nat.le_of_ble_eq_true rfl | exact eqOk_tnil | exact eqOk_nil | assumption) ?_)); (try (conv => whnf))
            rw [hS]
            refine ⟨hs, ?_⟩
            exact hnx2
          refine one_if false (fun Q hq => ?_) (fun z => nomatch z) fun _ => hrest _ ⟨_, _, rfl, fun y hy => hx y (List.mem_cons_of_mem _ hy)⟩
          obtain ⟨B, hB⟩ : ∃ B, isVK k x = B := ⟨_, rfl⟩
          have fv : ∀ (d : PyData) (Γ : GS), (Opd.val d).frz Γ = Γ := fun _ _ => rfl
          have f0 : (Opd.sl 0).frz ([.bag, .dat false k, .dat false v, .dat false g2, .dat false (.list ws), .dat false x, .dat false (.str S), .un] : GS) = [.bag, .dat false k, .dat false v, .dat false g2, .dat false (.list ws), .dat false x, .dat false (.str S), .un] := rfl
          have f1 : (Opd.sl 1).frz ([.bag, .dat false k, .dat false v, .dat false g2, .dat false (.list ws), .dat false x, .dat false (.str S), .un] : GS) = [.bag, .dat false k, .dat false v, .dat false g2, .dat false (.list ws), .dat false x, .dat false (.str S), .un] := rfl
          have f5 : (Opd.sl 5).frz ([.bag, .dat false k, .dat false v, .dat false g2, .dat false (.list ws), .dat false x, .dat false (.str S), .un] : GS) = [.bag, .dat false k, .dat false v, .dat false g2, .dat false (.list ws), .dat false x, .dat false (.str S), .un] := rfl
          have f6 : (Opd.sl 6).frz ([.bag, .dat false k, .dat false v, .dat false g2, .dat false (.list ws), .dat false x, .dat false (.str S), .un] : GS) = [.bag, .dat false k, .dat false v, .dat false g2, .dat false (.list ws), .dat false x, .dat false (.str S), .un] := rfl
          (conv => whnf)
          refine ⟨⟨hk, hfx⟩, ?_⟩
          rw [hB]
          simp only [fv, f0, f1, f5, f6]
          (conv => whnf)
          refine ⟨⟨hk, hfx⟩, ?_⟩
          rw [hB]
          simp only [fv, f0, f1, f5, f6]
          (conv => whnf)
          rw [show (B == B) = true from beq_self_eq_true B]
          (repeat ((conv => whnf); refine And.intro (by first | exact rfl | exact trivial | exact ⟨by decide, by decide, by decide⟩ | exact ⟨by decide, by decide⟩ | exact ⟨List.cons_ne_nil _ _, Nat.le_of_ble_eq_true rfl⟩ | exact ⟨rfl, rfl⟩ | exact eqOk_str | exact eqOk_int | exact eqOk_bool | exact Nat.le_of_ble_eq_true rfl | exact eqOk_tnil | exact eqOk_nil | assumption) ?_)); (try (conv => whnf))
          rw [hS]
          refine ⟨hs, ?_⟩
          (conv => whnf)
          refine ⟨.inl rfl, ?_⟩
          rw [show PyData.eqv (.str S) (.str S) = true from beq_self_eq_true S]
          exact hq
      · rintro Γ ⟨s5, s6, rfl⟩
        (repeat ((conv => whnf); refine And.intro (by first | exact rfl | exact trivial | exact ⟨by decide, by decide, by decide⟩ | exact ⟨by decide, by decide⟩ | exact ⟨List.cons_ne_nil _ _, Nat.le_of_ble_eq_true rfl⟩ | exact ⟨rfl, rfl⟩ | exact eqOk_str | exact eqOk_int | exact eqOk_bool | exact Nat.le_of_ble_eq_true rfl | exact eqOk_tnil | exact eqOk_nil | assumption) ?_)); (try (conv => whnf))
        exact h
    · exact h.elim
end K10
end
section
set_option autoImplicit false
set_option linter.all false
set_option maxRecDepth 100000
set_option maxHeartbeats 4000000
namespace K10
open PySem PySem.Spec L2 DL
variable {P : Program} {w : World} {K : PySem.W.Frag} {mg : Str → Option Value} {base : Heap}
theorem sc_law_bag : FnScope ["script", "cell"] ["script"] (defScope s_law_bag) := ⟨rfl, rfl, rfl, by decide +kernel, rfl, by decide +kernel, by decide +kernel⟩
theorem sc_law : FnScope ["script", "bag", "turn", "form", "kinds", "some", "letters", "thing", "worth", "k", "name", "kind", "field"] ["script"] (defScope s_law) := ⟨rfl, rfl, rfl, by decide +kernel, rfl, by decide +kernel, by decide +kernel⟩
/-! ### the bag, the law -/
theorem bag_ok {f : Addr} {fd : FuncData} (F : Fun K "_law_bag" "_law_bag" s_law_bag f fd) (T : Txt mg) : FnG P w K mg base 1 f fd ["script"] (spBagMk K) := by
  refine bag_fn F sc_law_bag (fun v => rfl) fun cd A outer s H E => ?_
  exact pss_one (ps_ret (pe_lst (pa_cons pe_int (pa_cons pe_int (pa_cons pe_int (pa_cons
    (pe_lc (own := [("cell", 1)]) rfl sc_law_bag.nd (pi_list (pe_slice sl_list (pe_var (i := 0) rfl (by first | exact Or.inl rfl | exact Or.inr (Or.inl rfl) | exact Or.inr (Or.inr rfl))) po_none (po_some pe_int))) (blkOk_by (by rfl))
      (fun s H C cl fp => pg_name (i := 1) sc_law_bag.nd rfl (by first | exact Or.inl rfl | exact Or.inr rfl) (by first | exact .inl rfl | exact .inr rfl)) (fun s H C cl fp => pts_nil)
      (fun s H C cl fp => pe_callB call_absD (by rfl) T.b_abs boot_abs (pa_cons (pe_var (i := 1) rfl (by first | exact Or.inl rfl | exact Or.inr (Or.inl rfl) | exact Or.inr (Or.inr rfl))) pa_nil)) (fun _ => rfl)) pa_nil)))) ))
theorem dtA_many {m b c : Nat} {ds : List PyData} (hl : ds.length ≤ c) (h : ∀ d ∈ ds, Dt m b d) : DtA m ((b + 2) * c) ds := by
  have all : ∀ ds : List PyData, (∀ d ∈ ds, Dt m b d) → DtA m ((b + 2) * ds.length) ds := by
    intro ds
    induction ds with
    | nil => intro _; exact dtA_nil
    | cons d ds ih =>
      intro h
      refine (dtA_cons (h d (by simp)) (ih fun e he => h e (List.mem_cons_of_mem _ he))).mono (Nat.le_refl _) ?_
      rw [List.length_cons, Nat.mul_succ]; omega
  exact (all ds h).mono (Nat.le_refl _) (Nat.mul_le_mul_left _ hl)
def fkD (f : PyData) : PyData := match f with
  | .tuple [_, k] => k
  | _ => .none
def Ths (n : Nat) (ws : List PyData) : Prop := ws.length ≤ n ∧ ∀ y ∈ ws, Th y
theorem Ths.add {n m : Nat} {ws es : List PyData} (h : Ths n ws) (g : Ths m es) : Ths (n + m) (ws ++ es) := ⟨by rw [List.length_append]; exact Nat.add_le_add h.1 g.1, fun y hy => (List.mem_append.mp hy).elim (h.2 y) (g.2 y)⟩
theorem ths_nil {n : Nat} : Ths n [] := ⟨Nat.zero_le _, fun y hy => by cases hy⟩
theorem ths_cons {n : Nat} {d : PyData} {ws : List PyData} (h : Th d) (g : Ths n ws) : Ths (n + 1) (d :: ws) := ⟨by rw [List.length_cons]; exact Nat.succ_le_succ g.1, fun y hy => (List.mem_cons.mp hy).elim (fun e => by rw [e]; exact h) (g.2 y)⟩
theorem Ths.sz {n m : Nat} {ws es : List PyData} (h : Ths n ws) (g : Ths m es) (hl : n + m ≤ 1000) : ws.length + es.length ≤ sizeLine := Nat.le_trans (Nat.add_le_add h.1 g.1) (Nat.le_trans hl (by decide))
theorem law_rest (T : Txt2 mg) (B_law_are_errors_right : FnB P w K mg base 4 "_law_are_errors_right" ["bag"] spErrR) (B_law_form : FnB P w K mg base 5 "_law_form" ["bag", "most"] spForm) (B_law_odd : FnB P w K mg base 3 "_law_odd" ["bag"] spOdd) (B_law_bent : FnB P w K mg base 14 "_law_bent" ["bag", "thing"] (spBentX 10))
    (B_law_some : FnB P w K mg base 2 "_law_some" ["bag", "things"] spSome) (B_law_take : FnB P w K mg base 1 "_law_take" ["bag", "many"] spTake) (B_law_nested : FnB P w K mg base 2 "_law_nested" ["bag", "thing", "many"] spNest) (B_law_are_told : FnB P w K mg base 6 "_law_are_told" ["thing"] spTold)
    (B_law_worth : FnB P w K mg base 7 "_law_worth" ["bag", "form"] spWorthD) (B_law_alike : FnB P w K mg base 1 "_law_alike" ["found", "due"] spAlike) (B_is_worth : FnB P w K mg base 4 "is_worth" ["form", "thing"] spW) (B_law_is_worth : FnB P w K mg base 4 "_law_is_worth" ["form", "thing"] spW)
    (B_law_kind : FnB P w K mg base 4 "_law_kind" ["bag"] spKind) (B_law_are_values_told : FnB P w K mg base 11 "_law_are_values_told" ["bag", "kind"] spVTold)
    (f : Addr) (cd : Value) (A : Around) (outer : List Env) (s : Shared) (H : Hp) (E : EnvOk (fun _ : Unit => bodyCx P w K mg base ["script", "bag", "turn", "form", "kinds", "some", "letters", "thing", "worth", "k", "name", "kind", "field"] "law" (defScope s_law) f cd A outer s H) P w K mg base 14) :
    ∃ dt, DXSs (fun _ : Unit => bodyCx P w K mg base ["script", "bag", "turn", "form", "kinds", "some", "letters", "thing", "worth", "k", "name", "kind", "field"] "law" (defScope s_law) f cd A outer s H) K ((defBody s_law).tail) dt ∧ dt { nx := fun _ => False, rt := fun d => d = .bool true } (SV.un :: SV.bag :: List.replicate 11 SV.un) := by
  refine ⟨_, (dss_cons (ds_if (dxt_not (dxt_tru E.K (dx_callb E B_law_are_errors_right (by omega) (dxv_cons (dx_var 1) dxv_nil)))) (dss_one (ds_ret dx_bl)) dss_nil)
  (dss_cons (ds_for E (dxi_range1 E (by intro _; rfl) T.b_range (dxa_cons dx_int dxa_nil)) (dg_name 2 (fun _ => sc_law.nd)) (dss_cons (ds_set 3 (fun _ => sc_law.nd) (dx_callb E B_law_form (by omega) (dxv_cons (dx_var 1) (dxv_cons dx_int dxv_nil))))
  (dss_cons (ds_setLc [("name", 10), ("kind", 11)] 4 E (fun _ => sc_law.nd) (dxi_seq E (dx_var 3)) (fun _ => blkOk_by (by rfl)) (dg_tup (n := 2) (E.blk _) (dgs_cons (dg_name 10 (fun _ => sc_law.nd)) (dgs_cons (dg_name 11 (fun _ => sc_law.nd)) dgs_nil))) dxp_nil (dx_var 11) (by intro _; exact sw_true rfl rfl rfl (by decide +kernel)))
  (dss_cons (ds_own 5 (fun _ => sc_law.nd) (dxf_lst (dxa_cons (dx_callb E B_law_odd (by omega) (dxv_cons (dx_var 1) dxv_nil)) (dxa_cons (dx_var 3) (dxa_cons (dx_callb E B_law_bent (by omega) (dxv_cons (dx_var 1) (dxv_cons (dx_var 3) dxv_nil))) (dxa_cons (dx_callb E B_law_bent (by omega) (dxv_cons (dx_var 1) (dxv_cons (dx_var 3) dxv_nil))) (dxa_cons (dx_op E (fun _ _ => op_addD) (ops_add K) (dx_var 3) (dx_callb E B_law_form (by omega) (dxv_cons (dx_var 1) (dxv_cons dx_int dxv_nil)))) dxa_nil)))))))
  (dss_cons (ds_setLc [("k", 9)] 6 E (fun _ => sc_law.nd) (dxi_range1 E (by intro _; rfl) T.b_range (dxa_cons (dx_callb E B_law_take (by omega) (dxv_cons (dx_var 1) (dxv_cons dx_int dxv_nil))) dxa_nil)) (fun _ => blkOk_by (by rfl)) (dg_name 9 (fun _ => sc_law.nd)) dxp_nil (dx_callb (E.blk _) B_law_some (by omega) (dxv_cons (dx_var 1) (dxv_cons dx_str dxv_nil))) (by intro _; exact sw_true rfl rfl rfl (by decide +kernel)))
  (dss_cons (ds_own 5 (fun _ => sc_law.nd) (dxf_cat (dx_op E (fun _ _ => op_addD) (ops_add K) (dx_op E (fun _ _ => op_addD) (ops_add K) (dx_var 5) (dx_lst (dxa_cons (dx_join E (dx_var 6)) dxa_nil))) (dx_slice E (dx_var 4) dxo_none (dxo_some dx_int))) (dx_lst (dxa_cons (dx_callb E B_law_bent (by omega) (dxv_cons (dx_var 1) (dxv_cons (dx_ix E (dx_var 4) dx_int) dxv_nil))) (dxa_cons (dx_slice E (dx_ix E (dx_var 4) dx_int) dxo_none (dxo_some dx_int)) (dxa_cons (dx_ix E (dx_ix E (dx_var 3) dx_int) dx_int) dxa_nil))))))
  (dss_cons (ds_expr (dx_mut 5 E PySem.F.slot_list_append PySem.F.type_list_append (fun _ => mt_append) (ms_append K) (dxa_cons (dx_callb E B_law_bent (by omega) (dxv_cons (dx_var 1) (dxv_cons (dx_ix E (dx_ix E (dx_var 3) dx_int) dx_int) dxv_nil))) dxa_nil)))
  (dss_cons (ds_own 5 (fun _ => sc_law.nd) (dxf_cat (dx_var 5) (dx_lst (dxa_cons (dx_callb E B_law_nested (by omega) (dxv_cons (dx_var 1) (dxv_cons (dx_callb E B_law_odd (by omega) (dxv_cons (dx_var 1) dxv_nil)) (dxv_cons (dx_callb E B_law_some (by omega) (dxv_cons (dx_var 1) (dxv_cons (dx_lst (dxa_cons dx_int (dxa_cons dx_int (dxa_cons dx_int dxa_nil)))) dxv_nil))) dxv_nil)))) (dxa_cons (dx_fr (dxf_lc [("field", 12)] E (fun _ => sc_law.nd) (dxi_seq E (dx_var 3)) (fun _ => blkOk_by (by rfl)) (dg_name 12 (fun _ => sc_law.nd)) dxp_nil (dx_call1Ty (r := rListD) (E.blk _) (fun _ _ => call_listD) (cs_list K) (by intro _; rfl) T.b_list boot_listT (dx_var 12)))) dxa_nil)))))
  (dss_cons (ds_for E (dxi_seq E (dx_var 5)) (dg_name 7 (fun _ => sc_law.nd)) (dss_one (ds_if (dxt_not (dxt_tru E.K (dx_callb E B_law_are_told (by omega) (dxv_cons (dx_var 7) dxv_nil)))) (dss_one (ds_ret dx_bl)) dss_nil)))
  (dss_cons (ds_set 8 (fun _ => sc_law.nd) (dx_callb E B_law_worth (by omega) (dxv_cons (dx_var 1) (dxv_cons (dx_var 3) dxv_nil))))
  (dss_cons (ds_own 5 (fun _ => sc_law.nd) (dxf_lst (dxa_cons (dx_var 8) (dxa_cons (dx_callb E B_law_bent (by omega) (dxv_cons (dx_var 1) (dxv_cons (dx_var 8) dxv_nil))) (dxa_cons (dx_callb E B_law_bent (by omega) (dxv_cons (dx_var 1) (dxv_cons (dx_var 8) dxv_nil))) (dxa_cons (dx_slice E (dx_var 8) dxo_none (dxo_some (dx_neg dx_int))) (dxa_cons (dx_op E (fun _ _ => op_addD) (ops_add K) (dx_var 8) (dx_tup (dxa_cons dx_non dxa_nil))) (dxa_cons (dx_call1Ty (r := rListD) E (fun _ _ => call_listD) (cs_list K) (by intro _; rfl) T.b_list boot_listT (dx_var 8)) dxa_nil))))))))
  (dss_cons (ds_for E (dxi_seq E (dx_op E (fun _ _ => op_addD) (ops_add K) (dx_var 5) (dx_lst (dxa_cons (dx_callb E B_law_odd (by omega) (dxv_cons (dx_var 1) dxv_nil)) dxa_nil)))) (dg_name 7 (fun _ => sc_law.nd)) (dss_one (ds_if (dxt_not (dxt_tru E.K (dx_callb E B_law_alike (by omega) (dxv_cons (dx_callb E B_is_worth (by omega) (dxv_cons (dx_var 3) (dxv_cons (dx_var 7) dxv_nil))) (dxv_cons (dx_callb E B_law_is_worth (by omega) (dxv_cons (dx_var 3) (dxv_cons (dx_var 7) dxv_nil))) dxv_nil))))) (dss_one (ds_ret dx_bl)) dss_nil)))
  (dss_one (ds_if (dxt_cmp E (fun _ h => op_neX h) (ops_ne K) (dx_fr (dxf_lc [("kind", 11)] E (fun _ => sc_law.nd) (dxi_seq E (dx_op E (fun _ _ => op_addD) (ops_add K) (dx_var 4) (dx_lst (dxa_cons (dx_callb E B_law_kind (by omega) (dxv_cons (dx_var 1) dxv_nil)) dxa_nil)))) (fun _ => blkOk_by (by rfl)) (dg_name 11 (fun _ => sc_law.nd)) (dxp_one (dxt_not (dxt_tru (E.blk _).K (dx_callb (E.blk _) B_law_are_values_told (by omega) (dxv_cons (dx_var 1) (dxv_cons (dx_var 11) dxv_nil)))))) (dx_var 11))) (dx_lst dxa_nil) (nomark _)) (dss_one (ds_ret dx_bl)) dss_nil))))))))))))))
  (dss_one (ds_ret dx_bl)))), ?_⟩
  have fv : ∀ (d : PyData) (Γ : GS), (Opd.val d).frz Γ = Γ := fun _ _ => rfl
  refine seq_if false (fun Q hq => by (repeat ((conv => whnf); refine And.intro (by first | exact rfl | exact trivial | exact ⟨by decide, by decide, by decide⟩ | exact ⟨by decide, by decide⟩ | exact ⟨List.cons_ne_nil _ _, Nat.le_of_ble_eq_true rfl⟩ | exact ⟨rfl, rfl⟩ | exact eqOk_str | exact eqOk_int | exact eqOk_bool | exact Nat.le_of_ble_eq_true rfl | exact eqOk_tnil | exact eqOk_nil | assumption) ?_)); (try (conv => whnf)); exact hq) (fun z => nomatch z) fun _ => ?_
  refine seq_abs (fun _ => True) (fun nx hnx => ?_) (fun Γ' _ => ?_)
  · refine for_inv (fun ds Γ => ∃ s2 s3 s4 s5 s6 s7 s8, Γ = [.un, .bag, s2, s3, s4, s5, s6, s7, s8, .un, .un, .un, .un]) (fun F hF => ?_) (fun Γ _ => hnx Γ trivial) ?_
    · (conv => whnf)
      exact And.intro ⟨by decide, by decide⟩ (hF _ _ ⟨_, _, _, _, _, _, _, rfl⟩)
    rintro turn ts Γ ⟨s2, s3, s4, s5, s6, s7, s8, rfl⟩ rest hrest
    refine seq_one (fun fs : List PyData => IsF (.tuple fs)) (fun fs => [.un, .bag, .dat false turn, .dat false (.tuple fs), s4, s5, s6, s7, s8, .un, .un, .un, .un]) (fun key => ?_) (fun fs hF => ?_)
    · (repeat ((conv => whnf); refine And.intro (by first | exact rfl | exact trivial | exact ⟨by decide, by decide, by decide⟩ | exact ⟨by decide, by decide⟩ | exact ⟨List.cons_ne_nil _ _, Nat.le_of_ble_eq_true rfl⟩ | exact ⟨rfl, rfl⟩ | exact eqOk_str | exact eqOk_int | exact eqOk_bool | exact Nat.le_of_ble_eq_true rfl | exact eqOk_tnil | exact eqOk_nil | assumption) ?_)); (try (conv => whnf))
      intro d hd
      obtain ⟨fs, rfl, hd'⟩ := id hd
      exact key fs hd
    obtain ⟨fs', ef, f0, f1, f2⟩ := id hF
    cases ef
    have hFd := ds_F hF
    refine seq_one (fun ks : List PyData => ks ≠ [] ∧ ks.length ≤ 6 ∧ ∀ k ∈ ks, IsK k) (fun ks => [.un, .bag, .dat false turn, .dat false (.tuple fs), .dat false (.list ks), s5, s6, s7, s8, .un, .un, .un, .un]) (fun key => ?_) (fun ks hks => ?_)
    · (conv => whnf)
      refine lcW_of (fun ds acc => ds.length + acc.length = fs.length ∧ (∀ g ∈ ds, IsFd g) ∧ ∀ x ∈ acc, IsK x) ?hn ?hc _ _ ⟨by simp, f2, by simp⟩
      case hn =>
        intro acc ⟨hl, _, ha⟩
        rw [List.length_nil, Nat.zero_add] at hl
        exact key acc ⟨fun z => f0 (List.length_eq_zero_iff.mp (by rw [← hl, z]; rfl)), by omega, ha⟩
      case hc =>
        intro d ds acc ⟨hl, hd, ha⟩ ih
        rw [List.length_cons] at hl
        obtain ⟨n, k, rfl, _, hk⟩ := hd d (List.mem_cons_self ..)
        (repeat ((conv => whnf); refine And.intro (by first | exact rfl | exact trivial | exact ⟨by decide, by decide, by decide⟩ | exact ⟨by decide, by decide⟩ | exact ⟨List.cons_ne_nil _ _, Nat.le_of_ble_eq_true rfl⟩ | exact ⟨rfl, rfl⟩ | exact eqOk_str | exact eqOk_int | exact eqOk_bool | exact Nat.le_of_ble_eq_true rfl | exact eqOk_tnil | exact eqOk_nil | assumption) ?_)); (try (conv => whnf))
        refine ⟨Nat.lt_of_lt_of_le (by omega : acc.length < 7) (by decide), ih _ ⟨by rw [List.length_append, List.length_singleton]; omega, fun g hg => hd g (List.mem_cons_of_mem _ hg), fun x hx => ?_⟩⟩
        rcases List.mem_append.mp hx with hx | hx
        · exact ha x hx
        · rw [List.mem_singleton] at hx; rw [hx]; exact hk
    have hFt : Th (.tuple fs) := hFd.1.mono (by decide) (by decide)
    refine seq_one (fun ws : List PyData => Ths 5 ws) (fun ws => [.un, .bag, .dat false turn, .dat false (.tuple fs), .dat false (.list ks), .dat true (.list ws), s6, s7, s8, .un, .un, .un, .un]) (fun key => ?_) (fun ws hws => ?_)
    · have g1 : (Opd.sl 1).frz ([.un, .bag, .dat false turn, .dat false (.tuple fs), .dat false (.list ks), s5, s6, s7, s8, .un, .un, .un, .un] : GS) = [.un, .bag, .dat false turn, .dat false (.tuple fs), .dat false (.list ks), s5, s6, s7, s8, .un, .un, .un, .un] := rfl
      have g3 : (Opd.sl 3).frz ([.un, .bag, .dat false turn, .dat false (.tuple fs), .dat false (.list ks), s5, s6, s7, s8, .un, .un, .un, .un] : GS) = [.un, .bag, .dat false turn, .dat false (.tuple fs), .dat false (.list ks), s5, s6, s7, s8, .un, .un, .un, .un] := rfl
      (repeat ((conv => whnf); refine And.intro (by first | exact rfl | exact trivial | exact ⟨by decide, by decide, by decide⟩ | exact ⟨by decide, by decide⟩ | exact ⟨List.cons_ne_nil _ _, Nat.le_of_ble_eq_true rfl⟩ | exact ⟨rfl, rfl⟩ | exact eqOk_str | exact eqOk_int | exact eqOk_bool | exact Nat.le_of_ble_eq_true rfl | exact eqOk_tnil | exact eqOk_nil | assumption) ?_)); (try (conv => whnf))
      intro o ho
      simp only [fv, g1, g3]
      (repeat ((conv => whnf); refine And.intro (by first | exact rfl | exact trivial | exact ⟨by decide, by decide, by decide⟩ | exact ⟨by decide, by decide⟩ | exact ⟨List.cons_ne_nil _ _, Nat.le_of_ble_eq_true rfl⟩ | exact ⟨rfl, rfl⟩ | exact eqOk_str | exact eqOk_int | exact eqOk_bool | exact Nat.le_of_ble_eq_true rfl | exact eqOk_tnil | exact eqOk_nil | assumption) ?_)); (try (conv => whnf))
      refine ⟨1700, hFd.mono (by decide) (Nat.le_refl _), by decide, fun d1 hd1 => ?_⟩
      simp only [fv, g1, g3]
      (repeat ((conv => whnf); refine And.intro (by first | exact rfl | exact trivial | exact ⟨by decide, by decide, by decide⟩ | exact ⟨by decide, by decide⟩ | exact ⟨List.cons_ne_nil _ _, Nat.le_of_ble_eq_true rfl⟩ | exact ⟨rfl, rfl⟩ | exact eqOk_str | exact eqOk_int | exact eqOk_bool | exact Nat.le_of_ble_eq_true rfl | exact eqOk_tnil | exact eqOk_nil | assumption) ?_)); (try (conv => whnf))
      refine ⟨1700, hFd.mono (by decide) (Nat.le_refl _), by decide, fun d2 hd2 => ?_⟩
      simp only [fv, g1, g3]
      (repeat ((conv => whnf); refine And.intro (by first | exact rfl | exact trivial | exact ⟨by decide, by decide, by decide⟩ | exact ⟨by decide, by decide⟩ | exact ⟨List.cons_ne_nil _ _, Nat.le_of_ble_eq_true rfl⟩ | exact ⟨rfl, rfl⟩ | exact eqOk_str | exact eqOk_int | exact eqOk_bool | exact Nat.le_of_ble_eq_true rfl | exact eqOk_tnil | exact eqOk_nil | assumption) ?_)); (try (conv => whnf))
      intro d hd
      obtain ⟨fs2, rfl, hd'⟩ := id hd
      have hF2 := ds_F hd
      simp only [fv, g1, g3]
      (repeat ((conv => whnf); refine And.intro (by first | exact rfl | exact trivial | exact ⟨by decide, by decide, by decide⟩ | exact ⟨by decide, by decide⟩ | exact ⟨List.cons_ne_nil _ _, Nat.le_of_ble_eq_true rfl⟩ | exact ⟨rfl, rfl⟩ | exact eqOk_str | exact eqOk_int | exact eqOk_bool | exact Nat.le_of_ble_eq_true rfl | exact eqOk_tnil | exact eqOk_nil | assumption) ?_)); (try (conv => whnf))
      refine ⟨sz (by show fs.length + fs2.length ≤ 1000; have := hd'.2.1; omega), ?_⟩
      simp only [fv, g1, g3]
      (repeat ((conv => whnf); refine And.intro (by first | exact rfl | exact trivial | exact ⟨by decide, by decide, by decide⟩ | exact ⟨by decide, by decide⟩ | exact ⟨List.cons_ne_nil _ _, Nat.le_of_ble_eq_true rfl⟩ | exact ⟨rfl, rfl⟩ | exact eqOk_str | exact eqOk_int | exact eqOk_bool | exact Nat.le_of_ble_eq_true rfl | exact eqOk_tnil | exact eqOk_nil | assumption) ?_)); (try (conv => whnf))
      refine key _ (ths_cons (ho.mono (by decide) (by decide)) (ths_cons hFt (ths_cons (hd1.mono (by decide) (by decide)) (ths_cons (hd2.mono (by decide) (by decide)) (ths_cons ?_ ths_nil)))))
      exact (dt_tup (hFd.1.items.append hF2.1.items)).mono (by decide) (by decide)
    refine seq_one (fun ls : List PyData => ls.length ≤ 9 ∧ ls.all (isWb 1) = true) (fun ls => [.un, .bag, .dat false turn, .dat false (.tuple fs), .dat false (.list ks), .dat true (.list ws), .dat false (.list ls), s7, s8, .un, .un, .un, .un]) (fun key => ?_) (fun ls hls => ?_)
    · have g1 : (Opd.sl 1).frz ([.un, .bag, .dat false turn, .dat false (.tuple fs), .dat false (.list ks), .dat true (.list ws), s6, s7, s8, .un, .un, .un, .un] : GS) = [.un, .bag, .dat false turn, .dat false (.tuple fs), .dat false (.list ks), .dat true (.list ws), s6, s7, s8, .un, .un, .un, .un] := rfl
      (conv => whnf)
      refine ⟨⟨by decide, by decide⟩, fun n n0 n1 => ?_⟩
      simp only [fv, g1]
      (conv => whnf)
      refine ⟨⟨by omega, by omega⟩, ?_⟩
      refine lcW_of (fun ds acc => ds.length + acc.length ≤ 9 ∧ acc.all (isWb 1) = true) ?hn ?hc _ _ ⟨?h0, rfl⟩
      case h0 => simp only [rangeD, List.length_map, List.length_range, List.length_nil]; omega
      case hc =>
        intro d ds acc ⟨hl, ha⟩ ih
        rw [List.length_cons] at hl
        (repeat ((conv => whnf); refine And.intro (by first | exact rfl | exact trivial | exact ⟨by decide, by decide, by decide⟩ | exact ⟨by decide, by decide⟩ | exact ⟨List.cons_ne_nil _ _, Nat.le_of_ble_eq_true rfl⟩ | exact ⟨rfl, rfl⟩ | exact eqOk_str | exact eqOk_int | exact eqOk_bool | exact Nat.le_of_ble_eq_true rfl | exact eqOk_tnil | exact eqOk_nil | assumption) ?_)); (try (conv => whnf))
        refine fun c hc => ⟨Nat.lt_of_lt_of_le (by omega : acc.length < 13) (by decide), ih _ ⟨by rw [List.length_append, List.length_singleton]; omega, ?_⟩⟩
        rw [List.all_append, ha, List.all_cons, List.all_nil, Bool.and_true, Bool.true_and]
        exact sign_word (by decide +kernel) hc
      case hn =>
        intro acc ⟨hl, ha⟩
        rw [List.length_nil, Nat.zero_add] at hl
        exact key acc ⟨hl, ha⟩
    obtain ⟨k0, hk0, ek0⟩ := atI_in (xs := ks) (r := 0) (by omega) (by have := List.length_pos_iff.mpr hks.1; omega)
    have hK0 := hks.2.2 k0 hk0
    have hK0d := ds_K hK0
    obtain ⟨kd, rfl⟩ : ∃ kd, k0 = .tuple kd := by rcases hK0 with (rfl | ⟨n, _, _, rfl⟩) | ⟨b, _, rfl | rfl⟩ <;> exact ⟨_, rfl⟩
    obtain ⟨g0, hg0, eg0⟩ := atI_in (xs := fs) (r := 0) (by omega) (by have := List.length_pos_iff.mpr f0; omega)
    obtain ⟨n0, k1, rfl, hn0, hk1⟩ := f2 g0 hg0
    have hn0d := ds_word (m := 0) hn0
    obtain ⟨ys, y1, y2, y3, y4⟩ := strs_of hls.2
    refine seq_one (fun ws : List PyData => Ths 15 ws) (fun ws => [.un, .bag, .dat false turn, .dat false (.tuple fs), .dat false (.list ks), .dat true (.list ws), .dat false (.list ls), s7, s8, .un, .un, .un, .un]) (fun key => ?_) (fun ws2 hws2 => ?_)
    · have g5 : (Opd.sl 5).frz ([.un, .bag, .dat false turn, .dat false (.tuple fs), .dat false (.list ks), .dat true (.list ws), .dat false (.list ls), s7, s8, .un, .un, .un, .un] : GS) = [.un, .bag, .dat false turn, .dat false (.tuple fs), .dat false (.list ks), .dat false (.list ws), .dat false (.list ls), s7, s8, .un, .un, .un, .un] := rfl
      have h1 : (Opd.sl 1).frz ([.un, .bag, .dat false turn, .dat false (.tuple fs), .dat false (.list ks), .dat false (.list ws), .dat false (.list ls), s7, s8, .un, .un, .un, .un] : GS) = [.un, .bag, .dat false turn, .dat false (.tuple fs), .dat false (.list ks), .dat false (.list ws), .dat false (.list ls), s7, s8, .un, .un, .un, .un] := rfl
      have h3 : (Opd.sl 3).frz ([.un, .bag, .dat false turn, .dat false (.tuple fs), .dat false (.list ks), .dat false (.list ws), .dat false (.list ls), s7, s8, .un, .un, .un, .un] : GS) = [.un, .bag, .dat false turn, .dat false (.tuple fs), .dat false (.list ks), .dat false (.list ws), .dat false (.list ls), s7, s8, .un, .un, .un, .un] := rfl
      have h4 : (Opd.sl 4).frz ([.un, .bag, .dat false turn, .dat false (.tuple fs), .dat false (.list ks), .dat false (.list ws), .dat false (.list ls), s7, s8, .un, .un, .un, .un] : GS) = [.un, .bag, .dat false turn, .dat false (.tuple fs), .dat false (.list ks), .dat false (.list ws), .dat false (.list ls), s7, s8, .un, .un, .un, .un] := rfl
      have h5 : (Opd.sl 5).frz ([.un, .bag, .dat false turn, .dat false (.tuple fs), .dat false (.list ks), .dat false (.list ws), .dat false (.list ls), s7, s8, .un, .un, .un, .un] : GS) = [.un, .bag, .dat false turn, .dat false (.tuple fs), .dat false (.list ks), .dat false (.list ws), .dat false (.list ls), s7, s8, .un, .un, .un, .un] := rfl
      have h6 : (Opd.sl 6).frz ([.un, .bag, .dat false turn, .dat false (.tuple fs), .dat false (.list ks), .dat false (.list ws), .dat false (.list ls), s7, s8, .un, .un, .un, .un] : GS) = [.un, .bag, .dat false turn, .dat false (.tuple fs), .dat false (.list ks), .dat false (.list ws), .dat false (.list ls), s7, s8, .un, .un, .un, .un] := rfl
      (conv => whnf)
      rw [y1]
      have e0 : (Str.ofString "").length = 0 := rfl
      refine ⟨by rw [e0, Nat.mul_zero, Nat.add_zero]; have := hls.1; omega, ?_⟩
      simp only [fv, g5, h1, h3, h4, h5, h6]
      (repeat ((conv => whnf); refine And.intro (by first | exact rfl | exact trivial | exact ⟨by decide, by decide, by decide⟩ | exact ⟨by decide, by decide⟩ | exact ⟨List.cons_ne_nil _ _, Nat.le_of_ble_eq_true rfl⟩ | exact ⟨rfl, rfl⟩ | exact eqOk_str | exact eqOk_int | exact eqOk_bool | exact Nat.le_of_ble_eq_true rfl | exact eqOk_tnil | exact eqOk_nil | assumption) ?_)); (try (conv => whnf))
      refine ⟨hws.sz (n := 5) (m := 1) (ths_cons ((ds_word (m := 0) y4).1.mono (by decide) (by have := hls.1; omega)) ths_nil) (by decide), ?_⟩
      simp only [fv, g5, h1, h3, h4, h5, h6]
      (repeat ((conv => whnf); refine And.intro (by first | exact rfl | exact trivial | exact ⟨by decide, by decide, by decide⟩ | exact ⟨by decide, by decide⟩ | exact ⟨List.cons_ne_nil _ _, Nat.le_of_ble_eq_true rfl⟩ | exact ⟨rfl, rfl⟩ | exact eqOk_str | exact eqOk_int | exact eqOk_bool | exact Nat.le_of_ble_eq_true rfl | exact eqOk_tnil | exact eqOk_nil | assumption) ?_)); (try (conv => whnf))
      rw [cut_to (by omega)]
      have hA := hws.add (m := 1) (ths_cons (show Th (.str (Txt.join (Str.ofString "") ys)) from (ds_word (m := 0) y4).1.mono (by decide) (by have := hls.1; omega)) ths_nil)
      have hB : Ths 6 (ks.take (1 : Int).toNat) := ⟨by rw [List.length_take]; have := hks.2.1; omega, fun y hy => (ds_K (hks.2.2 y (List.mem_of_mem_take hy))).1.mono (by decide) (by decide)⟩
      refine ⟨hA.sz hB (by decide), ?_⟩
      simp only [fv, g5, h1, h3, h4, h5, h6]
      (repeat ((conv => whnf); refine And.intro (by first | exact rfl | exact trivial | exact ⟨by decide, by decide, by decide⟩ | exact ⟨by decide, by decide⟩ | exact ⟨List.cons_ne_nil _ _, Nat.le_of_ble_eq_true rfl⟩ | exact ⟨rfl, rfl⟩ | exact eqOk_str | exact eqOk_int | exact eqOk_bool | exact Nat.le_of_ble_eq_true rfl | exact eqOk_tnil | exact eqOk_nil | assumption) ?_)); (try (conv => whnf))
      rw [ek0]
      (repeat ((conv => whnf); refine And.intro (by first | exact rfl | exact trivial | exact ⟨by decide, by decide, by decide⟩ | exact ⟨by decide, by decide⟩ | exact ⟨List.cons_ne_nil _ _, Nat.le_of_ble_eq_true rfl⟩ | exact ⟨rfl, rfl⟩ | exact eqOk_str | exact eqOk_int | exact eqOk_bool | exact Nat.le_of_ble_eq_true rfl | exact eqOk_tnil | exact eqOk_nil | assumption) ?_)); (try (conv => whnf))
      refine ⟨160, hK0d.mono (by decide) (Nat.le_refl _), by decide, fun d1 hd1 => ?_⟩
      simp only [fv, g5, h1, h3, h4, h5, h6]
      (repeat ((conv => whnf); refine And.intro (by first | exact rfl | exact trivial | exact ⟨by decide, by decide, by decide⟩ | exact ⟨by decide, by decide⟩ | exact ⟨List.cons_ne_nil _ _, Nat.le_of_ble_eq_true rfl⟩ | exact ⟨rfl, rfl⟩ | exact eqOk_str | exact eqOk_int | exact eqOk_bool | exact Nat.le_of_ble_eq_true rfl | exact eqOk_tnil | exact eqOk_nil | assumption) ?_)); (try (conv => whnf))
      rw [ek0]
      (repeat ((conv => whnf); refine And.intro (by first | exact rfl | exact trivial | exact ⟨by decide, by decide, by decide⟩ | exact ⟨by decide, by decide⟩ | exact ⟨List.cons_ne_nil _ _, Nat.le_of_ble_eq_true rfl⟩ | exact ⟨rfl, rfl⟩ | exact eqOk_str | exact eqOk_int | exact eqOk_bool | exact Nat.le_of_ble_eq_true rfl | exact eqOk_tnil | exact eqOk_nil | assumption) ?_)); (try (conv => whnf))
      rw [eg0]
      simp only [fv, g5, h1, h3, h4, h5, h6]
      (repeat ((conv => whnf); refine And.intro (by first | exact rfl | exact trivial | exact ⟨by decide, by decide, by decide⟩ | exact ⟨by decide, by decide⟩ | exact ⟨List.cons_ne_nil _ _, Nat.le_of_ble_eq_true rfl⟩ | exact ⟨rfl, rfl⟩ | exact eqOk_str | exact eqOk_int | exact eqOk_bool | exact Nat.le_of_ble_eq_true rfl | exact eqOk_tnil | exact eqOk_nil | assumption) ?_)); (try (conv => whnf))
      have hC : Ths 3 [d1, .tuple (cutD kd none (some 1)), .str n0] := ths_cons (hd1.mono (by decide) (by decide)) (ths_cons ((dt_tup (hK0d.1.items.cut none (some 1))).mono (by decide) (by decide)) (ths_cons (hn0d.1.mono (by decide) (by decide)) ths_nil))
      refine ⟨(hA.add hB).sz hC (by decide), ?_⟩
      refine key _ ?_
      exact (hA.add hB).add hC
    refine seq_one (fun ws : List PyData => Ths 16 ws) (fun ws => [.un, .bag, .dat false turn, .dat false (.tuple fs), .dat false (.list ks), .dat true (.list ws), .dat false (.list ls), s7, s8, .un, .un, .un, .un]) (fun key => ?_) (fun ws3 hws3 => ?_)
    · have g5 : (Opd.sl 1).frz ([.un, .bag, .dat false turn, .dat false (.tuple fs), .dat false (.list ks), .dat true (.list ws2), .dat false (.list ls), s7, s8, .un, .un, .un, .un] : GS) = [.un, .bag, .dat false turn, .dat false (.tuple fs), .dat false (.list ks), .dat true (.list ws2), .dat false (.list ls), s7, s8, .un, .un, .un, .un] := rfl
      have g3 : (Opd.sl 3).frz ([.un, .bag, .dat false turn, .dat false (.tuple fs), .dat false (.list ks), .dat true (.list ws2), .dat false (.list ls), s7, s8, .un, .un, .un, .un] : GS) = [.un, .bag, .dat false turn, .dat false (.tuple fs), .dat false (.list ks), .dat true (.list ws2), .dat false (.list ls), s7, s8, .un, .un, .un, .un] := rfl
      (repeat ((conv => whnf); refine And.intro (by first | exact rfl | exact trivial | exact ⟨by decide, by decide, by decide⟩ | exact ⟨by decide, by decide⟩ | exact ⟨List.cons_ne_nil _ _, Nat.le_of_ble_eq_true rfl⟩ | exact ⟨rfl, rfl⟩ | exact eqOk_str | exact eqOk_int | exact eqOk_bool | exact Nat.le_of_ble_eq_true rfl | exact eqOk_tnil | exact eqOk_nil | assumption) ?_)); (try (conv => whnf))
      rw [eg0]
      simp only [fv, g5, g3]
      (repeat ((conv => whnf); refine And.intro (by first | exact rfl | exact trivial | exact ⟨by decide, by decide, by decide⟩ | exact ⟨by decide, by decide⟩ | exact ⟨List.cons_ne_nil _ _, Nat.le_of_ble_eq_true rfl⟩ | exact ⟨rfl, rfl⟩ | exact eqOk_str | exact eqOk_int | exact eqOk_bool | exact Nat.le_of_ble_eq_true rfl | exact eqOk_tnil | exact eqOk_nil | assumption) ?_)); (try (conv => whnf))
      refine ⟨82, hn0d.mono (by decide) (Nat.le_refl _), by decide, fun d1 hd1 => ?_⟩
      simp only [fv, g5, g3]
      (repeat ((conv => whnf); refine And.intro (by first | exact rfl | exact trivial | exact ⟨by decide, by decide, by decide⟩ | exact ⟨by decide, by decide⟩ | exact ⟨List.cons_ne_nil _ _, Nat.le_of_ble_eq_true rfl⟩ | exact ⟨rfl, rfl⟩ | exact eqOk_str | exact eqOk_int | exact eqOk_bool | exact Nat.le_of_ble_eq_true rfl | exact eqOk_tnil | exact eqOk_nil | assumption) ?_)); (try (conv => whnf))
      refine ⟨Nat.lt_of_le_of_lt hws2.1 (by decide), ?_⟩
      exact key _ (hws2.add (m := 1) (ths_cons (hd1.mono (by decide) (by decide)) ths_nil))
    refine seq_one (fun ws : List PyData => Ths 18 ws) (fun ws => [.un, .bag, .dat false turn, .dat false (.tuple fs), .dat false (.list ks), .dat true (.list ws), .dat false (.list ls), s7, s8, .un, .un, .un, .un]) (fun key => ?_) (fun ws4 hws4 => ?_)
    · have g5 : (Opd.sl 5).frz ([.un, .bag, .dat false turn, .dat false (.tuple fs), .dat false (.list ks), .dat true (.list ws3), .dat false (.list ls), s7, s8, .un, .un, .un, .un] : GS) = [.un, .bag, .dat false turn, .dat false (.tuple fs), .dat false (.list ks), .dat false (.list ws3), .dat false (.list ls), s7, s8, .un, .un, .un, .un] := rfl
      have h1 : (Opd.sl 1).frz ([.un, .bag, .dat false turn, .dat false (.tuple fs), .dat false (.list ks), .dat false (.list ws3), .dat false (.list ls), s7, s8, .un, .un, .un, .un] : GS) = [.un, .bag, .dat false turn, .dat false (.tuple fs), .dat false (.list ks), .dat false (.list ws3), .dat false (.list ls), s7, s8, .un, .un, .un, .un] := rfl
      have h3 : (Opd.sl 3).frz ([.un, .bag, .dat false turn, .dat false (.tuple fs), .dat false (.list ks), .dat false (.list ws3), .dat false (.list ls), s7, s8, .un, .un, .un, .un] : GS) = [.un, .bag, .dat false turn, .dat false (.tuple fs), .dat false (.list ks), .dat false (.list ws3), .dat false (.list ls), s7, s8, .un, .un, .un, .un] := rfl
      have h4 : (Opd.sl 4).frz ([.un, .bag, .dat false turn, .dat false (.tuple fs), .dat false (.list ks), .dat false (.list ws3), .dat false (.list ls), s7, s8, .un, .un, .un, .un] : GS) = [.un, .bag, .dat false turn, .dat false (.tuple fs), .dat false (.list ks), .dat false (.list ws3), .dat false (.list ls), s7, s8, .un, .un, .un, .un] := rfl
      have h5 : (Opd.sl 5).frz ([.un, .bag, .dat false turn, .dat false (.tuple fs), .dat false (.list ks), .dat false (.list ws3), .dat false (.list ls), s7, s8, .un, .un, .un, .un] : GS) = [.un, .bag, .dat false turn, .dat false (.tuple fs), .dat false (.list ks), .dat false (.list ws3), .dat false (.list ls), s7, s8, .un, .un, .un, .un] := rfl
      have h6 : (Opd.sl 6).frz ([.un, .bag, .dat false turn, .dat false (.tuple fs), .dat false (.list ks), .dat false (.list ws3), .dat false (.list ls), s7, s8, .un, .un, .un, .un] : GS) = [.un, .bag, .dat false turn, .dat false (.tuple fs), .dat false (.list ks), .dat false (.list ws3), .dat false (.list ls), s7, s8, .un, .un, .un, .un] := rfl
      have j1 : (Opd.sl 1).frz ([.un, .bag, .dat false turn, .dat false (.tuple fs), .dat false (.list ks), .dat true (.list ws3), .dat false (.list ls), s7, s8, .un, .un, .un, .un] : GS) = [.un, .bag, .dat false turn, .dat false (.tuple fs), .dat false (.list ks), .dat true (.list ws3), .dat false (.list ls), s7, s8, .un, .un, .un, .un] := rfl
      have j3 : (Opd.sl 3).frz ([.un, .bag, .dat false turn, .dat false (.tuple fs), .dat false (.list ks), .dat true (.list ws3), .dat false (.list ls), s7, s8, .un, .un, .un, .un] : GS) = [.un, .bag, .dat false turn, .dat false (.tuple fs), .dat false (.list ks), .dat true (.list ws3), .dat false (.list ls), s7, s8, .un, .un, .un, .un] := rfl
      have j4 : (Opd.sl 4).frz ([.un, .bag, .dat false turn, .dat false (.tuple fs), .dat false (.list ks), .dat true (.list ws3), .dat false (.list ls), s7, s8, .un, .un, .un, .un] : GS) = [.un, .bag, .dat false turn, .dat false (.tuple fs), .dat false (.list ks), .dat true (.list ws3), .dat false (.list ls), s7, s8, .un, .un, .un, .un] := rfl
      have j6 : (Opd.sl 6).frz ([.un, .bag, .dat false turn, .dat false (.tuple fs), .dat false (.list ks), .dat true (.list ws3), .dat false (.list ls), s7, s8, .un, .un, .un, .un] : GS) = [.un, .bag, .dat false turn, .dat false (.tuple fs), .dat false (.list ks), .dat true (.list ws3), .dat false (.list ls), s7, s8, .un, .un, .un, .un] := rfl
      have nums : ∀ x ∈ ([.int 1, .int 2, .int 16] : List PyData), ∃ n : Int, 0 ≤ n ∧ n ≤ 16 ∧ x = .int n := by
        intro x hx
        simp only [List.mem_cons, List.not_mem_nil, or_false] at hx
        rcases hx with e | e | e <;> exact ⟨_, by omega, by omega, e⟩
      (repeat ((conv => whnf); refine And.intro (by first | exact rfl | exact trivial | exact ⟨by decide, by decide, by decide⟩ | exact ⟨by decide, by decide⟩ | exact ⟨List.cons_ne_nil _ _, Nat.le_of_ble_eq_true rfl⟩ | exact ⟨rfl, rfl⟩ | exact eqOk_str | exact eqOk_int | exact eqOk_bool | exact Nat.le_of_ble_eq_true rfl | exact eqOk_tnil | exact eqOk_nil | assumption) ?_)); (try (conv => whnf))
      intro o ho
      simp only [fv, g5, h1, h3, h4, h5, h6]
      (repeat ((conv => whnf); refine And.intro (by first | exact rfl | exact trivial | exact ⟨by decide, by decide, by decide⟩ | exact ⟨by decide, by decide⟩ | exact ⟨List.cons_ne_nil _ _, Nat.le_of_ble_eq_true rfl⟩ | exact ⟨rfl, rfl⟩ | exact eqOk_str | exact eqOk_int | exact eqOk_bool | exact Nat.le_of_ble_eq_true rfl | exact eqOk_tnil | exact eqOk_nil | assumption) ?_)); (try (conv => whnf))
      intro x hx
      obtain ⟨n, m0, m1, rfl⟩ := nums x hx
      simp only [fv, g5, h1, h3, h4, h5, h6]
      (repeat ((conv => whnf); refine And.intro (by first | exact rfl | exact trivial | exact ⟨by decide, by decide, by decide⟩ | exact ⟨by decide, by decide⟩ | exact ⟨List.cons_ne_nil _ _, Nat.le_of_ble_eq_true rfl⟩ | exact ⟨rfl, rfl⟩ | exact eqOk_str | exact eqOk_int | exact eqOk_bool | exact Nat.le_of_ble_eq_true rfl | exact eqOk_tnil | exact eqOk_nil | assumption) ?_)); (try (conv => whnf))
      refine ⟨⟨m0, m1⟩, fun d1 hd1 => ?_⟩
      simp only [fv, g5, h1, h3, h4, h5, h6]
      simp only [fv, j1, j3]
      (conv => whnf)
      simp only [fv, j1, j3, g5, h1, h3]
      refine lcW_of (fun ds acc => ds.length + acc.length = fs.length ∧ (∀ g ∈ ds, IsFd g) ∧ ∀ x ∈ acc, Dt 5 300 x) ?hn ?hc _ _ ⟨by simp, f2, by simp⟩
      case hc =>
        intro d ds acc ⟨hl, hd, ha⟩ ih
        rw [List.length_cons] at hl
        have hdd := ds_Fd (hd d (List.mem_cons_self ..))
        obtain ⟨n, k, rfl, _, hk⟩ := hd d (List.mem_cons_self ..)
        (repeat ((conv => whnf); refine And.intro (by first | exact rfl | exact trivial | exact ⟨by decide, by decide, by decide⟩ | exact ⟨by decide, by decide⟩ | exact ⟨List.cons_ne_nil _ _, Nat.le_of_ble_eq_true rfl⟩ | exact ⟨rfl, rfl⟩ | exact eqOk_str | exact eqOk_int | exact eqOk_bool | exact Nat.le_of_ble_eq_true rfl | exact eqOk_tnil | exact eqOk_nil | assumption) ?_)); (try (conv => whnf))
        refine ⟨Nat.lt_of_lt_of_le (by omega : acc.length < 7) (by decide), ih _ ⟨by rw [List.length_append, List.length_singleton]; omega, fun g hg => hd g (List.mem_cons_of_mem _ hg), fun x hx => ?_⟩⟩
        rcases List.mem_append.mp hx with hx | hx
        · exact ha x hx
        · rw [List.mem_singleton] at hx; rw [hx]
          exact (dt_lst hdd.1.items).mono (by decide) (by decide)
      case hn =>
        intro acc ⟨hl, _, ha⟩
        rw [List.length_nil, Nat.zero_add] at hl
        have hL : Ths 2 [d1, .list acc] := ths_cons (hd1.mono (by decide) (by decide)) (ths_cons ((dt_lst (dtA_many (m := 5) (b := 300) (c := 6) (by omega) ha)).mono (by decide) (by decide)) ths_nil)
        (conv => whnf)
        refine ⟨Nat.le_trans (Nat.le_of_ble_eq_true rfl : 2 ≤ 1000) (by decide), ?_⟩
        (conv => whnf)
        refine ⟨hws3.sz hL (by decide), ?_⟩
        exact key _ (hws3.add hL)
    refine seq_abs (fun Γ => ∃ s5 s7, Γ = [.un, .bag, .dat false turn, .dat false (.tuple fs), .dat false (.list ks), s5, .dat false (.list ls), s7, s8, .un, .un, .un, .un]) (fun nx2 hnx2 => ?_) ?_
    · refine for_inv (fun ds Γ => ∃ s5 s7, Γ = [.un, .bag, .dat false turn, .dat false (.tuple fs), .dat false (.list ks), s5, .dat false (.list ls), s7, s8, .un, .un, .un, .un] ∧ ∀ y ∈ ds, Th y) (fun F hF2 => ?_) ?_ ?_
      · (repeat ((conv => whnf); refine And.intro (by first | exact rfl | exact trivial | exact ⟨by decide, by decide, by decide⟩ | exact ⟨by decide, by decide⟩ | exact ⟨List.cons_ne_nil _ _, Nat.le_of_ble_eq_true rfl⟩ | exact ⟨rfl, rfl⟩ | exact eqOk_str | exact eqOk_int | exact eqOk_bool | exact Nat.le_of_ble_eq_true rfl | exact eqOk_tnil | exact eqOk_nil | assumption) ?_)); (try (conv => whnf))
        exact hF2 _ _ ⟨_, _, rfl, hws4.2⟩
      · rintro Γ ⟨s5, s7, rfl, _⟩
        exact hnx2 _ ⟨_, _, rfl⟩
      · rintro x xs Γ ⟨s5, s7, rfl, hx⟩ rest2 hrest2
        have hx0 := hx x (List.mem_cons_self ..)
        refine one_if (Γ := [.un, .bag, .dat false turn, .dat false (.tuple fs), .dat false (.list ks), s5, .dat false (.list ls), .dat false x, s8, .un, .un, .un, .un]) false (fun Q hq => ?_) (fun z => nomatch z) fun _ => hrest2 _ ⟨_, _, rfl, fun y hy => hx y (List.mem_cons_of_mem _ hy)⟩
        (conv => whnf)
        refine ⟨hx0, ?_⟩
        (repeat ((conv => whnf); refine And.intro (by first | exact rfl | exact trivial | exact ⟨by decide, by decide, by decide⟩ | exact ⟨by decide, by decide⟩ | exact ⟨List.cons_ne_nil _ _, Nat.le_of_ble_eq_true rfl⟩ | exact ⟨rfl, rfl⟩ | exact eqOk_str | exact eqOk_int | exact eqOk_bool | exact Nat.le_of_ble_eq_true rfl | exact eqOk_tnil | exact eqOk_nil | assumption) ?_)); (try (conv => whnf))
        exact hq
    rintro Γ ⟨s5, s7, rfl⟩
    refine seq_one (fun vs : List PyData => vs.length = fs.length ∧ ∀ x ∈ vs, IsV x) (fun vs => [.un, .bag, .dat false turn, .dat false (.tuple fs), .dat false (.list ks), s5, .dat false (.list ls), s7, .dat false (.tuple vs), .un, .un, .un, .un]) (fun key => ?_) (fun vs hvs => ?_)
    · (repeat ((conv => whnf); refine And.intro (by first | exact rfl | exact trivial | exact ⟨by decide, by decide, by decide⟩ | exact ⟨by decide, by decide⟩ | exact ⟨List.cons_ne_nil _ _, Nat.le_of_ble_eq_true rfl⟩ | exact ⟨rfl, rfl⟩ | exact eqOk_str | exact eqOk_int | exact eqOk_bool | exact Nat.le_of_ble_eq_true rfl | exact eqOk_tnil | exact eqOk_nil | assumption) ?_)); (try (conv => whnf))
      exact ⟨fs, rfl, hF, fun vs h1 h2 => key vs ⟨h1, h2⟩⟩
    have hvd : Ds 2 9000 (.tuple vs) := by
      have := Nat.mul_le_mul_left (1491 + 2) (show vs.length ≤ 6 by omega)
      exact (ds_tup (n := 1) (dsA_all fun x hx => ds_V (hvs.2 x hx))).mono (Nat.le_refl _) (by omega)
    have hvl : vs.length ≤ 6 := by omega
    have hvt : Th (.tuple vs) := hvd.1.mono (by decide) (by decide)
    refine seq_one (fun ws : List PyData => Ths 6 ws) (fun ws5 => [.un, .bag, .dat false turn, .dat false (.tuple fs), .dat false (.list ks), .dat true (.list ws5), .dat false (.list ls), s7, .dat false (.tuple vs), .un, .un, .un, .un]) (fun key => ?_) (fun ws5 hws5 => ?_)
    · have h1 : (Opd.sl 1).frz ([.un, .bag, .dat false turn, .dat false (.tuple fs), .dat false (.list ks), s5, .dat false (.list ls), s7, .dat false (.tuple vs), .un, .un, .un, .un] : GS) = [.un, .bag, .dat false turn, .dat false (.tuple fs), .dat false (.list ks), s5, .dat false (.list ls), s7, .dat false (.tuple vs), .un, .un, .un, .un] := rfl
      have h8 : (Opd.sl 8).frz ([.un, .bag, .dat false turn, .dat false (.tuple fs), .dat false (.list ks), s5, .dat false (.list ls), s7, .dat false (.tuple vs), .un, .un, .un, .un] : GS) = [.un, .bag, .dat false turn, .dat false (.tuple fs), .dat false (.list ks), s5, .dat false (.list ls), s7, .dat false (.tuple vs), .un, .un, .un, .un] := rfl
      (repeat ((conv => whnf); refine And.intro (by first | exact rfl | exact trivial | exact ⟨by decide, by decide, by decide⟩ | exact ⟨by decide, by decide⟩ | exact ⟨List.cons_ne_nil _ _, Nat.le_of_ble_eq_true rfl⟩ | exact ⟨rfl, rfl⟩ | exact eqOk_str | exact eqOk_int | exact eqOk_bool | exact Nat.le_of_ble_eq_true rfl | exact eqOk_tnil | exact eqOk_nil | assumption) ?_)); (try (conv => whnf))
      refine ⟨9000, hvd.mono (by decide) (Nat.le_refl _), by decide, fun d1 hd1 => ?_⟩
      simp only [fv, h1, h8]
      (repeat ((conv => whnf); refine And.intro (by first | exact rfl | exact trivial | exact ⟨by decide, by decide, by decide⟩ | exact ⟨by decide, by decide⟩ | exact ⟨List.cons_ne_nil _ _, Nat.le_of_ble_eq_true rfl⟩ | exact ⟨rfl, rfl⟩ | exact eqOk_str | exact eqOk_int | exact eqOk_bool | exact Nat.le_of_ble_eq_true rfl | exact eqOk_tnil | exact eqOk_nil | assumption) ?_)); (try (conv => whnf))
      refine ⟨9000, hvd.mono (by decide) (Nat.le_refl _), by decide, fun d2 hd2 => ?_⟩
      simp only [fv, h1, h8]
      (repeat ((conv => whnf); refine And.intro (by first | exact rfl | exact trivial | exact ⟨by decide, by decide, by decide⟩ | exact ⟨by decide, by decide⟩ | exact ⟨List.cons_ne_nil _ _, Nat.le_of_ble_eq_true rfl⟩ | exact ⟨rfl, rfl⟩ | exact eqOk_str | exact eqOk_int | exact eqOk_bool | exact Nat.le_of_ble_eq_true rfl | exact eqOk_tnil | exact eqOk_nil | assumption) ?_)); (try (conv => whnf))
      refine ⟨sz (by show vs.length + 1 ≤ 1000; omega), ?_⟩
      simp only [fv, h1, h8]
      (conv => whnf)
      refine ⟨Nat.le_trans (Nat.le_of_ble_eq_true rfl : 6 ≤ 1000) (by decide), ?_⟩
      simp only [fv, h1, h8]
      refine key _ (ths_cons hvt (ths_cons (hd1.mono (by decide) (by decide)) (ths_cons (hd2.mono (by decide) (by decide)) (ths_cons ((dt_tup (hvd.1.items.cut none (some (-1)))).mono (by decide) (by decide)) (ths_cons ((dt_tup (hvd.1.items.append (dt_one (dt_none (n := 1))))).mono (by decide) (by decide)) (ths_cons ((dt_lst hvd.1.items).mono (by decide) (by decide)) ths_nil))))))
    refine seq_abs (fun Γ => ∃ s5 s7, Γ = [.un, .bag, .dat false turn, .dat false (.tuple fs), .dat false (.list ks), s5, .dat false (.list ls), s7, .dat false (.tuple vs), .un, .un, .un, .un]) (fun nx2 hnx2 => ?_) ?_
    · refine for_inv (fun ds Γ => ∃ s5 s7, Γ = [.un, .bag, .dat false turn, .dat false (.tuple fs), .dat false (.list ks), s5, .dat false (.list ls), s7, .dat false (.tuple vs), .un, .un, .un, .un] ∧ ∀ y ∈ ds, Th y) (fun F hF2 => ?_) ?_ ?_
      · (repeat ((conv => whnf); refine And.intro (by first | exact rfl | exact trivial | exact ⟨by decide, by decide, by decide⟩ | exact ⟨by decide, by decide⟩ | exact ⟨List.cons_ne_nil _ _, Nat.le_of_ble_eq_true rfl⟩ | exact ⟨rfl, rfl⟩ | exact eqOk_str | exact eqOk_int | exact eqOk_bool | exact Nat.le_of_ble_eq_true rfl | exact eqOk_tnil | exact eqOk_nil | assumption) ?_)); (try (conv => whnf))
        intro o ho
        (repeat ((conv => whnf); refine And.intro (by first | exact rfl | exact trivial | exact ⟨by decide, by decide, by decide⟩ | exact ⟨by decide, by decide⟩ | exact ⟨List.cons_ne_nil _ _, Nat.le_of_ble_eq_true rfl⟩ | exact ⟨rfl, rfl⟩ | exact eqOk_str | exact eqOk_int | exact eqOk_bool | exact Nat.le_of_ble_eq_true rfl | exact eqOk_tnil | exact eqOk_nil | assumption) ?_)); (try (conv => whnf))
        have hO : Ths 1 [o] := ths_cons (ho.mono (by decide) (by decide)) ths_nil
        refine ⟨hws5.sz hO (by decide), ?_⟩
        exact hF2 _ _ ⟨_, _, rfl, (hws5.add hO).2⟩
      · rintro Γ ⟨s5, s7, rfl, _⟩
        exact hnx2 _ ⟨_, _, rfl⟩
      · rintro x xs Γ ⟨s5, s7, rfl, hx⟩ rest2 hrest2
        have hx0 := hx x (List.mem_cons_self ..)
        obtain ⟨B, hB⟩ : ∃ B, worthB fs x = B := ⟨_, rfl⟩
        have k3 : (Opd.sl 3).frz ([.un, .bag, .dat false turn, .dat false (.tuple fs), .dat false (.list ks), s5, .dat false (.list ls), .dat false x, .dat false (.tuple vs), .un, .un, .un, .un] : GS) = [.un, .bag, .dat false turn, .dat false (.tuple fs), .dat false (.list ks), s5, .dat false (.list ls), .dat false x, .dat false (.tuple vs), .un, .un, .un, .un] := rfl
        have k7 : (Opd.sl 7).frz ([.un, .bag, .dat false turn, .dat false (.tuple fs), .dat false (.list ks), s5, .dat false (.list ls), .dat false x, .dat false (.tuple vs), .un, .un, .un, .un] : GS) = [.un, .bag, .dat false turn, .dat false (.tuple fs), .dat false (.list ks), s5, .dat false (.list ls), .dat false x, .dat false (.tuple vs), .un, .un, .un, .un] := rfl
        refine one_if (Γ := [.un, .bag, .dat false turn, .dat false (.tuple fs), .dat false (.list ks), s5, .dat false (.list ls), .dat false x, .dat false (.tuple vs), .un, .un, .un, .un]) false (fun Q hq => ?_) (fun z => nomatch z) fun _ => hrest2 _ ⟨_, _, rfl, fun y hy => hx y (List.mem_cons_of_mem _ hy)⟩
        (conv => whnf)
        refine ⟨fs, rfl, f2, by omega, hx0.fit, ?_⟩
        rw [hB]
        simp only [fv, k3, k7]
        (conv => whnf)
        refine ⟨fs, rfl, f2, by omega, hx0.fit, ?_⟩
        rw [hB]
        simp only [fv, k3, k7]
        (conv => whnf)
        rw [show (B == B) = true from beq_self_eq_true B]
        (repeat ((conv => whnf); refine And.intro (by first | exact rfl | exact trivial | exact ⟨by decide, by decide, by decide⟩ | exact ⟨by decide, by decide⟩ | exact ⟨List.cons_ne_nil _ _, Nat.le_of_ble_eq_true rfl⟩ | exact ⟨rfl, rfl⟩ | exact eqOk_str | exact eqOk_int | exact eqOk_bool | exact Nat.le_of_ble_eq_true rfl | exact eqOk_tnil | exact eqOk_nil | assumption) ?_)); (try (conv => whnf))
        exact hq
    rintro Γ ⟨s5, s7, rfl⟩
    refine one_if (Γ := [.un, .bag, .dat false turn, .dat false (.tuple fs), .dat false (.list ks), s5, .dat false (.list ls), s7, .dat false (.tuple vs), .un, .un, .un, .un]) false (fun Q hq => ?_) (fun z => nomatch z) fun _ => hrest _ ⟨_, _, _, _, _, _, _, rfl⟩
    (repeat ((conv => whnf); refine And.intro (by first | exact rfl | exact trivial | exact ⟨by decide, by decide, by decide⟩ | exact ⟨by decide, by decide⟩ | exact ⟨List.cons_ne_nil _ _, Nat.le_of_ble_eq_true rfl⟩ | exact ⟨rfl, rfl⟩ | exact eqOk_str | exact eqOk_int | exact eqOk_bool | exact Nat.le_of_ble_eq_true rfl | exact eqOk_tnil | exact eqOk_nil | assumption) ?_)); (try (conv => whnf))
    intro k hk
    (repeat ((conv => whnf); refine And.intro (by first | exact rfl | exact trivial | exact ⟨by decide, by decide, by decide⟩ | exact ⟨by decide, by decide⟩ | exact ⟨List.cons_ne_nil _ _, Nat.le_of_ble_eq_true rfl⟩ | exact ⟨rfl, rfl⟩ | exact eqOk_str | exact eqOk_int | exact eqOk_bool | exact Nat.le_of_ble_eq_true rfl | exact eqOk_tnil | exact eqOk_nil | assumption) ?_)); (try (conv => whnf))
    refine ⟨sz (by show ks.length + 1 ≤ 1000; have := hks.2.1; omega), ?_⟩
    have k1 : (Opd.sl 1).frz ([.un, .bag, .dat false turn, .dat false (.tuple fs), .dat false (.list ks), s5, .dat false (.list ls), s7, .dat false (.tuple vs), .un, .un, .un, .un] : GS) = [.un, .bag, .dat false turn, .dat false (.tuple fs), .dat false (.list ks), s5, .dat false (.list ls), s7, .dat false (.tuple vs), .un, .un, .un, .un] := rfl
    have k4 : (Opd.sl 4).frz ([.un, .bag, .dat false turn, .dat false (.tuple fs), .dat false (.list ks), s5, .dat false (.list ls), s7, .dat false (.tuple vs), .un, .un, .un, .un] : GS) = [.un, .bag, .dat false turn, .dat false (.tuple fs), .dat false (.list ks), s5, .dat false (.list ls), s7, .dat false (.tuple vs), .un, .un, .un, .un] := rfl
    have hkk : ∀ y ∈ ks ++ [k], IsK y := fun y hy => by
      rcases List.mem_append.mp hy with hy | hy
      · exact hks.2.2 y hy
      · rw [List.mem_singleton] at hy; rw [hy]; exact hk
    simp only [fv, k1, k4]
    (conv => whnf)
    refine lc_pure (fun _ => false) id _ _ (by rw [List.length_append]; exact sz (by show 0 + (ks.length + 1) ≤ 1000; have := hks.2.1; omega)) (fun x hx ds' acc hl ht hf => ?_) ?_
    · (conv => whnf)
      refine ⟨hkk x hx, ?_⟩
      (repeat ((conv => whnf); refine And.intro (by first | exact rfl | exact trivial | exact ⟨by decide, by decide, by decide⟩ | exact ⟨by decide, by decide⟩ | exact ⟨List.cons_ne_nil _ _, Nat.le_of_ble_eq_true rfl⟩ | exact ⟨rfl, rfl⟩ | exact eqOk_str | exact eqOk_int | exact eqOk_bool | exact Nat.le_of_ble_eq_true rfl | exact eqOk_tnil | exact eqOk_nil | assumption) ?_)); (try (conv => whnf))
      exact hf rfl
    · have e : ([] : List PyData) ++ ((ks ++ [k]).filter fun _ => false).map id = [] := by simp
      rw [e]
      (repeat ((conv => whnf); refine And.intro (by first | exact rfl | exact trivial | exact ⟨by decide, by decide, by decide⟩ | exact ⟨by decide, by decide⟩ | exact ⟨List.cons_ne_nil _ _, Nat.le_of_ble_eq_true rfl⟩ | exact ⟨rfl, rfl⟩ | exact eqOk_str | exact eqOk_int | exact eqOk_bool | exact Nat.le_of_ble_eq_true rfl | exact eqOk_tnil | exact eqOk_nil | assumption) ?_)); (try (conv => whnf))
      exact hq
  · exact rfl
end K10
end
section
set_option autoImplicit false
set_option linter.all false
set_option maxRecDepth 100000
set_option maxHeartbeats 4000000
namespace K10
open PySem PySem.Spec L2 DL
variable {P : Program} {w : World} {K : PySem.W.Frag} {mg : Str → Option Value} {base : Heap}
/-! ### all of it -/
theorem defOk_mk {x : Str} {st : Stmt} {ps : List Str} {h : Heap} {f : Addr} {od an : Option Addr} {sl : Array (Option Value)} {oc kV dc pm cd ct : Value} (X : K.In h) (G : h.Ns mainGlobals mg) (a : PySem.W.nsIn K mainGlobals x = some (some (.ref f)))
    (l : K.lookup f = some ⟨oc, od, .func (PySem.W.fnOf x x (defArgs st) (defBody st) (defScope st) .none kV dc pm an cd ct), sl⟩) (c : PySem.W.codeIn K cd x = true) (k : PySem.W.keepIn K (.ref f) = true)
    (hb : ∀ (kV doc pm : Value) (an : Option Addr) (cdv ct : Value) (us : List Value), us.length = ps.length → bindArgs (PySem.W.fnOf x x (defArgs st) (defBody st) (defScope st) .none kV doc pm an cdv ct) ⟨us, []⟩ = pure (ps.zip us)) : DefOk K mg x st ps := ⟨⟨f, _, fun_mk l c k, PySem.W.mg_of X G a, (fun_mk l c k).binds hb⟩⟩
theorem hb_is_integer (kV doc pm : Value) (an : Option Addr) (cdv ct : Value) (us : List Value) (hl : us.length = (["thing"] : List Str).length) : bindArgs (PySem.W.fnOf "is_integer" "is_integer" (defArgs s_is_integer) (defBody s_is_integer) (defScope s_is_integer) .none kV doc pm an cdv ct) ⟨us, []⟩ = pure ((["thing"] : List Str).zip us) := match us, hl with | [_], _ => rfl
theorem hb_is_tuple (kV doc pm : Value) (an : Option Addr) (cdv ct : Value) (us : List Value) (hl : us.length = (["thing", "least", "most"] : List Str).length) : bindArgs (PySem.W.fnOf "is_tuple" "is_tuple" (defArgs s_is_tuple) (defBody s_is_tuple) (defScope s_is_tuple) .none kV doc pm an cdv ct) ⟨us, []⟩ = pure ((["thing", "least", "most"] : List Str).zip us) := match us, hl with | [_, _, _], _ => rfl
theorem hb_is_name (kV doc pm : Value) (an : Option Addr) (cdv ct : Value) (us : List Value) (hl : us.length = (["thing"] : List Str).length) : bindArgs (PySem.W.fnOf "is_name" "is_name" (defArgs s_is_name) (defBody s_is_name) (defScope s_is_name) .none kV doc pm an cdv ct) ⟨us, []⟩ = pure ((["thing"] : List Str).zip us) := match us, hl with | [_], _ => rfl
theorem hb_is_base (kV doc pm : Value) (an : Option Addr) (cdv ct : Value) (us : List Value) (hl : us.length = (["thing"] : List Str).length) : bindArgs (PySem.W.fnOf "is_base" "is_base" (defArgs s_is_base) (defBody s_is_base) (defScope s_is_base) .none kV doc pm an cdv ct) ⟨us, []⟩ = pure ((["thing"] : List Str).zip us) := match us, hl with | [_], _ => rfl
theorem hb_is_kind (kV doc pm : Value) (an : Option Addr) (cdv ct : Value) (us : List Value) (hl : us.length = (["thing"] : List Str).length) : bindArgs (PySem.W.fnOf "is_kind" "is_kind" (defArgs s_is_kind) (defBody s_is_kind) (defScope s_is_kind) .none kV doc pm an cdv ct) ⟨us, []⟩ = pure ((["thing"] : List Str).zip us) := match us, hl with | [_], _ => rfl
theorem hb_is_field (kV doc pm : Value) (an : Option Addr) (cdv ct : Value) (us : List Value) (hl : us.length = (["thing"] : List Str).length) : bindArgs (PySem.W.fnOf "is_field" "is_field" (defArgs s_is_field) (defBody s_is_field) (defScope s_is_field) .none kV doc pm an cdv ct) ⟨us, []⟩ = pure ((["thing"] : List Str).zip us) := match us, hl with | [_], _ => rfl
theorem hb_is_form (kV doc pm : Value) (an : Option Addr) (cdv ct : Value) (us : List Value) (hl : us.length = (["thing"] : List Str).length) : bindArgs (PySem.W.fnOf "is_form" "is_form" (defArgs s_is_form) (defBody s_is_form) (defScope s_is_form) .none kV doc pm an cdv ct) ⟨us, []⟩ = pure ((["thing"] : List Str).zip us) := match us, hl with | [_], _ => rfl
theorem hb_is_base_value (kV doc pm : Value) (an : Option Addr) (cdv ct : Value) (us : List Value) (hl : us.length = (["base", "thing"] : List Str).length) : bindArgs (PySem.W.fnOf "is_base_value" "is_base_value" (defArgs s_is_base_value) (defBody s_is_base_value) (defScope s_is_base_value) .none kV doc pm an cdv ct) ⟨us, []⟩ = pure ((["base", "thing"] : List Str).zip us) := match us, hl with | [_, _], _ => rfl
theorem hb_is_value (kV doc pm : Value) (an : Option Addr) (cdv ct : Value) (us : List Value) (hl : us.length = (["kind", "thing"] : List Str).length) : bindArgs (PySem.W.fnOf "is_value" "is_value" (defArgs s_is_value) (defBody s_is_value) (defScope s_is_value) .none kV doc pm an cdv ct) ⟨us, []⟩ = pure ((["kind", "thing"] : List Str).zip us) := match us, hl with | [_, _], _ => rfl
theorem hb_is_worth (kV doc pm : Value) (an : Option Addr) (cdv ct : Value) (us : List Value) (hl : us.length = (["form", "thing"] : List Str).length) : bindArgs (PySem.W.fnOf "is_worth" "is_worth" (defArgs s_is_worth) (defBody s_is_worth) (defScope s_is_worth) .none kV doc pm an cdv ct) ⟨us, []⟩ = pure ((["form", "thing"] : List Str).zip us) := match us, hl with | [_, _], _ => rfl
theorem hb_law_bag (kV doc pm : Value) (an : Option Addr) (cdv ct : Value) (us : List Value) (hl : us.length = (["script"] : List Str).length) : bindArgs (PySem.W.fnOf "_law_bag" "_law_bag" (defArgs s_law_bag) (defBody s_law_bag) (defScope s_law_bag) .none kV doc pm an cdv ct) ⟨us, []⟩ = pure ((["script"] : List Str).zip us) := match us, hl with | [_], _ => rfl
theorem hb_law_take (kV doc pm : Value) (an : Option Addr) (cdv ct : Value) (us : List Value) (hl : us.length = (["bag", "many"] : List Str).length) : bindArgs (PySem.W.fnOf "_law_take" "_law_take" (defArgs s_law_take) (defBody s_law_take) (defScope s_law_take) .none kV doc pm an cdv ct) ⟨us, []⟩ = pure ((["bag", "many"] : List Str).zip us) := match us, hl with | [_, _], _ => rfl
theorem hb_law_some (kV doc pm : Value) (an : Option Addr) (cdv ct : Value) (us : List Value) (hl : us.length = (["bag", "things"] : List Str).length) : bindArgs (PySem.W.fnOf "_law_some" "_law_some" (defArgs s_law_some) (defBody s_law_some) (defScope s_law_some) .none kV doc pm an cdv ct) ⟨us, []⟩ = pure ((["bag", "things"] : List Str).zip us) := match us, hl with | [_, _], _ => rfl
theorem hb_law_mixed (kV doc pm : Value) (an : Option Addr) (cdv ct : Value) (us : List Value) (hl : us.length = (["bag", "things"] : List Str).length) : bindArgs (PySem.W.fnOf "_law_mixed" "_law_mixed" (defArgs s_law_mixed) (defBody s_law_mixed) (defScope s_law_mixed) .none kV doc pm an cdv ct) ⟨us, []⟩ = pure ((["bag", "things"] : List Str).zip us) := match us, hl with | [_, _], _ => rfl
theorem hb_law_alike (kV doc pm : Value) (an : Option Addr) (cdv ct : Value) (us : List Value) (hl : us.length = (["found", "due"] : List Str).length) : bindArgs (PySem.W.fnOf "_law_alike" "_law_alike" (defArgs s_law_alike) (defBody s_law_alike) (defScope s_law_alike) .none kV doc pm an cdv ct) ⟨us, []⟩ = pure ((["found", "due"] : List Str).zip us) := match us, hl with | [_, _], _ => rfl
theorem hb_law_names (kV doc pm : Value) (an : Option Addr) (cdv ct : Value) (us : List Value) (hl : us.length = (["bag", "many"] : List Str).length) : bindArgs (PySem.W.fnOf "_law_names" "_law_names" (defArgs s_law_names) (defBody s_law_names) (defScope s_law_names) .none kV doc pm an cdv ct) ⟨us, []⟩ = pure ((["bag", "many"] : List Str).zip us) := match us, hl with | [_, _], _ => rfl
theorem hb_law_base (kV doc pm : Value) (an : Option Addr) (cdv ct : Value) (us : List Value) (hl : us.length = (["bag"] : List Str).length) : bindArgs (PySem.W.fnOf "_law_base" "_law_base" (defArgs s_law_base) (defBody s_law_base) (defScope s_law_base) .none kV doc pm an cdv ct) ⟨us, []⟩ = pure ((["bag"] : List Str).zip us) := match us, hl with | [_], _ => rfl
theorem hb_law_kind (kV doc pm : Value) (an : Option Addr) (cdv ct : Value) (us : List Value) (hl : us.length = (["bag"] : List Str).length) : bindArgs (PySem.W.fnOf "_law_kind" "_law_kind" (defArgs s_law_kind) (defBody s_law_kind) (defScope s_law_kind) .none kV doc pm an cdv ct) ⟨us, []⟩ = pure ((["bag"] : List Str).zip us) := match us, hl with | [_], _ => rfl
theorem hb_law_form (kV doc pm : Value) (an : Option Addr) (cdv ct : Value) (us : List Value) (hl : us.length = (["bag", "most"] : List Str).length) : bindArgs (PySem.W.fnOf "_law_form" "_law_form" (defArgs s_law_form) (defBody s_law_form) (defScope s_law_form) .none kV doc pm an cdv ct) ⟨us, []⟩ = pure ((["bag", "most"] : List Str).zip us) := match us, hl with | [_, _], _ => rfl
theorem hb_law_plain_word (kV doc pm : Value) (an : Option Addr) (cdv ct : Value) (us : List Value) (hl : us.length = (["bag"] : List Str).length) : bindArgs (PySem.W.fnOf "_law_plain_word" "_law_plain_word" (defArgs s_law_plain_word) (defBody s_law_plain_word) (defScope s_law_plain_word) .none kV doc pm an cdv ct) ⟨us, []⟩ = pure ((["bag"] : List Str).zip us) := match us, hl with | [_], _ => rfl
theorem hb_law_word (kV doc pm : Value) (an : Option Addr) (cdv ct : Value) (us : List Value) (hl : us.length = (["bag"] : List Str).length) : bindArgs (PySem.W.fnOf "_law_word" "_law_word" (defArgs s_law_word) (defBody s_law_word) (defScope s_law_word) .none kV doc pm an cdv ct) ⟨us, []⟩ = pure ((["bag"] : List Str).zip us) := match us, hl with | [_], _ => rfl
theorem hb_law_base_value (kV doc pm : Value) (an : Option Addr) (cdv ct : Value) (us : List Value) (hl : us.length = (["bag", "base", "plainly"] : List Str).length) : bindArgs (PySem.W.fnOf "_law_base_value" "_law_base_value" (defArgs s_law_base_value) (defBody s_law_base_value) (defScope s_law_base_value) .none kV doc pm an cdv ct) ⟨us, []⟩ = pure ((["bag", "base", "plainly"] : List Str).zip us) := match us, hl with | [_, _, _], _ => rfl
theorem hb_law_value (kV doc pm : Value) (an : Option Addr) (cdv ct : Value) (us : List Value) (hl : us.length = (["bag", "kind", "plainly"] : List Str).length) : bindArgs (PySem.W.fnOf "_law_value" "_law_value" (defArgs s_law_value) (defBody s_law_value) (defScope s_law_value) .none kV doc pm an cdv ct) ⟨us, []⟩ = pure ((["bag", "kind", "plainly"] : List Str).zip us) := match us, hl with | [_, _, _], _ => rfl
theorem hb_law_worth (kV doc pm : Value) (an : Option Addr) (cdv ct : Value) (us : List Value) (hl : us.length = (["bag", "form"] : List Str).length) : bindArgs (PySem.W.fnOf "_law_worth" "_law_worth" (defArgs s_law_worth) (defBody s_law_worth) (defScope s_law_worth) .none kV doc pm an cdv ct) ⟨us, []⟩ = pure ((["bag", "form"] : List Str).zip us) := match us, hl with | [_, _], _ => rfl
theorem hb_law_is_int (kV doc pm : Value) (an : Option Addr) (cdv ct : Value) (us : List Value) (hl : us.length = (["thing"] : List Str).length) : bindArgs (PySem.W.fnOf "_law_is_int" "_law_is_int" (defArgs s_law_is_int) (defBody s_law_is_int) (defScope s_law_is_int) .none kV doc pm an cdv ct) ⟨us, []⟩ = pure ((["thing"] : List Str).zip us) := match us, hl with | [_], _ => rfl
theorem hb_law_is_name (kV doc pm : Value) (an : Option Addr) (cdv ct : Value) (us : List Value) (hl : us.length = (["thing"] : List Str).length) : bindArgs (PySem.W.fnOf "_law_is_name" "_law_is_name" (defArgs s_law_is_name) (defBody s_law_is_name) (defScope s_law_is_name) .none kV doc pm an cdv ct) ⟨us, []⟩ = pure ((["thing"] : List Str).zip us) := match us, hl with | [_], _ => rfl
theorem hb_law_is_base (kV doc pm : Value) (an : Option Addr) (cdv ct : Value) (us : List Value) (hl : us.length = (["thing"] : List Str).length) : bindArgs (PySem.W.fnOf "_law_is_base" "_law_is_base" (defArgs s_law_is_base) (defBody s_law_is_base) (defScope s_law_is_base) .none kV doc pm an cdv ct) ⟨us, []⟩ = pure ((["thing"] : List Str).zip us) := match us, hl with | [_], _ => rfl
theorem hb_law_is_kind (kV doc pm : Value) (an : Option Addr) (cdv ct : Value) (us : List Value) (hl : us.length = (["thing"] : List Str).length) : bindArgs (PySem.W.fnOf "_law_is_kind" "_law_is_kind" (defArgs s_law_is_kind) (defBody s_law_is_kind) (defScope s_law_is_kind) .none kV doc pm an cdv ct) ⟨us, []⟩ = pure ((["thing"] : List Str).zip us) := match us, hl with | [_], _ => rfl
theorem hb_law_is_form (kV doc pm : Value) (an : Option Addr) (cdv ct : Value) (us : List Value) (hl : us.length = (["thing"] : List Str).length) : bindArgs (PySem.W.fnOf "_law_is_form" "_law_is_form" (defArgs s_law_is_form) (defBody s_law_is_form) (defScope s_law_is_form) .none kV doc pm an cdv ct) ⟨us, []⟩ = pure ((["thing"] : List Str).zip us) := match us, hl with | [_], _ => rfl
theorem hb_law_is_base_value (kV doc pm : Value) (an : Option Addr) (cdv ct : Value) (us : List Value) (hl : us.length = (["base", "thing"] : List Str).length) : bindArgs (PySem.W.fnOf "_law_is_base_value" "_law_is_base_value" (defArgs s_law_is_base_value) (defBody s_law_is_base_value) (defScope s_law_is_base_value) .none kV doc pm an cdv ct) ⟨us, []⟩ = pure ((["base", "thing"] : List Str).zip us) := match us, hl with | [_, _], _ => rfl
theorem hb_law_is_value (kV doc pm : Value) (an : Option Addr) (cdv ct : Value) (us : List Value) (hl : us.length = (["kind", "thing"] : List Str).length) : bindArgs (PySem.W.fnOf "_law_is_value" "_law_is_value" (defArgs s_law_is_value) (defBody s_law_is_value) (defScope s_law_is_value) .none kV doc pm an cdv ct) ⟨us, []⟩ = pure ((["kind", "thing"] : List Str).zip us) := match us, hl with | [_, _], _ => rfl
theorem hb_law_is_worth (kV doc pm : Value) (an : Option Addr) (cdv ct : Value) (us : List Value) (hl : us.length = (["form", "thing"] : List Str).length) : bindArgs (PySem.W.fnOf "_law_is_worth" "_law_is_worth" (defArgs s_law_is_worth) (defBody s_law_is_worth) (defScope s_law_is_worth) .none kV doc pm an cdv ct) ⟨us, []⟩ = pure ((["form", "thing"] : List Str).zip us) := match us, hl with | [_, _], _ => rfl
theorem hb_law_odd (kV doc pm : Value) (an : Option Addr) (cdv ct : Value) (us : List Value) (hl : us.length = (["bag"] : List Str).length) : bindArgs (PySem.W.fnOf "_law_odd" "_law_odd" (defArgs s_law_odd) (defBody s_law_odd) (defScope s_law_odd) .none kV doc pm an cdv ct) ⟨us, []⟩ = pure ((["bag"] : List Str).zip us) := match us, hl with | [_], _ => rfl
theorem hb_law_bent (kV doc pm : Value) (an : Option Addr) (cdv ct : Value) (us : List Value) (hl : us.length = (["bag", "thing"] : List Str).length) : bindArgs (PySem.W.fnOf "_law_bent" "_law_bent" (defArgs s_law_bent) (defBody s_law_bent) (defScope s_law_bent) .none kV doc pm an cdv ct) ⟨us, []⟩ = pure ((["bag", "thing"] : List Str).zip us) := match us, hl with | [_, _], _ => rfl
theorem hb_law_nested (kV doc pm : Value) (an : Option Addr) (cdv ct : Value) (us : List Value) (hl : us.length = (["bag", "thing", "many"] : List Str).length) : bindArgs (PySem.W.fnOf "_law_nested" "_law_nested" (defArgs s_law_nested) (defBody s_law_nested) (defScope s_law_nested) .none kV doc pm an cdv ct) ⟨us, []⟩ = pure ((["bag", "thing", "many"] : List Str).zip us) := match us, hl with | [_, _, _], _ => rfl
theorem hb_law_are_told (kV doc pm : Value) (an : Option Addr) (cdv ct : Value) (us : List Value) (hl : us.length = (["thing"] : List Str).length) : bindArgs (PySem.W.fnOf "_law_are_told" "_law_are_told" (defArgs s_law_are_told) (defBody s_law_are_told) (defScope s_law_are_told) .none kV doc pm an cdv ct) ⟨us, []⟩ = pure ((["thing"] : List Str).zip us) := match us, hl with | [_], _ => rfl
theorem hb_law_are_values_told (kV doc pm : Value) (an : Option Addr) (cdv ct : Value) (us : List Value) (hl : us.length = (["bag", "kind"] : List Str).length) : bindArgs (PySem.W.fnOf "_law_are_values_told" "_law_are_values_told" (defArgs s_law_are_values_told) (defBody s_law_are_values_told) (defScope s_law_are_values_told) .none kV doc pm an cdv ct) ⟨us, []⟩ = pure ((["bag", "kind"] : List Str).zip us) := match us, hl with | [_, _], _ => rfl
theorem hb_law_errors (kV doc pm : Value) (an : Option Addr) (cdv ct : Value) (us : List Value) (hl : us.length = (["one", "two", "three"] : List Str).length) : bindArgs (PySem.W.fnOf "_law_errors" "_law_errors" (defArgs s_law_errors) (defBody s_law_errors) (defScope s_law_errors) .none kV doc pm an cdv ct) ⟨us, []⟩ = pure ((["one", "two", "three"] : List Str).zip us) := match us, hl with | [_, _, _], _ => rfl
theorem hb_law_classes (kV doc pm : Value) (an : Option Addr) (cdv ct : Value) (us : List Value) (hl : us.length = (["error"] : List Str).length) : bindArgs (PySem.W.fnOf "_law_classes" "_law_classes" (defArgs s_law_classes) (defBody s_law_classes) (defScope s_law_classes) .none kV doc pm an cdv ct) ⟨us, []⟩ = pure ((["error"] : List Str).zip us) := match us, hl with | [_], _ => rfl
theorem hb_law_kept_by (kV doc pm : Value) (an : Option Addr) (cdv ct : Value) (us : List Value) (hl : us.length = (["errors"] : List Str).length) : bindArgs (PySem.W.fnOf "_law_kept_by" "_law_kept_by" (defArgs s_law_kept_by) (defBody s_law_kept_by) (defScope s_law_kept_by) .none kV doc pm an cdv ct) ⟨us, []⟩ = pure ((["errors"] : List Str).zip us) := match us, hl with | [_], _ => rfl
theorem hb_law_are_errors_right (kV doc pm : Value) (an : Option Addr) (cdv ct : Value) (us : List Value) (hl : us.length = (["bag"] : List Str).length) : bindArgs (PySem.W.fnOf "_law_are_errors_right" "_law_are_errors_right" (defArgs s_law_are_errors_right) (defBody s_law_are_errors_right) (defScope s_law_are_errors_right) .none kV doc pm an cdv ct) ⟨us, []⟩ = pure ((["bag"] : List Str).zip us) := match us, hl with | [_], _ => rfl
theorem hi_FallsApart (kV doc pm : Value) (an : Option Addr) (cdv ct : Value) (us : List Value) (hl : us.length = (["self", "spot"] : List Str).length) : bindArgs (PySem.W.fnOf "__init__" "FallsApart.__init__" (defArgs i_FallsApart) (defBody i_FallsApart) (defScope i_FallsApart) .none kV doc pm an cdv ct) ⟨us, []⟩ = pure ((["self", "spot"] : List Str).zip us) := match us, hl with | [_, _], _ => rfl
theorem hi_HasRing (kV doc pm : Value) (an : Option Addr) (cdv ct : Value) (us : List Value) (hl : us.length = (["self", "way"] : List Str).length) : bindArgs (PySem.W.fnOf "__init__" "HasRing.__init__" (defArgs i_HasRing) (defBody i_HasRing) (defScope i_HasRing) .none kV doc pm an cdv ct) ⟨us, []⟩ = pure ((["self", "way"] : List Str).zip us) := match us, hl with | [_, _], _ => rfl
theorem hi_Joined (kV doc pm : Value) (an : Option Addr) (cdv ct : Value) (us : List Value) (hl : us.length = (["self", "index"] : List Str).length) : bindArgs (PySem.W.fnOf "__init__" "Joined.__init__" (defArgs i_Joined) (defBody i_Joined) (defScope i_Joined) .none kV doc pm an cdv ct) ⟨us, []⟩ = pure ((["self", "index"] : List Str).zip us) := match us, hl with | [_, _], _ => rfl
theorem hi_NoCopy (kV doc pm : Value) (an : Option Addr) (cdv ct : Value) (us : List Value) (hl : us.length = (["self", "name"] : List Str).length) : bindArgs (PySem.W.fnOf "__init__" "NoCopy.__init__" (defArgs i_NoCopy) (defBody i_NoCopy) (defScope i_NoCopy) .none kV doc pm an cdv ct) ⟨us, []⟩ = pure ((["self", "name"] : List Str).zip us) := match us, hl with | [_, _], _ => rfl
theorem hi_NoField (kV doc pm : Value) (an : Option Addr) (cdv ct : Value) (us : List Value) (hl : us.length = (["self", "name"] : List Str).length) : bindArgs (PySem.W.fnOf "__init__" "NoField.__init__" (defArgs i_NoField) (defBody i_NoField) (defScope i_NoField) .none kV doc pm an cdv ct) ⟨us, []⟩ = pure ((["self", "name"] : List Str).zip us) := match us, hl with | [_, _], _ => rfl
theorem hi_NoLot (kV doc pm : Value) (an : Option Addr) (cdv ct : Value) (us : List Value) (hl : us.length = (["self", "lot"] : List Str).length) : bindArgs (PySem.W.fnOf "__init__" "NoLot.__init__" (defArgs i_NoLot) (defBody i_NoLot) (defScope i_NoLot) .none kV doc pm an cdv ct) ⟨us, []⟩ = pure ((["self", "lot"] : List Str).zip us) := match us, hl with | [_, _], _ => rfl
theorem hi_NoPast (kV doc pm : Value) (an : Option Addr) (cdv ct : Value) (us : List Value) (hl : us.length = (["self", "lot"] : List Str).length) : bindArgs (PySem.W.fnOf "__init__" "NoPast.__init__" (defArgs i_NoPast) (defBody i_NoPast) (defScope i_NoPast) .none kV doc pm an cdv ct) ⟨us, []⟩ = pure ((["self", "lot"] : List Str).zip us) := match us, hl with | [_, _], _ => rfl
theorem hi_NoPlace (kV doc pm : Value) (an : Option Addr) (cdv ct : Value) (us : List Value) (hl : us.length = (["self", "place"] : List Str).length) : bindArgs (PySem.W.fnOf "__init__" "NoPlace.__init__" (defArgs i_NoPlace) (defBody i_NoPlace) (defScope i_NoPlace) .none kV doc pm an cdv ct) ⟨us, []⟩ = pure ((["self", "place"] : List Str).zip us) := match us, hl with | [_, _], _ => rfl
theorem hi_NoRoad (kV doc pm : Value) (an : Option Addr) (cdv ct : Value) (us : List Value) (hl : us.length = (["self", "one", "other"] : List Str).length) : bindArgs (PySem.W.fnOf "__init__" "NoRoad.__init__" (defArgs i_NoRoad) (defBody i_NoRoad) (defScope i_NoRoad) .none kV doc pm an cdv ct) ⟨us, []⟩ = pure ((["self", "one", "other"] : List Str).zip us) := match us, hl with | [_, _, _], _ => rfl
theorem hi_NoText (kV doc pm : Value) (an : Option Addr) (cdv ct : Value) (us : List Value) (hl : us.length = (["self", "line"] : List Str).length) : bindArgs (PySem.W.fnOf "__init__" "NoText.__init__" (defArgs i_NoText) (defBody i_NoText) (defScope i_NoText) .none kV doc pm an cdv ct) ⟨us, []⟩ = pure ((["self", "line"] : List Str).zip us) := match us, hl with | [_, _], _ => rfl
theorem hi_NoValue (kV doc pm : Value) (an : Option Addr) (cdv ct : Value) (us : List Value) (hl : us.length = (["self", "value"] : List Str).length) : bindArgs (PySem.W.fnOf "__init__" "NoValue.__init__" (defArgs i_NoValue) (defBody i_NoValue) (defScope i_NoValue) .none kV doc pm an cdv ct) ⟨us, []⟩ = pure ((["self", "value"] : List Str).zip us) := match us, hl with | [_, _], _ => rfl
theorem hi_NotAnywhere (kV doc pm : Value) (an : Option Addr) (cdv ct : Value) (us : List Value) (hl : us.length = (["self", "way", "worth"] : List Str).length) : bindArgs (PySem.W.fnOf "__init__" "NotAnywhere.__init__" (defArgs i_NotAnywhere) (defBody i_NotAnywhere) (defScope i_NotAnywhere) .none kV doc pm an cdv ct) ⟨us, []⟩ = pure ((["self", "way", "worth"] : List Str).zip us) := match us, hl with | [_, _, _], _ => rfl
theorem hi_NotFinite (kV doc pm : Value) (an : Option Addr) (cdv ct : Value) (us : List Value) (hl : us.length = (["self", "spot"] : List Str).length) : bindArgs (PySem.W.fnOf "__init__" "NotFinite.__init__" (defArgs i_NotFinite) (defBody i_NotFinite) (defScope i_NotFinite) .none kV doc pm an cdv ct) ⟨us, []⟩ = pure ((["self", "spot"] : List Str).zip us) := match us, hl with | [_, _], _ => rfl
theorem hi_NotKept (kV doc pm : Value) (an : Option Addr) (cdv ct : Value) (us : List Value) (hl : us.length = (["self", "index", "fault"] : List Str).length) : bindArgs (PySem.W.fnOf "__init__" "NotKept.__init__" (defArgs i_NotKept) (defBody i_NotKept) (defScope i_NotKept) .none kV doc pm an cdv ct) ⟨us, []⟩ = pure ((["self", "index", "fault"] : List Str).zip us) := match us, hl with | [_, _, _], _ => rfl
theorem hi_Parted (kV doc pm : Value) (an : Option Addr) (cdv ct : Value) (us : List Value) (hl : us.length = (["self", "worth", "way", "other"] : List Str).length) : bindArgs (PySem.W.fnOf "__init__" "Parted.__init__" (defArgs i_Parted) (defBody i_Parted) (defScope i_Parted) .none kV doc pm an cdv ct) ⟨us, []⟩ = pure ((["self", "worth", "way", "other"] : List Str).zip us) := match us, hl with | [_, _, _, _], _ => rfl
theorem hi_Taken (kV doc pm : Value) (an : Option Addr) (cdv ct : Value) (us : List Value) (hl : us.length = (["self", "name"] : List Str).length) : bindArgs (PySem.W.fnOf "__init__" "Taken.__init__" (defArgs i_Taken) (defBody i_Taken) (defScope i_Taken) .none kV doc pm an cdv ct) ⟨us, []⟩ = pure ((["self", "name"] : List Str).zip us) := match us, hl with | [_, _], _ => rfl
theorem hi_TooMany (kV doc pm : Value) (an : Option Addr) (cdv ct : Value) (us : List Value) (hl : us.length = (["self", "most"] : List Str).length) : bindArgs (PySem.W.fnOf "__init__" "TooMany.__init__" (defArgs i_TooMany) (defBody i_TooMany) (defScope i_TooMany) .none kV doc pm an cdv ct) ⟨us, []⟩ = pure ((["self", "most"] : List Str).zip us) := match us, hl with | [_, _], _ => rfl
theorem hi_Wrong (kV doc pm : Value) (an : Option Addr) (cdv ct : Value) (us : List Value) (hl : us.length = (["self", "place"] : List Str).length) : bindArgs (PySem.W.fnOf "__init__" "Wrong.__init__" (defArgs i_Wrong) (defBody i_Wrong) (defScope i_Wrong) .none kV doc pm an cdv ct) ⟨us, []⟩ = pure ((["self", "place"] : List Str).zip us) := match us, hl with | [_, _], _ => rfl
theorem xcF_mk {W C : Addr} {x nm q : Str} {N : Addr} {bs : List Value} {sn : List Str} {sub : List Value} {ab : Bool} {col : Option Bool} {dd : Option Addr} {k0 k1 k2 k3 k5 : Option Value} {h : Heap} (X : K.In h) (G : h.Ns mainGlobals mg) (a : PySem.W.nsIn K mainGlobals x = some (some (.ref C)))
    (l : K.lookup C = some (excClassObj nm q C N bs [.ref W, .type "ValueError", .type "Exception", .type "BaseException", .type "object"] true sn sub ab col dd k0 k1 k2 k3 k5 "ValueError.__new__")) (kC : PySem.W.keepIn K (.ref C) = true)
    (sa : PySem.W.findIn K (.ref C) "__setattr__" = some (some (.builtin "object.__setattr__"))) (ga : PySem.W.findIn K (.ref C) "__getattribute__" = some (some (.builtin "BaseException.__getattribute__"))) (gg : PySem.W.findIn K (.ref C) "__getattr__" = some none)
    (ca : PySem.W.findIn K (.ref C) "__class__" = some (some (.builtin "object.__class__"))) (cn : PySem.W.specialIn K (.builtin "object.__class__") "__get__" = some (some (.builtin "getset_descriptor.__get__"))) (ct : PySem.W.takesIn K (.builtin "object.__class__") = some true) : XcF K mg W x C := by
  have ec : ∃ cd, PySem.W.clsIn K C = some cd ∧ cd.mro = mroB W C ∧ cd.hasDict = true := by unfold PySem.W.clsIn; rw [l]; exact ⟨_, rfl, rfl, rfl⟩
  obtain ⟨cd, e1, e2, e3⟩ := ec
  have mr : ∀ v : Value, PySem.W.mroIn K C v = some ((mroB W C).contains v) := fun v => by
    unfold PySem.W.mroIn
    rw [e1, Option.bind_some, e2, if_neg (by intro z; cases z)]
  refine ⟨⟨⟨⟨nm, q, N, bs, _, sn, sub, ab, col, dd, k0, k1, k2, k3, k5, l, rfl⟩, sa, ?_, ?_, kC⟩, by rw [e1]; rfl, ?_, ga, gg, ca, cn, ct, ?_⟩, PySem.W.mg_of X G a, cd, e1, e2⟩
  · show PySem.W.mroIn K C _ = _
    rw [mr]; unfold mroB; simp
  · show (K.lookup C).map (·.cls) = _
    rw [l]; rfl
  · unfold PySem.W.hasDictIn; rw [e1]; exact e3
  · rw [mr]; unfold mroB; simp
theorem xcG_mk {W C f : Addr} {x q : Str} {ns : List Str} {st : Stmt} {od an : Option Addr} {sl : Array (Option Value)} {oc kV dc pm cd ct : Value} (B : XcF K mg W x C) (no : ∀ n ∈ ns, PySem.W.findIn K (.ref C) n = some none) (i : PySem.W.findIn K (.ref C) "__init__" = some (some (.ref f))) (t : PySem.W.typeIn K (.ref f) = some (.type "function"))
    (l : K.lookup f = some ⟨oc, od, .func (PySem.W.fnOf "__init__" q (defArgs st) (defBody st) (defScope st) .none kV dc pm an cd ct), sl⟩) (c : PySem.W.codeIn K cd q = true) (k : PySem.W.keepIn K (.ref f) = true)
    (hb : ∀ (kV doc pm : Value) (an : Option Addr) (cdv ct : Value) (us : List Value), us.length = (("self" : Str) :: ns).length → bindArgs (PySem.W.fnOf "__init__" q (defArgs st) (defBody st) (defScope st) .none kV doc pm an cdv ct) ⟨us, []⟩ = pure ((("self" : Str) :: ns).zip us)) : XcG K mg W x q ns st C :=
  ⟨B, no, f, _, i, t, fun_mk l c k, (fun_mk l c k).binds hb⟩
theorem nd_of {l : List Addr} (h : l.Nodup) {i j : Nat} (hi : i < l.length) (hj : j < l.length) (e : l.getD i 0 = l.getD j 0) : i = j := by
  rw [List.getD_eq_getElem?_getD, List.getD_eq_getElem?_getD, List.getElem?_eq_getElem hi, List.getElem?_eq_getElem hj] at e
  have pw := List.pairwise_iff_getElem.mp h
  have e' : l[i] = l[j] := Option.some.inj (by simpa using e)
  rcases Nat.lt_trichotomy i j with z | z | z
  · exact absurd e' (pw i j hi hj z)
  · exact z
  · exact absurd e'.symm (pw j i hj hi z)
theorem nw_of {W : Addr} {l : List Addr} (h : (W :: l).Nodup) {i : Nat} (hi : i < l.length) : l.getD i 0 ≠ W := fun e => by
  rw [List.getD_eq_getElem?_getD, List.getElem?_eq_getElem hi] at e
  exact (List.nodup_cons.mp h).1 (by rw [← e]; exact List.getElem_mem hi)
theorem errs_mk {oc : Value} {od : Option Addr} {cd : ClassData} {sl : Array (Option Value)} {W C0 C1 C2 C3 C4 C5 C6 C7 C8 C9 C10 C11 C12 C13 C14 C15 C16 C17 C18 C19 C20 : Addr} (e0 : XcG K mg W "FallsApart" "FallsApart.__init__" ["spot"] i_FallsApart C0) (e1 : XcG K mg W "HasRing" "HasRing.__init__" ["way"] i_HasRing C1) (e2 : XcG K mg W "Joined" "Joined.__init__" ["index"] i_Joined C2) (e3 : XcN K mg W "NoCommand" C3) (e4 : XcG K mg W "NoCopy" "NoCopy.__init__" ["name"] i_NoCopy C4) (e5 : XcG K mg W "NoField" "NoField.__init__" ["name"] i_NoField C5) (e6 : XcG K mg W "NoLot" "NoLot.__init__" ["lot"] i_NoLot C6) (e7 : XcG K mg W "NoPast" "NoPast.__init__" ["lot"] i_NoPast C7) (e8 : XcG K mg W "NoPlace" "NoPlace.__init__" ["place"] i_NoPlace C8) (e9 : XcG K mg W "NoRoad" "NoRoad.__init__" ["one", "other"] i_NoRoad C9) (e10 : XcG K mg W "NoText" "NoText.__init__" ["line"] i_NoText C10) (e11 : XcG K mg W "NoValue" "NoValue.__init__" ["value"] i_NoValue C11) (e12 : XcG K mg W "NotAnywhere" "NotAnywhere.__init__" ["way", "worth"] i_NotAnywhere C12) (e13 : XcG K mg W "NotFinite" "NotFinite.__init__" ["spot"] i_NotFinite C13) (e14 : XcG K mg W "NotKept" "NotKept.__init__" ["index", "fault"] i_NotKept C14) (e15 : XcN K mg W "Nothing" C15) (e16 : XcG K mg W "Parted" "Parted.__init__" ["worth", "way", "other"] i_Parted C16) (e17 : XcG K mg W "Taken" "Taken.__init__" ["name"] i_Taken C17) (e18 : XcG K mg W "TooMany" "TooMany.__init__" ["most"] i_TooMany C18) (e19 : XcN K mg W "Unlike" C19) (e20 : XcG K mg W "Wrong" "Wrong.__init__" ["place"] i_Wrong C20) (nd : (W :: [C0, C1, C2, C3, C4, C5, C6, C7, C8, C9, C10, C11, C12, C13, C14, C15, C16, C17, C18, C19, C20]).Nodup) (wm : mg "WayError" = some (.ref W)) (wl : K.lookup W = some ⟨oc, od, .cls cd, sl⟩) (wt : PySem.W.typeIn K (.ref W) = some (.type "type")) : Errs K mg W (fun i => ([C0, C1, C2, C3, C4, C5, C6, C7, C8, C9, C10, C11, C12, C13, C14, C15, C16, C17, C18, C19, C20] : List Addr).getD i 0) :=
  ⟨e0, e1, e2, e3, e4, e5, e6, e7, e8, e9, e10, e11, e12, e13, e14, e15, e16, e17, e18, e19, e20, fun i hi j hj e => nd_of (List.nodup_cons.mp nd).2 hi hj e, fun i hi => nw_of nd hi, wm, by unfold PySem.W.clsIn; rw [wl]; rfl, wt⟩
structure Defs (K : PySem.W.Frag) (mg : Str → Option Value) : Prop where
  d_is_integer : DefOk K mg "is_integer" s_is_integer ["thing"]
  d_is_tuple : DefOk K mg "is_tuple" s_is_tuple ["thing", "least", "most"]
  d_is_name : DefOk K mg "is_name" s_is_name ["thing"]
  d_is_base : DefOk K mg "is_base" s_is_base ["thing"]
  d_is_kind : DefOk K mg "is_kind" s_is_kind ["thing"]
  d_is_field : DefOk K mg "is_field" s_is_field ["thing"]
  d_is_form : DefOk K mg "is_form" s_is_form ["thing"]
  d_is_base_value : DefOk K mg "is_base_value" s_is_base_value ["base", "thing"]
  d_is_value : DefOk K mg "is_value" s_is_value ["kind", "thing"]
  d_is_worth : DefOk K mg "is_worth" s_is_worth ["form", "thing"]
  d_law_bag : DefOk K mg "_law_bag" s_law_bag ["script"]
  d_law_take : DefOk K mg "_law_take" s_law_take ["bag", "many"]
  d_law_some : DefOk K mg "_law_some" s_law_some ["bag", "things"]
  d_law_mixed : DefOk K mg "_law_mixed" s_law_mixed ["bag", "things"]
  d_law_alike : DefOk K mg "_law_alike" s_law_alike ["found", "due"]
  d_law_names : DefOk K mg "_law_names" s_law_names ["bag", "many"]
  d_law_base : DefOk K mg "_law_base" s_law_base ["bag"]
  d_law_kind : DefOk K mg "_law_kind" s_law_kind ["bag"]
  d_law_form : DefOk K mg "_law_form" s_law_form ["bag", "most"]
  d_law_plain_word : DefOk K mg "_law_plain_word" s_law_plain_word ["bag"]
  d_law_word : DefOk K mg "_law_word" s_law_word ["bag"]
  d_law_base_value : DefOk K mg "_law_base_value" s_law_base_value ["bag", "base", "plainly"]
  d_law_value : DefOk K mg "_law_value" s_law_value ["bag", "kind", "plainly"]
  d_law_worth : DefOk K mg "_law_worth" s_law_worth ["bag", "form"]
  d_law_is_int : DefOk K mg "_law_is_int" s_law_is_int ["thing"]
  d_law_is_name : DefOk K mg "_law_is_name" s_law_is_name ["thing"]
  d_law_is_base : DefOk K mg "_law_is_base" s_law_is_base ["thing"]
  d_law_is_kind : DefOk K mg "_law_is_kind" s_law_is_kind ["thing"]
  d_law_is_form : DefOk K mg "_law_is_form" s_law_is_form ["thing"]
  d_law_is_base_value : DefOk K mg "_law_is_base_value" s_law_is_base_value ["base", "thing"]
  d_law_is_value : DefOk K mg "_law_is_value" s_law_is_value ["kind", "thing"]
  d_law_is_worth : DefOk K mg "_law_is_worth" s_law_is_worth ["form", "thing"]
  d_law_odd : DefOk K mg "_law_odd" s_law_odd ["bag"]
  d_law_bent : DefOk K mg "_law_bent" s_law_bent ["bag", "thing"]
  d_law_nested : DefOk K mg "_law_nested" s_law_nested ["bag", "thing", "many"]
  d_law_are_told : DefOk K mg "_law_are_told" s_law_are_told ["thing"]
  d_law_are_values_told : DefOk K mg "_law_are_values_told" s_law_are_values_told ["bag", "kind"]
  d_law_errors : DefOk K mg "_law_errors" s_law_errors ["one", "two", "three"]
  d_law_classes : DefOk K mg "_law_classes" s_law_classes ["error"]
  d_law_kept_by : DefOk K mg "_law_kept_by" s_law_kept_by ["errors"]
  d_law_are_errors_right : DefOk K mg "_law_are_errors_right" s_law_are_errors_right ["bag"]
theorem law_ok {W : Addr} {c : Nat → Addr} (D : Defs K mg) (T2 : Txt2 mg) (hen : mg "enumerate" = none) (hve : mg "ValueError" = none) (Er : Errs K mg W c) {f : Addr} {fd : FuncData} (F : Fun K "law" "law" s_law f fd) : FnG P w K mg base 15 f fd ["script"] (spLaw K) := by
  have T := T2.toTxt
  have b_take := B_law_take (P := P) (w := w) (base := base) D.d_law_take T
  have b_some := B_law_some D.d_law_some T b_take
  have b_mixed := B_law_mixed D.d_law_mixed T b_take
  have b_alike := B_law_alike (P := P) (w := w) (base := base) D.d_law_alike T
  have b_alikeL := B_law_alikeL (P := P) (w := w) (base := base) D.d_law_alike T
  have b_alikeR := B_law_alikeR (P := P) (w := w) (base := base) D.d_law_alike T
  have b_names := B_law_names D.d_law_names T b_take b_some b_mixed
  have b_base := B_law_base D.d_law_base T b_take b_some
  have b_kind := B_law_kind D.d_law_kind T b_take b_base
  have b_form := B_law_form D.d_law_form T b_take b_kind b_names
  have b_plain_word := B_law_plain_word D.d_law_plain_word T b_take b_some
  have b_word := B_law_word D.d_law_word T b_take b_some b_plain_word
  have b_base_value := B_law_base_value D.d_law_base_value T b_take b_word b_plain_word
  have b_value := B_law_value D.d_law_value T b_take b_some b_base_value
  have b_worth := B_law_worth D.d_law_worth T b_value
  have b_is_int := B_law_is_int (P := P) (w := w) (base := base) D.d_law_is_int T
  have b_is_base := B_law_is_base D.d_law_is_base T b_is_int
  have b_is_kind := B_law_is_kind D.d_law_is_kind T b_is_base
  have b_is_base_value := B_law_is_base_value D.d_law_is_base_value T b_is_int
  have b_is_value := B_law_is_value D.d_law_is_value T b_is_base_value
  have b_is_worth := B_law_is_worth D.d_law_is_worth T b_is_value
  have b_is_name := B_law_is_name (P := P) (w := w) (base := base) D.d_law_is_name T
  have b_is_form := B_law_is_form D.d_law_is_form T2 b_is_name b_is_kind
  have p_is_integer := B_is_integer (P := P) (w := w) (base := base) D.d_is_integer T
  have p_is_tuple := B_is_tuple (P := P) (w := w) (base := base) D.d_is_tuple T
  have p_is_name := B_is_name (P := P) (w := w) (base := base) D.d_is_name T
  have p_is_base := B_is_base D.d_is_base T p_is_tuple p_is_integer
  have p_is_kind := B_is_kind D.d_is_kind T p_is_tuple p_is_base
  have p_is_field := B_is_field D.d_is_field T p_is_tuple p_is_name p_is_kind
  have p_is_form := B_is_form D.d_is_form T2 p_is_tuple p_is_field
  have p_is_base_value := B_is_base_value D.d_is_base_value T p_is_integer
  have p_is_value := B_is_value D.d_is_value T p_is_tuple p_is_base_value
  have p_is_worth := B_is_worth D.d_is_worth T p_is_tuple p_is_value
  have b_odd := B_law_odd D.d_law_odd T b_some
  have b_bent := B_law_bent D.d_law_bent T b_take b_some b_is_int b_odd
  have b_nested := B_law_nested D.d_law_nested T b_take
  have b_told := B_law_are_told D.d_law_are_told T b_alikeL b_is_int b_is_name b_is_base b_is_kind b_is_form p_is_integer p_is_name p_is_base p_is_kind p_is_form
  have b_vtold := B_law_are_values_told D.d_law_are_values_told T b_value b_some b_take b_base_value (b_bent 6) b_odd b_alike p_is_value b_is_value
  have b_errors := B_law_errors (P := P) (w := w) (base := base) D.d_law_errors Er
  have b_classes := B_law_classes (P := P) (w := w) (base := base) D.d_law_classes T Er
  have b_kept := B_law_kept_by (P := P) (w := w) (base := base) D.d_law_kept_by Er
  have b_right := B_law_are_errors_right D.d_law_are_errors_right T hen hve Er b_odd b_errors b_classes b_kept b_alikeR
  obtain ⟨fb, fdb, Fb, mb, bb⟩ := D.d_law_bag.ex
  have b_bag := (bag_ok (P := P) (w := w) (mg := mg) (base := base) Fb T).mono (show 1 ≤ 14 by decide)
  refine law_fn (N := ["script", "bag", "turn", "form", "kinds", "some", "letters", "thing", "worth", "k", "name", "kind", "field"]) (n := 11) (k := 14) F sc_law (fun v => rfl) (s1 := (defBody s_law).headD (.Pass ⟨0, 0, 0, 0⟩)) (rest := (defBody s_law).tail) rfl b_bag mb (fun cd A outer s H E => ?_)
    fun cd A outer s H E => law_rest T2 b_right b_form b_odd (b_bent 10) b_some b_take b_nested b_told b_worth b_alike p_is_worth b_is_worth b_kind b_vtold f cd A outer s H E
  exact ps_set (i := 1) sc_law.nd rfl (by first | exact .inl rfl | exact .inr rfl) (pe_callG b_bag (E.room ()) (E.guards ()) rfl mb Fb.kp bb (pa_cons (pe_var (i := 0) rfl (by first | exact Or.inl rfl | exact Or.inr (Or.inl rfl) | exact Or.inr (Or.inr rfl))) pa_nil))
theorem law_at {W : Addr} {c : Nat → Addr} {l : PySem.W.OpenLaw} {h : Heap} {fa : Addr} (X : K.In h) (G : h.Ns mainGlobals mg) (hfa : mg "law" = some (.ref fa)) (D : Defs K mg) (T : Txt2 mg) (hen : mg "enumerate" = none) (hve : mg "ValueError" = none) (Er : Errs K mg W c) {f : Addr} {od an : Option Addr} {sl : Array (Option Value)} {oc kV dc pm cd ct : Value}
    (a : PySem.W.nsIn K mainGlobals "law" = some (some (.ref f))) (lk : K.lookup f = some ⟨oc, od, .func (PySem.W.fnOf "law" "law" (defArgs s_law) (defBody s_law) (defScope s_law) .none kV dc pm an cd ct), sl⟩) (c : PySem.W.codeIn K cd "law" = true) (k : PySem.W.keepIn K (.ref f) = true) :
    ∃ fd : FuncData, (∀ (s : Shared) (u : Value), BindsTo s fd ⟨[u], []⟩ [("script", u)]) ∧ ∀ base : Heap, K.In base → base.Ns mainGlobals mg → FnG l.prog w K mg base 15 fa fd ["script"] (spLaw K) := by
  have e := hfa.symm.trans (PySem.W.mg_of X G a)
  cases e
  exact ⟨PySem.W.fnOf "law" "law" (defArgs s_law) (defBody s_law) (defScope s_law) .none kV dc pm an cd ct, fun s v => .of_eq rfl, fun base _ _ => law_ok D T hen hve Er (fun_mk lk c k)⟩
end K10
end
open PySem PySem.W PyProof.Rows
set_option linter.all false
set_option maxRecDepth 100000 in
set_option maxHeartbeats 0 in
theorem PySem.Challenge.cw_wherebeen_k10_forms_of_any_value_holds : PySem.Challenge.rw_wherebeen_k10_forms_of_any_value.Holds := by
  w_on; o_law; k_head; (case hw => w_witness2)
  k_fill
  refine DL.walk_law (x := "script") (l := PySem.Challenge.rw_wherebeen_k10_forms_of_any_value) (n := 63) (k := 15) rfl (by decide) rfl ⟨rfl, by decide, by decide⟩ (fun w h Y => PySem.W.kIn_of Y) ?F
  case F =>
    intro w mg fa h KX G hmg
    refine' K10.law_at KX G hmg ⟨K10.defOk_mk KX G ?a_is_integer ?l_is_integer ?c_is_integer ?k_is_integer K10.hb_is_integer, K10.defOk_mk KX G ?a_is_tuple ?l_is_tuple ?c_is_tuple ?k_is_tuple K10.hb_is_tuple, K10.defOk_mk KX G ?a_is_name ?l_is_name ?c_is_name ?k_is_name K10.hb_is_name, K10.defOk_mk KX G ?a_is_base ?l_is_base ?c_is_base ?k_is_base K10.hb_is_base, K10.defOk_mk KX G ?a_is_kind ?l_is_kind ?c_is_kind ?k_is_kind K10.hb_is_kind, K10.defOk_mk KX G ?a_is_field ?l_is_field ?c_is_field ?k_is_field K10.hb_is_field, K10.defOk_mk KX G ?a_is_form ?l_is_form ?c_is_form ?k_is_form K10.hb_is_form, K10.defOk_mk KX G ?a_is_base_value ?l_is_base_value ?c_is_base_value ?k_is_base_value K10.hb_is_base_value, K10.defOk_mk KX G ?a_is_value ?l_is_value ?c_is_value ?k_is_value K10.hb_is_value, K10.defOk_mk KX G ?a_is_worth ?l_is_worth ?c_is_worth ?k_is_worth K10.hb_is_worth, K10.defOk_mk KX G ?a_law_bag ?l_law_bag ?c_law_bag ?k_law_bag K10.hb_law_bag, K10.defOk_mk KX G ?a_law_take ?l_law_take ?c_law_take ?k_law_take K10.hb_law_take, K10.defOk_mk KX G ?a_law_some ?l_law_some ?c_law_some ?k_law_some K10.hb_law_some, K10.defOk_mk KX G ?a_law_mixed ?l_law_mixed ?c_law_mixed ?k_law_mixed K10.hb_law_mixed, K10.defOk_mk KX G ?a_law_alike ?l_law_alike ?c_law_alike ?k_law_alike K10.hb_law_alike, K10.defOk_mk KX G ?a_law_names ?l_law_names ?c_law_names ?k_law_names K10.hb_law_names, K10.defOk_mk KX G ?a_law_base ?l_law_base ?c_law_base ?k_law_base K10.hb_law_base, K10.defOk_mk KX G ?a_law_kind ?l_law_kind ?c_law_kind ?k_law_kind K10.hb_law_kind, K10.defOk_mk KX G ?a_law_form ?l_law_form ?c_law_form ?k_law_form K10.hb_law_form, K10.defOk_mk KX G ?a_law_plain_word ?l_law_plain_word ?c_law_plain_word ?k_law_plain_word K10.hb_law_plain_word, K10.defOk_mk KX G ?a_law_word ?l_law_word ?c_law_word ?k_law_word K10.hb_law_word, K10.defOk_mk KX G ?a_law_base_value ?l_law_base_value ?c_law_base_value ?k_law_base_value K10.hb_law_base_value, K10.defOk_mk KX G ?a_law_value ?l_law_value ?c_law_value ?k_law_value K10.hb_law_value, K10.defOk_mk KX G ?a_law_worth ?l_law_worth ?c_law_worth ?k_law_worth K10.hb_law_worth, K10.defOk_mk KX G ?a_law_is_int ?l_law_is_int ?c_law_is_int ?k_law_is_int K10.hb_law_is_int, K10.defOk_mk KX G ?a_law_is_name ?l_law_is_name ?c_law_is_name ?k_law_is_name K10.hb_law_is_name, K10.defOk_mk KX G ?a_law_is_base ?l_law_is_base ?c_law_is_base ?k_law_is_base K10.hb_law_is_base, K10.defOk_mk KX G ?a_law_is_kind ?l_law_is_kind ?c_law_is_kind ?k_law_is_kind K10.hb_law_is_kind, K10.defOk_mk KX G ?a_law_is_form ?l_law_is_form ?c_law_is_form ?k_law_is_form K10.hb_law_is_form, K10.defOk_mk KX G ?a_law_is_base_value ?l_law_is_base_value ?c_law_is_base_value ?k_law_is_base_value K10.hb_law_is_base_value, K10.defOk_mk KX G ?a_law_is_value ?l_law_is_value ?c_law_is_value ?k_law_is_value K10.hb_law_is_value, K10.defOk_mk KX G ?a_law_is_worth ?l_law_is_worth ?c_law_is_worth ?k_law_is_worth K10.hb_law_is_worth, K10.defOk_mk KX G ?a_law_odd ?l_law_odd ?c_law_odd ?k_law_odd K10.hb_law_odd, K10.defOk_mk KX G ?a_law_bent ?l_law_bent ?c_law_bent ?k_law_bent K10.hb_law_bent, K10.defOk_mk KX G ?a_law_nested ?l_law_nested ?c_law_nested ?k_law_nested K10.hb_law_nested, K10.defOk_mk KX G ?a_law_are_told ?l_law_are_told ?c_law_are_told ?k_law_are_told K10.hb_law_are_told, K10.defOk_mk KX G ?a_law_are_values_told ?l_law_are_values_told ?c_law_are_values_told ?k_law_are_values_told K10.hb_law_are_values_told, K10.defOk_mk KX G ?a_law_errors ?l_law_errors ?c_law_errors ?k_law_errors K10.hb_law_errors, K10.defOk_mk KX G ?a_law_classes ?l_law_classes ?c_law_classes ?k_law_classes K10.hb_law_classes, K10.defOk_mk KX G ?a_law_kept_by ?l_law_kept_by ?c_law_kept_by ?k_law_kept_by K10.hb_law_kept_by, K10.defOk_mk KX G ?a_law_are_errors_right ?l_law_are_errors_right ?c_law_are_errors_right ?k_law_are_errors_right K10.hb_law_are_errors_right⟩ ⟨⟨PySem.W.mg_none_of KX G ?n_isinstance, PySem.W.mg_none_of KX G ?n_int, PySem.W.mg_none_of KX G ?n_bool, PySem.W.mg_none_of KX G ?n_str, PySem.W.mg_none_of KX G ?n_list, PySem.W.mg_none_of KX G ?n_len, PySem.W.mg_none_of KX G ?n_tuple, PySem.W.mg_none_of KX G ?n_range, PySem.W.mg_none_of KX G ?n_repr, PySem.W.mg_none_of KX G ?n_zip, PySem.W.mg_none_of KX G ?n_all, PySem.W.mg_none_of KX G ?n_any, PySem.W.mg_none_of KX G ?n_abs⟩, PySem.W.mg_none_of KX G ?n_set, PySem.W.mg_none_of KX G ?n_sorted, PySem.W.mg_none_of KX G ?n_min, PySem.W.mg_none_of KX G ?n_max⟩ (PySem.W.mg_none_of KX G ?n_enumerate) (PySem.W.mg_none_of KX G ?n_ValueError) (K10.errs_mk (K10.xcG_mk (K10.xcF_mk KX G ?xa_FallsApart ?xl_FallsApart ?xk_FallsApart ?xs_FallsApart ?xg_FallsApart ?xh_FallsApart ?xc_FallsApart ?x_cn ?x_ct) ?xn_FallsApart ?xi_FallsApart ?xt_FallsApart ?xm_FallsApart ?xo_FallsApart ?xp_FallsApart K10.hi_FallsApart) (K10.xcG_mk (K10.xcF_mk KX G ?xa_HasRing ?xl_HasRing ?xk_HasRing ?xs_HasRing ?xg_HasRing ?xh_HasRing ?xc_HasRing ?x_cn ?x_ct) ?xn_HasRing ?xi_HasRing ?xt_HasRing ?xm_HasRing ?xo_HasRing ?xp_HasRing K10.hi_HasRing) (K10.xcG_mk (K10.xcF_mk KX G ?xa_Joined ?xl_Joined ?xk_Joined ?xs_Joined ?xg_Joined ?xh_Joined ?xc_Joined ?x_cn ?x_ct) ?xn_Joined ?xi_Joined ?xt_Joined ?xm_Joined ?xo_Joined ?xp_Joined K10.hi_Joined) (⟨K10.xcF_mk KX G ?xa_NoCommand ?xl_NoCommand ?xk_NoCommand ?xs_NoCommand ?xg_NoCommand ?xh_NoCommand ?xc_NoCommand ?x_cn ?x_ct, ?xi_NoCommand⟩) (K10.xcG_mk (K10.xcF_mk KX G ?xa_NoCopy ?xl_NoCopy ?xk_NoCopy ?xs_NoCopy ?xg_NoCopy ?xh_NoCopy ?xc_NoCopy ?x_cn ?x_ct) ?xn_NoCopy ?xi_NoCopy ?xt_NoCopy ?xm_NoCopy ?xo_NoCopy ?xp_NoCopy K10.hi_NoCopy) (K10.xcG_mk (K10.xcF_mk KX G ?xa_NoField ?xl_NoField ?xk_NoField ?xs_NoField ?xg_NoField ?xh_NoField ?xc_NoField ?x_cn ?x_ct) ?xn_NoField ?xi_NoField ?xt_NoField ?xm_NoField ?xo_NoField ?xp_NoField K10.hi_NoField) (K10.xcG_mk (K10.xcF_mk KX G ?xa_NoLot ?xl_NoLot ?xk_NoLot ?xs_NoLot ?xg_NoLot ?xh_NoLot ?xc_NoLot ?x_cn ?x_ct) ?xn_NoLot ?xi_NoLot ?xt_NoLot ?xm_NoLot ?xo_NoLot ?xp_NoLot K10.hi_NoLot) (K10.xcG_mk (K10.xcF_mk KX G ?xa_NoPast ?xl_NoPast ?xk_NoPast ?xs_NoPast ?xg_NoPast ?xh_NoPast ?xc_NoPast ?x_cn ?x_ct) ?xn_NoPast ?xi_NoPast ?xt_NoPast ?xm_NoPast ?xo_NoPast ?xp_NoPast K10.hi_NoPast) (K10.xcG_mk (K10.xcF_mk KX G ?xa_NoPlace ?xl_NoPlace ?xk_NoPlace ?xs_NoPlace ?xg_NoPlace ?xh_NoPlace ?xc_NoPlace ?x_cn ?x_ct) ?xn_NoPlace ?xi_NoPlace ?xt_NoPlace ?xm_NoPlace ?xo_NoPlace ?xp_NoPlace K10.hi_NoPlace) (K10.xcG_mk (K10.xcF_mk KX G ?xa_NoRoad ?xl_NoRoad ?xk_NoRoad ?xs_NoRoad ?xg_NoRoad ?xh_NoRoad ?xc_NoRoad ?x_cn ?x_ct) ?xn_NoRoad ?xi_NoRoad ?xt_NoRoad ?xm_NoRoad ?xo_NoRoad ?xp_NoRoad K10.hi_NoRoad) (K10.xcG_mk (K10.xcF_mk KX G ?xa_NoText ?xl_NoText ?xk_NoText ?xs_NoText ?xg_NoText ?xh_NoText ?xc_NoText ?x_cn ?x_ct) ?xn_NoText ?xi_NoText ?xt_NoText ?xm_NoText ?xo_NoText ?xp_NoText K10.hi_NoText) (K10.xcG_mk (K10.xcF_mk KX G ?xa_NoValue ?xl_NoValue ?xk_NoValue ?xs_NoValue ?xg_NoValue ?xh_NoValue ?xc_NoValue ?x_cn ?x_ct) ?xn_NoValue ?xi_NoValue ?xt_NoValue ?xm_NoValue ?xo_NoValue ?xp_NoValue K10.hi_NoValue) (K10.xcG_mk (K10.xcF_mk KX G ?xa_NotAnywhere ?xl_NotAnywhere ?xk_NotAnywhere ?xs_NotAnywhere ?xg_NotAnywhere ?xh_NotAnywhere ?xc_NotAnywhere ?x_cn ?x_ct) ?xn_NotAnywhere ?xi_NotAnywhere ?xt_NotAnywhere ?xm_NotAnywhere ?xo_NotAnywhere ?xp_NotAnywhere K10.hi_NotAnywhere) (K10.xcG_mk (K10.xcF_mk KX G ?xa_NotFinite ?xl_NotFinite ?xk_NotFinite ?xs_NotFinite ?xg_NotFinite ?xh_NotFinite ?xc_NotFinite ?x_cn ?x_ct) ?xn_NotFinite ?xi_NotFinite ?xt_NotFinite ?xm_NotFinite ?xo_NotFinite ?xp_NotFinite K10.hi_NotFinite) (K10.xcG_mk (K10.xcF_mk KX G ?xa_NotKept ?xl_NotKept ?xk_NotKept ?xs_NotKept ?xg_NotKept ?xh_NotKept ?xc_NotKept ?x_cn ?x_ct) ?xn_NotKept ?xi_NotKept ?xt_NotKept ?xm_NotKept ?xo_NotKept ?xp_NotKept K10.hi_NotKept) (⟨K10.xcF_mk KX G ?xa_Nothing ?xl_Nothing ?xk_Nothing ?xs_Nothing ?xg_Nothing ?xh_Nothing ?xc_Nothing ?x_cn ?x_ct, ?xi_Nothing⟩) (K10.xcG_mk (K10.xcF_mk KX G ?xa_Parted ?xl_Parted ?xk_Parted ?xs_Parted ?xg_Parted ?xh_Parted ?xc_Parted ?x_cn ?x_ct) ?xn_Parted ?xi_Parted ?xt_Parted ?xm_Parted ?xo_Parted ?xp_Parted K10.hi_Parted) (K10.xcG_mk (K10.xcF_mk KX G ?xa_Taken ?xl_Taken ?xk_Taken ?xs_Taken ?xg_Taken ?xh_Taken ?xc_Taken ?x_cn ?x_ct) ?xn_Taken ?xi_Taken ?xt_Taken ?xm_Taken ?xo_Taken ?xp_Taken K10.hi_Taken) (K10.xcG_mk (K10.xcF_mk KX G ?xa_TooMany ?xl_TooMany ?xk_TooMany ?xs_TooMany ?xg_TooMany ?xh_TooMany ?xc_TooMany ?x_cn ?x_ct) ?xn_TooMany ?xi_TooMany ?xt_TooMany ?xm_TooMany ?xo_TooMany ?xp_TooMany K10.hi_TooMany) (⟨K10.xcF_mk KX G ?xa_Unlike ?xl_Unlike ?xk_Unlike ?xs_Unlike ?xg_Unlike ?xh_Unlike ?xc_Unlike ?x_cn ?x_ct, ?xi_Unlike⟩) (K10.xcG_mk (K10.xcF_mk KX G ?xa_Wrong ?xl_Wrong ?xk_Wrong ?xs_Wrong ?xg_Wrong ?xh_Wrong ?xc_Wrong ?x_cn ?x_ct) ?xn_Wrong ?xi_Wrong ?xt_Wrong ?xm_Wrong ?xo_Wrong ?xp_Wrong K10.hi_Wrong) ?x_nd (PySem.W.mg_of KX G ?x_wa) ?x_wl ?x_wt) ?a_law ?l_law ?c_law ?k_law
    (case a_is_integer => k_is)
    (case l_is_integer => k_is)
    (case c_is_integer => k_is)
    (case k_is_integer => k_is)
    (case a_is_tuple => k_is)
    (case l_is_tuple => k_is)
    (case c_is_tuple => k_is)
    (case k_is_tuple => k_is)
    (case a_is_name => k_is)
    (case l_is_name => k_is)
    (case c_is_name => k_is)
    (case k_is_name => k_is)
    (case a_is_base => k_is)
    (case l_is_base => k_is)
    (case c_is_base => k_is)
    (case k_is_base => k_is)
    (case a_is_kind => k_is)
    (case l_is_kind => k_is)
    (case c_is_kind => k_is)
    (case k_is_kind => k_is)
    (case a_is_field => k_is)
    (case l_is_field => k_is)
    (case c_is_field => k_is)
    (case k_is_field => k_is)
    (case a_is_form => k_is)
    (case l_is_form => k_is)
    (case c_is_form => k_is)
    (case k_is_form => k_is)
    (case a_is_base_value => k_is)
    (case l_is_base_value => k_is)
    (case c_is_base_value => k_is)
    (case k_is_base_value => k_is)
    (case a_is_value => k_is)
    (case l_is_value => k_is)
    (case c_is_value => k_is)
    (case k_is_value => k_is)
    (case a_is_worth => k_is)
    (case l_is_worth => k_is)
    (case c_is_worth => k_is)
    (case k_is_worth => k_is)
    (case a_law_bag => k_is)
    (case l_law_bag => k_is)
    (case c_law_bag => k_is)
    (case k_law_bag => k_is)
    (case a_law_take => k_is)
    (case l_law_take => k_is)
    (case c_law_take => k_is)
    (case k_law_take => k_is)
    (case a_law_some => k_is)
    (case l_law_some => k_is)
    (case c_law_some => k_is)
    (case k_law_some => k_is)
    (case a_law_mixed => k_is)
    (case l_law_mixed => k_is)
    (case c_law_mixed => k_is)
    (case k_law_mixed => k_is)
    (case a_law_alike => k_is)
    (case l_law_alike => k_is)
    (case c_law_alike => k_is)
    (case k_law_alike => k_is)
    (case a_law_names => k_is)
    (case l_law_names => k_is)
    (case c_law_names => k_is)
    (case k_law_names => k_is)
    (case a_law_base => k_is)
    (case l_law_base => k_is)
    (case c_law_base => k_is)
    (case k_law_base => k_is)
    (case a_law_kind => k_is)
    (case l_law_kind => k_is)
    (case c_law_kind => k_is)
    (case k_law_kind => k_is)
    (case a_law_form => k_is)
    (case l_law_form => k_is)
    (case c_law_form => k_is)
    (case k_law_form => k_is)
    (case a_law_plain_word => k_is)
    (case l_law_plain_word => k_is)
    (case c_law_plain_word => k_is)
    (case k_law_plain_word => k_is)
    (case a_law_word => k_is)
    (case l_law_word => k_is)
    (case c_law_word => k_is)
    (case k_law_word => k_is)
    (case a_law_base_value => k_is)
    (case l_law_base_value => k_is)
    (case c_law_base_value => k_is)
    (case k_law_base_value => k_is)
    (case a_law_value => k_is)
    (case l_law_value => k_is)
    (case c_law_value => k_is)
    (case k_law_value => k_is)
    (case a_law_worth => k_is)
    (case l_law_worth => k_is)
    (case c_law_worth => k_is)
    (case k_law_worth => k_is)
    (case a_law_is_int => k_is)
    (case l_law_is_int => k_is)
    (case c_law_is_int => k_is)
    (case k_law_is_int => k_is)
    (case a_law_is_name => k_is)
    (case l_law_is_name => k_is)
    (case c_law_is_name => k_is)
    (case k_law_is_name => k_is)
    (case a_law_is_base => k_is)
    (case l_law_is_base => k_is)
    (case c_law_is_base => k_is)
    (case k_law_is_base => k_is)
    (case a_law_is_kind => k_is)
    (case l_law_is_kind => k_is)
    (case c_law_is_kind => k_is)
    (case k_law_is_kind => k_is)
    (case a_law_is_form => k_is)
    (case l_law_is_form => k_is)
    (case c_law_is_form => k_is)
    (case k_law_is_form => k_is)
    (case a_law_is_base_value => k_is)
    (case l_law_is_base_value => k_is)
    (case c_law_is_base_value => k_is)
    (case k_law_is_base_value => k_is)
    (case a_law_is_value => k_is)
    (case l_law_is_value => k_is)
    (case c_law_is_value => k_is)
    (case k_law_is_value => k_is)
    (case a_law_is_worth => k_is)
    (case l_law_is_worth => k_is)
    (case c_law_is_worth => k_is)
    (case k_law_is_worth => k_is)
    (case a_law_odd => k_is)
    (case l_law_odd => k_is)
    (case c_law_odd => k_is)
    (case k_law_odd => k_is)
    (case a_law_bent => k_is)
    (case l_law_bent => k_is)
    (case c_law_bent => k_is)
    (case k_law_bent => k_is)
    (case a_law_nested => k_is)
    (case l_law_nested => k_is)
    (case c_law_nested => k_is)
    (case k_law_nested => k_is)
    (case a_law_are_told => k_is)
    (case l_law_are_told => k_is)
    (case c_law_are_told => k_is)
    (case k_law_are_told => k_is)
    (case a_law_are_values_told => k_is)
    (case l_law_are_values_told => k_is)
    (case c_law_are_values_told => k_is)
    (case k_law_are_values_told => k_is)
    (case a_law_errors => k_is)
    (case l_law_errors => k_is)
    (case c_law_errors => k_is)
    (case k_law_errors => k_is)
    (case a_law_classes => k_is)
    (case l_law_classes => k_is)
    (case c_law_classes => k_is)
    (case k_law_classes => k_is)
    (case a_law_kept_by => k_is)
    (case l_law_kept_by => k_is)
    (case c_law_kept_by => k_is)
    (case k_law_kept_by => k_is)
    (case a_law_are_errors_right => k_is)
    (case l_law_are_errors_right => k_is)
    (case c_law_are_errors_right => k_is)
    (case k_law_are_errors_right => k_is)
    (case a_law => k_is)
    (case l_law => k_is)
    (case c_law => k_is)
    (case k_law => k_is)
    (case n_isinstance => k_is)
    (case n_int => k_is)
    (case n_bool => k_is)
    (case n_str => k_is)
    (case n_list => k_is)
    (case n_len => k_is)
    (case n_tuple => k_is)
    (case n_range => k_is)
    (case n_repr => k_is)
    (case n_zip => k_is)
    (case n_all => k_is)
    (case n_any => k_is)
    (case n_abs => k_is)
    (case n_set => k_is)
    (case n_sorted => k_is)
    (case n_min => k_is)
    (case n_max => k_is)
    (case n_enumerate => k_is)
    (case n_ValueError => k_is)
    (case x_wa => k_is)
    (case xa_FallsApart => k_is); (case xl_FallsApart => k_is); (case xk_FallsApart => k_is); (case xs_FallsApart => k_is); (case xg_FallsApart => k_is); (case xh_FallsApart => k_is); (case xc_FallsApart => k_is)
    (case xi_FallsApart => k_is); (case xt_FallsApart => k_is); (case xm_FallsApart => k_is); (case xo_FallsApart => k_is); (case xp_FallsApart => k_is); (case xn_FallsApart => exact List.forall_mem_cons.mpr ⟨by k_is, (fun _ h => nomatch h)⟩)
    (case xa_HasRing => k_is); (case xl_HasRing => k_is); (case xk_HasRing => k_is); (case xs_HasRing => k_is); (case xg_HasRing => k_is); (case xh_HasRing => k_is); (case xc_HasRing => k_is)
    (case xi_HasRing => k_is); (case xt_HasRing => k_is); (case xm_HasRing => k_is); (case xo_HasRing => k_is); (case xp_HasRing => k_is); (case xn_HasRing => exact List.forall_mem_cons.mpr ⟨by k_is, (fun _ h => nomatch h)⟩)
    (case xa_Joined => k_is); (case xl_Joined => k_is); (case xk_Joined => k_is); (case xs_Joined => k_is); (case xg_Joined => k_is); (case xh_Joined => k_is); (case xc_Joined => k_is)
    (case xi_Joined => k_is); (case xt_Joined => k_is); (case xm_Joined => k_is); (case xo_Joined => k_is); (case xp_Joined => k_is); (case xn_Joined => exact List.forall_mem_cons.mpr ⟨by k_is, (fun _ h => nomatch h)⟩)
    (case xa_NoCommand => k_is); (case xl_NoCommand => k_is); (case xk_NoCommand => k_is); (case xs_NoCommand => k_is); (case xg_NoCommand => k_is); (case xh_NoCommand => k_is); (case xc_NoCommand => k_is)
    (case xi_NoCommand => k_is)
    (case xa_NoCopy => k_is); (case xl_NoCopy => k_is); (case xk_NoCopy => k_is); (case xs_NoCopy => k_is); (case xg_NoCopy => k_is); (case xh_NoCopy => k_is); (case xc_NoCopy => k_is)
    (case xi_NoCopy => k_is); (case xt_NoCopy => k_is); (case xm_NoCopy => k_is); (case xo_NoCopy => k_is); (case xp_NoCopy => k_is); (case xn_NoCopy => exact List.forall_mem_cons.mpr ⟨by k_is, (fun _ h => nomatch h)⟩)
    (case xa_NoField => k_is); (case xl_NoField => k_is); (case xk_NoField => k_is); (case xs_NoField => k_is); (case xg_NoField => k_is); (case xh_NoField => k_is); (case xc_NoField => k_is)
    (case xi_NoField => k_is); (case xt_NoField => k_is); (case xm_NoField => k_is); (case xo_NoField => k_is); (case xp_NoField => k_is); (case xn_NoField => exact List.forall_mem_cons.mpr ⟨by k_is, (fun _ h => nomatch h)⟩)
    (case xa_NoLot => k_is); (case xl_NoLot => k_is); (case xk_NoLot => k_is); (case xs_NoLot => k_is); (case xg_NoLot => k_is); (case xh_NoLot => k_is); (case xc_NoLot => k_is)
    (case xi_NoLot => k_is); (case xt_NoLot => k_is); (case xm_NoLot => k_is); (case xo_NoLot => k_is); (case xp_NoLot => k_is); (case xn_NoLot => exact List.forall_mem_cons.mpr ⟨by k_is, (fun _ h => nomatch h)⟩)
    (case xa_NoPast => k_is); (case xl_NoPast => k_is); (case xk_NoPast => k_is); (case xs_NoPast => k_is); (case xg_NoPast => k_is); (case xh_NoPast => k_is); (case xc_NoPast => k_is)
    (case xi_NoPast => k_is); (case xt_NoPast => k_is); (case xm_NoPast => k_is); (case xo_NoPast => k_is); (case xp_NoPast => k_is); (case xn_NoPast => exact List.forall_mem_cons.mpr ⟨by k_is, (fun _ h => nomatch h)⟩)
    (case xa_NoPlace => k_is); (case xl_NoPlace => k_is); (case xk_NoPlace => k_is); (case xs_NoPlace => k_is); (case xg_NoPlace => k_is); (case xh_NoPlace => k_is); (case xc_NoPlace => k_is)
    (case xi_NoPlace => k_is); (case xt_NoPlace => k_is); (case xm_NoPlace => k_is); (case xo_NoPlace => k_is); (case xp_NoPlace => k_is); (case xn_NoPlace => exact List.forall_mem_cons.mpr ⟨by k_is, (fun _ h => nomatch h)⟩)
    (case xa_NoRoad => k_is); (case xl_NoRoad => k_is); (case xk_NoRoad => k_is); (case xs_NoRoad => k_is); (case xg_NoRoad => k_is); (case xh_NoRoad => k_is); (case xc_NoRoad => k_is)
    (case xi_NoRoad => k_is); (case xt_NoRoad => k_is); (case xm_NoRoad => k_is); (case xo_NoRoad => k_is); (case xp_NoRoad => k_is); (case xn_NoRoad => exact List.forall_mem_cons.mpr ⟨by k_is, List.forall_mem_cons.mpr ⟨by k_is, (fun _ h => nomatch h)⟩⟩)
    (case xa_NoText => k_is); (case xl_NoText => k_is); (case xk_NoText => k_is); (case xs_NoText => k_is); (case xg_NoText => k_is); (case xh_NoText => k_is); (case xc_NoText => k_is)
    (case xi_NoText => k_is); (case xt_NoText => k_is); (case xm_NoText => k_is); (case xo_NoText => k_is); (case xp_NoText => k_is); (case xn_NoText => exact List.forall_mem_cons.mpr ⟨by k_is, (fun _ h => nomatch h)⟩)
    (case xa_NoValue => k_is); (case xl_NoValue => k_is); (case xk_NoValue => k_is); (case xs_NoValue => k_is); (case xg_NoValue => k_is); (case xh_NoValue => k_is); (case xc_NoValue => k_is)
    (case xi_NoValue => k_is); (case xt_NoValue => k_is); (case xm_NoValue => k_is); (case xo_NoValue => k_is); (case xp_NoValue => k_is); (case xn_NoValue => exact List.forall_mem_cons.mpr ⟨by k_is, (fun _ h => nomatch h)⟩)
    (case xa_NotAnywhere => k_is); (case xl_NotAnywhere => k_is); (case xk_NotAnywhere => k_is); (case xs_NotAnywhere => k_is); (case xg_NotAnywhere => k_is); (case xh_NotAnywhere => k_is); (case xc_NotAnywhere => k_is)
    (case xi_NotAnywhere => k_is); (case xt_NotAnywhere => k_is); (case xm_NotAnywhere => k_is); (case xo_NotAnywhere => k_is); (case xp_NotAnywhere => k_is); (case xn_NotAnywhere => exact List.forall_mem_cons.mpr ⟨by k_is, List.forall_mem_cons.mpr ⟨by k_is, (fun _ h => nomatch h)⟩⟩)
    (case xa_NotFinite => k_is); (case xl_NotFinite => k_is); (case xk_NotFinite => k_is); (case xs_NotFinite => k_is); (case xg_NotFinite => k_is); (case xh_NotFinite => k_is); (case xc_NotFinite => k_is)
    (case xi_NotFinite => k_is); (case xt_NotFinite => k_is); (case xm_NotFinite => k_is); (case xo_NotFinite => k_is); (case xp_NotFinite => k_is); (case xn_NotFinite => exact List.forall_mem_cons.mpr ⟨by k_is, (fun _ h => nomatch h)⟩)
    (case xa_NotKept => k_is); (case xl_NotKept => k_is); (case xk_NotKept => k_is); (case xs_NotKept => k_is); (case xg_NotKept => k_is); (case xh_NotKept => k_is); (case xc_NotKept => k_is)
    (case xi_NotKept => k_is); (case xt_NotKept => k_is); (case xm_NotKept => k_is); (case xo_NotKept => k_is); (case xp_NotKept => k_is); (case xn_NotKept => exact List.forall_mem_cons.mpr ⟨by k_is, List.forall_mem_cons.mpr ⟨by k_is, (fun _ h => nomatch h)⟩⟩)
    (case xa_Nothing => k_is); (case xl_Nothing => k_is); (case xk_Nothing => k_is); (case xs_Nothing => k_is); (case xg_Nothing => k_is); (case xh_Nothing => k_is); (case xc_Nothing => k_is)
    (case xi_Nothing => k_is)
    (case xa_Parted => k_is); (case xl_Parted => k_is); (case xk_Parted => k_is); (case xs_Parted => k_is); (case xg_Parted => k_is); (case xh_Parted => k_is); (case xc_Parted => k_is)
    (case xi_Parted => k_is); (case xt_Parted => k_is); (case xm_Parted => k_is); (case xo_Parted => k_is); (case xp_Parted => k_is); (case xn_Parted => exact List.forall_mem_cons.mpr ⟨by k_is, List.forall_mem_cons.mpr ⟨by k_is, List.forall_mem_cons.mpr ⟨by k_is, (fun _ h => nomatch h)⟩⟩⟩)
    (case xa_Taken => k_is); (case xl_Taken => k_is); (case xk_Taken => k_is); (case xs_Taken => k_is); (case xg_Taken => k_is); (case xh_Taken => k_is); (case xc_Taken => k_is)
    (case xi_Taken => k_is); (case xt_Taken => k_is); (case xm_Taken => k_is); (case xo_Taken => k_is); (case xp_Taken => k_is); (case xn_Taken => exact List.forall_mem_cons.mpr ⟨by k_is, (fun _ h => nomatch h)⟩)
    (case xa_TooMany => k_is); (case xl_TooMany => k_is); (case xk_TooMany => k_is); (case xs_TooMany => k_is); (case xg_TooMany => k_is); (case xh_TooMany => k_is); (case xc_TooMany => k_is)
    (case xi_TooMany => k_is); (case xt_TooMany => k_is); (case xm_TooMany => k_is); (case xo_TooMany => k_is); (case xp_TooMany => k_is); (case xn_TooMany => exact List.forall_mem_cons.mpr ⟨by k_is, (fun _ h => nomatch h)⟩)
    (case xa_Unlike => k_is); (case xl_Unlike => k_is); (case xk_Unlike => k_is); (case xs_Unlike => k_is); (case xg_Unlike => k_is); (case xh_Unlike => k_is); (case xc_Unlike => k_is)
    (case xi_Unlike => k_is)
    (case xa_Wrong => k_is); (case xl_Wrong => k_is); (case xk_Wrong => k_is); (case xs_Wrong => k_is); (case xg_Wrong => k_is); (case xh_Wrong => k_is); (case xc_Wrong => k_is)
    (case xi_Wrong => k_is); (case xt_Wrong => k_is); (case xm_Wrong => k_is); (case xo_Wrong => k_is); (case xp_Wrong => k_is); (case xn_Wrong => exact List.forall_mem_cons.mpr ⟨by k_is, (fun _ h => nomatch h)⟩)
    (case x_cn => k_is); (case x_ct => k_is); (case x_wl => k_is); (case x_wt => k_is); (case x_nd => decide +kernel)
