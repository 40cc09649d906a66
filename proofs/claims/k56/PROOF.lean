import PyProof.Rows.All
import Wide.All
import OpenK.AllK
import Wide.FinOn
import HandS.ForMost
import HandS.WordsExc
import HandS.Lambda
import HandS.Wide
import HandS.TupAny
import HandS.Flow
import HandS.ExcOwn
import HandS.Small
import HandS.IsInst
import HandS.SortInts
import HandS.WordsDict
import HandS.SetFor
import HandS.SetKeys
import HandS.Conv
import HandS.DictComp
import HandS.More
import HandS.TryOnly
import HandS.Deep
import HandS.Rev
import HandS.Star
import PyProof.EnumMake
import PyProof.Draws
import KE.GoesMore
import HandS.Style
import HandS.ExcIs
import PyProof.NeData
import HandS.Strs
import HandS.EndTab
import HandS.List
import HandS.TryMany
import HandS.TupMul
import HandS.Zip
import HandS.Text
import HandS.ListItems
import PyProof.DictUpdate
import HandS.ExcField
import HandS.ExcInit
import HandS.DictSubView
import KE.DataMinMax
import HandS.SortKw
import HandS.HeadHook4
import PySem.Challenge.RW_wholecommits_k56_checks_refused
set_option Elab.async false
set_option linter.all false
set_option maxRecDepth 100000
set_option maxHeartbeats 4000000
/-! The mirror: values, a store, and how they stand in the heap. -/
namespace Mi
open PySem L2

/-- a value of the mirror: lst is a list that is never changed again, ref a place of the store -/
inductive W where
  | non | bl (b : Bool) | int (i : Int) | str (x : Str) | ty (n : String)
  | tup (xs : List W) | lst (xs : List W) | scr (xs : List W) | ref (i : Nat) | at_ (a : Addr)
  | fn (f : Addr) (ρ0 η0 : List Addr) (H0 : Hp)
  | exc (a d : Addr) (f : Str) (w : W)
/-- what stands in the store -/
inductive Nd where
  | lst (xs : List W) | dk (kvs : List (Key × W)) | ins (c : Nat) (fs : List (Str × W)) | lk (kvs : List (Key × W)) | tb (j : Nat) (q : Str)
abbrev Sto := List Nd
abbrev Ev := List (Option W)
/-- an exception of an own class, by its number -/
inductive Xc where
  | plain (c : Nat)
  | one (c : Nat) (f : Str) (w : W)
inductive Rs (α : Type) where
  | ok (a : α) (s : Sto) | ex (x : Xc) (s : Sto) | stuck
def Rs.bind {α β : Type} (r : Rs α) (k : α → Sto → Rs β) : Rs β := match r with
  | .ok a s => k a s
  | .ex x s => .ex x s
  | .stuck => .stuck

/-- not a table of code objects -/
def nt : HO → Bool
  | .tbl _ => false
  | _ => true
/-- what may be hidden -/
def plO : HO → Bool
  | .tbl _ => false
  | .ext _ => false
  | _ => true
/-- nothing but a table stands there -/
def Ab (H : Hp) (a : Addr) : Prop := ∀ o, H a = some o → nt o = false
theorem ab_of {H : Hp} {a : Addr} (h : H a = none) : Ab H a := fun o e => by rw [h] at e; cases e
theorem Ab.not {H : Hp} {a : Addr} {o : HO} (h : Ab H a) (e : H a = some o) (n : nt o = true := by rfl) : False := by
  rw [h o e] at n; cases n
/-- ahead (ρ, H), behind (ρ', H'): more places, what is no place stands as it stood -/
structure Grow (ρ : List Addr) (H : Hp) (ρ' : List Addr) (H' : Hp) : Prop where
  pre : ∃ t, ρ' = ρ ++ t ∧ ∀ a ∈ t, Ab H a
  same' : ∀ a o, a ∉ ρ → H a = some o → nt o = true → H' a = some o
  all : ∀ a o, H a = some o → nt o = true → ∃ o', H' a = some o' ∧ nt o' = true
  frz : ∀ a o u, H a = some (.frz o u) → H' a = some (.frz o u)

theorem Grow.same {ρ ρ' : List Addr} {H H' : Hp} (g : Grow ρ H ρ' H') (a : Addr) (o : HO) (na : a ∉ ρ) (h : H a = some o) (n : nt o = true := by rfl) : H' a = some o := g.same' a o na h n
theorem Grow.refl {ρ : List Addr} {H : Hp} : Grow ρ H ρ H := ⟨⟨[], by simp, by simp⟩, fun _ _ _ h _ => h, fun _ o h n => ⟨o, h, n⟩, fun _ _ _ h => h⟩
theorem Grow.back {ρ ρ' : List Addr} {H H' : Hp} (g : Grow ρ H ρ' H') {a : Addr} (h : Ab H' a) : Ab H a := fun o e => by
  cases q : nt o with
  | false => rfl
  | true =>
    obtain ⟨o', e', n⟩ := g.all a o e q
    exact (h.not e' n).elim
theorem Grow.trans {ρ ρ1 ρ2 : List Addr} {H H1 H2 : Hp} (g : Grow ρ H ρ1 H1) (k : Grow ρ1 H1 ρ2 H2) : Grow ρ H ρ2 H2 := by
  obtain ⟨t, e, ht⟩ := g.pre
  obtain ⟨u, e2, hu⟩ := k.pre
  refine ⟨⟨t ++ u, by rw [e2, e, List.append_assoc], fun a ha => ?_⟩, fun a o na h n => ?_, fun a o h n => ?_, fun a o u h => k.frz a o u (g.frz a o u h)⟩
  · rcases List.mem_append.mp ha with ha | ha
    · exact ht a ha
    · exact g.back (hu a ha)
  · refine k.same a o (fun z => ?_) (g.same a o na h n) n
    rw [e] at z
    rcases List.mem_append.mp z with z | z
    · exact na z
    · exact (ht a z).not h n
  · obtain ⟨o1, h1, n1⟩ := g.all a o h n
    exact k.all a o1 h1 n1
theorem Grow.out {ρ ρ' : List Addr} {H H' : Hp} (g : Grow ρ H ρ' H') {a : Addr} {o : HO} (na : a ∉ ρ) (h : H a = some o) (n : nt o = true := by rfl) : a ∉ ρ' := fun z => by
  obtain ⟨t, e, ht⟩ := g.pre
  rw [e] at z
  rcases List.mem_append.mp z with z | z
  · exact na z
  · exact (ht a z).not h n
/-- what stood still since (ρ0, η0, H0) stands -/
def GH (ρ0 η0 : List Addr) (H0 : Hp) (ρ η : List Addr) (H : Hp) : Prop := (∃ t, ρ = ρ0 ++ t) ∧ ∀ a o, a ∉ ρ0 → a ∉ η0 → H0 a = some o → nt o = true → a ∉ ρ ∧ a ∉ η ∧ H a = some o
theorem GH.refl {ρ η : List Addr} {H : Hp} : GH ρ η H ρ η H := ⟨⟨[], by simp⟩, fun _ _ h1 h2 h3 _ => ⟨h1, h2, h3⟩⟩
theorem GH.trans {ρ0 ρ1 ρ2 η0 η1 η2 : List Addr} {H0 H1 H2 : Hp} (g : GH ρ0 η0 H0 ρ1 η1 H1) (k : GH ρ1 η1 H1 ρ2 η2 H2) : GH ρ0 η0 H0 ρ2 η2 H2 := by
  obtain ⟨⟨t, e⟩, g2⟩ := g
  obtain ⟨⟨u, e2⟩, k2⟩ := k
  refine ⟨⟨t ++ u, by rw [e2, e, List.append_assoc]⟩, fun a o h1 h2 h3 n => ?_⟩
  obtain ⟨x1, x2, x3⟩ := g2 a o h1 h2 h3 n
  exact k2 a o x1 x2 x3 n
theorem GH.of {ρ ρ' η : List Addr} {H H' : Hp} (g : Grow ρ H ρ' H') : GH ρ η H ρ' η H' := by
  obtain ⟨t, e, _⟩ := g.pre
  exact ⟨⟨t, e⟩, fun a o h1 h2 h3 n => ⟨g.out h1 h3 n, h2, g.same a o h1 h3 n⟩⟩
theorem GH.less {ρ η η' : List Addr} {H : Hp} (g : ∀ b ∈ η', b ∈ η) : GH ρ η H ρ η' H := ⟨⟨[], by simp⟩, fun a o h1 h2 h3 _ => ⟨h1, fun z => h2 (g _ z), h3⟩⟩
theorem GH.hide {ρ η : List Addr} {H : Hp} {D : Addr} {o : HO} (n : H D = none ∨ D ∈ η) : GH ρ η H ρ (D :: η) (upd H D o) := ⟨⟨[], by simp⟩, fun a u h1 h2 h3 _ => by
  have ne : a ≠ D := by
    rintro rfl
    rcases n with n | n
    · rw [n] at h3; cases h3
    · exact h2 n
  exact ⟨h1, by simp [ne, h2], by rw [upd_ne ne]; exact h3⟩⟩
theorem GH.shift {ρ η : List Addr} {H : Hp} {D : Addr} : GH ρ (D :: η) H (ρ ++ [D]) η H := ⟨⟨[D], rfl⟩, fun a u h1 h2 h3 _ => by
  simp only [List.mem_cons, not_or] at h2
  exact ⟨by simp [h1, h2.1], h2.2, h3⟩⟩
section
variable (K : PySem.W.Frag)
/-- a tuple, a list that stands still at a -/
def TupAt (ρ η : List Addr) (H : Hp) (a : Addr) (vs : List V) : Prop := (a ∉ ρ ∧ a ∉ η ∧ Rd H a (.tup vs)) ∨
  ∃ (o : Obj) (its : Array Value) (n : Nat), K.lookup a = some o ∧ o.cls = .type "tuple" ∧ o.data = .seq its n ∧ its.size ≤ sizeLine ∧ Vals vs its.toList
def LstAt (ρ η : List Addr) (H : Hp) (a : Addr) (vs : List V) : Prop := (a ∉ ρ ∧ a ∉ η ∧ Rd H a (.lst vs)) ∨
  ∃ (o : Obj) (its : Array Value) (n : Nat), K.lookup a = some o ∧ o.cls = .type "list" ∧ o.dict = none ∧ o.data = .seq its n ∧ its.size ≤ sizeLine ∧ Vals vs its.toList
mutual
def VR (ρ η : List Addr) (H : Hp) : W → V → Prop
  | .non, v => v = .non
  | .bl b, v => v = .bl b
  | .int i, v => v = .int i
  | .str x, v => v = .str x
  | .ty n, v => v = .ty n
  | .at_ a, v => v = .ref a
  | .fn f ρ0 η0 H0, v => v = .ref f ∧ GH ρ0 η0 H0 ρ η H
  | .exc a d f w, v => v = .ref a ∧ (d ∉ ρ ∧ d ∉ η ∧ ∃ fs u, H d = some (.xd fs) ∧ fs.lookup f = some u ∧ VR ρ η H w u)
  | .ref i, v => ∃ a, ρ[i]? = some a ∧ v = .ref a
  | .tup xs, v => ∃ a vs, v = .ref a ∧ TupAt K ρ η H a vs ∧ VRs ρ η H xs vs
  | .lst xs, v => ∃ a vs, v = .ref a ∧ (a ∉ ρ ∧ a ∉ η ∧ H a = some (.lst vs)) ∧ VRs ρ η H xs vs
  | .scr xs, v => ∃ a vs, v = .ref a ∧ LstAt K ρ η H a vs ∧ VRs ρ η H xs vs
def VRs (ρ η : List Addr) (H : Hp) : List W → List V → Prop
  | [], vs => vs = []
  | x :: xs, vs => ∃ v r, vs = v :: r ∧ VR ρ η H x v ∧ VRs ρ η H xs r
end
end

theorem Grow.at {ρ ρ' : List Addr} {H H' : Hp} (g : Grow ρ H ρ' H') {i : Nat} {a : Addr} (h : ρ[i]? = some a) : ρ'[i]? = some a := by
  obtain ⟨t, e, _⟩ := g.pre
  rw [e]
  rw [List.getElem?_append_left (List.getElem?_eq_some_iff.mp h).1]
  exact h
/-- a new object that is no place -/
theorem Grow.new {ρ : List Addr} {H : Hp} {p : Addr} {o : HO} (h : H p = none) : Grow ρ H ρ (upd H p o) :=
  ⟨⟨[], by simp, by simp⟩, fun a u _ e _ => by rw [upd_ne (ne_of_none e h)]; exact e, fun a u e n => ⟨u, by rw [upd_ne (ne_of_none e h)]; exact e, n⟩, fun a u z e => by rw [upd_ne (ne_of_none e h)]; exact e⟩
/-- a new place -/
theorem Grow.node {ρ : List Addr} {H : Hp} {p : Addr} {o : HO} (h : H p = none) : Grow ρ H (ρ ++ [p]) (upd H p o) :=
  ⟨⟨[p], rfl, fun a ha => by rw [List.mem_singleton] at ha; rw [ha]; exact ab_of h⟩, fun a u _ e _ => by rw [upd_ne (ne_of_none e h)]; exact e, fun a u e n => ⟨u, by rw [upd_ne (ne_of_none e h)]; exact e, n⟩, fun a u z e => by rw [upd_ne (ne_of_none e h)]; exact e⟩
/-- what may be written -/
def Open (H : Hp) (p : Addr) : Prop := ∀ o u, H p ≠ some (.frz o u)
/-- a place changes -/
theorem Grow.write {ρ : List Addr} {H : Hp} {p : Addr} {o : HO} (h : p ∈ ρ) (op : Open H p) (n : nt o = true := by rfl) : Grow ρ H ρ (upd H p o) :=
  ⟨⟨[], by simp, by simp⟩, fun a u na e _ => by rw [upd_ne (fun z => na (by rw [z]; exact h))]; exact e, fun a u e k => by
    by_cases z : a = p
    · exact ⟨o, by rw [z, upd_same], n⟩
    · exact ⟨u, by rw [upd_ne z]; exact e, k⟩, fun a u x e => by
    rw [upd_ne (fun z => op u x (by rw [← z]; exact e))]; exact e⟩
theorem open_of {H : Hp} {p : Addr} {x : HO} (e : H p = some x) (n : ∀ o u, x ≠ .frz o u) : Open H p := fun o u z => n o u (Option.some.inj (e.symm.trans z))

theorem rd_some {H : Hp} {a : Addr} {u : HO} (h : Rd H a u) (n : nt u = true := by rfl) : ∃ o, H a = some o ∧ nt o = true := by
  rcases h with h | ⟨o, h⟩
  · exact ⟨_, h, n⟩
  · exact ⟨_, h, rfl⟩
theorem Grow.rd {ρ ρ' : List Addr} {H H' : Hp} (g : Grow ρ H ρ' H') {a : Addr} {u : HO} (na : a ∉ ρ) (h : Rd H a u) (n : nt u = true := by rfl) : Rd H' a u := by
  rcases h with h | ⟨o, h⟩
  · exact .inl (g.same _ _ na h n)
  · exact .inr ⟨o, g.same _ _ na h⟩
section
variable {K : PySem.W.Frag} {ρ ρ' η η' : List Addr} {H H' : Hp}
theorem TupAt.mono {a : Addr} {vs : List V} (g : Grow ρ H ρ' H') (h : TupAt K ρ η H a vs) : TupAt K ρ' η H' a vs := by
  rcases h with ⟨h1, h2, h3⟩ | h
  · obtain ⟨o, e, n⟩ := rd_some h3
    exact .inl ⟨g.out h1 e n, h2, g.rd h1 h3⟩
  · exact .inr h
theorem LstAt.mono {a : Addr} {vs : List V} (g : Grow ρ H ρ' H') (h : LstAt K ρ η H a vs) : LstAt K ρ' η H' a vs := by
  rcases h with ⟨h1, h2, h3⟩ | h
  · obtain ⟨o, e, n⟩ := rd_some h3
    exact .inl ⟨g.out h1 e n, h2, g.rd h1 h3⟩
  · exact .inr h
theorem TupAt.sq {a : Addr} {vs : List V} (h : TupAt K ρ η H a vs) : SqT K H a vs := h.imp (fun h => h.2.2) id
theorem LstAt.sq {a : Addr} {vs : List V} (h : LstAt K ρ η H a vs) : SqL K H a vs := h.imp (fun h => h.2.2) id
mutual
theorem VR.mono (g : Grow ρ H ρ' H') : ∀ {w : W} {v : V}, VR K ρ η H w v → VR K ρ' η H' w v
  | .non, _, h => h
  | .bl _, _, h => h
  | .int _, _, h => h
  | .str _, _, h => h
  | .ty _, _, h => h
  | .at_ _, _, h => h
  | .fn _ _ _ _, _, h => ⟨h.1, h.2.trans (GH.of g)⟩
  | .exc a d f w, v, h => by
    simp only [VR] at h ⊢
    obtain ⟨e, d1, d2, fs, u, x1, x2, r⟩ := h
    exact ⟨e, g.out d1 x1, d2, fs, u, g.same _ _ d1 x1, x2, VR.mono g r⟩
  | .ref i, v, h => by
    simp only [VR] at h ⊢
    obtain ⟨a, e, r⟩ := h
    exact ⟨a, g.at e, r⟩
  | .tup xs, v, h => by
    simp only [VR] at h ⊢
    obtain ⟨a, vs, e, t, r⟩ := h
    exact ⟨a, vs, e, t.mono g, VRs.mono g r⟩
  | .lst xs, v, h => by
    simp only [VR] at h ⊢
    obtain ⟨a, vs, e, ⟨t1, t2, t3⟩, r⟩ := h
    exact ⟨a, vs, e, ⟨g.out t1 t3, t2, g.same _ _ t1 t3⟩, VRs.mono g r⟩
  | .scr xs, v, h => by
    simp only [VR] at h ⊢
    obtain ⟨a, vs, e, t, r⟩ := h
    exact ⟨a, vs, e, t.mono g, VRs.mono g r⟩
theorem VRs.mono (g : Grow ρ H ρ' H') : ∀ {ws : List W} {vs : List V}, VRs K ρ η H ws vs → VRs K ρ' η H' ws vs
  | [], _, h => by simpa only [VRs] using h
  | x :: xs, vs, h => by
    simp only [VRs] at h ⊢
    obtain ⟨v, r, e, h1, h2⟩ := h
    exact ⟨v, r, e, VR.mono g h1, VRs.mono g h2⟩
end
/-- fewer hidden ones -/
theorem TupAt.less {a : Addr} {vs : List V} (g : ∀ b ∈ η', b ∈ η) (h : TupAt K ρ η H a vs) : TupAt K ρ η' H a vs := h.imp (fun h => ⟨h.1, fun z => h.2.1 (g _ z), h.2.2⟩) id
theorem LstAt.less {a : Addr} {vs : List V} (g : ∀ b ∈ η', b ∈ η) (h : LstAt K ρ η H a vs) : LstAt K ρ η' H a vs := h.imp (fun h => ⟨h.1, fun z => h.2.1 (g _ z), h.2.2⟩) id
mutual
theorem VR.less (g : ∀ b ∈ η', b ∈ η) : ∀ {w : W} {v : V}, VR K ρ η H w v → VR K ρ η' H w v
  | .non, _, h => h
  | .bl _, _, h => h
  | .int _, _, h => h
  | .str _, _, h => h
  | .ty _, _, h => h
  | .at_ _, _, h => h
  | .fn _ _ _ _, _, h => ⟨h.1, h.2.trans (GH.less g)⟩
  | .exc a d f w, v, h => by
    simp only [VR] at h ⊢
    obtain ⟨e, d1, d2, fs, u, x1, x2, r⟩ := h
    exact ⟨e, d1, fun z => d2 (g _ z), fs, u, x1, x2, VR.less g r⟩
  | .ref i, v, h => by
    simp only [VR] at h ⊢
    exact h
  | .tup xs, v, h => by
    simp only [VR] at h ⊢
    obtain ⟨a, vs, e, t, r⟩ := h
    exact ⟨a, vs, e, t.less g, VRs.less g r⟩
  | .lst xs, v, h => by
    simp only [VR] at h ⊢
    obtain ⟨a, vs, e, ⟨t1, t2, t3⟩, r⟩ := h
    exact ⟨a, vs, e, ⟨t1, fun z => t2 (g _ z), t3⟩, VRs.less g r⟩
  | .scr xs, v, h => by
    simp only [VR] at h ⊢
    obtain ⟨a, vs, e, t, r⟩ := h
    exact ⟨a, vs, e, t.less g, VRs.less g r⟩
theorem VRs.less (g : ∀ b ∈ η', b ∈ η) : ∀ {ws : List W} {vs : List V}, VRs K ρ η H ws vs → VRs K ρ η' H ws vs
  | [], _, h => by simpa only [VRs] using h
  | x :: xs, vs, h => by
    simp only [VRs] at h ⊢
    obtain ⟨v, r, e, h1, h2⟩ := h
    exact ⟨v, r, e, VR.less g h1, VRs.less g h2⟩
end
/-- a new hidden object D, or one that changes -/
theorem TupAt.hide {a D : Addr} {o : HO} {vs : List V} (n : H D = none ∨ D ∈ η) (h : TupAt K ρ η H a vs) : TupAt K ρ (D :: η) (upd H D o) a vs := by
  rcases h with ⟨h1, h2, h3⟩ | h
  · have ne : a ≠ D := by
      rintro rfl
      rcases n with n | n
      · obtain ⟨o, e, _⟩ := rd_some h3
        rw [n] at e; cases e
      · exact h2 n
    refine .inl ⟨h1, by simp [ne, h2], ?_⟩
    rcases h3 with e | ⟨o, e⟩
    · exact .inl (by rw [upd_ne ne]; exact e)
    · exact .inr ⟨o, by rw [upd_ne ne]; exact e⟩
  · exact .inr h
theorem LstAt.hide {a D : Addr} {o : HO} {vs : List V} (n : H D = none ∨ D ∈ η) (h : LstAt K ρ η H a vs) : LstAt K ρ (D :: η) (upd H D o) a vs := by
  rcases h with ⟨h1, h2, h3⟩ | h
  · have ne : a ≠ D := by
      rintro rfl
      rcases n with n | n
      · obtain ⟨o, e, _⟩ := rd_some h3
        rw [n] at e; cases e
      · exact h2 n
    refine .inl ⟨h1, by simp [ne, h2], ?_⟩
    rcases h3 with e | ⟨o, e⟩
    · exact .inl (by rw [upd_ne ne]; exact e)
    · exact .inr ⟨o, by rw [upd_ne ne]; exact e⟩
  · exact .inr h
mutual
theorem VR.hide {D : Addr} {o : HO} (n : H D = none ∨ D ∈ η) : ∀ {w : W} {v : V}, VR K ρ η H w v → VR K ρ (D :: η) (upd H D o) w v
  | .non, _, h => h
  | .bl _, _, h => h
  | .int _, _, h => h
  | .str _, _, h => h
  | .ty _, _, h => h
  | .at_ _, _, h => h
  | .fn _ _ _ _, _, h => ⟨h.1, h.2.trans (GH.hide n)⟩
  | .exc a d f w, v, h => by
    simp only [VR] at h ⊢
    obtain ⟨e, d1, d2, fs, u, x1, x2, r⟩ := h
    have ne : d ≠ D := by
      rintro rfl
      rcases n with n | n
      · rw [n] at x1; cases x1
      · exact d2 n
    exact ⟨e, d1, by simp [ne, d2], fs, u, by rw [upd_ne ne]; exact x1, x2, VR.hide n r⟩
  | .ref i, v, h => by
    simp only [VR] at h ⊢
    exact h
  | .tup xs, v, h => by
    simp only [VR] at h ⊢
    obtain ⟨a, vs, e, t, r⟩ := h
    exact ⟨a, vs, e, t.hide n, VRs.hide n r⟩
  | .lst xs, v, h => by
    simp only [VR] at h ⊢
    obtain ⟨a, vs, e, ⟨t1, t2, t3⟩, r⟩ := h
    have ne : a ≠ D := by
      rintro rfl
      rcases n with n | n
      · rw [n] at t3; cases t3
      · exact t2 n
    exact ⟨a, vs, e, ⟨t1, by simp [ne, t2], by rw [upd_ne ne]; exact t3⟩, VRs.hide n r⟩
  | .scr xs, v, h => by
    simp only [VR] at h ⊢
    obtain ⟨a, vs, e, t, r⟩ := h
    exact ⟨a, vs, e, t.hide n, VRs.hide n r⟩
theorem VRs.hide {D : Addr} {o : HO} (n : H D = none ∨ D ∈ η) : ∀ {ws : List W} {vs : List V}, VRs K ρ η H ws vs → VRs K ρ (D :: η) (upd H D o) ws vs
  | [], _, h => by simpa only [VRs] using h
  | x :: xs, vs, h => by
    simp only [VRs] at h ⊢
    obtain ⟨v, r, e, h1, h2⟩ := h
    exact ⟨v, r, e, VR.hide n h1, VRs.hide n h2⟩
end
theorem VRs.append : ∀ {xs ys : List W} {vs us : List V}, VRs K ρ η H xs vs → VRs K ρ η H ys us → VRs K ρ η H (xs ++ ys) (vs ++ us)
  | [], _, _, _, h, k => by
    simp only [VRs] at h
    subst h
    exact k
  | x :: xs, _, _, _, h, k => by
    simp only [VRs, List.cons_append] at h ⊢
    obtain ⟨v, r, e, h1, h2⟩ := h
    exact ⟨v, r ++ _, by rw [e]; rfl, h1, h2.append k⟩
theorem VRs.len : ∀ {xs : List W} {vs : List V}, VRs K ρ η H xs vs → vs.length = xs.length
  | [], _, h => by
    simp only [VRs] at h
    subst h
    rfl
  | x :: xs, _, h => by
    simp only [VRs] at h
    obtain ⟨v, r, e, h1, h2⟩ := h
    rw [e, List.length_cons, List.length_cons, h2.len]
theorem VRs.get : ∀ {xs : List W} {vs : List V} {i : Nat} {x : W}, VRs K ρ η H xs vs → xs[i]? = some x → ∃ v, vs[i]? = some v ∧ VR K ρ η H x v
  | [], _, _, _, _, e => by simp at e
  | x :: xs, _, 0, _, h, e => by
    simp only [VRs] at h
    obtain ⟨v, r, e', h1, h2⟩ := h
    simp at e
    subst e
    exact ⟨v, by rw [e']; rfl, h1⟩
  | x :: xs, _, i + 1, y, h, e => by
    simp only [VRs] at h
    obtain ⟨v, r, e', h1, h2⟩ := h
    obtain ⟨u, q, k⟩ := h2.get (i := i) (x := y) (by simpa using e)
    exact ⟨u, by rw [e']; simpa using q, k⟩
theorem VRs.of_get : ∀ {xs : List W} {vs : List V}, vs.length = xs.length → (∀ (i : Nat) (x : W) (v : V), xs[i]? = some x → vs[i]? = some v → VR K ρ η H x v) → VRs K ρ η H xs vs
  | [], vs, l, _ => by
    simp only [VRs]
    exact List.eq_nil_of_length_eq_zero l
  | x :: xs, [], l, _ => by simp at l
  | x :: xs, v :: vs, l, h => by
    simp only [VRs]
    exact ⟨v, vs, rfl, h 0 x v rfl rfl, VRs.of_get (by simpa using l) fun i y u a b => h (i + 1) y u (by simpa using a) (by simpa using b)⟩
theorem VRs.nil : VRs K ρ η H [] [] := by simp only [VRs]
theorem VRs.cons {x : W} {xs : List W} {v : V} {vs : List V} (a : VR K ρ η H x v) (b : VRs K ρ η H xs vs) : VRs K ρ η H (x :: xs) (v :: vs) := by
  simp only [VRs]
  exact ⟨v, vs, rfl, a, b⟩
theorem VRs.set {x : W} {v : V} (a : VR K ρ η H x v) {xs : List W} {vs : List V} (i : Nat) (h : VRs K ρ η H xs vs) : VRs K ρ η H (xs.set i x) (vs.set i v) := by
  refine .of_get (by simp [h.len]) fun j y u e f => ?_
  rw [List.getElem?_set] at e f
  rw [h.len] at f
  split at e
  · rename_i q
    subst q
    split at e
    · rename_i q
      rw [if_pos q] at f
      simp at e f
      subst e; subst f
      exact a
    · simp at e
  · rename_i q
    rw [if_neg q] at f
    obtain ⟨z, h1, h2⟩ := h.get e
    rw [f] at h1
    cases h1
    exact h2
theorem VRs.take (n : Nat) {xs : List W} {vs : List V} (h : VRs K ρ η H xs vs) : VRs K ρ η H (xs.take n) (vs.take n) := by
  refine .of_get (by simp [h.len]) fun j y u e f => ?_
  rw [List.getElem?_take] at e f
  split at e
  · rename_i q
    rw [if_pos q] at f
    obtain ⟨z, h1, h2⟩ := h.get e
    rw [f] at h1
    cases h1
    exact h2
  · simp at e
theorem VRs.drop (n : Nat) {xs : List W} {vs : List V} (h : VRs K ρ η H xs vs) : VRs K ρ η H (xs.drop n) (vs.drop n) := by
  refine .of_get (by simp [h.len]) fun j y u e f => ?_
  rw [List.getElem?_drop] at e f
  obtain ⟨z, h1, h2⟩ := h.get e
  rw [f] at h1
  cases h1
  exact h2
end
end Mi
namespace Mi
open PySem L2

section
variable (K : PySem.W.Frag) (T : Nat → Addr)
/-- a def's table of code objects, at a -/
def TbR (T : Nat → Addr) (ρ η : List Addr) (H : Hp) (a : Addr) (j : Nat) (q : Str) : Prop := a = T (1000 + j) ∧ ∃ ps : Array Value, H a = some (.tbl ps) ∧ TriplesOk ps.toList ∧ ∀ (pos : Pos) (cv : Value), codeAmong pos ps.toList = some cv → ∃ c : Addr, cv = .ref c ∧ c ∉ ρ ∧ c ∉ η ∧ H c = some (LamX.CodeO c q)
/-- a store's object as it stands at a -/
def NR (ρ η : List Addr) (H : Hp) (a : Addr) : Nd → Prop
  | .lst xs => ∃ vs, H a = some (.lst vs) ∧ VRs K ρ η H xs vs
  | .dk kvs => ∃ kv : List (Key × V), H a = some (.dK kv) ∧ kv.map (·.1) = kvs.map (·.1) ∧ VRs K ρ η H (kvs.map (·.2)) (kv.map (·.2))
  | .lk kvs => ∃ (od : Obj) (kv : List (Key × V)), H a = some (.frz od (.dK kv)) ∧ kv.map (·.1) = kvs.map (·.1) ∧ VRs K ρ η H (kvs.map (·.2)) (kv.map (·.2))
  | .ins c fs => ∃ (dx : Addr) (fv : List (Str × V)), H a = some (.ins (T c) dx fv) ∧ fv.map (·.1) = fs.map (·.1) ∧ VRs K ρ η H (fs.map (·.2)) (fv.map (·.2))
  | .tb j q => TbR T ρ η H a j q
structure SR (ρ η : List Addr) (st : Sto) (H : Hp) : Prop where
  nd : ρ.Nodup
  len : ρ.length = st.length
  hid : ∀ a ∈ η, a ∉ ρ
  has : ∀ a ∈ η, ∃ o, H a = some o ∧ plO o = true
  at_ : ∀ (i : Nat) (n : Nd) (a : Addr), st[i]? = some n → ρ[i]? = some a → NR K T ρ η H a n
/-- the names' values -/
def ER (ρ η : List Addr) (H : Hp) (env : Ev) (σ : St) : Prop := σ.length = env.length ∧ ∀ (i : Nat) (w : W), env[i]? = some (some w) → ∃ v, σ[i]? = some (some v) ∧ VR K ρ η H w v
def XR (ρ η : List Addr) (H : Hp) : Xc → Value → Option Addr → Prop
  | .plain n, c, d => c = .ref (T n) ∧ d = none
  | .one n f w, c, d => c = .ref (T n) ∧ ∃ dd, d = some dd ∧ (dd ∉ ρ ∧ dd ∉ η ∧ ∃ fs u, H dd = some (.xd fs) ∧ fs.lookup f = some u ∧ VR K ρ η H w u)
/-- what follows upon an answer -/
def After {α β : Type} (η : List Addr) (R : List Addr → Hp → α → β → Prop) (ρ : List Addr) (H : Hp) (r : Rs α) (Q : β → Hp → Prop) (E : Value → Option Addr → Hp → Prop) : Prop :=
  match r with
  | .ok w st => ∀ ρ' H' v, Grow ρ H ρ' H' → SR K T ρ' η st H' → R ρ' H' w v → Q v H'
  | .ex x st => ∀ ρ' H' c d, Grow ρ H ρ' H' → SR K T ρ' η st H' → XR K T ρ' η H' x c d → E c d H'
  | .stuck => False
end
section
variable {K : PySem.W.Frag} {T : Nat → Addr} {ρ ρ' η : List Addr} {H H' : Hp} {st : Sto}
theorem TbR.mono {a : Addr} {j : Nat} {q : Str} (g : Grow ρ H ρ' H') (k : H' a = H a) (h : TbR T ρ η H a j q) : TbR T ρ' η H' a j q := by
  obtain ⟨e, ps, h1, h2, h3⟩ := h
  refine ⟨e, ps, k.trans h1, h2, fun pos cv z => ?_⟩
  obtain ⟨c, c1, c2, c3, c4⟩ := h3 pos cv z
  exact ⟨c, c1, g.out c2 c4, c3, g.same c _ c2 c4⟩
theorem NR.mono {a : Addr} {n : Nd} (g : Grow ρ H ρ' H') (k : H' a = H a) (h : NR K T ρ η H a n) : NR K T ρ' η H' a n := by
  cases n with
  | lst xs => obtain ⟨vs, e, r⟩ := h; exact ⟨vs, k.trans e, r.mono g⟩
  | dk kvs => obtain ⟨kv, e, q, r⟩ := h; exact ⟨kv, k.trans e, q, r.mono g⟩
  | lk kvs => obtain ⟨od, kv, e, q, r⟩ := h; exact ⟨od, kv, k.trans e, q, r.mono g⟩
  | ins c fs => obtain ⟨dx, fv, e, q, r⟩ := h; exact ⟨dx, fv, k.trans e, q, r.mono g⟩
  | tb p q => exact TbR.mono g k h
theorem ER.mono {env : Ev} {σ : St} (g : Grow ρ H ρ' H') (h : ER K ρ η H env σ) : ER K ρ' η H' env σ := ⟨h.1, fun i w e => by
  obtain ⟨v, q, r⟩ := h.2 i w e
  exact ⟨v, q, r.mono g⟩⟩
theorem ER.set {env : Ev} {σ : St} {i : Nat} {w : W} {v : V} (h : ER K ρ η H env σ) (r : VR K ρ η H w v) : ER K ρ η H (env.set i (some w)) (σ.set i (some v)) := ⟨by simp [h.1], fun j u e => by
  rw [List.getElem?_set] at e ⊢
  split at e
  · rename_i q
    rw [if_pos q]
    split at e
    · rename_i q2
      rw [h.1, if_pos q2]
      cases e
      exact ⟨v, rfl, r⟩
    · cases e
  · rename_i q
    rw [if_neg q]
    exact h.2 j u e⟩
/-- a new object that is no place -/
theorem SR.new {p : Addr} {o : HO} (h : SR K T ρ η st H) (n : H p = none) (np : ∀ (i : Nat) (a : Addr), ρ[i]? = some a → a ≠ p) : SR K T ρ η st (upd H p o) :=
  ⟨h.nd, h.len, h.hid, fun a ha => by
    obtain ⟨u, e, pl⟩ := h.has a ha
    exact ⟨u, by rw [upd_ne (ne_of_none e n)]; exact e, pl⟩, fun i nd a e q => (h.at_ i nd a e q).mono (Grow.new n) (upd_ne (np i a q))⟩
theorem SR.there {i : Nat} {a : Addr} (h : SR K T ρ η st H) (q : ρ[i]? = some a) : ∃ o, H a = some o := by
  have hi : i < st.length := by rw [← h.len]; exact (List.getElem?_eq_some_iff.mp q).1
  have k := h.at_ i _ a (List.getElem?_eq_getElem hi) q
  cases e : st[i] with
  | lst xs => rw [e] at k; obtain ⟨vs, z, _⟩ := k; exact ⟨_, z⟩
  | dk xs => rw [e] at k; obtain ⟨vs, z, _⟩ := k; exact ⟨_, z⟩
  | lk xs => rw [e] at k; obtain ⟨od, vs, z, _⟩ := k; exact ⟨_, z⟩
  | ins c xs => rw [e] at k; obtain ⟨dx, vs, z, _⟩ := k; exact ⟨_, z⟩
  | tb p q => rw [e] at k; obtain ⟨_, ps, z, _⟩ := k; exact ⟨_, z⟩
theorem SR.new' {p : Addr} {o : HO} (h : SR K T ρ η st H) (n : H p = none) : SR K T ρ η st (upd H p o) := h.new n fun i a q z => by
  obtain ⟨u, e⟩ := h.there q
  rw [z, n] at e; cases e
theorem SR.fresh {p : Addr} (h : SR K T ρ η st H) (n : H p = none) : p ∉ ρ := fun z => by
  obtain ⟨i, hi⟩ := List.getElem?_of_mem z
  obtain ⟨u, e⟩ := h.there hi
  rw [n] at e; cases e
theorem SR.freshH {p : Addr} (h : SR K T ρ η st H) (n : H p = none) : p ∉ η := fun z => by
  obtain ⟨u, e, _⟩ := h.has p z
  rw [n] at e; cases e
/-- a new place -/
theorem SR.node {p : Addr} {o : HO} {nd : Nd} (h : SR K T ρ η st H) (n : H p = none) (k : NR K T (ρ ++ [p]) η (upd H p o) p nd) : SR K T (ρ ++ [p]) η (st ++ [nd]) (upd H p o) := by
  refine ⟨?_, by simp [h.len], fun a ha z => ?_, fun a ha => ?_, fun i m a e q => ?_⟩
  · rw [List.nodup_append]
    exact ⟨h.nd, by simp, fun a ha b hb z => by
      rw [List.mem_singleton] at hb
      subst hb; subst z
      exact h.fresh n ha⟩
  · rcases List.mem_append.mp z with z | z
    · exact h.hid a ha z
    · rw [List.mem_singleton] at z
      subst z
      exact h.freshH n ha
  · obtain ⟨u, e, pl⟩ := h.has a ha
    exact ⟨u, by rw [upd_ne (ne_of_none e n)]; exact e, pl⟩
  · by_cases hi : i < st.length
    · rw [List.getElem?_append_left hi] at e
      rw [List.getElem?_append_left (by rw [h.len]; exact hi)] at q
      obtain ⟨u, z⟩ := h.there q
      exact (h.at_ i m a e q).mono (Grow.node n) (upd_ne (ne_of_none z n))
    · have l1 := (List.getElem?_eq_some_iff.mp e).1
      have hi2 : i = st.length := by
        rw [List.length_append, List.length_singleton] at l1
        omega
      subst hi2
      rw [List.getElem?_append_right (Nat.le_refl _)] at e
      rw [List.getElem?_append_right (by rw [h.len]; exact Nat.le_refl _)] at q
      simp at e
      simp [h.len] at q
      subst e; subst q
      exact k
/-- a place changes -/
theorem SR.write {p : Addr} {o : HO} {nd : Nd} {i : Nat} (h : SR K T ρ η st H) (op : Open H p) (q : ρ[i]? = some p) (k : NR K T ρ η (upd H p o) p nd) (nn : nt o = true := by rfl) : SR K T ρ η (st.set i nd) (upd H p o) := by
  have hp : p ∈ ρ := List.mem_of_getElem? q
  refine ⟨h.nd, by simp [h.len], h.hid, fun a ha => ?_, fun j m a e r => ?_⟩
  · obtain ⟨u, e, pl⟩ := h.has a ha
    exact ⟨u, by rw [upd_ne (fun z => h.hid a ha (by rw [z]; exact hp))]; exact e, pl⟩
  · rw [List.getElem?_set] at e
    split at e
    · rename_i z
      subst z
      rw [q] at r
      cases r
      split at e
      · cases e
        exact k
      · cases e
    · rename_i z
      have ne : a ≠ p := by
        rintro rfl
        have l1 := (List.getElem?_eq_some_iff.mp q)
        have l2 := (List.getElem?_eq_some_iff.mp r)
        obtain ⟨b1, c1⟩ := l1
        obtain ⟨b2, c2⟩ := l2
        exact z ((List.getElem_inj h.nd).mp (c1.trans c2.symm))
      exact (h.at_ j m a e r).mono (Grow.write hp op nn) (upd_ne ne)

theorem After.grow {α β : Type} {R : List Addr → Hp → α → β → Prop} {r : Rs α} {Q : β → Hp → Prop} {E : Value → Option Addr → Hp → Prop} (g : Grow ρ H ρ' H') (h : After K T η R ρ H r Q E) : After K T η R ρ' H' r Q E := by
  cases r with
  | ok w s => exact fun ρ2 H2 v g2 => h ρ2 H2 v (g.trans g2)
  | ex x s => exact fun ρ2 H2 c d g2 => h ρ2 H2 c d (g.trans g2)
  | stuck => exact h
theorem After.bind {α β γ δ : Type} {R : List Addr → Hp → α → β → Prop} {R' : List Addr → Hp → γ → δ → Prop} {r : Rs α} {k : α → Sto → Rs γ} {Q : δ → Hp → Prop} {Q1 : β → Hp → Prop} {E : Value → Option Addr → Hp → Prop} (h : After K T η R' ρ H (r.bind k) Q E)
    (f : ∀ w st1 ρ1 H1 v, Grow ρ H ρ1 H1 → SR K T ρ1 η st1 H1 → R ρ1 H1 w v → After K T η R' ρ1 H1 (k w st1) Q E → Q1 v H1) : After K T η R ρ H r Q1 E := by
  cases r with
  | ok w s => exact fun ρ1 H1 v g s1 r1 => f w s ρ1 H1 v g s1 r1 (After.grow g h)
  | ex x s => exact h
  | stuck => exact h
theorem After.ok {α β : Type} {R : List Addr → Hp → α → β → Prop} {w : α} {Q : β → Hp → Prop} {E : Value → Option Addr → Hp → Prop} {v : β} (h : After K T η R ρ H (.ok w st) Q E) (s : SR K T ρ η st H) (r : R ρ H w v) : Q v H := h ρ H v Grow.refl s r
end

/-! ### what an expression does -/
abbrev M (α : Type) := Ev → Sto → Rs α
def tS (X : Cx) (e : Expr) : TE := fun σ H Q => ∃ t, PE X e t ∧ t σ H Q
theorem pe_S {X : Cx} {e : Expr} : PE X e (tS X e) := ⟨fun pins s σ H Q I ⟨_, h, q⟩ => h.run pins s σ H Q I q⟩
def tST (X : Cx) (e : Expr) : TT := fun σ H Q => ∃ t, PT X e t ∧ t σ H Q
theorem pt_S {X : Cx} {e : Expr} : PT X e (tST X e) := ⟨fun pins s σ H Q I ⟨_, h, q⟩ => h.run pins s σ H Q I q⟩
def tSW (X : Cx) (e : Expr) : TT := fun σ H Q => ∃ t, PW X e t ∧ t σ H Q
theorem pw_S {X : Cx} {e : Expr} : PW X e (tSW X e) := ⟨fun wh pins s σ H Q I ⟨_, h, q⟩ => h.run wh pins s σ H Q I q⟩
def tSA (X : Cx) (es : List Expr) : TA := fun σ H Q => ∃ t, PA X es t ∧ t σ H Q
theorem pa_S {X : Cx} {es : List Expr} : PA X es (tSA X es) := ⟨fun p pins s σ H Q I ⟨_, h, q⟩ => h.run p pins s σ H Q I q⟩
def tSS (X : Cx) (st : Stmt) : TS := fun D σ H => ∃ t, PS X st t ∧ t D σ H
theorem ps_S {X : Cx} {st : Stmt} : PS X st (tSS X st) := ⟨fun pins s σ H D I ⟨_, h, q⟩ => h.run pins s σ H D I q⟩
def tSSs (X : Cx) (st : List Stmt) : TS := fun D σ H => ∃ t, PSs X st t ∧ t D σ H
theorem pss_S {X : Cx} {st : List Stmt} : PSs X st (tSSs X st) := ⟨fun pins s σ H D I ⟨_, h, q⟩ => h.run pins s σ H D I q⟩

abbrev WX' := Value → Option Addr → St → Hp → Prop
section
variable (X : Cx) (T : Nat → Addr) (Wx : WX')
def SE (e : Expr) (m : M W) : Prop := ∀ ρ η st env σ H Q, SR X.K T ρ η st H → ER X.K ρ η H env σ → After X.K T η (fun ρ H => VR X.K ρ η H) ρ H (m env st) Q (fun c d H' => Wx c d σ H') → tS X e σ H Q
def STt (e : Expr) (m : M Bool) : Prop := ∀ ρ η st env σ H Q, SR X.K T ρ η st H → ER X.K ρ η H env σ → After X.K T η (fun _ _ => Eq) ρ H (m env st) Q (fun c d H' => Wx c d σ H') → tST X e σ H Q
def SWt (e : Expr) (m : M Bool) : Prop := ∀ ρ η st env σ H Q, SR X.K T ρ η st H → ER X.K ρ η H env σ → After X.K T η (fun _ _ => Eq) ρ H (m env st) Q (fun c d H' => Wx c d σ H') → tSW X e σ H Q
def SA (es : List Expr) (m : M (List W)) : Prop := ∀ ρ η st env σ H Q, SR X.K T ρ η st H → ER X.K ρ η H env σ → After X.K T η (fun ρ H => VRs X.K ρ η H) ρ H (m env st) Q (fun c d H' => Wx c d σ H') → tSA X es σ H Q
end
end Mi
namespace Mi
open PySem L2

/-! ### reading lists and tuples -/
def seqL (st : Sto) : W → Option (List W)
  | .lst xs => some xs
  | .scr xs => some xs
  | .ref i => match st[i]? with
    | some (.lst xs) => some xs
    | _ => none
  | _ => none
def trkL (st : Sto) : W → Option (List W)
  | .lst xs => some xs
  | .ref i => match st[i]? with
    | some (.lst xs) => some xs
    | _ => none
  | _ => none
def tupL : W → Option (List W)
  | .tup xs => some xs
  | _ => none
section
variable {K : PySem.W.Frag} {T : Nat → Addr} {ρ ρ' η : List Addr} {H H' : Hp} {st : Sto}
theorem node_at {i : Nat} {v : V} {n : Nd} (s : SR K T ρ η st H) (h : VR K ρ η H (.ref i) v) (e : st[i]? = some n) : ∃ a, v = .ref a ∧ ρ[i]? = some a ∧ NR K T ρ η H a n := by
  simp only [VR] at h
  obtain ⟨a, h1, h2⟩ := h
  exact ⟨a, h2, h1, s.at_ i n a e h1⟩
theorem trk_ok {w : W} {v : V} {xs : List W} (s : SR K T ρ η st H) (h : VR K ρ η H w v) (e : trkL st w = some xs) : ∃ a vs, v = .ref a ∧ H a = some (.lst vs) ∧ VRs K ρ η H xs vs := by
  cases w with
  | lst ys =>
    simp only [trkL, Option.some.injEq] at e
    subst e
    simp only [VR] at h
    obtain ⟨a, vs, h1, h2, h3⟩ := h
    exact ⟨a, vs, h1, h2.2.2, h3⟩
  | ref i =>
    simp only [trkL] at e
    split at e
    · rename_i ys q
      cases e
      obtain ⟨a, h1, _, h2⟩ := node_at s h q
      obtain ⟨vs, h3, h4⟩ := h2
      exact ⟨a, vs, h1, h3, h4⟩
    · cases e
  | _ => simp [trkL] at e
theorem seq_ok {w : W} {v : V} {xs : List W} (s : SR K T ρ η st H) (h : VR K ρ η H w v) (e : seqL st w = some xs) : ∃ a vs, v = .ref a ∧ SqL K H a vs ∧ VRs K ρ η H xs vs := by
  cases w with
  | lst ys =>
    obtain ⟨a, vs, h1, h2, h3⟩ := trk_ok s h (show trkL st (.lst ys) = some xs from e)
    exact ⟨a, vs, h1, SqL.of h2, h3⟩
  | ref i =>
    obtain ⟨a, vs, h1, h2, h3⟩ := trk_ok s h (show trkL st (.ref i) = some xs from e)
    exact ⟨a, vs, h1, SqL.of h2, h3⟩
  | scr ys =>
    simp only [seqL, Option.some.injEq] at e
    subst e
    simp only [VR] at h
    obtain ⟨a, vs, h1, h2, h3⟩ := h
    exact ⟨a, vs, h1, h2.sq, h3⟩
  | _ => simp [seqL] at e
theorem tup_ok {w : W} {v : V} {xs : List W} (h : VR K ρ η H w v) (e : tupL w = some xs) : ∃ a vs, v = .ref a ∧ SqT K H a vs ∧ VRs K ρ η H xs vs := by
  cases w with
  | tup ys =>
    simp only [tupL, Option.some.injEq] at e
    subst e
    simp only [VR] at h
    obtain ⟨a, vs, h1, h2, h3⟩ := h
    exact ⟨a, vs, h1, h2.sq, h3⟩
  | _ => simp [tupL] at e
end

/-! ### new lists and tuples -/
def newL (fz : Bool) (xs : List W) (st : Sto) : Rs W := if fz then .ok (.lst xs) st else .ok (.ref st.length) (st ++ [.lst xs])
section
variable {K : PySem.W.Frag} {T : Nat → Addr} {ρ ρ' η : List Addr} {H H' : Hp} {st : Sto} {Q : V → Hp → Prop} {E : Value → Option Addr → Hp → Prop}
theorem newL_ok {fz : Bool} {xs : List W} {vs : List V} {p : Addr} (h : After K T η (fun ρ H => VR K ρ η H) ρ H (newL fz xs st) Q E) (s : SR K T ρ η st H) (r : VRs K ρ η H xs vs) (n : H p = none) : Q (.ref p) (upd H p (.lst vs)) := by
  unfold newL at h
  cases fz with
  | true =>
    refine h ρ _ _ (Grow.new n) (s.new' n) ?_
    simp only [VR]
    exact ⟨p, vs, rfl, ⟨s.fresh n, s.freshH n, upd_same⟩, r.mono (Grow.new n)⟩
  | false =>
    refine h (ρ ++ [p]) _ _ (Grow.node n) (s.node n ⟨vs, upd_same, r.mono (Grow.node n)⟩) ?_
    simp only [VR]
    exact ⟨p, by rw [← s.len, List.getElem?_append_right (Nat.le_refl _)]; simp, rfl⟩
theorem newT_ok {xs : List W} {vs : List V} {p : Addr} (h : After K T η (fun ρ H => VR K ρ η H) ρ H (.ok (.tup xs) st) Q E) (s : SR K T ρ η st H) (r : VRs K ρ η H xs vs) (n : H p = none) : Q (.ref p) (upd H p (.tup vs)) := by
  refine h ρ _ _ (Grow.new n) (s.new' n) ?_
  simp only [VR]
  exact ⟨p, vs, rfl, .inl ⟨s.fresh n, s.freshH n, .inl upd_same⟩, r.mono (Grow.new n)⟩
end

/-! ### operators by values -/
abbrev F2 := W → W → Sto → Rs W
def OkR (K : PySem.W.Frag) (T : Nat → Addr) (f : F2) (r : R2) : Prop := ∀ ρ η st H a b x y Q E, SR K T ρ η st H → VR K ρ η H a x → VR K ρ η H b y → After K T η (fun ρ H => VR K ρ η H) ρ H (f a b st) Q E → r x y H Q
def rOr (r r' : R2) : R2 := fun x y H Q => r x y H Q ∨ r' x y H Q
theorem opr_or {X : Cx} {f : Value → Value → Sem Value} {r r' : R2} (h : OpR X f r) (h' : OpR X f r') : OpR X f (rOr r r') := fun pins s σ H x y v u Q I a b q => by
  rcases q with q | q
  · exact h pins s σ H x y v u Q I a b q
  · exact h' pins s σ H x y v u Q I a b q

def wAdd (fz : Bool) : F2 := fun a b st => match a, b with
  | .int i, .int j => .ok (.int (i + j)) st
  | .str x, .str y => if x.length + y.length ≤ sizeLine then .ok (.str (x ++ y)) st else .stuck
  | .tup xs, .tup ys => if xs.length + ys.length ≤ sizeLine then .ok (.tup (xs ++ ys)) st else .stuck
  | a, b => match trkL st a, trkL st b with
    | some xs, some ys => if xs.length + ys.length ≤ sizeLine then newL fz (xs ++ ys) st else .stuck
    | _, _ => .stuck
def wSub : F2 := fun a b st => match a, b with
  | .int i, .int j => .ok (.int (i - j)) st
  | _, _ => .stuck
def small64 (i : Int) : Bool := decide (i.natAbs < 2 ^ 64)
theorem small64_of {i : Int} (h : small64 i = true) : -(2 ^ 64) < i ∧ i < 2 ^ 64 := by
  simp only [small64, decide_eq_true_eq] at h
  omega
def wMul (fz : Bool) : F2 := fun a b st => match a, b with
  | .int i, .int j => if small64 i || small64 j then .ok (.int (i * j)) st else .stuck
  | a, .int k => match trkL st a with
    | some xs => if k.natAbs < 2 ^ 63 ∧ xs.length * k.toNat ≤ sizeLine then newL fz (List.replicate k.toNat xs).flatten st else .stuck
    | none => .stuck
  | _, _ => .stuck
def wDiv : F2 := fun a b st => match a, b with
  | .int i, .int j => if j ≠ 0 ∧ j.natAbs < 1073741824 then .ok (.int (i.fdiv j)) st else .stuck
  | _, _ => .stuck
def wMod : F2 := fun a b st => match a, b with
  | .int i, .int j => if j ≠ 0 then .ok (.int (i.fmod j)) st else .stuck
  | _, _ => .stuck
def wPow : F2 := fun a b st => match a, b with
  | .int i, .int j => if 0 ≤ j ∧ j.natAbs ≤ 1000000 ∧ i.natAbs < 2 ^ 64 then .ok (.int (i ^ j.toNat)) st else .stuck
  | _, _ => .stuck
section
variable {K : PySem.W.Frag} {T : Nat → Addr}
theorem VRs.flatrep {ρ η : List Addr} {H : Hp} {xs : List W} {vs : List V} (h : VRs K ρ η H xs vs) : ∀ n : Nat, VRs K ρ η H (List.replicate n xs).flatten (List.replicate n vs).flatten
  | 0 => by simpa using VRs.nil
  | n + 1 => by
    rw [List.replicate_succ, List.replicate_succ, List.flatten_cons, List.flatten_cons]
    exact h.append (VRs.flatrep h n)
theorem ok_add {fz : Bool} : OkR K T (wAdd fz) (rOr (rI0 fun i j => .int (i + j)) (rOr (fun x y H Q => ∃ i j, x = V.str i ∧ y = V.str j ∧ i.length + j.length ≤ sizeLine ∧ Q (V.str (i ++ j)) H) (rOr (rCatA K) rCat))) := by
  intro ρ η st H a b x y Q E s ha hb h
  unfold wAdd at h
  split at h
  · simp only [VR] at ha hb
    exact .inl ⟨_, _, ha, hb, h.ok s (by simp only [VR])⟩
  · split at h
    · rename_i q
      simp only [VR] at ha hb
      exact .inr (.inl ⟨_, _, ha, hb, q, h.ok s (by simp only [VR])⟩)
    · exact h.elim
  · split at h
    · rename_i xs ys q
      have hb2 := hb
      obtain ⟨p1, vs, e1, t1, r1⟩ := tup_ok ha rfl
      obtain ⟨p2, us, e2, t2, r2⟩ := tup_ok hb rfl
      refine .inr (.inr (.inl ⟨p1, p2, vs, us, e1, e2, t1, t2, by rw [r1.len, r2.len]; exact q, fun z => ?_, fun _ z => ?_, fun _ _ p n => newT_ok h s (r1.append r2) n⟩))
      · refine h.ok s ?_
        have l := r1.len
        rw [z] at l
        have e : xs = [] := List.eq_nil_of_length_eq_zero l.symm
        rw [e, List.nil_append, ← e2]
        exact hb2
      · refine h.ok s ?_
        have l := r2.len
        rw [z] at l
        have e : ys = [] := List.eq_nil_of_length_eq_zero l.symm
        rw [e, List.append_nil, ← e1]
        exact ha
    · exact h.elim
  · split at h
    · rename_i q1 q2
      obtain ⟨p1, vs, e1, t1, r1⟩ := trk_ok s ha q1
      obtain ⟨p2, us, e2, t2, r2⟩ := trk_ok s hb q2
      split at h
      · rename_i q
        exact .inr (.inr (.inr ⟨p1, p2, vs, us, e1, e2, t1, t2, by rw [r1.len, r2.len]; exact q, fun p n => newL_ok h s (r1.append r2) n⟩))
      · exact h.elim
    · exact h.elim
theorem ok_sub : OkR K T wSub (rI0 fun i j => .int (i - j)) := by
  intro ρ η st H a b x y Q E s ha hb h
  unfold wSub at h
  split at h
  · simp only [VR] at ha hb
    exact ⟨_, _, ha, hb, h.ok s (by simp only [VR])⟩
  · exact h.elim
theorem ok_mul {fz : Bool} : OkR K T (wMul fz) (rOr (rI CMul fun i j => .int (i * j)) rRep) := by
  intro ρ η st H a b x y Q E s ha hb h
  unfold wMul at h
  split at h
  · split at h
    · rename_i q
      simp only [VR] at ha hb
      refine .inl ⟨_, _, ha, hb, ?_, h.ok s (by simp only [VR])⟩
      simp only [Bool.or_eq_true] at q
      exact q.imp small64_of small64_of
    · exact h.elim
  · split at h
    · rename_i q1
      split at h
      · rename_i q
        obtain ⟨p1, vs, e1, t1, r1⟩ := trk_ok s ha q1
        simp only [VR] at hb
        exact .inr ⟨p1, _, vs, e1, hb, t1, by omega, by omega, by rw [r1.len]; exact q.2, fun p n => newL_ok h s (r1.flatrep _) n⟩
      · exact h.elim
    · exact h.elim
  · exact h.elim
theorem ok_div : OkR K T wDiv (rI CDivN fun i j => .int (i.fdiv j)) := by
  intro ρ η st H a b x y Q E s ha hb h
  unfold wDiv at h
  split at h
  · split at h
    · rename_i q
      simp only [VR] at ha hb
      exact ⟨_, _, ha, hb, q, h.ok s (by simp only [VR])⟩
    · exact h.elim
  · exact h.elim
theorem ok_mod : OkR K T wMod (rI (fun _ j => j ≠ 0) fun i j => .int (i.fmod j)) := by
  intro ρ η st H a b x y Q E s ha hb h
  unfold wMod at h
  split at h
  · split at h
    · rename_i q
      simp only [VR] at ha hb
      exact ⟨_, _, ha, hb, q, h.ok s (by simp only [VR])⟩
    · exact h.elim
  · exact h.elim
theorem ok_pow : OkR K T wPow (rI CPow fun i j => .int (i ^ j.toNat)) := by
  intro ρ η st H a b x y Q E s ha hb h
  unfold wPow at h
  split at h
  · split at h
    · rename_i q
      simp only [VR] at ha hb
      exact ⟨_, _, ha, hb, ⟨q.1, by omega, q.2.2⟩, h.ok s (by simp only [VR])⟩
    · exact h.elim
  · exact h.elim
end
end Mi
namespace Mi
open PySem L2

/-! ### equality -/
def scalV : W → Option V
  | .non => some .non
  | .bl b => some (.bl b)
  | .int i => some (.int i)
  | .str x => some (.str x)
  | _ => none
mutual
def toD0 : W → Option PyData
  | .non => some .none
  | .bl b => some (.bool b)
  | .int i => some (.int i)
  | .str x => some (.str x)
  | .tup xs => (toD0s xs).map .tuple
  | .lst xs => (toD0s xs).map .list
  | .scr xs => (toD0s xs).map .list
  | _ => none
def toD0s : List W → Option (List PyData)
  | [] => some []
  | x :: xs => match toD0 x, toD0s xs with
    | some d, some ds => some (d :: ds)
    | _, _ => none
end
mutual
def toD (st : Sto) : W → Option PyData
  | .non => some .none
  | .bl b => some (.bool b)
  | .int i => some (.int i)
  | .str x => some (.str x)
  | .tup xs => (toDs st xs).map .tuple
  | .lst xs => (toDs st xs).map .list
  | .scr xs => (toDs st xs).map .list
  | .ref i => match st[i]? with
    | some (.lst xs) => (toD0s xs).map .list
    | _ => none
  | _ => none
def toDs (st : Sto) : List W → Option (List PyData)
  | [] => some []
  | x :: xs => match toD st x, toDs st xs with
    | some d, some ds => some (d :: ds)
    | _, _ => none
end
section
variable {K : PySem.W.Frag} {T : Nat → Addr} {ρ η : List Addr} {H : Hp} {st : Sto}
theorem scal_ok {w : W} {v x : V} (h : VR K ρ η H w v) (e : scalV w = some x) : v = x := by
  cases w <;> simp [scalV] at e <;> subst e <;> simpa only [VR] using h
mutual
theorem toD0_ok : ∀ {w : W} {v : V} {d : PyData}, VR K ρ η H w v → toD0 w = some d → Dp K H v d
  | .non, v, d, h, e => by
    simp only [VR] at h; simp only [toD0, Option.some.injEq] at e; subst h; subst e; exact .non
  | .bl b, v, d, h, e => by
    simp only [VR] at h; simp only [toD0, Option.some.injEq] at e; subst h; subst e; exact .bl b
  | .int b, v, d, h, e => by
    simp only [VR] at h; simp only [toD0, Option.some.injEq] at e; subst h; subst e; exact .int b
  | .str b, v, d, h, e => by
    simp only [VR] at h; simp only [toD0, Option.some.injEq] at e; subst h; subst e; exact .str b
  | .tup xs, v, d, h, e => by
    simp only [VR] at h
    simp only [toD0, Option.map_eq_some_iff] at e
    obtain ⟨a, vs, h1, h2, h3⟩ := h
    obtain ⟨ds, e1, e2⟩ := e
    subst h1; subst e2
    exact .tup h2.sq (toD0s_ok h3 e1)
  | .lst xs, v, d, h, e => by
    simp only [VR] at h
    simp only [toD0, Option.map_eq_some_iff] at e
    obtain ⟨a, vs, h1, h2, h3⟩ := h
    obtain ⟨ds, e1, e2⟩ := e
    subst h1; subst e2
    exact .lst (SqL.of h2.2.2) (toD0s_ok h3 e1)
  | .scr xs, v, d, h, e => by
    simp only [VR] at h
    simp only [toD0, Option.map_eq_some_iff] at e
    obtain ⟨a, vs, h1, h2, h3⟩ := h
    obtain ⟨ds, e1, e2⟩ := e
    subst h1; subst e2
    exact .lst h2.sq (toD0s_ok h3 e1)
  | .ty n, v, d, h, e => by simp [toD0] at e
  | .ref n, v, d, h, e => by simp [toD0] at e
  | .at_ n, v, d, h, e => by simp [toD0] at e
  | .fn _ _ _ _, v, d, h, e => by simp [toD0] at e
  | .exc _ _ _ _, v, d, h, e => by simp [toD0] at e
theorem toD0s_ok : ∀ {ws : List W} {vs : List V} {ds : List PyData}, VRs K ρ η H ws vs → toD0s ws = some ds → DpAll K H vs ds
  | [], vs, ds, h, e => by
    simp only [VRs] at h; simp only [toD0s, Option.some.injEq] at e; subst h; subst e; exact .nil
  | x :: xs, vs, ds, h, e => by
    simp only [VRs] at h
    obtain ⟨v, r, h1, h2, h3⟩ := h
    simp only [toD0s] at e
    split at e
    · rename_i d ds' q1 q2
      cases e
      subst h1
      exact .cons (toD0_ok h2 q1) (toD0s_ok h3 q2)
    · cases e
end
mutual
theorem toD_ok (s : SR K T ρ η st H) : ∀ {w : W} {v : V} {d : PyData}, VR K ρ η H w v → toD st w = some d → Dp K H v d
  | .non, v, d, h, e => by
    simp only [VR] at h; simp only [toD, Option.some.injEq] at e; subst h; subst e; exact .non
  | .bl b, v, d, h, e => by
    simp only [VR] at h; simp only [toD, Option.some.injEq] at e; subst h; subst e; exact .bl b
  | .int b, v, d, h, e => by
    simp only [VR] at h; simp only [toD, Option.some.injEq] at e; subst h; subst e; exact .int b
  | .str b, v, d, h, e => by
    simp only [VR] at h; simp only [toD, Option.some.injEq] at e; subst h; subst e; exact .str b
  | .tup xs, v, d, h, e => by
    simp only [VR] at h
    simp only [toD, Option.map_eq_some_iff] at e
    obtain ⟨a, vs, h1, h2, h3⟩ := h
    obtain ⟨ds, e1, e2⟩ := e
    subst h1; subst e2
    exact .tup h2.sq (toDs_ok s h3 e1)
  | .lst xs, v, d, h, e => by
    simp only [VR] at h
    simp only [toD, Option.map_eq_some_iff] at e
    obtain ⟨a, vs, h1, h2, h3⟩ := h
    obtain ⟨ds, e1, e2⟩ := e
    subst h1; subst e2
    exact .lst (SqL.of h2.2.2) (toDs_ok s h3 e1)
  | .scr xs, v, d, h, e => by
    simp only [VR] at h
    simp only [toD, Option.map_eq_some_iff] at e
    obtain ⟨a, vs, h1, h2, h3⟩ := h
    obtain ⟨ds, e1, e2⟩ := e
    subst h1; subst e2
    exact .lst h2.sq (toDs_ok s h3 e1)
  | .ty n, v, d, h, e => by simp [toD] at e
  | .at_ n, v, d, h, e => by simp [toD] at e
  | .fn _ _ _ _, v, d, h, e => by simp [toD] at e
  | .exc _ _ _ _, v, d, h, e => by simp [toD] at e
  | .ref i, v, d, h, e => by
    simp only [toD] at e
    split at e
    · rename_i xs q
      obtain ⟨a, h1, _, vs, h2, h3⟩ := node_at s h q
      simp only [Option.map_eq_some_iff] at e
      obtain ⟨ds, e1, e2⟩ := e
      subst h1; subst e2
      exact .lst (SqL.of h2) (toD0s_ok h3 e1)
    · cases e
theorem toDs_ok (s : SR K T ρ η st H) : ∀ {ws : List W} {vs : List V} {ds : List PyData}, VRs K ρ η H ws vs → toDs st ws = some ds → DpAll K H vs ds
  | [], vs, ds, h, e => by
    simp only [VRs] at h; simp only [toDs, Option.some.injEq] at e; subst h; subst e; exact .nil
  | x :: xs, vs, ds, h, e => by
    simp only [VRs] at h
    obtain ⟨v, r, h1, h2, h3⟩ := h
    simp only [toDs] at e
    split at e
    · rename_i d ds' q1 q2
      cases e
      subst h1
      exact .cons (toD_ok s h2 q1) (toDs_ok s h3 q2)
    · cases e
end
end
/-- whether two things are equal, where this is carried -/
def eqWD (st : Sto) (a b : W) : Option Bool := match toD st a, toD st b with
  | some d, some e => if SeqAt.shaped d && SeqAt.shaped e then some (d.eqv e) else none
  | _, _ => none
def eqW (st : Sto) (a b : W) : Option Bool :=
  match scalV a, scalV b with
  | some x, some y => if scal x y then some (decide (x = y)) else eqWD st a b
  | _, _ => eqWD st a b
def wEq : F2 := fun a b st => match eqW st a b with
  | some c => .ok (.bl c) st
  | none => .stuck
def wNe : F2 := fun a b st => match eqW st a b with
  | some c => .ok (.bl (!c)) st
  | none => .stuck
def isNon : W → Bool
  | .non => true
  | _ => false
def isBl (c : Bool) : W → Bool
  | .bl b => decide (b = c)
  | _ => false
def wIs : F2 := fun a b st => match b with
  | .non => .ok (.bl (isNon a)) st
  | .bl c => .ok (.bl (isBl c a)) st
  | _ => .stuck
def wIsNot : F2 := fun a b st => match b with
  | .non => .ok (.bl (!isNon a)) st
  | .bl c => .ok (.bl (!isBl c a)) st
  | _ => .stuck
/-- is, is not of flags -/
def rIsF (n : Bool) : R2 := fun x y H Q => ∃ c : Bool, y = .bl c ∧ Q (.bl (xor n (decide (x = .bl c)))) H
theorem op_isF {X : Cx} : OpR X (compareOp .Is) (rIsF false) := by
  intro pins s σ H x y v u Q I rx ry h
  obtain ⟨c, rfl, q⟩ := h
  cases (show u = Value.bool c from ry)
  by_cases e : x = .bl c
  · subst e
    cases (show v = Value.bool c from rx)
    exact PySem.wpAny_is_self rfl ⟨.bl true, H, I, rfl, by simpa using q⟩
  · refine PySem.wpAny_is_other ?_ ?_ ⟨.bl false, H, I, rfl, by simpa [e] using q⟩
    · cases x <;> first
        | (cases rx; rfl)
        | (obtain ⟨t, rfl⟩ := rx; rfl)
    · rintro rfl
      cases x <;> first
        | (cases rx; exact e rfl)
        | (cases rx; done)
        | (obtain ⟨t, z⟩ := rx; cases z)
        | (cases rx)
theorem op_isNotF {X : Cx} : OpR X (compareOp .IsNot) (rIsF true) := by
  intro pins s σ H x y v u Q I rx ry h
  obtain ⟨c, rfl, q⟩ := h
  cases (show u = Value.bool c from ry)
  by_cases e : x = .bl c
  · subst e
    cases (show v = Value.bool c from rx)
    exact PySem.wpAny_isNot_self rfl ⟨.bl false, H, I, rfl, by simpa using q⟩
  · refine PySem.wpAny_isNot_other ?_ ?_ ⟨.bl true, H, I, rfl, by simpa [e] using q⟩
    · cases x <;> first
        | (cases rx; rfl)
        | (obtain ⟨t, rfl⟩ := rx; rfl)
    · rintro rfl
      cases x <;> first
        | (cases rx; exact e rfl)
        | (cases rx; done)
        | (obtain ⟨t, z⟩ := rx; cases z)
        | (cases rx)
def scalVs : List W → Option (List V)
  | [] => some []
  | x :: xs => match scalV x, scalVs xs with
    | some v, some vs => some (v :: vs)
    | _, _ => none
/-- in a list, a tuple of flat things -/
def inW (st : Sto) (a b : W) : Option Bool :=
  match scalV a, (match tupL b with | some xs => scalVs xs | none => match seqL st b with | some xs => scalVs xs | none => none) with
  | some x, some vs => some (inV x vs)
  | _, _ => none
def wIn (neg : Bool) : F2 := fun a b st => match inW st a b with
  | some c => .ok (.bl (if neg = true then !c else c)) st
  | none => match a, b with
    | .str x, .str z => match x.cps.toList with
      | [c] => .ok (.bl (if neg = true then !decide (c ∈ z.cps.toList) else decide (c ∈ z.cps.toList))) st
      | _ => .stuck
    | _, _ => .stuck
def wCmpS (p : Str → Str → Bool) (q : Int → Int → Bool) : F2 := fun a b st => match a, b with
  | .int i, .int j => .ok (.bl (q i j)) st
  | .str i, .str j => .ok (.bl (p i j)) st
  | _, _ => .stuck
section
variable {K : PySem.W.Frag} {T : Nat → Addr} {ρ η : List Addr} {H : Hp} {st : Sto}
theorem eqWD_ok {ρ η : List Addr} {H : Hp} {st : Sto} {a b : W} {x y : V} {c : Bool} (s : SR K T ρ η st H) (ha : VR K ρ η H a x) (hb : VR K ρ η H b y) (e : eqWD st a b = some c) : ∃ d e', Dp K H x d ∧ Dp K H y e' ∧ SeqAt.shaped d = true ∧ SeqAt.shaped e' = true ∧ c = d.eqv e' := by
  unfold eqWD at e
  split at e
  · rename_i d e' e1 e2
    split at e
    · rename_i z
      cases e
      rw [Bool.and_eq_true] at z
      exact ⟨d, e', toD_ok s ha e1, toD_ok s hb e2, z.1, z.2, rfl⟩
    · cases e
  · cases e
theorem ok_eq : OkR K T wEq (rOr rEq (rEqD K)) := by
  intro ρ η st H a b x y Q E s ha hb h
  unfold wEq at h
  cases e : eqW st a b with
  | none => rw [e] at h; exact h.elim
  | some c =>
    rw [e] at h
    have q : Q (.bl c) H := h.ok s (by simp only [VR])
    unfold eqW at e
    split at e
    · rename_i x' y' e1 e2
      split at e
      · rename_i z
        cases e
        have := scal_ok ha e1
        have := scal_ok hb e2
        subst x; subst y
        exact .inl ⟨z, q⟩
      · obtain ⟨d, e', h1, h2, h3, h4, rfl⟩ := eqWD_ok s ha hb e
        exact .inr ⟨d, e', h1, h2, h3, h4, q⟩
    · obtain ⟨d, e', h1, h2, h3, h4, rfl⟩ := eqWD_ok s ha hb e
      exact .inr ⟨d, e', h1, h2, h3, h4, q⟩
theorem ok_ne : OkR K T wNe (rOr rNe (rNeD K)) := by
  intro ρ η st H a b x y Q E s ha hb h
  unfold wNe at h
  cases e : eqW st a b with
  | none => rw [e] at h; exact h.elim
  | some c =>
    rw [e] at h
    have q : Q (.bl (!c)) H := h.ok s (by simp only [VR])
    unfold eqW at e
    split at e
    · rename_i x' y' e1 e2
      split at e
      · rename_i z
        cases e
        have := scal_ok ha e1
        have := scal_ok hb e2
        subst x; subst y
        exact .inl ⟨z, q⟩
      · obtain ⟨d, e', h1, h2, h3, h4, rfl⟩ := eqWD_ok s ha hb e
        exact .inr ⟨d, e', h1, h2, h3, h4, q⟩
    · obtain ⟨d, e', h1, h2, h3, h4, rfl⟩ := eqWD_ok s ha hb e
      exact .inr ⟨d, e', h1, h2, h3, h4, q⟩
theorem non_iff {w : W} {v : V} (h : VR K ρ η H w v) : decide (v = .non) = isNon w := by
  cases w with
  | non => simp only [VR] at h; subst h; rfl
  | bl b => simp only [VR] at h; subst h; rfl
  | int b => simp only [VR] at h; subst h; rfl
  | str b => simp only [VR] at h; subst h; rfl
  | ty b => simp only [VR] at h; subst h; rfl
  | tup xs => simp only [VR] at h; obtain ⟨a, vs, e, _⟩ := h; subst e; rfl
  | lst xs => simp only [VR] at h; obtain ⟨a, vs, e, _⟩ := h; subst e; rfl
  | scr xs => simp only [VR] at h; obtain ⟨a, vs, e, _⟩ := h; subst e; rfl
  | ref i => simp only [VR] at h; obtain ⟨a, _, e⟩ := h; subst e; rfl
  | at_ i => simp only [VR] at h; subst h; rfl
  | fn _ _ _ _ => simp only [VR] at h; obtain ⟨e, _⟩ := h; subst e; rfl
  | exc _ _ _ _ => simp only [VR] at h; obtain ⟨e, _⟩ := h; subst e; rfl
theorem bl_iff {c : Bool} {w : W} {v : V} (h : VR K ρ η H w v) : decide (v = .bl c) = isBl c w := by
  cases w with
  | bl b =>
    simp only [VR] at h
    subst h
    simp [isBl]
  | non => simp only [VR] at h; subst h; simp [isBl]
  | int i => simp only [VR] at h; subst h; simp [isBl]
  | str i => simp only [VR] at h; subst h; simp [isBl]
  | ty i => simp only [VR] at h; subst h; simp [isBl]
  | at_ i => simp only [VR] at h; subst h; simp [isBl]
  | fn _ _ _ _ => simp only [VR] at h; obtain ⟨e, _⟩ := h; subst e; simp [isBl]
  | exc _ _ _ _ => simp only [VR] at h; obtain ⟨e, _⟩ := h; subst e; simp [isBl]
  | ref i => simp only [VR] at h; obtain ⟨_, _, e⟩ := h; subst e; simp [isBl]
  | tup i => simp only [VR] at h; obtain ⟨_, _, e, _⟩ := h; subst e; simp [isBl]
  | lst i => simp only [VR] at h; obtain ⟨_, _, e, _⟩ := h; subst e; simp [isBl]
  | scr i => simp only [VR] at h; obtain ⟨_, _, e, _⟩ := h; subst e; simp [isBl]
theorem ok_is : OkR K T wIs (rOr (fun x y H Q => y = .non ∧ Q (.bl (decide (x = .non))) H) (rIsF false)) := by
  intro ρ η st H a b x y Q E s ha hb h
  unfold wIs at h
  split at h
  · simp only [VR] at hb
    refine .inl ⟨hb, ?_⟩
    rw [non_iff ha]
    exact h.ok s (by simp only [VR])
  · simp only [VR] at hb
    refine .inr ⟨_, hb, ?_⟩
    rw [bl_iff ha]
    exact h.ok s (by simp only [VR, Bool.false_bne])
  · exact h.elim
theorem ok_isnot : OkR K T wIsNot (rOr (fun x y H Q => y = .non ∧ Q (.bl (!decide (x = .non))) H) (rIsF true)) := by
  intro ρ η st H a b x y Q E s ha hb h
  unfold wIsNot at h
  split at h
  · simp only [VR] at hb
    refine .inl ⟨hb, ?_⟩
    rw [non_iff ha]
    exact h.ok s (by simp only [VR])
  · simp only [VR] at hb
    refine .inr ⟨_, hb, ?_⟩
    rw [bl_iff ha]
    exact h.ok s (by simp only [VR, Bool.true_bne])
  · exact h.elim
theorem scals_ok : ∀ {ws : List W} {vs us : List V}, VRs K ρ η H ws vs → scalVs ws = some us → vs = us
  | [], vs, us, h, e => by
    simp only [VRs] at h; simp only [scalVs, Option.some.injEq] at e; subst h; exact e
  | x :: xs, vs, us, h, e => by
    simp only [VRs] at h
    obtain ⟨v, r, h1, h2, h3⟩ := h
    simp only [scalVs] at e
    split at e
    · rename_i d ds' q1 q2
      cases e
      subst h1
      rw [scal_ok h2 q1, scals_ok h3 q2]
    · cases e
theorem scal_flat {w : W} {x : V} (e : scalV w = some x) : flatV x = true := by
  cases w <;> simp [scalV] at e <;> subst e <;> rfl
theorem scals_flat : ∀ {ws : List W} {us : List V}, scalVs ws = some us → us.all flatV = true
  | [], us, e => by simp only [scalVs, Option.some.injEq] at e; subst e; rfl
  | x :: xs, us, e => by
    simp only [scalVs] at e
    split at e
    · rename_i d ds' q1 q2
      cases e
      rw [List.all_cons, scal_flat q1, scals_flat q2]
      rfl
    · cases e
def rInSg (neg : Bool) : R2 := fun x y H Q => ∃ (c : Nat) (z : Str), x = .str ⟨#[c]⟩ ∧ y = .str z ∧ Q (.bl (if neg = true then !decide (c ∈ z.cps.toList) else decide (c ∈ z.cps.toList))) H
theorem ok_in {neg : Bool} : OkR K T (wIn neg) (rOr (rIn K neg) (rInSg neg)) := by
  intro ρ η st H a b x y Q E s ha hb h
  unfold wIn at h
  cases e : inW st a b with
  | some c =>
    rw [e] at h
    have q : Q (.bl (if neg = true then !c else c)) H := h.ok s (by simp only [VR])
    unfold inW at e
    split at e
    · rename_i x' us e1 e2
      cases e
      have := scal_ok ha e1
      subst x
      split at e2
      · rename_i xs q1
        obtain ⟨p, vs, h1, h2, h3⟩ := tup_ok hb q1
        have := scals_ok h3 e2
        subst vs
        exact .inl ⟨p, us, h1, .inr h2, scal_flat e1, scals_flat e2, q⟩
      · split at e2
        · rename_i xs q1
          obtain ⟨p, vs, h1, h2, h3⟩ := seq_ok s hb q1
          have := scals_ok h3 e2
          subst vs
          exact .inl ⟨p, us, h1, .inl h2, scal_flat e1, scals_flat e2, q⟩
        · cases e2
    · cases e
  | none =>
    rw [e] at h
    dsimp only at h
    split at h
    · rename_i cs z
      split at h
      · rename_i c q
        simp only [VR] at ha hb
        refine .inr ⟨c, z, ?_, hb, h.ok s (by simp only [VR])⟩
        rw [ha]
        obtain ⟨⟨l⟩⟩ := cs
        have q : l = [c] := q
        rw [q]
      · exact h.elim
    · exact h.elim
theorem ok_cmpS {p : Str → Str → Bool} {q : Int → Int → Bool} : OkR K T (wCmpS p q) (rOr (rI0 fun i j => .bl (q i j)) (fun x y H Q => ∃ i j, x = .str i ∧ y = .str j ∧ Q (.bl (p i j)) H)) := by
  intro ρ η st H a b x y Q E s ha hb h
  unfold wCmpS at h
  split at h
  · simp only [VR] at ha hb
    exact .inl ⟨_, _, ha, hb, h.ok s (by simp only [VR])⟩
  · simp only [VR] at ha hb
    exact .inr ⟨_, _, ha, hb, h.ok s (by simp only [VR])⟩
  · exact h.elim
end
end Mi
namespace Mi
open PySem L2

/-! ### the mirror of expressions -/
def mVar (i : Nat) : M W := fun env st => match env[i]? with
  | some (some w) => .ok w st
  | _ => .stuck
def mC (w : W) : M W := fun _ st => .ok w st
def mOp (f : F2) (ma mb : M W) : M W := fun env st => (ma env st).bind fun a s1 => (mb env s1).bind fun b s2 => f a b s2
def mNeg (ma : M W) : M W := fun env st => (ma env st).bind fun a s1 => match a with
  | .int i => .ok (.int (-i)) s1
  | _ => .stuck
def toB : W → Sto → Rs Bool
  | .bl b, st => .ok b st
  | _, _ => .stuck
/-- a value's truth -/
def trW (st : Sto) : W → Option Bool
  | .non => some false
  | .bl b => some b
  | .int i => some (i != 0)
  | .str x => if x.length ≤ sizeLine then some ((x.length : Int) != 0) else none
  | .lst xs => some (!xs.isEmpty)
  | .scr xs => some (!xs.isEmpty)
  | .tup xs => some (!xs.isEmpty)
  | .ref i => match st[i]? with
    | some (.lst xs) => some (!xs.isEmpty)
    | some (.dk kvs) => some (!kvs.isEmpty)
    | _ => none
  | _ => none
def mB (ma : M W) : M Bool := fun env st => (ma env st).bind toB
def mTr (ma : M W) : M Bool := fun env st => (ma env st).bind fun a s1 => match trW s1 a with
  | some b => .ok b s1
  | none => .stuck
def mNot (m : M Bool) : M Bool := fun env st => (m env st).bind fun b s1 => .ok (!b) s1
def mAnd (m k : M Bool) : M Bool := fun env st => (m env st).bind fun b s1 => if b = true then k env s1 else .ok false s1
def mOr (m k : M Bool) : M Bool := fun env st => (m env st).bind fun b s1 => if b = true then .ok true s1 else k env s1
def mIf {α : Type} (c : M Bool) (ma mb : M α) : M α := fun env st => (c env st).bind fun b s1 => if b = true then ma env s1 else mb env s1
def mBl (m : M Bool) : M W := fun env st => (m env st).bind fun b s1 => .ok (.bl b) s1
def mNil : M (List W) := fun _ st => .ok [] st
def mCons (ma : M W) (mr : M (List W)) : M (List W) := fun env st => (ma env st).bind fun a s1 => (mr env s1).bind fun r s2 => .ok (a :: r) s2
def mTup (m : M (List W)) : M W := fun env st => (m env st).bind fun ws s1 => .ok (.tup ws) s1
def mLst (fz : Bool) (m : M (List W)) : M W := fun env st => (m env st).bind fun ws s1 => newL fz ws s1
def mDict0 : M W := fun _ st => .ok (.ref st.length) (st ++ [.dk []])
/-- two comparisons in a row -/
def mChain (f g : F2) (ma mb mc : M W) : M W := fun env st => (ma env st).bind fun a s1 => (mb env s1).bind fun b s2 => (f a b s2).bind fun z s3 => match z with
  | .bl true => (mc env s3).bind fun c s4 => g b c s4
  | .bl false => .ok (.bl false) s3
  | _ => .stuck
def wNth (xs : List W) (i : Int) (st : Sto) : Rs W := match atI xs i with
  | some w => .ok w st
  | none => .stuck
def dkOf (st : Sto) : W → Option (List (Key × W))
  | .ref i => match st[i]? with
    | some (.dk kvs) => some kvs
    | some (.lk kvs) => some kvs
    | _ => none
  | _ => none
def keyOf : W → Option Key
  | .int i => some (.inl i)
  | .str x => some (.inr x)
  | _ => none
def lkW (kvs : List (Key × W)) (k : Key) : Option W := (kvs.find? fun kv => decide (kv.1 = k)).map (·.2)
/-- a[b] -/
def wIx : F2 := fun a b st => match dkOf st a with
  | some kvs => match keyOf b with
    | some k => match lkW kvs k with
      | some w => .ok w st
      | none => .stuck
    | none => .stuck
  | none => match b with
    | .int i => match seqL st a with
      | some xs => wNth xs i st
      | none => match a with
        | .tup xs => wNth xs i st
        | .str z => if z.length ≤ sizeLine then (match atI z.cps.toList i with | some c => .ok (.str ⟨#[c]⟩) st | none => .stuck) else .stuck
        | _ => .stuck
    | _ => .stuck
def cutW (xs : List W) (lo hi : Option Int) : List W := List.take (HT.sIx xs.length xs.length hi - HT.sIx xs.length 0 lo) (List.drop (HT.sIx xs.length 0 lo) xs)
def wSl (fz : Bool) (a : W) (lo hi : Option Int) (st : Sto) : Rs W := match seqL st a with
  | some xs => newL fz (cutW xs lo hi) st
  | none => match a with
    | .tup xs => .ok (.tup (cutW xs lo hi)) st
    | _ => .stuck
def mPart (m : M W) : M (Option Int) := fun env st => (m env st).bind fun a s1 => match a with
  | .int i => .ok (some i) s1
  | _ => .stuck
def mNoPart : M (Option Int) := fun _ st => .ok none st
def mSl (fz : Bool) (ma : M W) (ml mh : M (Option Int)) : M W := fun env st => (ma env st).bind fun a s1 => (ml env s1).bind fun lo s2 => (mh env s2).bind fun hi s3 => wSl fz a lo hi s3
def mFld (cs : List Nat) (f : Str) (ma : M W) : M W := fun env st => (ma env st).bind fun a s1 => match a with
  | .ref i => match s1[i]? with
    | some (.ins c fs) => if cs.contains c then (match fs.lookup f with | some w => .ok w s1 | none => .stuck) else .stuck
    | _ => .stuck
  | _ => .stuck

section
variable {X : Cx} {T : Nat → Addr} {Wx : WX'} {pos : Pos}
theorem se_var {i : Nat} {x : Str} (hN : X.N[i]? = some x) (hv : Vis X.env.scope x) (hd : (x == ("__debug__" : Str)) = false := by decide) (hcd : (x == ("__classdict__" : Str)) = false := by decide) : SE X T Wx (.Name x pos) (mVar i) := by
  intro ρ η st env σ H Q s er h
  unfold mVar at h
  split at h
  · rename_i w q
    obtain ⟨v, e, r⟩ := er.2 i w q
    exact ⟨_, pe_var hN hv hd hcd, v, e, h.ok s r⟩
  · exact h.elim
theorem se_c {e : Expr} {v : V} {w : W} (he : PE X e (tC v)) (r : ∀ ρ η H, VR X.K ρ η H w v) : SE X T Wx e (mC w) := fun ρ η st env σ H Q s er h => ⟨_, he, h.ok s (r ρ η H)⟩
theorem se_int {i j} : SE X T Wx (.Constant (.int i) j pos) (mC (.int i)) := se_c pe_int fun _ _ _ => by simp only [VR]
theorem se_bl {i j} : SE X T Wx (.Constant (.bool i) j pos) (mC (.bl i)) := se_c pe_bl fun _ _ _ => by simp only [VR]
theorem se_non {j} : SE X T Wx (.Constant .none j pos) (mC .non) := se_c pe_non fun _ _ _ => by simp only [VR]
theorem se_str {i j} : SE X T Wx (.Constant (.str i) j pos) (mC (.str i)) := se_c pe_str fun _ _ _ => by simp only [VR]
/-- a whole number of the module -/
theorem se_globI {x : Str} {i : Int} {u : Value} (hg : Gl X x) (hm : X.mg x = some u) (hr : RelV (.int i) u) (hd : (x == ("__debug__" : Str)) = false := by decide) : SE X T Wx (.Name x pos) (mC (.int i)) := se_c (pe_glob hg hm hr hd) fun _ _ _ => by simp only [VR]
theorem se_op {a b : Expr} {op : Operator} {r : R2} {f : F2} {ma mb : M W} (ho : OpR X (binaryOp op) r) (hf : OkR X.K T f r) (ha : SE X T Wx a ma) (hb : SE X T Wx b mb) : SE X T Wx (.BinOp a op b pos) (mOp f ma mb) := by
  intro ρ η st env σ H Q s er h
  refine ⟨_, pe_op ho pe_S pe_S, ?_⟩
  refine ha ρ η st env σ H _ s er (h.bind fun w s1 ρ1 H1 v g1 sr1 r1 h1 => ?_)
  refine hb ρ1 η s1 env σ H1 _ sr1 (er.mono g1) (h1.bind fun u s2 ρ2 H2 v2 g2 sr2 r2 h2 => ?_)
  exact hf ρ2 η s2 H2 w u v v2 Q _ sr2 (r1.mono g2) r2 h2
theorem se_cmp {a b : Expr} {op : CmpOp} {r : R2} {f : F2} {ma mb : M W} (ho : OpR X (compareOp op) r) (hf : OkR X.K T f r) (ha : SE X T Wx a ma) (hb : SE X T Wx b mb) (hm : behindInMarks op b = false) : SE X T Wx (.Compare a [op] [b] pos) (mOp f ma mb) := by
  intro ρ η st env σ H Q s er h
  refine ⟨_, pe_cmpR ho pe_S pe_S hm, ?_⟩
  refine ha ρ η st env σ H _ s er (h.bind fun w s1 ρ1 H1 v g1 sr1 r1 h1 => ?_)
  refine hb ρ1 η s1 env σ H1 _ sr1 (er.mono g1) (h1.bind fun u s2 ρ2 H2 v2 g2 sr2 r2 h2 => ?_)
  exact hf ρ2 η s2 H2 w u v v2 Q _ sr2 (r1.mono g2) r2 h2
theorem Rs.bind_assoc {α β γ : Type} (r : Rs α) (k : α → Sto → Rs β) (l : β → Sto → Rs γ) : (r.bind k).bind l = r.bind fun a s => (k a s).bind l := by
  cases r <;> rfl
theorem toB_ok {ρ η : List Addr} {H : Hp} {st : Sto} {w : W} {v : V} {Q : Bool → Hp → Prop} {E : Value → Option Addr → Hp → Prop} (s : SR X.K T ρ η st H) (r : VR X.K ρ η H w v) (h : After X.K T η (fun _ _ => Eq) ρ H (toB w st) Q E) : ∃ k, v = .bl k ∧ Q k H := by
  unfold toB at h
  split at h
  · simp only [VR] at r
    exact ⟨_, r, h.ok s rfl⟩
  · exact h.elim
theorem st_cmp {a b : Expr} {op : CmpOp} {r : R2} {f : F2} {ma mb : M W} (ho : OpR X (compareOp op) r) (hf : OkR X.K T f r) (ha : SE X T Wx a ma) (hb : SE X T Wx b mb) (hm : behindInMarks op b = false) : STt X T Wx (.Compare a [op] [b] pos) (mB (mOp f ma mb)) := by
  intro ρ η st env σ H Q s er h
  refine ⟨_, pt_cmpR ho pe_S pe_S hm, ?_⟩
  unfold mB mOp at h
  rw [Rs.bind_assoc] at h
  refine ha ρ η st env σ H _ s er (h.bind fun w s1 ρ1 H1 v g1 sr1 r1 h1 => ?_)
  rw [Rs.bind_assoc] at h1
  refine hb ρ1 η s1 env σ H1 _ sr1 (er.mono g1) (h1.bind fun u s2 ρ2 H2 v2 g2 sr2 r2 h2 => ?_)
  refine hf ρ2 η s2 H2 w u v v2 _ _ sr2 (r1.mono g2) r2 (h2.bind fun z s3 ρ3 H3 v3 g3 sr3 r3 h3 => ?_)
  exact toB_ok sr3 r3 h3
theorem tr_ok {ρ η : List Addr} {H : Hp} {st : Sto} {w : W} {v : V} {b : Bool} (s : SR X.K T ρ η st H) (r : VR X.K ρ η H w v) (e : trW st w = some b) : TruV X.K v H b := by
  have emp : ∀ {xs : List W} {vs : List V}, VRs X.K ρ η H xs vs → (!xs.isEmpty) = !vs.isEmpty := fun {xs vs} h => by
    have := h.len
    cases xs <;> cases vs <;> simp_all
  cases w with
  | non => simp only [VR] at r; subst r; simp only [trW, Option.some.injEq] at e; exact e.symm
  | bl k => simp only [VR] at r; subst r; simp only [trW, Option.some.injEq] at e; exact e.symm
  | int k => simp only [VR] at r; subst r; simp only [trW, Option.some.injEq] at e; exact e.symm
  | str k =>
    simp only [VR] at r
    subst r
    simp only [trW] at e
    split at e
    · rename_i q
      cases e
      exact ⟨q, rfl⟩
    · cases e
  | ty n => simp [trW] at e
  | at_ n => simp [trW] at e
  | fn _ _ _ _ => simp [trW] at e
  | exc _ _ _ _ => simp [trW] at e
  | lst xs =>
    obtain ⟨a, vs, h1, h2, h3⟩ := seq_ok s r (show seqL st (.lst xs) = some xs from rfl)
    simp only [trW, Option.some.injEq] at e
    subst h1; subst e
    exact .inl ⟨vs, h2, emp h3⟩
  | scr xs =>
    obtain ⟨a, vs, h1, h2, h3⟩ := seq_ok s r (show seqL st (.scr xs) = some xs from rfl)
    simp only [trW, Option.some.injEq] at e
    subst h1; subst e
    exact .inl ⟨vs, h2, emp h3⟩
  | tup xs =>
    obtain ⟨a, vs, h1, h2, h3⟩ := tup_ok r (show tupL (.tup xs) = some xs from rfl)
    simp only [trW, Option.some.injEq] at e
    subst h1; subst e
    exact .inr (.inl ⟨vs, h2, emp h3⟩)
  | ref i =>
    simp only [trW] at e
    split at e
    · rename_i xs q
      obtain ⟨a, h1, _, vs, h2, h3⟩ := node_at s r q
      cases e
      subst h1
      exact .inl ⟨vs, SqL.of h2, emp h3⟩
    · rename_i xs q
      obtain ⟨a, h1, _, kv, h2, h3, h4⟩ := node_at s r q
      cases e
      subst h1
      refine .inr (.inr ⟨kv, h2, ?_⟩)
      have := congrArg List.length h3
      cases xs <;> cases kv <;> simp_all
    · cases e
theorem st_tr {e : Expr} {m : M W} (he : SE X T Wx e m) (hi : ∀ whole, isTrue e X.env whole = (do let v ← whole; standAt e.pos; holding [v] (truthy v)) := by intro _; rfl) : STt X T Wx e (mTr m) := by
  intro ρ η st env σ H Q s er h
  refine ⟨_, pt_truth pe_S hi, ?_⟩
  refine he ρ η st env σ H _ s er (h.bind fun w s1 ρ1 H1 v g1 sr1 r1 h1 => ?_)
  cases e : trW s1 w with
  | none => rw [e] at h1; exact h1.elim
  | some b =>
    rw [e] at h1
    exact ⟨b, tr_ok sr1 r1 e, h1.ok sr1 rfl⟩
theorem st_not {e : Expr} {m : M Bool} (he : STt X T Wx e m) : STt X T Wx (.UnaryOp .Not e pos) (mNot m) := by
  intro ρ η st env σ H Q s er h
  refine ⟨_, pt_not pt_S, ?_⟩
  refine he ρ η st env σ H _ s er (h.bind fun b s1 ρ1 H1 v g1 sr1 r1 h1 => ?_)
  subst r1
  exact h1.ok sr1 rfl
theorem sw_and1 {e : Expr} {m : M Bool} (he : STt X T Wx e m) : SWt X T Wx (.BoolOp .And [e] pos) m := fun ρ η st env σ H Q s er h => ⟨_, pw_and1 pt_S, he ρ η st env σ H _ s er h⟩
theorem sw_or1 {e : Expr} {m : M Bool} (he : STt X T Wx e m) : SWt X T Wx (.BoolOp .Or [e] pos) m := fun ρ η st env σ H Q s er h => ⟨_, pw_or1 pt_S, he ρ η st env σ H _ s er h⟩
theorem sw_and {a b : Expr} {rest : List Expr} {m k : M Bool} (ha : STt X T Wx a m) (hb : SWt X T Wx (.BoolOp .And (b :: rest) pos) k) : SWt X T Wx (.BoolOp .And (a :: b :: rest) pos) (mAnd m k) := by
  intro ρ η st env σ H Q s er h
  refine ⟨_, pw_and pt_S pw_S, ?_⟩
  refine ha ρ η st env σ H _ s er (h.bind fun b s1 ρ1 H1 v g1 sr1 r1 h1 => ?_)
  subst r1
  cases b with
  | true => exact iteT (hb ρ1 η s1 env σ H1 Q sr1 (er.mono g1) h1)
  | false => exact iteF (h1.ok sr1 rfl)
theorem sw_or {a b : Expr} {rest : List Expr} {m k : M Bool} (ha : STt X T Wx a m) (hb : SWt X T Wx (.BoolOp .Or (b :: rest) pos) k) : SWt X T Wx (.BoolOp .Or (a :: b :: rest) pos) (mOr m k) := by
  intro ρ η st env σ H Q s er h
  refine ⟨_, pw_or pt_S pw_S, ?_⟩
  refine ha ρ η st env σ H _ s er (h.bind fun b s1 ρ1 H1 v g1 sr1 r1 h1 => ?_)
  subst r1
  cases b with
  | true => exact iteT (h1.ok sr1 rfl)
  | false => exact iteF (hb ρ1 η s1 env σ H1 Q sr1 (er.mono g1) h1)
theorem st_w {e : Expr} {m : M Bool} (h : SWt X T Wx e m) : STt X T Wx e m := fun ρ η st env σ H Q s er q => by
  obtain ⟨t, h1, h2⟩ := h ρ η st env σ H Q s er q
  exact ⟨t, h1.pt, h2⟩
/-- bools as values -/
theorem se_and1 {op} {e : Expr} {m : M Bool} (he : SE X T Wx e (mBl m)) : SE X T Wx (.BoolOp op [e] pos) (mBl m) := fun ρ η st env σ H Q s er h => ⟨_, pe_one pe_S, he ρ η st env σ H _ s er h⟩
theorem se_and {a b : Expr} {rest : List Expr} {m k : M Bool} (ha : SE X T Wx a (mBl m)) (hb : SE X T Wx (.BoolOp .And (b :: rest) pos) (mBl k)) : SE X T Wx (.BoolOp .And (a :: b :: rest) pos) (mBl (mAnd m k)) := by
  intro ρ η st env σ H Q s er h
  refine ⟨_, pe_and pe_S pe_S, ?_⟩
  unfold mBl mAnd at h
  rw [Rs.bind_assoc] at h
  have h' : After X.K T η (fun ρ H => VR X.K ρ η H) ρ H ((mBl m env st).bind fun w s1 => match w with | .bl b => (if b = true then k env s1 else Rs.ok false s1).bind fun b s1 => .ok (.bl b) s1 | _ => .stuck) Q (fun c d H' => Wx c d σ H') := by
    unfold mBl
    rw [Rs.bind_assoc]
    exact h
  refine ha ρ η st env σ H _ s er (h'.bind fun w s1 ρ1 H1 v g1 sr1 r1 h1 => ?_)
  split at h1
  · rename_i c
    simp only [VR] at r1
    refine ⟨c, r1, ?_⟩
    cases c with
    | true => exact iteT (hb ρ1 η s1 env σ H1 Q sr1 (er.mono g1) h1)
    | false => exact iteF (h1.ok sr1 (by simp only [VR]))
  · exact h1.elim
theorem se_or {a b : Expr} {rest : List Expr} {m k : M Bool} (ha : SE X T Wx a (mBl m)) (hb : SE X T Wx (.BoolOp .Or (b :: rest) pos) (mBl k)) : SE X T Wx (.BoolOp .Or (a :: b :: rest) pos) (mBl (mOr m k)) := by
  intro ρ η st env σ H Q s er h
  refine ⟨_, pe_or pe_S pe_S, ?_⟩
  unfold mBl mOr at h
  rw [Rs.bind_assoc] at h
  have h' : After X.K T η (fun ρ H => VR X.K ρ η H) ρ H ((mBl m env st).bind fun w s1 => match w with | .bl b => (if b = true then Rs.ok true s1 else k env s1).bind fun b s1 => .ok (.bl b) s1 | _ => .stuck) Q (fun c d H' => Wx c d σ H') := by
    unfold mBl
    rw [Rs.bind_assoc]
    exact h
  refine ha ρ η st env σ H _ s er (h'.bind fun w s1 ρ1 H1 v g1 sr1 r1 h1 => ?_)
  split at h1
  · rename_i c
    simp only [VR] at r1
    refine ⟨c, r1, ?_⟩
    cases c with
    | true => exact iteT (h1.ok sr1 (by simp only [VR]))
    | false => exact iteF (hb ρ1 η s1 env σ H1 Q sr1 (er.mono g1) h1)
  · exact h1.elim
theorem se_not {e : Expr} {m : M Bool} (he : SE X T Wx e (mBl m)) : SE X T Wx (.UnaryOp .Not e pos) (mBl (mNot m)) := by
  intro ρ η st env σ H Q s er h
  refine ⟨_, pe_not pe_S, ?_⟩
  have h' : After X.K T η (fun ρ H => VR X.K ρ η H) ρ H ((mBl m env st).bind fun w s1 => match w with | .bl b => .ok (.bl (!b)) s1 | _ => .stuck) Q (fun c d H' => Wx c d σ H') := by
    unfold mBl
    rw [Rs.bind_assoc]
    unfold mBl mNot at h
    rw [Rs.bind_assoc] at h
    exact h
  refine he ρ η st env σ H _ s er (h'.bind fun w s1 ρ1 H1 v g1 sr1 r1 h1 => ?_)
  split at h1
  · rename_i c
    simp only [VR] at r1
    exact ⟨c, r1, h1.ok sr1 (by simp only [VR])⟩
  · exact h1.elim
/-- a bool as a value, by its mirror -/
theorem se_bB {e : Expr} {m : M W} (he : SE X T Wx e m) : SE X T Wx e (mBl (mB m)) := by
  intro ρ η st env σ H Q s er h
  refine he ρ η st env σ H Q s er ?_
  unfold mBl mB at h
  rw [Rs.bind_assoc] at h
  cases q : m env st with
  | ok w s1 =>
    rw [q] at h
    cases w with
    | bl b => exact h
    | _ => exact h.elim
  | ex x s1 => rw [q] at h; exact h
  | stuck => rw [q] at h; exact h
theorem se_ifx {c a b : Expr} {m : M Bool} {ma mb : M W} (hc : STt X T Wx c m) (ha : SE X T Wx a ma) (hb : SE X T Wx b mb) : SE X T Wx (.IfExp c a b pos) (mIf m ma mb) := by
  intro ρ η st env σ H Q s er h
  refine ⟨_, pe_ifExp pt_S pe_S pe_S, ?_⟩
  refine hc ρ η st env σ H _ s er (h.bind fun b s1 ρ1 H1 v g1 sr1 r1 h1 => ?_)
  subst r1
  cases b with
  | true => exact iteT (ha ρ1 η s1 env σ H1 Q sr1 (er.mono g1) h1)
  | false => exact iteF (hb ρ1 η s1 env σ H1 Q sr1 (er.mono g1) h1)
theorem se_neg {e : Expr} {m : M W} (he : SE X T Wx e m) : SE X T Wx (.UnaryOp .USub e pos) (mNeg m) := by
  intro ρ η st env σ H Q s er h
  refine ⟨_, pe_un un_neg pe_S, ?_⟩
  refine he ρ η st env σ H _ s er (h.bind fun w s1 ρ1 H1 v g1 sr1 r1 h1 => ?_)
  split at h1
  · simp only [VR] at r1
    exact ⟨_, r1, h1.ok sr1 (by simp only [VR])⟩
  · exact h1.elim
end
end Mi
namespace Mi
open PySem L2
section
variable {X : Cx} {T : Nat → Addr} {Wx : WX'} {pos : Pos}
/-! ### argument lists, displays -/
theorem sa_nil : SA X T Wx [] mNil := fun ρ η st env σ H Q s er h => ⟨_, pa_nil, h.ok s VRs.nil⟩
theorem sa_cons {e : Expr} {es : List Expr} {m : M W} {k : M (List W)} (he : SE X T Wx e m) (hs : SA X T Wx es k) (hst : starEach (e :: es) X.env = (false, eval e X.env) :: starEach es X.env := by rfl) : SA X T Wx (e :: es) (mCons m k) := by
  intro ρ η st env σ H Q s er h
  refine ⟨_, pa_cons pe_S pa_S hst, ?_⟩
  refine he ρ η st env σ H _ s er (h.bind fun w s1 ρ1 H1 v g1 sr1 r1 h1 => ?_)
  refine hs ρ1 η s1 env σ H1 _ sr1 (er.mono g1) (h1.bind fun ws s2 ρ2 H2 vs g2 sr2 r2 h2 => ?_)
  exact h2.ok sr2 (VRs.cons (r1.mono g2) r2)
/-- how long an argument list is -/
def ArgLen (n : Nat) (m : M (List W)) : Prop := ∀ env st ws st', m env st = .ok ws st' → ws.length = n
theorem len_nil : ArgLen 0 mNil := fun env st ws st' h => by
  simp only [mNil, Rs.ok.injEq] at h
  rw [← h.1]; rfl
theorem len_cons {n : Nat} {m : M W} {k : M (List W)} (h : ArgLen n k) : ArgLen (n + 1) (mCons m k) := fun env st ws st' e => by
  unfold mCons at e
  cases q : m env st with
  | ok w s1 =>
    rw [q] at e
    simp only [Rs.bind] at e
    cases q2 : k env s1 with
    | ok r s2 =>
      rw [q2] at e
      simp only [Rs.ok.injEq] at e
      rw [← e.1, List.length_cons, h env s1 r s2 q2]
    | ex x s2 => rw [q2] at e; cases e
    | stuck => rw [q2] at e; cases e
  | ex x s1 => rw [q] at e; cases e
  | stuck => rw [q] at e; cases e
theorem se_tup {es : List Expr} {k : M (List W)} {n : Nat} {x1} (h : SA X T Wx es k) (hl : ArgLen n k) (hn : n ≤ 1000 := by decide) : SE X T Wx (.Tuple es x1 pos) (mTup k) := by
  intro ρ η st env σ H Q s er q
  refine ⟨_, pe_tup pa_S, ?_⟩
  have ql : ∀ ws st', k env st = .ok ws st' → ws.length = n := fun ws st' e => hl env st ws st' e
  refine h ρ η st env σ H _ s er ?_
  unfold mTup at q
  cases e : k env st with
  | ok ws s1 =>
    rw [e] at q
    refine fun ρ1 H1 vs g1 sr1 r1 => ⟨?_, fun p hp => newT_ok (After.grow g1 q) sr1 r1 hp⟩
    rw [r1.len, ql ws s1 e]
    exact Nat.le_trans hn (by decide)
  | ex x s1 => rw [e] at q; exact q
  | stuck => rw [e] at q; exact q
theorem se_lst {fz : Bool} {es : List Expr} {k : M (List W)} {n : Nat} (h : SA X T Wx es k) (hl : ArgLen n k) (hn : n ≤ 1000 := by decide) : SE X T Wx (.List es pos) (mLst fz k) := by
  intro ρ η st env σ H Q s er q
  refine ⟨_, pe_lst pa_S, ?_⟩
  have ql : ∀ ws st', k env st = .ok ws st' → ws.length = n := fun ws st' e => hl env st ws st' e
  refine h ρ η st env σ H _ s er ?_
  unfold mLst at q
  cases e : k env st with
  | ok ws s1 =>
    rw [e] at q
    refine fun ρ1 H1 vs g1 sr1 r1 => ⟨?_, fun p hp => newL_ok (After.grow g1 q) sr1 r1 hp⟩
    rw [r1.len, ql ws s1 e]
    exact Nat.le_trans hn (by decide)
  | ex x s1 => rw [e] at q; exact q
  | stuck => rw [e] at q; exact q
theorem se_dict0 : SE X T Wx (.Dict [] [] pos) mDict0 := by
  intro ρ η st env σ H Q s er h
  refine ⟨_, pe_dnewK, fun d hd => ?_⟩
  refine h (ρ ++ [d]) _ _ (Grow.node hd) (s.node hd ⟨[], upd_same, rfl, VRs.nil⟩) ?_
  simp only [VR]
  exact ⟨d, by rw [← s.len, List.getElem?_append_right (Nat.le_refl _)]; simp, rfl⟩
/-- a op b op' c -/
theorem se_chain {a b c : Expr} {op op' : CmpOp} {r r' : R2} {f g : F2} {ma mb mc : M W} (ho : OpR X (compareOp op) r) (hf : OkR X.K T f r) (ho' : OpR X (compareOp op') r') (hg : OkR X.K T g r') (ha : SE X T Wx a ma) (hb : SE X T Wx b mb) (hc : SE X T Wx c mc)
    (hl : lastMarks [op, op'] [b, c] = false := by rfl) : SE X T Wx (.Compare a [op, op'] [b, c] pos) (mChain f g ma mb mc) := by
  intro ρ η st env σ H Q s er h
  refine ⟨_, pe_chain ho ho' pe_S pe_S pe_S hl, ?_⟩
  refine ha ρ η st env σ H _ s er (h.bind fun w s1 ρ1 H1 v g1 sr1 r1 h1 => ?_)
  refine hb ρ1 η s1 env σ H1 _ sr1 (er.mono g1) (h1.bind fun u s2 ρ2 H2 v2 g2 sr2 r2 h2 => ?_)
  refine hf ρ2 η s2 H2 w u v v2 _ _ sr2 (r1.mono g2) r2 (h2.bind fun z s3 ρ3 H3 v3 g3 sr3 r3 h3 => ?_)
  split at h3
  · simp only [VR] at r3
    refine ⟨true, r3, iteT ?_⟩
    refine hc ρ3 η s3 env σ H3 _ sr3 ((er.mono g1).mono (g2.trans g3)) (h3.bind fun x s4 ρ4 H4 v4 g4 sr4 r4 h4 => ?_)
    exact hg ρ4 η s4 H4 u x v2 v4 Q _ sr4 (r2.mono (g3.trans g4)) r4 h4
  · simp only [VR] at r3
    exact ⟨false, r3, iteF (h3.ok sr3 (by simp only [VR]))⟩
  · exact h3.elim
theorem st_chain {a b c : Expr} {op op' : CmpOp} {r r' : R2} {f g : F2} {ma mb mc : M W} (ho : OpR X (compareOp op) r) (hf : OkR X.K T f r) (ho' : OpR X (compareOp op') r') (hg : OkR X.K T g r') (ha : SE X T Wx a ma) (hb : SE X T Wx b mb) (hc : SE X T Wx c mc)
    (hl : lastMarks [op, op'] [b, c] = false := by rfl) : STt X T Wx (.Compare a [op, op'] [b, c] pos) (mB (mChain f g ma mb mc)) := by
  intro ρ η st env σ H Q s er h
  refine ⟨_, pt_chain ho ho' pe_S pe_S pe_S hl, ?_⟩
  unfold mB mChain at h
  rw [Rs.bind_assoc] at h
  refine ha ρ η st env σ H _ s er (h.bind fun w s1 ρ1 H1 v g1 sr1 r1 h1 => ?_)
  rw [Rs.bind_assoc] at h1
  refine hb ρ1 η s1 env σ H1 _ sr1 (er.mono g1) (h1.bind fun u s2 ρ2 H2 v2 g2 sr2 r2 h2 => ?_)
  rw [Rs.bind_assoc] at h2
  refine hf ρ2 η s2 H2 w u v v2 _ _ sr2 (r1.mono g2) r2 (h2.bind fun z s3 ρ3 H3 v3 g3 sr3 r3 h3 => ?_)
  split at h3
  · simp only [VR] at r3
    refine ⟨true, r3, iteT ?_⟩
    rw [Rs.bind_assoc] at h3
    refine hc ρ3 η s3 env σ H3 _ sr3 ((er.mono g1).mono (g2.trans g3)) (h3.bind fun x s4 ρ4 H4 v4 g4 sr4 r4 h4 => ?_)
    exact hg ρ4 η s4 H4 u x v2 v4 _ _ sr4 (r2.mono (g3.trans g4)) r4 (h4.bind fun y s5 ρ5 H5 v5 g5 sr5 r5 h5 => toB_ok sr5 r5 h5)
  · simp only [VR] at r3
    exact ⟨false, r3, iteF ⟨false, rfl, h3.ok sr3 rfl⟩⟩
  · exact h3.elim

/-! ### subscripts -/
theorem VRs.atI {ρ η : List Addr} {H : Hp} {xs : List W} {vs : List V} {i : Int} {w : W} (r : VRs X.K ρ η H xs vs) (e : atI xs i = some w) : ∃ v, atI vs i = some v ∧ VR X.K ρ η H w v := by
  unfold L2.atI at e ⊢
  rw [r.len]
  cases q : ixN xs.length i with
  | none => rw [q] at e; cases e
  | some j =>
    rw [q] at e
    exact r.get e
theorem kv_find {ρ η : List Addr} {H : Hp} : ∀ {kvs : List (Key × W)} {kv : List (Key × V)} {k : Key}, kv.map (·.1) = kvs.map (·.1) → VRs X.K ρ η H (kvs.map (·.2)) (kv.map (·.2)) →
    (lkW kvs k = none ∧ valV kv k = none) ∨ ∃ w v, lkW kvs k = some w ∧ valV kv k = some v ∧ VR X.K ρ η H w v
  | [], [], k, _, _ => .inl ⟨rfl, rfl⟩
  | [], p :: kv, k, e, _ => by simp at e
  | p :: kvs, [], k, e, _ => by simp at e
  | (a, w) :: kvs, (b, v) :: kv, k, e, r => by
    simp only [List.map_cons, List.cons.injEq] at e
    obtain ⟨e1, e2⟩ := e
    subst e1
    rw [List.map_cons, List.map_cons] at r
    simp only [VRs] at r
    obtain ⟨v', r', q1, q2, q3⟩ := r
    simp only [List.cons.injEq] at q1
    obtain ⟨q1, q4⟩ := q1
    subst q1; subst q4
    by_cases z : b = k
    · refine .inr ⟨w, v, ?_, ?_, q2⟩
      · simp [lkW, z]
      · simp [valV, z]
    · rcases kv_find (k := k) e2 q3 with ⟨h1, h2⟩ | ⟨w', v', h1, h2, h3⟩
      · refine .inl ⟨?_, ?_⟩
        · simpa [lkW, z] using h1
        · simpa [valV, z] using h2
      · refine .inr ⟨w', v', ?_, ?_, h3⟩
        · simpa [lkW, z] using h1
        · simpa [valV, z] using h2
theorem key_ok {ρ η : List Addr} {H : Hp} {w : W} {v : V} {k : Key} (r : VR X.K ρ η H w v) (e : keyOf w = some k) : v = kV k := by
  cases w <;> simp [keyOf] at e <;> subst e <;> simp only [VR] at r <;> exact r
theorem dk_ok {ρ η : List Addr} {H : Hp} {st : Sto} {w : W} {v : V} {kvs : List (Key × W)} (s : SR X.K T ρ η st H) (r : VR X.K ρ η H w v) (e : dkOf st w = some kvs) :
    ∃ a kv, v = .ref a ∧ Rd H a (.dK kv) ∧ kv.map (·.1) = kvs.map (·.1) ∧ VRs X.K ρ η H (kvs.map (·.2)) (kv.map (·.2)) := by
  cases w with
  | ref i =>
    simp only [dkOf] at e
    split at e
    · rename_i ks q
      cases e
      obtain ⟨a, h1, _, kv, h2, h3, h4⟩ := node_at s r q
      exact ⟨a, kv, h1, .inl h2, h3, h4⟩
    · rename_i ks q
      cases e
      obtain ⟨a, h1, _, od, kv, h2, h3, h4⟩ := node_at s r q
      exact ⟨a, kv, h1, .inr ⟨od, h2⟩, h3, h4⟩
    · cases e
  | _ => simp [dkOf] at e
theorem nth_ok {ρ η : List Addr} {H : Hp} {st : Sto} {xs : List W} {vs : List V} {i : Int} {Q : V → Hp → Prop} {E : Value → Option Addr → Hp → Prop} (s : SR X.K T ρ η st H) (r : VRs X.K ρ η H xs vs) (h : After X.K T η (fun ρ H => VR X.K ρ η H) ρ H (wNth xs i st) Q E) :
    ∃ v, atI vs i = some v ∧ Q v H := by
  unfold wNth at h
  split at h
  · rename_i w q
    obtain ⟨v, h1, h2⟩ := r.atI q
    exact ⟨v, h1, h.ok s h2⟩
  · exact h.elim
theorem After.bindE {α β γ δ : Type} {K : PySem.W.Frag} {ρ η : List Addr} {H : Hp} {R : List Addr → Hp → α → β → Prop} {R' : List Addr → Hp → γ → δ → Prop} {r : Rs α} {k : α → Sto → Rs γ} {Q : δ → Hp → Prop} {Q1 : β → Hp → Prop} {E : Value → Option Addr → Hp → Prop} (h : After K T η R' ρ H (r.bind k) Q E)
    (f : ∀ w st1 ρ1 H1 v, r = .ok w st1 → Grow ρ H ρ1 H1 → SR K T ρ1 η st1 H1 → R ρ1 H1 w v → After K T η R' ρ1 H1 (k w st1) Q E → Q1 v H1) : After K T η R ρ H r Q1 E := by
  cases r with
  | ok w s => exact fun ρ1 H1 v g s1 r1 => f w s ρ1 H1 v rfl g s1 r1 (After.grow g h)
  | ex x s => exact h
  | stuck => exact h
theorem se_ix {a b : Expr} {ma mb : M W} (hu : X.A.units + 1 < cLine) (ha : SE X T Wx a ma) (hb : SE X T Wx b mb) (hp : PlainIx b := by intro _ _; rfl) : SE X T Wx (.Subscript a b pos) (mOp wIx ma mb) := by
  intro ρ η st env σ H Q s er h
  by_cases hd : ∃ w s1 u s2 kvs, ma env st = .ok w s1 ∧ mb env s1 = .ok u s2 ∧ dkOf s2 w = some kvs
  · obtain ⟨w, s1, u, s2, kvs, e1, e2, e3⟩ := hd
    refine ⟨_, pe_dget hu pe_S pe_S hp, ?_⟩
    refine ha ρ η st env σ H _ s er (After.bindE h fun w' s1' ρ1 H1 v q1 g1 sr1 r1 h1 => ?_)
    rw [e1] at q1
    cases q1
    refine hb ρ1 η s1 env σ H1 _ sr1 (er.mono g1) (After.bindE h1 fun u' s2' ρ2 H2 v2 q2 g2 sr2 r2 h2 => ?_)
    rw [e2] at q2
    cases q2
    unfold wIx at h2
    rw [e3] at h2
    dsimp only at h2
    split at h2
    · rename_i k q3
      obtain ⟨p, kv, f1, f2, f3, f4⟩ := dk_ok sr2 (r1.mono g2) e3
      rcases kv_find (k := k) f3 f4 with ⟨z1, z2⟩ | ⟨y, z, z1, z2, z3⟩
      · rw [z1] at h2; exact h2.elim
      · rw [z1] at h2
        refine ⟨p, z, f1, .inl ⟨kv, k, f2, key_ok r2 q3, z2.symm⟩, h2.ok sr2 z3⟩
    · exact h2.elim
  · refine ⟨_, pe_ix (IxR.or ix_list (IxR.or ix_tup ix_str)) pe_S pe_S hp, ?_⟩
    refine ha ρ η st env σ H _ s er (After.bindE h fun w s1 ρ1 H1 v q1 g1 sr1 r1 h1 => ?_)
    refine hb ρ1 η s1 env σ H1 _ sr1 (er.mono g1) (After.bindE h1 fun u s2 ρ2 H2 v2 q2 g2 sr2 r2 h2 => ?_)
    have nd : dkOf s2 w = none := by
      cases e : dkOf s2 w with
      | none => rfl
      | some kvs => exact absurd ⟨w, s1, u, s2, kvs, q1, q2, e⟩ hd
    unfold wIx at h2
    rw [nd] at h2
    dsimp only at h2
    have rw1 := r1.mono g2
    split at h2
    · rename_i i
      simp only [VR] at r2
      split at h2
      · rename_i xs q3
        obtain ⟨p, vs, f1, f2, f3⟩ := seq_ok sr2 rw1 q3
        obtain ⟨z, z1, z2⟩ := nth_ok sr2 f3 h2
        exact .inl ⟨p, vs, i, z, f1, r2, f2, z1, z2⟩
      · split at h2
        · rename_i xs _
          obtain ⟨p, vs, f1, f2, f3⟩ := tup_ok rw1 (show tupL (.tup xs) = some xs from rfl)
          obtain ⟨z, z1, z2⟩ := nth_ok sr2 f3 h2
          exact .inr (.inl ⟨p, vs, i, z, f1, r2, f2, z1, z2⟩)
        · rename_i z _
          split at h2
          · rename_i lz
            split at h2
            · rename_i c q4
              simp only [VR] at rw1
              exact .inr (.inr ⟨z, i, c, rw1, r2, lz, q4, h2.ok sr2 (by simp only [VR])⟩)
            · exact h2.elim
          · exact h2.elim
        · exact h2.elim
    · exact h2.elim
/-! ### slices -/
theorem VRs.cut {ρ η : List Addr} {H : Hp} {xs : List W} {vs : List V} (r : VRs X.K ρ η H xs vs) (lo hi : Option Int) : VRs X.K ρ η H (cutW xs lo hi) (cutV vs lo hi) := by
  unfold cutW cutV
  rw [r.len]
  exact (r.drop _).take _
def SPt (e : Option Expr) (m : M (Option Int)) : Prop := ∀ ρ η st env σ H Q, SR X.K T ρ η st H → ER X.K ρ η H env σ → After X.K T η (fun _ _ => Eq) ρ H (m env st) Q (fun c d H' => Wx c d σ H') → ∃ t, PO X e t ∧ t σ H Q
theorem sp_none : SPt (X := X) (T := T) (Wx := Wx) none mNoPart := fun ρ η st env σ H Q s er h => ⟨_, po_none, h.ok s rfl⟩
theorem sp_some {e : Expr} {m : M W} (he : SE X T Wx e m) : SPt (X := X) (T := T) (Wx := Wx) (some e) (mPart m) := by
  intro ρ η st env σ H Q s er h
  refine ⟨_, po_some pe_S, ?_⟩
  refine he ρ η st env σ H _ s er (h.bind fun w s1 ρ1 H1 v g1 sr1 r1 h1 => ?_)
  split at h1
  · rename_i i
    simp only [VR] at r1
    exact ⟨i, r1, h1.ok sr1 rfl⟩
  · exact h1.elim
def tSO (e : Option Expr) : TO := fun σ H Q => ∃ t, PO X e t ∧ t σ H Q
theorem po_S {e : Option Expr} : PO X e (tSO (X := X) e) := ⟨fun pins s σ H Q I ⟨_, h, q⟩ => h.run pins s σ H Q I q⟩
theorem se_sl {fz : Bool} {a : Expr} {lo hi : Option Expr} {ma : M W} {ml mh : M (Option Int)} {p2 : Pos} (ha : SE X T Wx a ma) (hl : SPt (X := X) (T := T) (Wx := Wx) lo ml) (hh : SPt (X := X) (T := T) (Wx := Wx) hi mh) :
    SE X T Wx (.Subscript a (.Slice lo hi none p2) pos) (mSl fz ma ml mh) := by
  intro ρ η st env σ H Q s er h
  refine ⟨_, pe_slice (L2.SlR.or sl_list sl_tupA) pe_S po_S po_S, ?_⟩
  refine ha ρ η st env σ H _ s er (h.bind fun w s1 ρ1 H1 v g1 sr1 r1 h1 => ?_)
  refine hl ρ1 η s1 env σ H1 _ sr1 (er.mono g1) (h1.bind fun l s2 ρ2 H2 l' g2 sr2 r2 h2 => ?_)
  subst r2
  refine hh ρ2 η s2 env σ H2 _ sr2 ((er.mono g1).mono g2) (h2.bind fun u s3 ρ3 H3 u' g3 sr3 r3 h3 => ?_)
  subst r3
  have r := r1.mono (g2.trans g3)
  unfold wSl at h3
  split at h3
  · rename_i xs q
    obtain ⟨p, vs, f1, f2, f3⟩ := seq_ok sr3 r q
    exact .inl ⟨p, vs, f1, f2, fun d hd => newL_ok h3 sr3 (f3.cut l u) hd⟩
  · split at h3
    · rename_i xs q
      have r' := r
      obtain ⟨p, vs, f1, f2, f3⟩ := tup_ok r (show tupL (.tup xs) = some xs from rfl)
      refine .inr ⟨p, vs, f1, f2, fun z => ?_, fun _ d hd => newT_ok h3 sr3 (f3.cut l u) hd⟩
      refine h3.ok sr3 ?_
      have e : cutW xs l u = xs := by
        rw [f3.len] at z
        unfold cutW
        rw [z.1, z.2, Nat.sub_zero, List.drop_zero, List.take_of_length_le (Nat.le_refl _)]
      rw [e, ← f1]
      exact r'
    · exact h3.elim
/-! ### fields -/
theorem fv_find {ρ η : List Addr} {H : Hp} : ∀ {fs : List (Str × W)} {fv : List (Str × V)} {f : Str} {w : W}, fv.map (·.1) = fs.map (·.1) → VRs X.K ρ η H (fs.map (·.2)) (fv.map (·.2)) → fs.lookup f = some w → ∃ v, fv.lookup f = some v ∧ VR X.K ρ η H w v
  | [], _, _, _, _, _, h => by simp at h
  | (a, y) :: fs, [], _, _, e, _, _ => by simp at e
  | (a, y) :: fs, (b, z) :: fv, f, w, e, r, h => by
    simp only [List.map_cons, List.cons.injEq] at e
    obtain ⟨e1, e2⟩ := e
    subst e1
    rw [List.map_cons, List.map_cons] at r
    simp only [VRs] at r
    obtain ⟨v', r', q1, q2, q3⟩ := r
    simp only [List.cons.injEq] at q1
    obtain ⟨q1, q4⟩ := q1
    subst q1; subst q4
    rw [List.lookup_cons] at h ⊢
    split at h
    · cases h
      exact ⟨z, rfl, q2⟩
    · exact fv_find e2 q3 h
theorem se_fld {cs : List Nat} {a : Expr} {f : Str} {ma : M W} (ha : SE X T Wx a ma) (hc : ∀ c ∈ cs, Cls X.K (T c) ∧ NoAttr X.K (T c) f) (hb : attributeBase a f X.env (eval a X.env) = eval a X.env := by rfl) : SE X T Wx (.Attribute a f pos) (mFld cs f ma) := by
  intro ρ η st env σ H Q s er h
  refine ⟨_, pe_fld pe_S hb, ?_⟩
  refine ha ρ η st env σ H _ s er (h.bind fun w s1 ρ1 H1 v g1 sr1 r1 h1 => ?_)
  split at h1
  · rename_i i
    split at h1
    · rename_i c fs q
      split at h1
      · rename_i z
        split at h1
        · rename_i w' q2
          obtain ⟨p, e1, _, dx, fv, e2, e3, e4⟩ := node_at sr1 r1 q
          obtain ⟨v', e5, e6⟩ := fv_find e3 e4 q2
          obtain ⟨k1, k2⟩ := hc c (by simpa using z)
          exact ⟨p, T c, dx, fv, v', e1, e2, k1, k2, e5, h1.ok sr1 e6⟩
        · exact h1.elim
      · exact h1.elim
    · exact h1.elim
  · exact h1.elim
end
end Mi
namespace Mi
open PySem L2
inductive SRs where
  | nx (env : Ev) (s : Sto) | rt (w : W) (s : Sto) | bk (env : Ev) (s : Sto) | ct (env : Ev) (s : Sto) | ex (x : Xc) (env : Ev) (s : Sto) | stuck
abbrev MS := Ev → Sto → SRs
def SAfter (K : PySem.W.Frag) (T : Nat → Addr) (η ρ : List Addr) (H : Hp) (r : SRs) (D : Ends) (Wx : WX') : Prop := match r with
  | .nx env st => ∀ ρ' H' σ', Grow ρ H ρ' H' → SR K T ρ' η st H' → ER K ρ' η H' env σ' → D.nx σ' H'
  | .bk env st => ∀ ρ' H' σ', Grow ρ H ρ' H' → SR K T ρ' η st H' → ER K ρ' η H' env σ' → D.bk σ' H'
  | .ct env st => ∀ ρ' H' σ', Grow ρ H ρ' H' → SR K T ρ' η st H' → ER K ρ' η H' env σ' → D.ct σ' H'
  | .rt w st => ∀ ρ' H' v, Grow ρ H ρ' H' → SR K T ρ' η st H' → VR K ρ' η H' w v → D.rt v H'
  | .ex x env st => ∀ ρ' H' σ' c d, Grow ρ H ρ' H' → SR K T ρ' η st H' → ER K ρ' η H' env σ' → XR K T ρ' η H' x c d → Wx c d σ' H'
  | .stuck => False
def Rs.to {α : Type} (r : Rs α) (env : Ev) (k : α → Sto → SRs) : SRs := match r with
  | .ok a s => k a s
  | .ex x s => .ex x env s
  | .stuck => .stuck
section
variable {K : PySem.W.Frag} {T : Nat → Addr} {ρ ρ' η : List Addr} {H H' : Hp} {st : Sto}
theorem SAfter.grow {r : SRs} {D : Ends} {Wx : WX'} (g : Grow ρ H ρ' H') (h : SAfter K T η ρ H r D Wx) : SAfter K T η ρ' H' r D Wx := by
  cases r with
  | nx env s => exact fun ρ2 H2 σ g2 => h ρ2 H2 σ (g.trans g2)
  | bk env s => exact fun ρ2 H2 σ g2 => h ρ2 H2 σ (g.trans g2)
  | ct env s => exact fun ρ2 H2 σ g2 => h ρ2 H2 σ (g.trans g2)
  | rt w s => exact fun ρ2 H2 v g2 => h ρ2 H2 v (g.trans g2)
  | ex x env s => exact fun ρ2 H2 σ c d g2 => h ρ2 H2 σ c d (g.trans g2)
  | stuck => exact h
theorem SAfter.bind {α β : Type} {R : List Addr → Hp → α → β → Prop} {r : Rs α} {env : Ev} {σ : St} {k : α → Sto → SRs} {D : Ends} {Wx : WX'} {Q1 : β → Hp → Prop} (h : SAfter K T η ρ H (r.to env k) D Wx) (er : ER K ρ η H env σ)
    (f : ∀ w st1 ρ1 H1 v, r = .ok w st1 → Grow ρ H ρ1 H1 → SR K T ρ1 η st1 H1 → R ρ1 H1 w v → SAfter K T η ρ1 H1 (k w st1) D Wx → Q1 v H1) : After K T η R ρ H r Q1 (fun c d H' => Wx c d σ H') := by
  cases r with
  | ok w s => exact fun ρ1 H1 v g s1 r1 => f w s ρ1 H1 v rfl g s1 r1 (SAfter.grow g h)
  | ex x s => exact fun ρ1 H1 c d g s1 xr => h ρ1 H1 σ c d g s1 (er.mono g) xr
  | stuck => exact h
theorem SAfter.nx {env : Ev} {σ : St} {D : Ends} {Wx : WX'} (h : SAfter K T η ρ H (.nx env st) D Wx) (s : SR K T ρ η st H) (e : ER K ρ η H env σ) : D.nx σ H := h ρ H σ Grow.refl s e
end
section
variable (X : Cx) (T : Nat → Addr) (Wx : WX')
def SSt (c : Stmt) (m : MS) : Prop := ∀ ρ η st env σ H D, SR X.K T ρ η st H → ER X.K ρ η H env σ → SAfter X.K T η ρ H (m env st) D Wx → tSS X c D σ H
def SSs (c : List Stmt) (m : MS) : Prop := ∀ ρ η st env σ H D, SR X.K T ρ η st H → ER X.K ρ η H env σ → SAfter X.K T η ρ H (m env st) D Wx → tSSs X c D σ H
end
/-- targets -/
abbrev MG := W → Ev → Sto → Option (Ev × Sto)
def gName' (i : Nat) : MG := fun w env st => some (env.set i (some w), st)
def gAll : List MG → List W → Ev → Sto → Option (Ev × Sto)
  | [], [], env, st => some (env, st)
  | g :: gs, w :: ws, env, st => match g w env st with
    | some (env1, st1) => gAll gs ws env1 st1
    | none => none
  | _, _, _, _ => none
def gTup' (gs : List MG) : MG := fun w env st => match w with
  | .tup ws => gAll gs ws env st
  | _ => none
def wSet (o i v : W) (st : Sto) : Option Sto := match o with
  | .ref n => match st[n]? with
    | some (.lst xs) => match i with
      | .int k => match ixN xs.length k with
        | some j => some (st.set n (.lst (xs.set j v)))
        | none => none
      | _ => none
    | _ => none
  | _ => none
def gOk (K : PySem.W.Frag) (T : Nat → Addr) (η ρ : List Addr) (H : Hp) (r : Option (Ev × Sto)) (Q : St → Hp → Prop) : Prop := match r with
  | some (env, st) => ∀ ρ' H' σ', Grow ρ H ρ' H' → SR K T ρ' η st H' → ER K ρ' η H' env σ' → Q σ' H'
  | none => False
def tSG (X : Cx) (e : Expr) : TG := fun v σ H Q => ∃ t, PG X e t ∧ t v σ H Q
theorem pg_S {X : Cx} {e : Expr} : PG X e (tSG X e) := ⟨fun pins s σ H v u Q I r ⟨_, h, q⟩ => h.run pins s σ H v u Q I r q⟩
def SGt (X : Cx) (T : Nat → Addr) (e : Expr) (g : MG) : Prop := ∀ ρ η st env σ H w v Q, SR X.K T ρ η st H → ER X.K ρ η H env σ → VR X.K ρ η H w v → gOk X.K T η ρ H (g w env st) Q → tSG X e v σ H Q
def SGs (X : Cx) (T : Nat → Addr) (es : List Expr) (gs : List MG) : Prop := ∀ ρ η st env σ H ws vs Q, SR X.K T ρ η st H → ER X.K ρ η H env σ → VRs X.K ρ η H ws vs → gOk X.K T η ρ H (gAll gs ws env st) Q → ∃ t, PGs X es t ∧ t vs σ H Q
theorem pgs_S {X : Cx} {es : List Expr} : PGs X es (fun vs σ H Q => ∃ t, PGs X es t ∧ t vs σ H Q) := ⟨fun pins s σ H vs us Q I r ⟨_, h, q⟩ => h.run pins s σ H vs us Q I r q⟩

def sNx : MS := fun env st => .nx env st
def sSeq (m k : MS) : MS := fun env st => match m env st with
  | .nx env1 st1 => k env1 st1
  | r => r
def sExpr (m : M W) : MS := fun env st => (m env st).to env fun _ s => .nx env s
def sRet (m : M W) : MS := fun env st => (m env st).to env fun w s => .rt w s
def sRetN : MS := fun _ st => .rt .non st
def sIf (c : M Bool) (m k : MS) : MS := fun env st => (c env st).to env fun b s => if b = true then m env s else k env s
def gDo (r : Option (Ev × Sto)) : SRs := match r with
  | some (env, st) => .nx env st
  | none => .stuck
def sAsg (m : M W) (g : MG) : MS := fun env st => (m env st).to env fun w s => gDo (g w env s)
def putW (f : Str) (v : W) : List (Str × W) → List (Str × W)
  | [] => [(f, v)]
  | (g, w) :: r => if g = f then (f, v) :: r else (g, w) :: putW f v r
def wSetF (cs : List Nat) (f : Str) (o v : W) (st : Sto) : Option Sto := match o with
  | .ref n => match st[n]? with
    | some (.ins c fs) => if cs.contains c ∧ fs.length < 1000 then some (st.set n (.ins c (putW f v fs))) else none
    | _ => none
  | _ => none
/-- o.f = e: e first -/
def sFld' (cs : List Nat) (f : Str) (mo m : M W) : MS := fun env st => (m env st).to env fun v s => (mo env s).to env fun o s2 => match wSetF cs f o v s2 with
  | some s3 => .nx env s3
  | none => .stuck

section
variable {X : Cx} {T : Nat → Addr} {Wx : WX'} {pos : Pos}
theorem sss_nil : SSs X T Wx [] sNx := fun ρ η st env σ H D s er h => ⟨_, pss_nil, h.nx s er⟩
theorem sss_one {c : Stmt} {m : MS} (h : SSt X T Wx c m) : SSs X T Wx [c] m := fun ρ η st env σ H D s er q => ⟨_, pss_one ps_S, h ρ η st env σ H D s er q⟩
theorem sss_cons {c : Stmt} {cs : List Stmt} {m k : MS} (h : SSt X T Wx c m) (hs : SSs X T Wx cs k) : SSs X T Wx (c :: cs) (sSeq m k) := by
  intro ρ η st env σ H D s er q
  refine ⟨_, pss_cons ps_S pss_S, ?_⟩
  refine h ρ η st env σ H _ s er ?_
  unfold sSeq at q
  cases e : m env st with
  | nx env1 st1 =>
    rw [e] at q
    exact fun ρ1 H1 σ1 g1 sr1 er1 => hs ρ1 η st1 env1 σ1 H1 D sr1 er1 (SAfter.grow g1 q)
  | rt w s1 => rw [e] at q; exact q
  | bk env1 s1 => rw [e] at q; exact q
  | ct env1 s1 => rw [e] at q; exact q
  | ex x env1 s1 => rw [e] at q; exact q
  | stuck => rw [e] at q; exact q
theorem ss_ret {e : Expr} {m : M W} (h : SE X T Wx e m) : SSt X T Wx (.Return (some e) pos) (sRet m) := by
  intro ρ η st env σ H D s er q
  refine ⟨_, ps_ret pe_S, ?_⟩
  exact h ρ η st env σ H _ s er (q.bind er fun w s1 ρ1 H1 v _ g1 sr1 r1 h1 => h1 ρ1 H1 v Grow.refl sr1 r1)
theorem ss_expr {e : Expr} {m : M W} (h : SE X T Wx e m) (hs : swapsWith e none pos.line X.env = pure false := by rfl) : SSt X T Wx (.Expr e pos) (sExpr m) := by
  intro ρ η st env σ H D s er q
  refine ⟨_, ps_expr pe_S hs, ?_⟩
  exact h ρ η st env σ H _ s er (q.bind er fun w s1 ρ1 H1 v _ g1 sr1 r1 h1 => h1.nx sr1 (er.mono g1))
theorem ss_if {c : Expr} {a b : List Stmt} {mc : M Bool} {m k : MS} (hc : STt X T Wx c mc) (ha : SSs X T Wx a m) (hb : SSs X T Wx b k) : SSt X T Wx (.If c a b pos) (sIf mc m k) := by
  intro ρ η st env σ H D s er q
  refine ⟨_, ps_if pt_S pss_S pss_S, ?_⟩
  refine hc ρ η st env σ H _ s er (q.bind er fun w s1 ρ1 H1 v _ g1 sr1 r1 h1 => ?_)
  subst r1
  cases w with
  | true => exact iteT (ha ρ1 η s1 env σ H1 D sr1 (er.mono g1) h1)
  | false => exact iteF (hb ρ1 η s1 env σ H1 D sr1 (er.mono g1) h1)
/-! ### targets -/
theorem sg_name {i : Nat} {x : Str} (hN : X.N.Nodup) (hi : X.N[i]? = some x) (hx : Loc X.env.scope x) (hf : X.fn x = true ∨ X.env.scope.names.lookup x = some .local := by first | exact .inl rfl | exact .inr rfl) : SGt X T (.Name x pos) (gName' i) :=
  fun ρ η st env σ H w v Q s er r h => ⟨_, pg_name hN hi hx hf, h ρ H _ Grow.refl s (er.set r)⟩
theorem sgs_nil : SGs X T [] [] := by
  intro ρ η st env σ H ws vs Q s er r h
  refine ⟨_, pgs_nil, ?_⟩
  cases ws with
  | nil => simp only [VRs] at r; exact ⟨r, h ρ H σ Grow.refl s er⟩
  | cons w ws => exact h.elim
theorem sgs_cons {e : Expr} {es : List Expr} {g : MG} {gs : List MG} (h1 : SGt X T e g) (h2 : SGs X T es gs) (hs : (assignEach (e :: es) X.env).map (·.2) = assign e X.env :: (assignEach es X.env).map (·.2) := by rfl) : SGs X T (e :: es) (g :: gs) := by
  intro ρ η st env σ H ws vs Q s er r h
  refine ⟨_, pgs_cons pg_S pgs_S hs, ?_⟩
  cases ws with
  | nil => exact h.elim
  | cons w ws =>
    simp only [VRs] at r
    obtain ⟨v, rv, e1, r1, r2⟩ := r
    refine ⟨v, rv, e1, h1 ρ η st env σ H w v _ s er r1 ?_⟩
    unfold gAll at h
    cases q : g w env st with
    | none => rw [q] at h; exact h.elim
    | some p =>
      rw [q] at h
      obtain ⟨env1, st1⟩ := p
      intro ρ1 H1 σ1 g1 sr1 er1
      refine h2 ρ1 η st1 env1 σ1 H1 ws rv Q sr1 er1 (r2.mono g1) ?_
      dsimp only at h
      cases q2 : gAll gs ws env1 st1 with
      | none => rw [q2] at h; exact h.elim
      | some p2 =>
        rw [q2] at h
        obtain ⟨env2, st2⟩ := p2
        exact fun ρ2 H2 σ2 g2 => h ρ2 H2 σ2 (g1.trans g2)
theorem sg_tup {es : List Expr} {k : Nat} {gs : List MG} (hc : X.calm = true) (h : SGs X T es gs) (hn : (assignEach es X.env).length = gs.length := by rfl) (hst : (assignEach es X.env).findIdx? (·.1) = none := by rfl) : SGt X T (.Tuple es k pos) (gTup' gs) := by
  intro ρ η st env σ H w v Q s er r q
  refine ⟨_, pg_tup hc pgs_S hn hst, ?_⟩
  unfold gTup' at q
  split at q
  · rename_i ws
    obtain ⟨a, vs, e1, e2, e3⟩ := tup_ok r (show tupL (.tup ws) = some ws from rfl)
    refine ⟨a, vs, e1, e2, ?_, h ρ η st env σ H ws vs Q s er e3 q⟩
    rw [e3.len]
    have : ∀ (gs : List MG) (ws : List W) (env : Ev) (st : Sto), (gAll gs ws env st).isSome = true → ws.length = gs.length := by
      intro gs
      induction gs with
      | nil => intro ws env st; cases ws <;> simp [gAll]
      | cons g gs ih =>
        intro ws env st
        cases ws with
        | nil => simp [gAll]
        | cons w ws =>
          intro z
          unfold gAll at z
          cases q : g w env st with
          | none => rw [q] at z; cases z
          | some p =>
            rw [q] at z
            simp only [List.length_cons, ih ws p.1 p.2 z]
    refine this gs ws env st ?_
    cases z : gAll gs ws env st with
    | none => rw [z] at q; exact q.elim
    | some p => rfl
  · exact q.elim
theorem ss_asg {tg e : Expr} {m : M W} {g : MG} (he : SE X T Wx e m) (hg : SGt X T tg g) (hs : swapsWithSole [tg] e pos.line X.env = pure false := by rfl) (hw : swappedStores [tg] e X.env = pure none := by rfl)
    (h1 : (assignEach [tg] X.env).map (·.2) = [assign tg X.env] := by rfl) : SSt X T Wx (.Assign [tg] e pos) (sAsg m g) := by
  intro ρ η st env σ H D s er q
  refine ⟨_, ps_asg pe_S pg_S hs hw h1, ?_⟩
  refine he ρ η st env σ H _ s er (q.bind er fun w s1 ρ1 H1 v _ g1 sr1 r1 h2 => ?_)
  refine hg ρ1 η s1 env σ H1 w v _ sr1 (er.mono g1) r1 ?_
  unfold gDo at h2
  cases z : g w env s1 with
  | none => rw [z] at h2; exact h2.elim
  | some p => rw [z] at h2; exact h2
theorem ss_set {i : Nat} {x : Str} {e : Expr} {m : M W} {pos' : Pos} (hN : X.N.Nodup) (hi : X.N[i]? = some x) (hx : Loc X.env.scope x) (he : SE X T Wx e m) (hs : swapsWith e (some (.Name x pos')) pos.line X.env = pure false := by rfl) (hf : X.fn x = true ∨ X.env.scope.names.lookup x = some .local := by first | exact .inl rfl | exact .inr rfl) :
    SSt X T Wx (.Assign [.Name x pos'] e pos) (sAsg m (gName' i)) := by
  intro ρ η st env σ H D s er q
  refine ⟨_, ps_set hN hi hx pe_S hs hf, ?_⟩
  exact he ρ η st env σ H _ s er (q.bind er fun w s1 ρ1 H1 v _ g1 sr1 r1 h2 => h2 ρ1 H1 _ Grow.refl sr1 ((er.mono g1).set r1))
end
end Mi
namespace Mi
open PySem L2
/-- more hidden ones, all of them new -/
def Hid (η : List Addr) (H : Hp) (η' : List Addr) : Prop := (∀ a ∈ η, a ∈ η') ∧ ∀ a ∈ η', a ∈ η ∨ H a = none
section
variable {K : PySem.W.Frag} {T : Nat → Addr} {ρ ρ' η η' : List Addr} {H H' : Hp} {st : Sto}
theorem Hid.refl : Hid η H η := ⟨fun _ h => h, fun _ h => .inl h⟩
theorem Hid.not {a : Addr} {o : HO} (k : Hid η H η') (n : a ∉ η) (h : H a = some o) : a ∉ η' := fun z => by
  rcases k.2 a z with z | z
  · exact n z
  · rw [z] at h; cases h
theorem GH.more (g : Grow ρ H ρ' H') (k : Hid η H η') : GH ρ η H ρ' η' H' := by
  obtain ⟨t, e, _⟩ := g.pre
  exact ⟨⟨t, e⟩, fun a o h1 h2 h3 n => ⟨g.out h1 h3 n, k.not h2 h3, g.same a o h1 h3 n⟩⟩
theorem TupAt.more {a : Addr} {vs : List V} (g : Grow ρ H ρ' H') (k : Hid η H η') (h : TupAt K ρ η H a vs) : TupAt K ρ' η' H' a vs := by
  rcases h with ⟨h1, h2, h3⟩ | h
  · obtain ⟨o, e, n⟩ := rd_some h3
    exact .inl ⟨g.out h1 e n, k.not h2 e, g.rd h1 h3⟩
  · exact .inr h
theorem LstAt.more {a : Addr} {vs : List V} (g : Grow ρ H ρ' H') (k : Hid η H η') (h : LstAt K ρ η H a vs) : LstAt K ρ' η' H' a vs := by
  rcases h with ⟨h1, h2, h3⟩ | h
  · obtain ⟨o, e, n⟩ := rd_some h3
    exact .inl ⟨g.out h1 e n, k.not h2 e, g.rd h1 h3⟩
  · exact .inr h
mutual
theorem VR.more (g : Grow ρ H ρ' H') (k : Hid η H η') : ∀ {w : W} {v : V}, VR K ρ η H w v → VR K ρ' η' H' w v
  | .non, _, h => h
  | .bl _, _, h => h
  | .int _, _, h => h
  | .str _, _, h => h
  | .ty _, _, h => h
  | .at_ _, _, h => h
  | .fn _ _ _ _, _, h => ⟨h.1, h.2.trans (GH.more g k)⟩
  | .exc a d f w, v, h => by
    simp only [VR] at h ⊢
    obtain ⟨e, d1, d2, fs, u, x1, x2, r⟩ := h
    exact ⟨e, g.out d1 x1, k.not d2 x1, fs, u, g.same _ _ d1 x1, x2, VR.more g k r⟩
  | .ref i, v, h => by
    simp only [VR] at h ⊢
    obtain ⟨a, e, r⟩ := h
    exact ⟨a, g.at e, r⟩
  | .tup xs, v, h => by
    simp only [VR] at h ⊢
    obtain ⟨a, vs, e, t, r⟩ := h
    exact ⟨a, vs, e, t.more g k, VRs.more g k r⟩
  | .lst xs, v, h => by
    simp only [VR] at h ⊢
    obtain ⟨a, vs, e, ⟨t1, t2, t3⟩, r⟩ := h
    exact ⟨a, vs, e, ⟨g.out t1 t3, k.not t2 t3, g.same _ _ t1 t3⟩, VRs.more g k r⟩
  | .scr xs, v, h => by
    simp only [VR] at h ⊢
    obtain ⟨a, vs, e, t, r⟩ := h
    exact ⟨a, vs, e, t.more g k, VRs.more g k r⟩
theorem VRs.more (g : Grow ρ H ρ' H') (k : Hid η H η') : ∀ {ws : List W} {vs : List V}, VRs K ρ η H ws vs → VRs K ρ' η' H' ws vs
  | [], _, h => by simpa only [VRs] using h
  | x :: xs, vs, h => by
    simp only [VRs] at h ⊢
    obtain ⟨v, r, e, h1, h2⟩ := h
    exact ⟨v, r, e, VR.more g k h1, VRs.more g k h2⟩
end
end

/-! ### what a loop walks -/
structure Src where
  fuel : Nat
  at_ : Nat → Sto → Option (Option W)
def fixS (xs : List W) : Src := ⟨xs.length + 1, fun i _ => some xs[i]?⟩
def nodS (n : Nat) (len : Nat) : Src := ⟨len + 1, fun i st => match st[n]? with
  | some (.lst xs) => some xs[i]?
  | _ => none⟩
def SrcOk (K : PySem.W.Frag) (T : Nat → Addr) (ρ η : List Addr) (H : Hp) (s : Src) (J : It) : Prop := ∀ η', Hid η H η' → ∀ (i : Nat) (ρ' : List Addr) (H' : Hp) (st' : Sto), Grow ρ H ρ' H' → SR K T ρ' η' st' H' →
  match s.at_ i st' with
  | some (some w) => J.go i H' ∧ ∀ x H2, J.yld i H' x H2 → Grow ρ' H' ρ' H2 ∧ SR K T ρ' η' st' H2 ∧ VR K ρ' η' H2 w x
  | some none => J.stop i H'
  | none => True
abbrev MI := Ev → Sto → Rs Src
def SI (X : Cx) (T : Nat → Addr) (Wx : WX') (tg iter : Expr) (m : MI) : Prop := ∀ ρ η st env σ H (Q : It → Hp → Prop), SR X.K T ρ η st H → ER X.K ρ η H env σ → After X.K T η (fun ρ H s J => SrcOk X.K T ρ η H s J) ρ H (m env st) Q (fun c d H' => Wx c d σ H') → ∃ t, PI X tg iter t ∧ t σ H Q
def tSI (X : Cx) (tg iter : Expr) : TI := fun σ H Q => ∃ t, PI X tg iter t ∧ t σ H Q
theorem pi_S {X : Cx} {tg iter : Expr} : PI X tg iter (tSI X tg iter) := ⟨fun pins s σ H R I ⟨_, h, q⟩ => h.run pins s σ H R I q⟩
/-- the loop -/
def forS (s : Src) (g : MG) (body : MS) : Nat → Nat → MS
  | 0, _ => fun _ _ => .stuck
  | n + 1, i => fun env st => match s.at_ i st with
    | some (some w) => match g w env st with
      | some (env1, st1) => match body env1 st1 with
        | .nx env2 st2 => forS s g body n (i + 1) env2 st2
        | .ct env2 st2 => forS s g body n (i + 1) env2 st2
        | .bk env2 st2 => .nx env2 st2
        | r => r
      | none => .stuck
    | some none => .nx env st
    | none => .stuck
def sFor (m : MI) (g : MG) (body : MS) : MS := fun env st => (m env st).to env fun s st1 => forS s g body s.fuel 0 env st1
def whileS (c : M Bool) (body : MS) : Nat → MS
  | 0 => fun _ _ => .stuck
  | n + 1 => fun env st => (c env st).to env fun b s => if b = true then (match body env s with
        | .nx env2 st2 => whileS c body n env2 st2
        | .ct env2 st2 => whileS c body n env2 st2
        | .bk env2 st2 => .nx env2 st2
        | r => r) else .nx env s
def sWhile (fuel : Nat) (c : M Bool) (body : MS) : MS := whileS c body fuel
section
variable {X : Cx} {T : Nat → Addr} {Wx : WX'} {pos : Pos}
theorem ss_for {tg iter : Expr} {body : List Stmt} {mi : MI} {g : MG} {m : MS} (hp : PassesOwn (model X.prog X.w) X.A X.env X.xe) (hc : X.calm = true) (hi : SI X T Wx tg iter mi) (hg : SGt X T tg g) (hb : SSs X T Wx body m)
    (hs : ∀ x, foldedSetIterable iter X.env x = pure x := by intro _; rfl) : SSt X T Wx (.For tg iter body [] pos) (sFor mi g m) := by
  intro ρ η st env σ H D s er q
  refine ⟨_, ps_for hp hc pi_S pg_S pss_S hs, ?_⟩
  refine hi ρ η st env σ H _ s er (q.bind er fun src s1 ρ1 H1 J _ g1 sr1 ok h1 => ?_)
  refine ⟨fun i n σ' H' => ∃ ρ' st' env', Grow ρ1 H1 ρ' H' ∧ SR X.K T ρ' η st' H' ∧ ER X.K ρ' η H' env' σ' ∧ SAfter X.K T η ρ' H' (forS src g m n i env' st') D Wx, ⟨src.fuel, ρ1, s1, env, Grow.refl, sr1, er.mono g1, h1⟩, ?_⟩
  rintro i n σ2 H2 ⟨ρ2, st2, env2, g2, sr2, er2, h2⟩
  cases n with
  | zero => exact h2.elim
  | succ n =>
    have k := ok η Hid.refl i ρ2 H2 st2 g2 sr2
    unfold forS at h2
    split at h2
    · rename_i w e
      rw [e] at k
      obtain ⟨k1, k2⟩ := k
      refine .inr ⟨k1, fun σ' H' => ∃ ρ' st' env', Grow ρ1 H1 ρ' H' ∧ SR X.K T ρ' η st' H' ∧ ER X.K ρ' η H' env' σ' ∧ SAfter X.K T η ρ' H' (forS src g m n (i + 1) env' st') D Wx, fun σ' H' z => ⟨n, Nat.lt_succ_self n, z⟩, fun x H3 y => ?_⟩
      obtain ⟨g3, sr3, r3⟩ := k2 x H3 y
      refine hg ρ2 η st2 env2 σ2 H3 w x _ sr3 (er2.mono g3) r3 ?_
      split at h2
      · rename_i env4 st4 e2
        rw [e2]
        intro ρ4 H4 σ4 g4 sr4 er4
        refine hb ρ4 η st4 env4 σ4 H4 _ sr4 er4 ?_
        split at h2
        · rename_i env5 st5 e5
          rw [e5]
          exact fun ρ5 H5 σ5 g5 sr5 er5 => ⟨ρ5, st5, env5, ((g2.trans g3).trans g4).trans g5, sr5, er5, SAfter.grow ((g3.trans g4).trans g5) h2⟩
        · rename_i env5 st5 e5
          rw [e5]
          exact fun ρ5 H5 σ5 g5 sr5 er5 => ⟨ρ5, st5, env5, ((g2.trans g3).trans g4).trans g5, sr5, er5, SAfter.grow ((g3.trans g4).trans g5) h2⟩
        · rename_i env5 st5 e5
          rw [e5]
          exact fun ρ5 H5 σ5 g5 sr5 er5 => h2 ρ5 H5 σ5 ((g3.trans g4).trans g5) sr5 er5
        · rename_i r n1 n2 n3
          cases e5 : m env4 st4 with
          | nx a b => exact absurd e5 (n1 a b)
          | ct a b => exact absurd e5 (n2 a b)
          | bk a b => exact absurd e5 (n3 a b)
          | rt w5 s5 => rw [e5] at h2; exact fun ρ5 H5 v5 g5 sr5 r5 => h2 ρ5 H5 v5 ((g3.trans g4).trans g5) sr5 r5
          | ex x5 a b => rw [e5] at h2; exact fun ρ5 H5 σ5 c5 d5 g5 sr5 er5 xr5 => h2 ρ5 H5 σ5 c5 d5 ((g3.trans g4).trans g5) sr5 er5 xr5
          | stuck => rw [e5] at h2; exact h2
      · exact h2.elim
    · rename_i e
      rw [e] at k
      exact .inl ⟨k, h2.nx sr2 er2⟩
    · exact h2.elim
theorem ss_while {c : Expr} {body : List Stmt} {mc : M Bool} {m : MS} {fuel : Nat} (hp : PassesOwn (model X.prog X.w) X.A X.env X.xe) (hc : STt X T Wx c mc) (hb : SSs X T Wx body m) : SSt X T Wx (.While c body [] pos) (sWhile fuel mc m) := by
  intro ρ η st env σ H D s er q
  refine ⟨_, ps_while hp pt_S pss_S, ?_⟩
  refine ⟨fun n σ' H' => ∃ ρ' st' env', Grow ρ H ρ' H' ∧ SR X.K T ρ' η st' H' ∧ ER X.K ρ' η H' env' σ' ∧ SAfter X.K T η ρ' H' (whileS mc m n env' st') D Wx, ⟨fuel, ρ, st, env, Grow.refl, s, er, q⟩, ?_⟩
  rintro n σ2 H2 ⟨ρ2, st2, env2, g2, sr2, er2, h2⟩
  cases n with
  | zero => exact h2.elim
  | succ n =>
    unfold whileS at h2
    refine hc ρ2 η st2 env2 σ2 H2 _ sr2 er2 (h2.bind er2 fun b s3 ρ3 H3 b' _ g3 sr3 r3 h3 => ?_)
    subst r3
    cases b with
    | false => exact iteF (h3.nx sr3 (er2.mono g3))
    | true =>
      refine iteT ⟨fun σ' H' => ∃ ρ' st' env', Grow ρ H ρ' H' ∧ SR X.K T ρ' η st' H' ∧ ER X.K ρ' η H' env' σ' ∧ SAfter X.K T η ρ' H' (whileS mc m n env' st') D Wx, fun σ' H' z => ⟨n, Nat.lt_succ_self n, z⟩, ?_⟩
      rw [if_pos rfl] at h3
      refine hb ρ3 η s3 env2 σ2 H3 _ sr3 (er2.mono g3) ?_
      split at h3
      · rename_i env5 st5 e5
        rw [e5]
        exact fun ρ5 H5 σ5 g5 sr5 er5 => ⟨ρ5, st5, env5, (g2.trans g3).trans g5, sr5, er5, SAfter.grow g5 h3⟩
      · rename_i env5 st5 e5
        rw [e5]
        exact fun ρ5 H5 σ5 g5 sr5 er5 => ⟨ρ5, st5, env5, (g2.trans g3).trans g5, sr5, er5, SAfter.grow g5 h3⟩
      · rename_i env5 st5 e5
        rw [e5]
        exact fun ρ5 H5 σ5 g5 sr5 er5 => h3 ρ5 H5 σ5 g5 sr5 er5
      · rename_i r n1 n2 n3
        cases e5 : m env2 s3 with
        | nx a b => exact absurd e5 (n1 a b)
        | ct a b => exact absurd e5 (n2 a b)
        | bk a b => exact absurd e5 (n3 a b)
        | rt w5 s5 => rw [e5] at h3; exact h3
        | ex x5 a b => rw [e5] at h3; exact h3
        | stuck => rw [e5] at h3; exact h3
/-! ### sources -/
def iL (m : M W) : MI := fun env st => (m env st).bind fun w s => match w with
  | .lst xs => .ok (fixS xs) s
  | .scr xs => .ok (fixS xs) s
  | .tup xs => .stuck
  | .ref n => match s[n]? with
    | some (.lst xs) => .ok (nodS n xs.length) s
    | _ => .stuck
  | _ => .stuck
def iT (m : M W) : MI := fun env st => (m env st).bind fun w s => match w with
  | .tup xs => .ok (fixS xs) s
  | _ => .stuck
def rngW (lo : Int) (n : Nat) : List W := (List.range n).map fun (i : Nat) => W.int (lo + (i : Int))
def small62 (i : Int) : Bool := decide (i.natAbs < 2 ^ 62)
theorem small62_of {i : Int} (h : small62 i = true) : -(2 ^ 62) ≤ i ∧ i < 2 ^ 62 := by
  simp only [small62, decide_eq_true_eq] at h
  omega
def iR1 (m : M (List W)) : MI := fun env st => (m env st).bind fun ws s => match ws with
  | [.int j] => if small62 j then .ok (fixS (rngW 0 j.toNat)) s else .stuck
  | _ => .stuck
def iR2 (m : M (List W)) : MI := fun env st => (m env st).bind fun ws s => match ws with
  | [.int i, .int j] => if small62 i ∧ small62 j then .ok (fixS (rngW i (j - i).toNat)) s else .stuck
  | _ => .stuck
theorem src_seq {ρ η : List Addr} {H : Hp} {a : Addr} {xs : List W} {vs : List V} (hl : ∀ ρ' H', Grow ρ H ρ' H' → SqL X.K H' a vs) (r : VRs X.K ρ η H xs vs) : SrcOk X.K T ρ η H (fixS xs) (Itl X.K a) := by
  intro η' k i ρ' H' st' g sr
  have q := hl ρ' H' g
  show match some xs[i]? with | some (some w) => _ | some none => _ | none => _
  cases e : xs[i]? with
  | none => exact ⟨vs, q, by rw [r.len]; exact List.getElem?_eq_none_iff.mp e⟩
  | some w =>
    obtain ⟨v, e1, e2⟩ := r.get e
    refine ⟨⟨vs, v, q, e1⟩, fun x H2 y => ?_⟩
    obtain ⟨y1, y2⟩ := y
    subst y1
    have := y2 vs q
    rw [e1] at this
    cases this
    exact ⟨Grow.refl, sr, e2.more g k⟩
theorem lst_at {ρ η : List Addr} {H : Hp} {a : Addr} {vs : List V} (h : a ∉ ρ ∧ a ∉ η ∧ H a = some (.lst vs)) : ∀ ρ' H', Grow ρ H ρ' H' → SqL X.K H' a vs := fun ρ' H' g => SqL.of (g.same _ _ h.1 h.2.2)
theorem src_nod {ρ η : List Addr} {H : Hp} {a : Addr} {n len : Nat} (h : ρ[n]? = some a) : SrcOk X.K T ρ η H (nodS n len) (Itl X.K a) := by
  intro η' k i ρ' H' st' g sr
  show match (match st'[n]? with | some (.lst xs) => some xs[i]? | _ => none) with | some (some w) => _ | some none => _ | none => True
  cases e : st'[n]? with
  | none => trivial
  | some nd =>
    have q := sr.at_ n nd a e (g.at h)
    cases nd with
    | lst xs =>
      obtain ⟨vs, q1, q2⟩ := q
      dsimp only
      cases e2 : xs[i]? with
      | none => exact ⟨vs, SqL.of q1, by rw [q2.len]; exact List.getElem?_eq_none_iff.mp e2⟩
      | some w =>
        obtain ⟨v, e3, e4⟩ := q2.get e2
        refine ⟨⟨vs, v, SqL.of q1, e3⟩, fun x H2 y => ?_⟩
        obtain ⟨y1, y2⟩ := y
        subst y1
        have := y2 vs (SqL.of q1)
        rw [e3] at this
        cases this
        exact ⟨Grow.refl, sr, e4⟩
    | _ => trivial
theorem si_list {tg l : Expr} {m : M W} (h : SE X T Wx l m) : SI X T Wx tg l (iL m) := by
  intro ρ η st env σ H Q s er q
  refine ⟨_, pi_list pe_S, ?_⟩
  refine h ρ η st env σ H _ s er (q.bind fun w s1 ρ1 H1 v g1 sr1 r1 h1 => ?_)
  split at h1
  · rename_i xs
    simp only [VR] at r1
    obtain ⟨a, vs, e1, e2, e3⟩ := r1
    exact ⟨a, e1, ⟨vs, SqL.of e2.2.2⟩, h1.ok sr1 (src_seq (lst_at e2) e3)⟩
  · rename_i xs
    simp only [VR] at r1
    obtain ⟨a, vs, e1, e2, e3⟩ := r1
    exact ⟨a, e1, ⟨vs, e2.sq⟩, h1.ok sr1 (src_seq (fun ρ' H' g => (e2.mono g).sq) e3)⟩
  · exact h1.elim
  · rename_i n
    split at h1
    · rename_i xs e
      obtain ⟨a, e1, e2, vs, e3, e4⟩ := node_at sr1 r1 e
      exact ⟨a, e1, ⟨vs, SqL.of e3⟩, h1.ok sr1 (src_nod e2)⟩
    · exact h1.elim
  · exact h1.elim
theorem si_tup {tg l : Expr} {m : M W} (h : SE X T Wx l m) : SI X T Wx tg l (iT m) := by
  intro ρ η st env σ H Q s er q
  refine ⟨_, pi_tup pe_S, ?_⟩
  refine h ρ η st env σ H _ s er (q.bind fun w s1 ρ1 H1 v g1 sr1 r1 h1 => ?_)
  split at h1
  · rename_i xs
    simp only [VR] at r1
    obtain ⟨a, vs, e1, e2, e3⟩ := r1
    refine ⟨a, e1, ⟨vs, e2.sq⟩, h1.ok sr1 ?_⟩
    intro η' k i ρ' H' st' g sr
    have q : SqT X.K H' a vs := (e2.mono g).sq
    show match some xs[i]? with | some (some w) => _ | some none => _ | none => _
    cases e : xs[i]? with
    | none => exact ⟨vs, q, by rw [e3.len]; exact List.getElem?_eq_none_iff.mp e⟩
    | some w =>
      obtain ⟨v, f1, f2⟩ := e3.get e
      refine ⟨⟨vs, v, q, f1⟩, fun x H2 y => ?_⟩
      obtain ⟨y1, y2⟩ := y
      subst y1
      have := y2 vs q
      rw [f1] at this
      cases this
      exact ⟨Grow.refl, sr, f2.more g k⟩
  · exact h1.elim
theorem src_rng {ρ η : List Addr} {H : Hp} {lo : Int} {n : Nat} : SrcOk X.K T ρ η H (fixS (rngW lo n)) (Itr lo n) := by
  intro η' k i ρ' H' st' g sr
  show match some (rngW lo n)[i]? with | some (some w) => _ | some none => _ | none => _
  unfold rngW
  rw [List.getElem?_map]
  by_cases hi : i < n
  · rw [List.getElem?_eq_getElem (by simpa using hi)]
    simp only [List.getElem_range, Option.map_some]
    refine ⟨hi, fun x H2 y => ?_⟩
    obtain ⟨y1, y2⟩ := y
    subst y1
    exact ⟨Grow.refl, sr, by simp only [VR]; exact y2⟩
  · rw [List.getElem?_eq_none (by simpa using Nat.le_of_not_lt hi)]
    exact Nat.le_of_not_lt hi
theorem si_range1 {tg a : Expr} {m : M (List W)} {p pos : Pos} (hg : Gl X (Str.ofString "range")) (hm : X.mg (Str.ofString "range") = none) (h : SA X T Wx [a] m) (hst : starEach [a] X.env = [(false, eval a X.env)] := by rfl) :
    SI X T Wx tg (.Call (.Name (Str.ofString "range") p) [a] [] pos) (iR1 m) := by
  intro ρ η st env σ H Q s er q
  refine ⟨_, pi_range1 hg hm pa_S hst, ?_⟩
  refine h ρ η st env σ H _ s er (q.bind fun ws s1 ρ1 H1 vs g1 sr1 r1 h1 => ?_)
  split at h1
  · rename_i j
    split at h1
    · rename_i z
      simp only [VRs, VR] at r1
      obtain ⟨v, r, e1, e2, e3⟩ := r1
      subst e2; subst e3
      have z := small62_of z
      exact ⟨j, e1, z.1, z.2, h1.ok sr1 src_rng⟩
    · exact h1.elim
  · exact h1.elim
end
end Mi
namespace Mi
open PySem L2
/-! ### list comprehensions -/
def wipeW (env : Ev) : List Nat → Ev
  | [] => env
  | v :: vs => (wipeW env vs).set v none
/-- what a comprehension binds: a name, or some names at once -/
inductive CT where
  | one (i : Nat) | tup (is : List Nat)
def CT.ix : CT → List Nat
  | .one i => [i]
  | .tup is => is
def setAll : List Nat → List W → Ev → Option Ev
  | [], [], env => some env
  | i :: is, w :: ws, env => setAll is ws (env.set i (some w))
  | _, _, _ => none
def CT.put (t : CT) (w : W) (env : Ev) : Option Ev := match t with
  | .one i => some (env.set i (some w))
  | .tup is => match w with
    | .tup ws => setAll is ws env
    | _ => none
def gNames : List Nat → TGs
  | [] => gNil
  | i :: is => gCons (gName i) (gNames is)
def CT.tg (K : PySem.W.Frag) : CT → TG
  | .one i => gName i
  | .tup is => gTup K is.length (gNames is)
/-- the loop: what was made so far -/
def compS (s : Src) (t : CT) (cond : M Bool) (elt : M W) (env : Ev) : Nat → Nat → List W → Sto → Rs (List W)
  | 0, _, _, _ => .stuck
  | n + 1, i, acc, st => match s.at_ i st with
    | some (some w) => match t.put w env with
      | some env1 => match cond env1 st with
        | .ok true st1 => match elt env1 st1 with
          | .ok v st2 => if acc.length < sizeLine then compS s t cond elt env n (i + 1) (acc ++ [v]) st2 else .stuck
          | _ => .stuck
        | .ok false st1 => compS s t cond elt env n (i + 1) acc st1
        | _ => .stuck
      | none => .stuck
    | some none => .ok acc st
    | none => .stuck
def mComp (fz : Bool) (mi : MI) (vs : List Nat) (t : CT) (cond : M Bool) (elt : M W) : M W := fun env st => (mi env st).bind fun s st1 => (compS s t cond elt (wipeW env vs) s.fuel 0 [] st1).bind fun ws st2 => newL fz ws st2
def mYes : M Bool := fun _ st => .ok true st
def W0 : WX' := fun _ _ _ _ => False
section
variable {K : PySem.W.Frag} {T : Nat → Addr} {ρ ρ' η η' : List Addr} {H H' : Hp} {st : Sto}
theorem ER.wipe {env : Ev} {σ : St} (h : ER K ρ η H env σ) : ∀ vs : List Nat, ER K ρ η H (wipeW env vs) (wipe σ vs)
  | [] => h
  | v :: vs => by
    have k := ER.wipe h vs
    refine ⟨by simp only [wipeW, L2.wipe, List.length_set]; exact k.1, fun j u e => ?_⟩
    unfold wipeW at e
    unfold L2.wipe
    rw [List.getElem?_set] at e ⊢
    split at e
    · split at e <;> cases e
    · rename_i q
      rw [if_neg q]
      exact k.2 j u e
theorem wipe_set {i : Nat} {x : V} : ∀ {vs : List Nat} {σ : St}, i ∈ vs → wipe (σ.set i (some x)) vs = wipe σ vs
  | [], _, h => by simp at h
  | v :: vs, σ, h => by
    unfold wipe
    by_cases e : i ∈ vs
    · rw [wipe_set e]
    · have : i = v := by
        rcases List.mem_cons.mp h with h | h
        · exact h
        · exact absurd h e
      subst this
      have com : ∀ (vs : List Nat) (σ : St), i ∉ vs → wipe (σ.set i (some x)) vs = (wipe σ vs).set i (some x) := by
        intro vs
        induction vs with
        | nil => intro σ _; rfl
        | cons u us ih =>
          intro σ hn
          unfold wipe
          rw [ih σ (fun z => hn (List.mem_cons_of_mem _ z)), List.set_comm]
          rintro rfl
          exact hn List.mem_cons_self
      rw [com vs σ e, List.set_set]
theorem hid_new {D : Addr} (n : H D = none) : Hid η H (D :: η) := ⟨fun _ h => List.mem_cons_of_mem _ h, fun a h => by
  rcases List.mem_cons.mp h with h | h
  · exact .inr (h ▸ n)
  · exact .inl h⟩
theorem ER.more {env : Ev} {σ : St} (g : Grow ρ H ρ' H') (k : Hid η H η') (h : ER K ρ η H env σ) : ER K ρ' η' H' env σ := ⟨h.1, fun i w e => by
  obtain ⟨v, q, r⟩ := h.2 i w e
  exact ⟨v, q, r.more g k⟩⟩
theorem TbR.more {a : Addr} {p : Nat} {q : Str} (g : Grow ρ H ρ' H') (k : Hid η H η') (e : H' a = H a) (h : TbR T ρ η H a p q) : TbR T ρ' η' H' a p q := by
  obtain ⟨e0, ps, h1, h2, h3⟩ := h
  refine ⟨e0, ps, e.trans h1, h2, fun pos cv z => ?_⟩
  obtain ⟨c, c1, c2, c3, c4⟩ := h3 pos cv z
  exact ⟨c, c1, g.out c2 c4, fun y => (k.2 c y).elim c3 fun y => (by rw [y] at c4; cases c4), g.same c _ c2 c4⟩
theorem TbR.hid {D a : Addr} {p : Nat} {q : Str} {o : HO} (n : D ∈ η) (ne : a ≠ D) (h : TbR T ρ η H a p q) : TbR T ρ η (upd H D o) a p q := by
  obtain ⟨e0, ps, h1, h2, h3⟩ := h
  refine ⟨e0, ps, by rw [upd_ne ne]; exact h1, h2, fun pos cv z => ?_⟩
  obtain ⟨c, c1, c2, c3, c4⟩ := h3 pos cv z
  exact ⟨c, c1, c2, c3, by rw [upd_ne (fun y => c3 (by rw [y]; exact n))]; exact c4⟩
theorem TbR.less {a : Addr} {p : Nat} {q : Str} (l : ∀ b ∈ η', b ∈ η) (h : TbR T ρ η H a p q) : TbR T ρ η' H a p q := by
  obtain ⟨e0, ps, h1, h2, h3⟩ := h
  refine ⟨e0, ps, h1, h2, fun pos cv z => ?_⟩
  obtain ⟨c, c1, c2, c3, c4⟩ := h3 pos cv z
  exact ⟨c, c1, c2, fun y => c3 (l c y), c4⟩
theorem TbR.shift {D a : Addr} {p : Nat} {q : Str} (h : TbR T ρ (D :: η) H a p q) : TbR T (ρ ++ [D]) η H a p q := by
  obtain ⟨e0, ps, h1, h2, h3⟩ := h
  refine ⟨e0, ps, h1, h2, fun pos cv z => ?_⟩
  obtain ⟨c, c1, c2, c3, c4⟩ := h3 pos cv z
  simp only [List.mem_cons, not_or] at c3
  exact ⟨c, c1, by simp [c2, c3.1], c3.2, c4⟩
theorem NR.more {a : Addr} {n : Nd} (g : Grow ρ H ρ' H') (k : Hid η H η') (e : H' a = H a) (h : NR K T ρ η H a n) : NR K T ρ' η' H' a n := by
  cases n with
  | lst xs => obtain ⟨vs, z, r⟩ := h; exact ⟨vs, e.trans z, r.more g k⟩
  | dk kvs => obtain ⟨kv, z, q, r⟩ := h; exact ⟨kv, e.trans z, q, r.more g k⟩
  | lk kvs => obtain ⟨od, kv, z, q, r⟩ := h; exact ⟨od, kv, e.trans z, q, r.more g k⟩
  | ins c fs => obtain ⟨dx, fv, z, q, r⟩ := h; exact ⟨dx, fv, e.trans z, q, r.more g k⟩
  | tb p q => exact TbR.more g k e h
/-- a hidden object is made -/
theorem SR.hide {D : Addr} {o : HO} (s : SR K T ρ η st H) (n : H D = none) (po : plO o = true := by rfl) : SR K T ρ (D :: η) st (upd H D o) := by
  refine ⟨s.nd, s.len, fun a ha => ?_, fun a ha => ?_, fun i nd a e q => ?_⟩
  · rcases List.mem_cons.mp ha with h | h
    · rw [h]; exact s.fresh n
    · exact s.hid a h
  · rcases List.mem_cons.mp ha with h | h
    · exact ⟨o, by rw [h, upd_same], po⟩
    · obtain ⟨u, e, pl⟩ := s.has a h
      exact ⟨u, by rw [upd_ne (ne_of_none e n)]; exact e, pl⟩
  · obtain ⟨u, z⟩ := s.there q
    exact (s.at_ i nd a e q).more (Grow.new n) (hid_new n) (upd_ne (ne_of_none z n))
/-- a hidden object changes: what else stands -/
theorem TupAt.hid {a D : Addr} {o : HO} {vs : List V} (n : D ∈ η) (h : TupAt K ρ η H a vs) : TupAt K ρ η (upd H D o) a vs := by
  have := (h.hide (o := o) (.inr n)).less (η' := η) fun b hb => List.mem_cons_of_mem _ hb
  exact this
theorem VR.hid {D : Addr} {o : HO} (n : D ∈ η) {w : W} {v : V} (h : VR K ρ η H w v) : VR K ρ η (upd H D o) w v := (h.hide (o := o) (.inr n)).less fun b hb => List.mem_cons_of_mem _ hb
theorem VRs.hid {D : Addr} {o : HO} (n : D ∈ η) {w : List W} {v : List V} (h : VRs K ρ η H w v) : VRs K ρ η (upd H D o) w v := (h.hide (o := o) (.inr n)).less fun b hb => List.mem_cons_of_mem _ hb
theorem SR.hid' {D : Addr} {o : HO} (n : D ∈ η) (s : SR K T ρ η st H) (po : plO o = true := by rfl) : SR K T ρ η st (upd H D o) := by
  have nr : D ∉ ρ := s.hid D n
  refine ⟨s.nd, s.len, s.hid, fun a ha => ?_, fun i nd a e q => ?_⟩
  · by_cases z : a = D
    · exact ⟨o, by rw [z, upd_same], po⟩
    · obtain ⟨u, e, pl⟩ := s.has a ha
      exact ⟨u, by rw [upd_ne z]; exact e, pl⟩
  · have ne : a ≠ D := fun z => nr (z ▸ List.mem_of_getElem? q)
    have k := s.at_ i nd a e q
    cases nd with
    | lst xs => obtain ⟨vs, z, r⟩ := k; exact ⟨vs, by rw [upd_ne ne]; exact z, r.hid n⟩
    | dk kvs => obtain ⟨kv, z, q, r⟩ := k; exact ⟨kv, by rw [upd_ne ne]; exact z, q, r.hid n⟩
    | lk kvs => obtain ⟨od, kv, z, q, r⟩ := k; exact ⟨od, kv, by rw [upd_ne ne]; exact z, q, r.hid n⟩
    | ins c fs => obtain ⟨dx, fv, z, q, r⟩ := k; exact ⟨dx, fv, by rw [upd_ne ne]; exact z, q, r.hid n⟩
    | tb p q => exact TbR.hid n ne k
/-- an object that was not there at the start changes -/
theorem Grow.hid {D : Addr} {o : HO} (g : Grow ρ H ρ' H') (n : H D = none) (po : nt o = true := by rfl) : Grow ρ H ρ' (upd H' D o) := by
  obtain ⟨t, e, ht⟩ := g.pre
  refine ⟨⟨t, e, ht⟩, fun a u na h nu => ?_, fun a u h nu => ?_, fun a u x h => by rw [upd_ne (ne_of_none h n)]; exact g.frz a u x h⟩
  · rw [upd_ne (ne_of_none h n)]
    exact g.same a u na h nu
  · by_cases z : a = D
    · exact ⟨o, by rw [z, upd_same], po⟩
    · obtain ⟨u', k, nk⟩ := g.all a u h nu
      exact ⟨u', by rw [upd_ne z]; exact k, nk⟩
/-- the hidden object is let go as a list that stands still -/
theorem SR.unhide {D : Addr} (s : SR K T ρ (D :: η) st H) : SR K T ρ η st H := by
  refine ⟨s.nd, s.len, fun a ha => s.hid a (List.mem_cons_of_mem _ ha), fun a ha => s.has a (List.mem_cons_of_mem _ ha), fun i nd a e q => ?_⟩
  have k := s.at_ i nd a e q
  have l : ∀ b ∈ η, b ∈ D :: η := fun b hb => List.mem_cons_of_mem _ hb
  cases nd with
  | lst xs => obtain ⟨vs, z, r⟩ := k; exact ⟨vs, z, r.less l⟩
  | dk kvs => obtain ⟨kv, z, q, r⟩ := k; exact ⟨kv, z, q, r.less l⟩
  | lk kvs => obtain ⟨od, kv, z, q, r⟩ := k; exact ⟨od, kv, z, q, r.less l⟩
  | ins c fs => obtain ⟨dx, fv, z, q, r⟩ := k; exact ⟨dx, fv, z, q, r.less l⟩
  | tb p q => exact TbR.less l k
/-- a hidden one becomes a place -/
theorem TupAt.shift {a D : Addr} {vs : List V} (h : TupAt K ρ (D :: η) H a vs) : TupAt K (ρ ++ [D]) η H a vs := h.imp (fun h => ⟨by
  have := h.2.1
  simp only [List.mem_cons, not_or] at this
  simp [h.1, this.1], fun z => h.2.1 (List.mem_cons_of_mem _ z), h.2.2⟩) id
theorem LstAt.shift {a D : Addr} {vs : List V} (h : LstAt K ρ (D :: η) H a vs) : LstAt K (ρ ++ [D]) η H a vs := h.imp (fun h => ⟨by
  have := h.2.1
  simp only [List.mem_cons, not_or] at this
  simp [h.1, this.1], fun z => h.2.1 (List.mem_cons_of_mem _ z), h.2.2⟩) id
mutual
theorem VR.shift {D : Addr} : ∀ {w : W} {v : V}, VR K ρ (D :: η) H w v → VR K (ρ ++ [D]) η H w v
  | .non, _, h => h
  | .bl _, _, h => h
  | .int _, _, h => h
  | .str _, _, h => h
  | .ty _, _, h => h
  | .at_ _, _, h => h
  | .fn _ _ _ _, _, h => ⟨h.1, h.2.trans GH.shift⟩
  | .exc a d f w, v, h => by
    simp only [VR] at h ⊢
    obtain ⟨e, d1, d2, fs, u, x1, x2, r⟩ := h
    simp only [List.mem_cons, not_or] at d2
    exact ⟨e, by simp [d1, d2.1], d2.2, fs, u, x1, x2, VR.shift r⟩
  | .ref i, v, h => by
    simp only [VR] at h ⊢
    obtain ⟨a, e, r⟩ := h
    exact ⟨a, by rw [List.getElem?_append_left (List.getElem?_eq_some_iff.mp e).1]; exact e, r⟩
  | .tup xs, v, h => by
    simp only [VR] at h ⊢
    obtain ⟨a, vs, e, t, r⟩ := h
    exact ⟨a, vs, e, t.shift, VRs.shift r⟩
  | .lst xs, v, h => by
    simp only [VR] at h ⊢
    obtain ⟨a, vs, e, ⟨t1, t2, t3⟩, r⟩ := h
    simp only [List.mem_cons, not_or] at t2
    exact ⟨a, vs, e, ⟨by simp [t1, t2.1], t2.2, t3⟩, VRs.shift r⟩
  | .scr xs, v, h => by
    simp only [VR] at h ⊢
    obtain ⟨a, vs, e, t, r⟩ := h
    exact ⟨a, vs, e, t.shift, VRs.shift r⟩
theorem VRs.shift {D : Addr} : ∀ {ws : List W} {vs : List V}, VRs K ρ (D :: η) H ws vs → VRs K (ρ ++ [D]) η H ws vs
  | [], _, h => by simpa only [VRs] using h
  | x :: xs, vs, h => by
    simp only [VRs] at h ⊢
    obtain ⟨v, r, e, h1, h2⟩ := h
    exact ⟨v, r, e, VR.shift h1, VRs.shift h2⟩
end
theorem NR.shift {a D : Addr} {n : Nd} (h : NR K T ρ (D :: η) H a n) : NR K T (ρ ++ [D]) η H a n := by
  cases n with
  | lst xs => obtain ⟨vs, z, r⟩ := h; exact ⟨vs, z, r.shift⟩
  | dk kvs => obtain ⟨kv, z, q, r⟩ := h; exact ⟨kv, z, q, r.shift⟩
  | lk kvs => obtain ⟨od, kv, z, q, r⟩ := h; exact ⟨od, kv, z, q, r.shift⟩
  | ins c fs => obtain ⟨dx, fv, z, q, r⟩ := h; exact ⟨dx, fv, z, q, r.shift⟩
  | tb p q => exact TbR.shift h
theorem SR.shift {D : Addr} {nd : Nd} (s : SR K T ρ (D :: η) st H) (nD : D ∉ η) (k : NR K T (ρ ++ [D]) η H D nd) : SR K T (ρ ++ [D]) η (st ++ [nd]) H := by
  have nr : D ∉ ρ := s.hid D List.mem_cons_self
  refine ⟨?_, by simp [s.len], fun a ha z => ?_, fun a ha => s.has a (List.mem_cons_of_mem _ ha), fun i m a e q => ?_⟩
  · rw [List.nodup_append]
    exact ⟨s.nd, by simp, fun a ha b hb z => by
      rw [List.mem_singleton] at hb
      subst hb; subst z
      exact nr ha⟩
  · rcases List.mem_append.mp z with z | z
    · exact s.hid a (List.mem_cons_of_mem _ ha) z
    · rw [List.mem_singleton] at z
      exact nD (z ▸ ha)
  · by_cases hi : i < st.length
    · rw [List.getElem?_append_left hi] at e
      rw [List.getElem?_append_left (by rw [s.len]; exact hi)] at q
      exact (s.at_ i m a e q).shift
    · have l1 := (List.getElem?_eq_some_iff.mp e).1
      have hi2 : i = st.length := by
        rw [List.length_append, List.length_singleton] at l1
        omega
      subst hi2
      rw [List.getElem?_append_right (Nat.le_refl _)] at e
      rw [List.getElem?_append_right (by rw [s.len]; exact Nat.le_refl _)] at q
      simp at e
      simp [s.len] at q
      subst e; subst q
      exact k
theorem Grow.shift {D : Addr} (g : Grow ρ H ρ' H') (n : H D = none) : Grow ρ H (ρ' ++ [D]) H' := by
  obtain ⟨t, e, ht⟩ := g.pre
  refine ⟨⟨t ++ [D], by rw [e, List.append_assoc], fun a ha => ?_⟩, g.same', g.all, g.frz⟩
  rcases List.mem_append.mp ha with ha | ha
  · exact ht a ha
  · rw [List.mem_singleton] at ha
    rw [ha]; exact ab_of n
theorem gNames_ok {vs : List Nat} : ∀ {is : List Nat} {ws : List W} {us : List V} {env env1 : Ev} {σ : St} {H : Hp} {Q : St → Hp → Prop}, setAll is ws env = some env1 → VRs K ρ η H ws us → ER K ρ η H env σ → (∀ i ∈ is, i ∈ vs) →
    (∀ σ1, ER K ρ η H env1 σ1 → wipe σ1 vs = wipe σ vs → Q σ1 H) → gNames is us σ H Q ∧ us.length = is.length
  | [], [], us, env, env1, σ, H, Q, e, r, er, hv, q => by
    simp only [setAll, Option.some.injEq] at e
    subst e
    simp only [VRs] at r
    subst r
    exact ⟨⟨rfl, q σ er rfl⟩, rfl⟩
  | i :: is, w :: ws, us, env, env1, σ, H, Q, e, r, er, hv, q => by
    simp only [setAll] at e
    simp only [VRs] at r
    obtain ⟨v, rr, e1, r1, r2⟩ := r
    subst e1
    have ih := gNames_ok (Q := Q) e r2 (er.set (i := i) r1) (fun j hj => hv j (List.mem_cons_of_mem _ hj)) fun σ1 e1 e2 => q σ1 e1 (e2.trans (wipe_set (hv i List.mem_cons_self)))
    exact ⟨⟨v, rr, rfl, ih.1⟩, by simp [ih.2]⟩
  | [], w :: ws, us, env, env1, σ, H, Q, e, r, er, hv, q => by simp [setAll] at e
  | i :: is, [], us, env, env1, σ, H, Q, e, r, er, hv, q => by simp [setAll] at e
theorem ct_ok {vs : List Nat} {t : CT} {w : W} {v : V} {env env1 : Ev} {σ : St} {H : Hp} {Q : St → Hp → Prop} (e : t.put w env = some env1) (r : VR K ρ η H w v) (er : ER K ρ η H env σ) (hv : ∀ i ∈ t.ix, i ∈ vs)
    (q : ∀ σ1, ER K ρ η H env1 σ1 → wipe σ1 vs = wipe σ vs → Q σ1 H) : t.tg K v σ H Q := by
  cases t with
  | one i =>
    simp only [CT.put, Option.some.injEq] at e
    subst e
    exact q _ (er.set r) (wipe_set (hv i (by simp [CT.ix])))
  | tup is =>
    simp only [CT.put] at e
    split at e
    · rename_i ws
      simp only [VR] at r
      obtain ⟨a, us, e1, e2, e3⟩ := r
      obtain ⟨h1, h2⟩ := gNames_ok (vs := vs) e e3 er hv q
      exact ⟨a, us, e1, e2.sq, h2, h1⟩
    · cases e
end
section
variable {X : Cx} {T : Nat → Addr} {Wx : WX'} {pos : Pos}
theorem wipe_wipe {σ : St} : ∀ {vs : List Nat}, wipe (wipe σ vs) vs = wipe σ vs := by
  intro vs
  have gt : ∀ (us : List Nat) (σ : St) (j : Nat), (wipe σ us)[j]? = if j ∈ us then (if j < σ.length then some none else none) else σ[j]? := by
    intro us
    induction us with
    | nil => intro σ j; simp [wipe]
    | cons u us ih =>
      intro σ j
      unfold wipe
      rw [List.getElem?_set, wipe_length, ih]
      by_cases e : u = j
      · subst e
        simp
      · have e2 : ¬ j = u := fun z => e z.symm
        rw [if_neg e]
        simp [e2]
  apply List.ext_getElem?
  intro j
  rw [gt, gt, wipe_length]
  split <;> rfl
/-- an expression that is read by t alone -/
def SEt (X : Cx) (T : Nat → Addr) (Wx : WX') (t : TE) (m : M W) : Prop := ∀ ρ η st env σ H Q, SR X.K T ρ η st H → ER X.K ρ η H env σ → After X.K T η (fun ρ H => VR X.K ρ η H) ρ H (m env st) Q (fun c d H' => Wx c d σ H') → t σ H Q
theorem se_T {e : Expr} {t : TE} {m : M W} (h : SEt X T Wx t m) (hp : PE X e t) : SE X T Wx e m := fun ρ η st env σ H Q s er q => ⟨t, hp, h ρ η st env σ H Q s er q⟩
theorem ss_setT {i : Nat} {c : Stmt} {t : TE} {m : M W} (h : SEt X T Wx t m) (hp : PS X c (tAsg t (gName i))) : SSt X T Wx c (sAsg m (gName' i)) := by
  intro ρ η st env σ H D s er q
  refine ⟨_, hp, ?_⟩
  exact h ρ η st env σ H _ s er (q.bind er fun w s1 ρ1 H1 v _ g1 sr1 r1 h2 => h2 ρ1 H1 _ Grow.refl sr1 ((er.mono g1).set r1))
theorem comp_T {fz : Bool} {elt tg iter : Expr} {ifs : List Expr} {scope : Scope} {own : List (Str × Nat)} {mi : MI} {t : CT} {cond : M Bool} {m : M W} (hi : SI X T Wx tg iter mi)
    (hv : ∀ i ∈ t.ix, i ∈ own.map (fun p : Str × Nat => p.2))
    (ht : (ifs = [] ∧ cond = mYes) ∨ ∃ c, ifs = [c] ∧ ∀ (s : Shared) (H : Hp) (C : Addr) (cl : List (Str × Addr)) (fp : List Addr), STt (X.blk s H scope (compEnvC scope cl C X.env) fp) T W0 c cond)
    (he : ∀ (s : Shared) (H : Hp) (C : Addr) (cl : List (Str × Addr)) (fp : List Addr), SE (X.blk s H scope (compEnvC scope cl C X.env) fp) T W0 elt m) :
    ∃ tt te, (∀ (s : Shared) (H : Hp) (C : Addr) (cl : List (Str × Addr)) (fp : List Addr), PTs (X.blk s H scope (compEnvC scope cl C X.env) fp) ifs tt) ∧
      (∀ (s : Shared) (H : Hp) (C : Addr) (cl : List (Str × Addr)) (fp : List Addr), PE (X.blk s H scope (compEnvC scope cl C X.env) fp) elt te) ∧
      SEt X T Wx (tLc (tSI X tg iter) (t.tg X.K) tt te (own.map (fun p : Str × Nat => p.2))) (mComp fz mi (own.map (fun p : Str × Nat => p.2)) t cond m) := by
  -- the test and the element, by what they do in each block
  let tt : TT := fun σ H Q => ∀ (s : Shared) (G : Hp) (C : Addr) (cl : List (Str × Addr)) (fp : List Addr), (∃ u, PTs (X.blk s G scope (compEnvC scope cl C X.env) fp) ifs u ∧ u σ H Q)
  let te : TE := fun σ H Q => ∀ (s : Shared) (G : Hp) (C : Addr) (cl : List (Str × Addr)) (fp : List Addr), (∃ u, PE (X.blk s G scope (compEnvC scope cl C X.env) fp) elt u ∧ u σ H Q)
  refine ⟨tt, te, fun s G C cl fp => ⟨fun pins s' σ' H' Q' I h => ?_⟩, fun s G C cl fp => ⟨fun pins s' σ' H' Q' I h => ?_⟩, ?_⟩
  · obtain ⟨u, h1, h2⟩ := h s G C cl fp
    exact h1.run pins s' σ' H' Q' I h2
  · obtain ⟨u, h1, h2⟩ := h s G C cl fp
    exact h1.run pins s' σ' H' Q' I h2
  intro ρ η st env σ H Q s er q
  refine hi ρ η st env σ H _ s er (q.bind fun src s1 ρ1 H1 J g1 sr1 ok1 h1 => ?_)
  intro D hD
  have D1 : Hid η H1 (D :: η) := hid_new hD
  have er0 : ER X.K ρ1 η H1 (wipeW env (own.map (fun p : Str × Nat => p.2))) (wipe σ (own.map (fun p : Str × Nat => p.2))) := (er.mono g1).wipe _
  refine ⟨fun (i n : Nat) (H' : Hp) => ∃ (ρ' : List Addr) (st' : Sto) (acc : List W) (accv : List V), Grow ρ1 H1 ρ' H' ∧ SR X.K T ρ' (D :: η) st' H' ∧ H' D = some (.lst accv) ∧ VRs X.K ρ' (D :: η) H' acc accv ∧
      After X.K T η (fun ρ H => VR X.K ρ η H) ρ1 H1 ((compS src t cond m (wipeW env (own.map (fun p : Str × Nat => p.2))) n i acc st').bind fun ws st2 => newL fz ws st2) Q (fun c d H' => Wx c d σ H'), ⟨src.fuel, ρ1, s1, [], [], Grow.new hD, sr1.hide hD, upd_same, VRs.nil, h1⟩, ?_⟩
  rintro i n H2 ⟨ρ2, st2, acc, accv, g2, sr2, hD2, rac, h2⟩
  cases n with
  | zero => exact h2.elim
  | succ n =>
    have k := ok1 (D :: η) D1 i ρ2 H2 st2 g2 sr2
    unfold compS at h2
    split at h2
    · rename_i w e
      rw [e] at k
      obtain ⟨k1, k2⟩ := k
      refine .inr ⟨k1, fun (H' : Hp) => ∃ (ρ' : List Addr) (st' : Sto) (acc : List W) (accv : List V), Grow ρ1 H1 ρ' H' ∧ SR X.K T ρ' (D :: η) st' H' ∧ H' D = some (.lst accv) ∧ VRs X.K ρ' (D :: η) H' acc accv ∧
        After X.K T η (fun ρ H => VR X.K ρ η H) ρ1 H1 ((compS src t cond m (wipeW env (own.map (fun p : Str × Nat => p.2))) n (i + 1) acc st').bind fun ws st2 => newL fz ws st2) Q (fun c d H' => Wx c d σ H'), fun H' z => ⟨n, Nat.lt_succ_self n, z⟩, fun x H3 y => ?_⟩
      obtain ⟨g3, sr3, r3⟩ := k2 x H3 y
      have hD3 : H3 D = some (.lst accv) := g3.same D _ (sr2.hid D List.mem_cons_self) hD2
      split at h2
      · rename_i env4 e4
        refine ct_ok (vs := own.map (fun p : Str × Nat => p.2)) e4 r3 (er0.more (g2.trans g3) D1) hv fun σ4 er4 w4 => ?_
        rw [wipe_wipe] at w4
        refine ⟨w4, ?_⟩
        -- the test
        have step : ∀ (b : Bool) (st5 : Sto) (ρ5 : List Addr) (H5 : Hp), Grow ρ2 H3 ρ5 H5 → SR X.K T ρ5 (D :: η) st5 H5 →
            After X.K T η (fun ρ H => VR X.K ρ η H) ρ1 H1 ((match b with
              | true => (match m env4 st5 with
                | .ok v st2 => if acc.length < sizeLine then compS src t cond m (wipeW env (own.map (fun p : Str × Nat => p.2))) n (i + 1) (acc ++ [v]) st2 else .stuck
                | _ => .stuck)
              | false => compS src t cond m (wipeW env (own.map (fun p : Str × Nat => p.2))) n (i + 1) acc st5).bind fun ws st2 => newL fz ws st2) Q (fun c d H' => Wx c d σ H') →
            (if b = true then te σ4 H5 fun y H4 => ∃ acc, H4 D = some (.lst acc) ∧ acc.length < sizeLine ∧ (∃ (ρ' : List Addr) (st' : Sto) (acc' : List W) (accv : List V), Grow ρ1 H1 ρ' (upd H4 D (.lst (acc ++ [y]))) ∧ SR X.K T ρ' (D :: η) st' (upd H4 D (.lst (acc ++ [y]))) ∧ (upd H4 D (.lst (acc ++ [y]))) D = some (.lst accv) ∧ VRs X.K ρ' (D :: η) (upd H4 D (.lst (acc ++ [y]))) acc' accv ∧
              After X.K T η (fun ρ H => VR X.K ρ η H) ρ1 H1 ((compS src t cond m (wipeW env (own.map (fun p : Str × Nat => p.2))) n (i + 1) acc' st').bind fun ws st2 => newL fz ws st2) Q (fun c d H' => Wx c d σ H'))
            else ∃ (ρ' : List Addr) (st' : Sto) (acc : List W) (accv : List V), Grow ρ1 H1 ρ' H5 ∧ SR X.K T ρ' (D :: η) st' H5 ∧ H5 D = some (.lst accv) ∧ VRs X.K ρ' (D :: η) H5 acc accv ∧
              After X.K T η (fun ρ H => VR X.K ρ η H) ρ1 H1 ((compS src t cond m (wipeW env (own.map (fun p : Str × Nat => p.2))) n (i + 1) acc st').bind fun ws st2 => newL fz ws st2) Q (fun c d H' => Wx c d σ H')) := by
          intro b st5 ρ5 H5 g5 sr5 h5
          have hD5 : H5 D = some (.lst accv) := g5.same D _ (sr3.hid D List.mem_cons_self) hD3
          have gA : Grow ρ1 H1 ρ5 H5 := (g2.trans g3).trans g5
          cases b with
          | false => exact iteF ⟨ρ5, st5, acc, accv, gA, sr5, hD5, (rac.mono g3).mono g5, h5⟩
          | true =>
            refine iteT ?_
            intro s' G C cl fp
            refine he s' G C cl fp ρ5 (D :: η) st5 env4 σ4 H5 _ sr5 (er4.mono g5) ?_
            dsimp only at h5
            cases e6 : m env4 st5 with
            | ok v st6 =>
              rw [e6] at h5
              dsimp only at h5
              split at h5
              · rename_i lz
                intro ρ6 H6 y g6 sr6 r6
                have hD6 : H6 D = some (.lst accv) := g6.same D _ (sr5.hid D List.mem_cons_self) hD5
                have rac6 : VRs X.K ρ6 (D :: η) H6 acc accv := ((rac.mono g3).mono g5).mono g6
                refine ⟨accv, hD6, by rw [rac6.len]; exact lz, ρ6, st6, acc ++ [v], accv ++ [y], (gA.trans g6).hid hD, sr6.hid' List.mem_cons_self, upd_same, ?_, h5⟩
                exact (rac6.hid List.mem_cons_self).append (VRs.cons (r6.hid List.mem_cons_self) VRs.nil)
              · exact h5.elim
            | ex x s' => rw [e6] at h5; exact h5.elim
            | stuck => rw [e6] at h5; exact h5.elim
        rcases ht with ⟨z1, z2⟩ | ⟨c, z1, z2⟩
        · subst z2
          intro s' G C cl fp
          refine ⟨tYes, by rw [z1]; exact pts_nil, ?_⟩
          exact step true st2 ρ2 H3 Grow.refl sr3 h2
        · intro s' G C cl fp
          obtain ⟨u, hu1, hu2⟩ := z2 s' G C cl fp ρ2 (D :: η) st2 env4 σ4 H3 (fun (b : Bool) (H3 : Hp) => if b = true then te σ4 H3 fun y H4 => ∃ acc, H4 D = some (.lst acc) ∧ acc.length < sizeLine ∧ (∃ (ρ' : List Addr) (st' : Sto) (acc' : List W) (accv : List V), Grow ρ1 H1 ρ' (upd H4 D (.lst (acc ++ [y]))) ∧ SR X.K T ρ' (D :: η) st' (upd H4 D (.lst (acc ++ [y]))) ∧ (upd H4 D (.lst (acc ++ [y]))) D = some (.lst accv) ∧ VRs X.K ρ' (D :: η) (upd H4 D (.lst (acc ++ [y]))) acc' accv ∧
              After X.K T η (fun ρ H => VR X.K ρ η H) ρ1 H1 ((compS src t cond m (wipeW env (own.map (fun p : Str × Nat => p.2))) n (i + 1) acc' st').bind fun ws st2 => newL fz ws st2) Q (fun c d H' => Wx c d σ H'))
            else ∃ (ρ' : List Addr) (st' : Sto) (acc : List W) (accv : List V), Grow ρ1 H1 ρ' H3 ∧ SR X.K T ρ' (D :: η) st' H3 ∧ H3 D = some (.lst accv) ∧ VRs X.K ρ' (D :: η) H3 acc accv ∧
              After X.K T η (fun ρ H => VR X.K ρ η H) ρ1 H1 ((compS src t cond m (wipeW env (own.map (fun p : Str × Nat => p.2))) n (i + 1) acc st').bind fun ws st2 => newL fz ws st2) Q (fun c d H' => Wx c d σ H')) sr3 er4 (by
            cases e6 : cond env4 st2 with
            | ok b st6 =>
              rw [e6] at h2
              intro ρ6 H6 b' g6 sr6 r6
              subst r6
              refine step b st6 ρ6 H6 g6 sr6 ?_
              cases b <;> exact h2
            | ex x s' => rw [e6] at h2; exact h2.elim
            | stuck => rw [e6] at h2; exact h2.elim)
          exact ⟨u, by rw [z1]; exact pts_one hu1, hu2⟩
      · exact h2.elim
    · rename_i e
      rw [e] at k
      refine .inl ⟨k, ?_⟩
      have h2 : After X.K T η (fun ρ H => VR X.K ρ η H) ρ1 H1 (newL fz acc st2) Q (fun c d H' => Wx c d σ H') := h2
      unfold newL at h2
      have l : ∀ b ∈ η, b ∈ D :: η := fun b hb => List.mem_cons_of_mem _ hb
      have nD : D ∉ η := fun z => by
        obtain ⟨o, e, _⟩ := sr1.has D z
        rw [hD] at e; cases e
      cases fz with
      | true =>
        refine h2 ρ2 H2 _ g2 sr2.unhide ?_
        simp only [VR]
        exact ⟨D, accv, rfl, ⟨sr2.hid D List.mem_cons_self, nD, hD2⟩, rac.less l⟩
      | false =>
        refine h2 (ρ2 ++ [D]) H2 _ (g2.shift hD) (sr2.shift nD ⟨accv, hD2, rac.shift⟩) ?_
        simp only [VR]
        exact ⟨D, by rw [← sr2.len, List.getElem?_append_right (Nat.le_refl _)]; simp, rfl⟩
    · exact h2.elim
theorem se_comp {fz : Bool} {elt tg iter : Expr} {ifs : List Expr} {scope : Scope} {own : List (Str × Nat)} {mi : MI} {t : CT} {cond : M Bool} {m : M W} (hc : X.calm = true) (hN : X.N.Nodup) (hi : SI X T Wx tg iter mi) (ok : BlkOk X.N X.env.scope scope own)
    (hv : ∀ i ∈ t.ix, i ∈ own.map (fun p : Str × Nat => p.2))
    (hg : ∀ (s : Shared) (H : Hp) (C : Addr) (cl : List (Str × Addr)) (fp : List Addr), PG (X.blk s H scope (compEnvC scope cl C X.env) fp) tg (t.tg X.K))
    (ht : (ifs = [] ∧ cond = mYes) ∨ ∃ c, ifs = [c] ∧ ∀ (s : Shared) (H : Hp) (C : Addr) (cl : List (Str × Addr)) (fp : List Addr), STt (X.blk s H scope (compEnvC scope cl C X.env) fp) T W0 c cond)
    (he : ∀ (s : Shared) (H : Hp) (C : Addr) (cl : List (Str × Addr)) (fp : List Addr), SE (X.blk s H scope (compEnvC scope cl C X.env) fp) T W0 elt m) (hs : ∀ x, foldedSetIterable iter X.env x = pure x := by intro _; rfl) :
    SE X T Wx (.ListComp elt [⟨tg, iter, ifs, 0⟩] scope pos) (mComp fz mi (own.map (fun p : Str × Nat => p.2)) t cond m) := by
  obtain ⟨tt, te, h1, h2, h3⟩ := comp_T (fz := fz) (own := own) (Wx := Wx) hi hv ht he
  exact se_T h3 (pe_lc hc hN pi_S ok hg h1 h2 hs)
/-- name = [..], the name not read within another block -/
theorem ss_comp {fz : Bool} {i : Nat} {y : Str} {py spos : Pos} {elt tg iter : Expr} {ifs : List Expr} {scope : Scope} {own : List (Str × Nat)} {mi : MI} {t : CT} {cond : M Bool} {m : M W} (hc : X.calm = true) (hN : X.N.Nodup) (hy : X.N[i]? = some y) (hyl : X.env.scope.names.lookup y = some .local)
    (hsw : swapsWith (.ListComp elt [⟨tg, iter, ifs, 0⟩] scope pos) (some (.Name y py)) spos.line X.env = pure true) (hi : SI X T Wx tg iter mi) (ok : BlkOk X.N X.env.scope scope own)
    (hv : ∀ i ∈ t.ix, i ∈ own.map (fun p : Str × Nat => p.2))
    (hg : ∀ (s : Shared) (H : Hp) (C : Addr) (cl : List (Str × Addr)) (fp : List Addr), PG (X.blk s H scope (compEnvC scope cl C X.env) fp) tg (t.tg X.K))
    (ht : (ifs = [] ∧ cond = mYes) ∨ ∃ c, ifs = [c] ∧ ∀ (s : Shared) (H : Hp) (C : Addr) (cl : List (Str × Addr)) (fp : List Addr), STt (X.blk s H scope (compEnvC scope cl C X.env) fp) T W0 c cond)
    (he : ∀ (s : Shared) (H : Hp) (C : Addr) (cl : List (Str × Addr)) (fp : List Addr), SE (X.blk s H scope (compEnvC scope cl C X.env) fp) T W0 elt m) (hs : ∀ x, foldedSetIterable iter X.env x = pure x := by intro _; rfl) :
    SSt X T Wx (.Assign [.Name y py] (.ListComp elt [⟨tg, iter, ifs, 0⟩] scope pos) spos) (sAsg (mComp fz mi (own.map (fun p : Str × Nat => p.2)) t cond m) (gName' i)) := by
  obtain ⟨tt, te, h1, h2, h3⟩ := comp_T (fz := fz) (own := own) (Wx := Wx) hi hv ht he
  exact ss_setT h3 (ps_setLc hc hN hy hyl hsw pi_S ok hg h1 h2 hs)
end
end Mi
namespace Mi
open PySem L2
/-- what a def does: from its arguments and the store -/
abbrev RunM := List W → Sto → Rs W
/-- the promise of a def that does what run does -/
def spM (K : PySem.W.Frag) (T : Nat → Addr) (n : Nat) (run : RunM) : Sp := fun vs H Q E => ∃ ρ η st ws, SR K T ρ η st H ∧ VRs K ρ η H ws vs ∧ ws.length = n ∧ After K T η (fun ρ H => VR K ρ η H) ρ H (run ws st) Q E
theorem spM_len {K : PySem.W.Frag} {T : Nat → Addr} {n : Nat} {run : RunM} : ∀ vs H Q E, spM K T n run vs H Q E → vs.length = n := fun vs H Q E ⟨_, _, _, _, _, r, l, _⟩ => by rw [r.len, l]
abbrev FnM (P : Program) (w : World) (K : PySem.W.Frag) (mg : Str → Option Value) (base : Heap) (T : Nat → Addr) (k : Nat) (f : Addr) (fd : FuncData) (ps : List Str) (run : RunM) : Prop :=
  FnOk P w K mg base (L2.CX P w) k f fd ps (spM K T ps.length run)
def mCall (run : RunM) (m : M (List W)) : M W := fun env st => (m env st).bind run
def mMeth (tb : List (Nat × RunM)) (m : Str) (mo : M W) (ma : M (List W)) : M W := fun env st => (mo env st).bind fun o s1 => match o with
  | .ref i => match s1[i]? with
    | some (.ins c fs) => match fs.lookup m, tb.lookup c with
      | none, some run => (ma env s1).bind fun ws s2 => run (o :: ws) s2
      | _, _ => .stuck
    | _ => .stuck
  | _ => .stuck
def mMake (c : Nat) (run : RunM) (m : M (List W)) : M W := fun env st => (m env st).bind fun ws s1 => (run (.ref s1.length :: ws) (s1 ++ [.ins c []])).bind fun v s2 => match v with
  | .non => .ok (.ref s1.length) s2
  | _ => .stuck
/-- an argument list by its own count -/
structure SAn (X : Cx) (T : Nat → Addr) (Wx : WX') (n : Nat) (es : List Expr) (m : M (List W)) : Prop where
  run : SA X T Wx es m
  len : ArgLen n m
theorem san_nil {X : Cx} {T : Nat → Addr} {Wx : WX'} : SAn X T Wx 0 [] mNil := ⟨sa_nil, len_nil⟩
theorem san_cons {X : Cx} {T : Nat → Addr} {Wx : WX'} {n : Nat} {e : Expr} {es : List Expr} {m : M W} {k : M (List W)} (he : SE X T Wx e m) (hs : SAn X T Wx n es k) (hst : starEach (e :: es) X.env = (false, eval e X.env) :: starEach es X.env := by rfl) : SAn X T Wx (n + 1) (e :: es) (mCons m k) := ⟨sa_cons he hs.run hst, len_cons hs.len⟩
section
variable {X : Cx} {T : Nat → Addr} {Wx : WX'} {pos p apos : Pos} {k : Nat} {f : Addr} {fd : FuncData} {ps : List Str} {run : RunM} {x m : Str} {e o : Expr} {es : List Expr} {ma : M (List W)}
/-- the state behind the arguments is what the callee wants -/
theorem sp_of {ρ η : List Addr} {H : Hp} {st : Sto} {ws : List W} {vs : List V} {n : Nat} {Q : VK} {E : XK} (s : SR X.K T ρ η st H) (r : VRs X.K ρ η H ws vs) (l : ws.length = n) (h : After X.K T η (fun ρ H => VR X.K ρ η H) ρ H (run ws st) Q E) : spM X.K T n run vs H Q E := ⟨ρ, η, st, ws, s, r, l, h⟩
theorem se_call (F : FnM X.prog X.w X.K X.mg X.base T k f fd ps run) (hr : Room k X.A) (tk : Takes X Wx) (hg : Gl X x) (hm : X.mg x = some (.ref f)) (hk : PySem.W.keepIn X.K (.ref f) = true) (hb : Binds X.K fd ps [])
    (ha : SAn X T Wx ps.length (e :: es) ma) (hdb : (x == ("__debug__" : Str)) = false := by decide) (he : starEach (e :: es) X.env = (false, eval e X.env) :: starEach es X.env := by rfl) (hpl : (backTo pos (starEach es X.env)).any (·.1) = false := by rfl) :
    SE X T Wx (.Call (.Name x p) (e :: es) [] pos) (mCall run ma) := by
  intro ρ η st env σ H Q s er q
  refine ⟨_, pe_callS (E := WE Wx) F hr hg hm hk hb (fun σ => passAt tk σ) pa_S hdb he hpl, ?_⟩
  refine ha.run ρ η st env σ H _ s er (After.bindE q fun ws s1 ρ1 H1 vs e1 g1 sr1 r1 h1 => ?_)
  exact sp_of sr1 r1 (ha.len env st ws s1 e1) h1
/-- a method of an own class -/
structure MethM (X : Cx) (T : Nat → Addr) (k : Nat) (m : Str) (n : Nat) (c : Nat) (run : RunM) : Prop where
  cls : Cls X.K (T c)
  ex : ∃ f fd ps, Meth X.K (T c) m f ∧ FnM X.prog X.w X.K X.mg X.base T k f fd ps run ∧ Binds X.K fd ps [] ∧ ps.length = n + 1
theorem tb_mem : ∀ {tb : List (Nat × RunM)} {c : Nat} {r : RunM}, tb.lookup c = some r → (c, r) ∈ tb
  | [], _, _, h => by simp at h
  | (a, b) :: tb, c, r, h => by
    rw [List.lookup_cons] at h
    split at h
    · rename_i z
      cases h
      rw [beq_iff_eq] at z
      subst z
      exact List.mem_cons_self
    · exact List.mem_cons_of_mem _ (tb_mem h)
theorem se_meth {n : Nat} {pl : Sem Bool} {tb : List (Nat × RunM)} {mo : M W} (ho : SE X T Wx o mo) (ht : ∀ p ∈ tb, MethM X T k m n p.1 p.2) (hr : Room k X.A) (tk : Takes X Wx) (ha : SAn X T Wx n (e :: es) ma)
    (hst : starEach (e :: es) X.env = (false, eval e X.env) :: starEach es X.env := by rfl) (hpl : (backTo pos (starEach es X.env)).any (·.1) = false := by rfl)
    (hev : eval (.Call (.Attribute o m apos) (e :: es) [] pos) X.env = (do
      let ov ← eval o X.env
      standAt apos.atName
      let q ← holding [ov] (getMethod ov m pl)
      callWith pos q.1 q.2 (backTo pos (starEach (e :: es) X.env)) (backToKw pos (keywordEach [] X.env))) := by rfl) :
    SE X T Wx (.Call (.Attribute o m apos) (e :: es) [] pos) (mMeth tb m mo ma) := by
  intro ρ η st env σ H Q s er q
  refine ⟨fun σ' H' Q' => tS X o σ' H' fun x H1 => ∃ a c dx fs run, x = .ref a ∧ H1 a = some (.ins (T c) dx fs) ∧ fs.lookup m = none ∧ MethM X T k m n c run ∧ tSA X (e :: es) σ' H1 fun vs H2 => spM X.K T (n + 1) run (x :: vs) H2 Q' (WE Wx σ'), ⟨fun pins s' σ' H' Q' I h => ?_⟩, ?_⟩
  · refine PySem.W.methodCall_KW (pl := pl) (thn (pe_S.run pins s' σ' H' _ I h) fun u s1 ⟨x, H1, I1, rx, a, c, dx, fs, run, ex, ea, l, mm, q1⟩ => ?_) hev
    subst ex
    obtain rfl : u = Value.ref a := rx
    obtain ⟨cl, g, gd, gs, hme, F, hb, hl⟩ := mm
    refine getmeth_ok I1 ea cl hme l ?_
    refine PySem.W.callWith_K (first := [.ref a]) (h₀ := X.base) I.ok.mod.kin hme.kp (thn (pa_S.run pos pins s1 σ' H1 _ I1 q1) fun us s2 ⟨vs, H2, I2, r, q2⟩ => ⟨I2.kIn, ?_⟩) hst hpl
    exact run_fnS (us := .ref a :: us) (vs := .ref a :: vs) (E := WE Wx) F hr hb (passAt tk σ') I2 (.cons rfl r) (by rw [hl]; exact q2)
  · refine ho ρ η st env σ H _ s er (q.bind fun w s1 ρ1 H1 v g1 sr1 r1 h1 => ?_)
    split at h1
    · rename_i i
      split at h1
      · rename_i c fs e1
        split at h1
        · rename_i run e2 e3
          obtain ⟨a, f1, _, dx, fv, f2, f3, f4⟩ := node_at sr1 r1 e1
          refine ⟨a, c, dx, fv, run, f1, f2, ?_, ht (c, run) (tb_mem e3), ?_⟩
          · have : ∀ {fs : List (Str × W)} {fv : List (Str × V)}, fv.map (·.1) = fs.map (·.1) → fs.lookup m = none → fv.lookup m = none := by
              intro fs
              induction fs with
              | nil => intro fv h _; simp at h; subst h; rfl
              | cons p fs ih =>
                intro fv h z
                cases fv with
                | nil => simp at h
                | cons q fv =>
                  obtain ⟨a1, b1⟩ := p
                  obtain ⟨a2, b2⟩ := q
                  simp only [List.map_cons, List.cons.injEq] at h
                  obtain ⟨h1, h2⟩ := h
                  subst h1
                  rw [List.lookup_cons] at z ⊢
                  split at z
                  · cases z
                  · exact ih h2 z
            exact this f3 e2
          · refine ha.run ρ1 η s1 env σ H1 _ sr1 (er.mono g1) (After.bindE h1 fun ws s2 ρ2 H2 vs q2 g2 sr2 r2 h2 => ?_)
            exact sp_of (ws := .ref i :: ws) sr2 (VRs.cons (r1.mono g2) r2) (by rw [List.length_cons, ha.len env s1 ws s2 q2]) h2
        · exact h1.elim
      · exact h1.elim
    · exact h1.elim
theorem se_meth0 {pl : Sem Bool} {tb : List (Nat × RunM)} {mo : M W} (ho : SE X T Wx o mo) (ht : ∀ p ∈ tb, MethM X T k m 0 p.1 p.2) (hr : Room k X.A) (tk : Takes X Wx)
    (hev : eval (.Call (.Attribute o m apos) [] [] pos) X.env = (do
      let ov ← eval o X.env
      standAt apos.atName
      let q ← holding [ov] (getMethod ov m pl)
      callWith pos q.1 q.2 (backTo pos (starEach [] X.env)) (backToKw pos (keywordEach [] X.env))) := by rfl) :
    SE X T Wx (.Call (.Attribute o m apos) [] [] pos) (mMeth tb m mo mNil) := by
  intro ρ η st env σ H Q s er q
  refine ⟨fun σ' H' Q' => tS X o σ' H' fun x H1 => ∃ a c dx fs run, x = .ref a ∧ H1 a = some (.ins (T c) dx fs) ∧ fs.lookup m = none ∧ MethM X T k m 0 c run ∧ spM X.K T 1 run [x] H1 Q' (WE Wx σ'), ⟨fun pins s' σ' H' Q' I h => ?_⟩, ?_⟩
  · refine PySem.W.methodCall_KW (pl := pl) (thn (pe_S.run pins s' σ' H' _ I h) fun u s1 ⟨x, H1, I1, rx, a, c, dx, fs, run, ex, ea, l, mm, q1⟩ => ?_) hev
    subst ex
    obtain rfl : u = Value.ref a := rx
    obtain ⟨cl, g, gd, gs, hme, F, hb, hl⟩ := mm
    refine getmeth_ok I1 ea cl hme l ?_
    exact PySem.W.callWith_K0 (first := [.ref a]) I1.kIn hme.kp (run_fnS (us := [.ref a]) (vs := [.ref a]) (E := WE Wx) F hr hb (passAt tk σ') I1 (.cons rfl .nil) (by rw [hl]; exact q1))
  · refine ho ρ η st env σ H _ s er (q.bind fun w s1 ρ1 H1 v g1 sr1 r1 h1 => ?_)
    split at h1
    · rename_i i
      split at h1
      · rename_i c fs e1
        split at h1
        · rename_i run e2 e3
          obtain ⟨a, f1, _, dx, fv, f2, f3, f4⟩ := node_at sr1 r1 e1
          refine ⟨a, c, dx, fv, run, f1, f2, ?_, ht (c, run) (tb_mem e3), ?_⟩
          · have : ∀ {fs : List (Str × W)} {fv : List (Str × V)}, fv.map (·.1) = fs.map (·.1) → fs.lookup m = none → fv.lookup m = none := by
              intro fs
              induction fs with
              | nil => intro fv h _; simp at h; subst h; rfl
              | cons p fs ih =>
                intro fv h z
                cases fv with
                | nil => simp at h
                | cons q fv =>
                  obtain ⟨a1, b1⟩ := p
                  obtain ⟨a2, b2⟩ := q
                  simp only [List.map_cons, List.cons.injEq] at h
                  obtain ⟨h1, h2⟩ := h
                  subst h1
                  rw [List.lookup_cons] at z ⊢
                  split at z
                  · cases z
                  · exact ih h2 z
            exact this f3 e2
          · exact sp_of (ws := [.ref i]) sr1 (VRs.cons r1 VRs.nil) rfl h1
        · exact h1.elim
      · exact h1.elim
    · exact h1.elim
/-- a new instance, ahead of its __init__ -/
theorem make_ok {ρ η : List Addr} {H : Hp} {st : Sto} {ws : List W} {vs : List V} {n c : Nat} {Q : VK} {E : XK} (s : SR X.K T ρ η st H) (r : VRs X.K ρ η H ws vs) (l : ws.length = n)
    (h : After X.K T η (fun ρ H => VR X.K ρ η H) ρ H ((run (.ref st.length :: ws) (st ++ [.ins c []])).bind fun v s2 => match v with | .non => .ok (.ref st.length) s2 | _ => .stuck) Q E)
    (x dx : Addr) (hx : H x = none) (hdx : H dx = none) (ne : dx ≠ x) : spM X.K T (n + 1) run (.ref x :: vs) (upd (upd H dx (.own x)) x (.ins (T c) dx [])) (fun v H2 => v = .non ∧ Q (.ref x) H2) E := by
  have hx1 : (upd H dx (.own x)) x = none := by rw [upd_ne (Ne.symm ne)]; exact hx
  have g : Grow ρ H (ρ ++ [x]) (upd (upd H dx (.own x)) x (.ins (T c) dx [])) := (Grow.new hdx).trans (Grow.node hx1)
  have rx : VR X.K (ρ ++ [x]) η (upd (upd H dx (.own x)) x (.ins (T c) dx [])) (.ref st.length) (.ref x) := by
    simp only [VR]
    exact ⟨x, by rw [← s.len, List.getElem?_append_right (Nat.le_refl _)]; simp, rfl⟩
  refine sp_of (ws := .ref st.length :: ws) ((s.new' hdx).node (nd := .ins c []) hx1 ⟨dx, [], upd_same, rfl, VRs.nil⟩) (VRs.cons rx (r.mono g)) (by rw [List.length_cons, l]) ?_
  refine (After.grow g h).bind fun v s2 ρ2 H2 v' g2 sr2 r2 h2 => ?_
  split at h2
  · simp only [VR] at r2
    exact ⟨r2, h2.ok sr2 (rx.mono g2)⟩
  · exact h2.elim
/-- a new instance is made at these slots -/
theorem run_mk {pins : List (Addr × Obj)} {σ : St} {H : Hp} {s : Shared} {Q : VK} {us : List Value} {vs : List V} {C : Addr} {sp : Sp} {E : XK} (M : Mk X.K C f)
    (F : FnOk X.prog X.w X.K X.mg X.base (L2.CX X.prog X.w) k f fd ps sp) (hr : Room (k + 1) X.A) (hb : Binds X.K fd ps []) (hx : PassesAt (L2.CX X.prog X.w) X σ E) (I : Inv X pins σ H s) (r : Vals vs us)
    (h : ∀ x dx, H x = none → H dx = none → dx ≠ x → sp (.ref x :: vs) (upd (upd H dx (.own x)) x (.ins C dx [])) (fun v H2 => v = .non ∧ Q (.ref x) H2) E) : wpAny (model X.prog X.w) X.A (call (.ref C) us) (EP X pins σ Q) X.xe s := by
  have want := h (s.heap.objs.size + 1) s.heap.objs.size (I.hok.fresh (Nat.le_succ _)) (I.hok.fresh (Nat.le_refl _)) (Nat.ne_of_lt (Nat.lt_succ_self _))
  have J := Inv.made (C := C) I
  have rv : Vals (V.ref (s.heap.objs.size + 1) :: vs) (Value.ref (s.heap.objs.size + 1) :: us) := .cons rfl r
  have len : (Value.ref (s.heap.objs.size + 1) :: us).length = ps.length := rv.length.symm.trans (F.len _ _ _ _ want)
  have bd := hb _ (Value.ref (s.heap.objs.size + 1) :: us) J.kIn (by rw [List.append_nil]; exact len)
  rw [List.append_nil] at bd
  have go := F.run _ X.stack _ _ ⟨Value.ref (s.heap.objs.size + 1) :: us, []⟩ _ _ _ E (hr.make C us []) (J.env0.make C us []) bd rv want
  refine wpAny_call (make_map (f := f) I.kIn M.makes M.init (beq_iff_eq.mp M.fn) (codeAny_mono go fun res s' got => ?_))
  match res, got with
  | .error e, got => exact hx pins _ _ e s' J got
  | .ok (.ret u), got =>
    obtain ⟨v, H', J3, rv3, ev, q3⟩ := J.after got
    subst ev
    exact ⟨rv3, ⟨V.ref (s.heap.objs.size + 1), H', J3, rfl, q3⟩⟩
  | .ok .next, got => exact False.elim got
  | .ok .brk, got => exact False.elim got
  | .ok .cont, got => exact False.elim got
theorem se_make {c : Nat} (M : Mk X.K (T c) f) (F : FnM X.prog X.w X.K X.mg X.base T k f fd ps run) (hr : Room (k + 1) X.A) (tk : Takes X Wx) (hg : Gl X x) (hm : X.mg x = some (.ref (T c))) (hb : Binds X.K fd ps []) {n : Nat} (hn : ps.length = n + 1)
    (ha : SAn X T Wx n (e :: es) ma) (hdb : (x == ("__debug__" : Str)) = false := by decide) (he : starEach (e :: es) X.env = (false, eval e X.env) :: starEach es X.env := by rfl) (hpl : (backTo pos (starEach es X.env)).any (·.1) = false := by rfl) :
    SE X T Wx (.Call (.Name x p) (e :: es) [] pos) (mMake c run ma) := by
  intro ρ η st env σ H Q s er q
  -- what is let out, at these slots alone
  refine ⟨fun σ' H' Q' => tSA X (e :: es) σ' H' fun vs H1 => ∀ x dx, H1 x = none → H1 dx = none → dx ≠ x → spM X.K T (n + 1) run (.ref x :: vs) (upd (upd H1 dx (.own x)) x (.ins (T c) dx [])) (fun v H2 => v = .non ∧ Q' (.ref x) H2) (WE Wx σ'), ⟨fun pins s' σ' H' Q' I h => ?_⟩, ?_⟩
  · refine wpAny_Call_Name_kw (ld_glob I hg hm ?_ hdb)
    refine PySem.W.callWith_K (h₀ := X.base) I.ok.mod.kin M.kp (thn (pa_S.run pos pins s' σ' H' _ I h) fun us s1 ⟨vs, H1, I1, r, q1⟩ => ⟨I1.kIn, ?_⟩) he hpl
    exact run_mk (sp := spM X.K T ps.length run) M F hr hb (passAt tk σ') I1 r (fun x dx h1 h2 h3 => by rw [hn]; exact q1 x dx h1 h2 h3)
  · refine ha.run ρ η st env σ H _ s er (After.bindE q fun ws s1 ρ1 H1 vs e1 g1 sr1 r1 h1 => ?_)
    intro x dx hx hdx ne
    exact make_ok sr1 r1 (ha.len env st ws s1 e1) h1 x dx hx hdx ne
end
end Mi
namespace Mi
open PySem PySem.Spec PyProof.Rows L2
/-! ### a def by its body -/
def outOf (r : SRs) : Rs W := match r with
  | .rt w st => .ok w st
  | .nx _ st => .ok .non st
  | .ex x _ st => .ex x st
  | _ => .stuck
def runOf (n : Nat) (m : MS) : RunM := fun ws st => outOf (m (ws.map some ++ List.replicate (n - ws.length) none) st)
/-- the wish of a def about what leaves it -/
abbrev WD (E : XK) : WX' := fun c d _ H => E c d H
theorem er_start {K : PySem.W.Frag} {ρ η : List Addr} {H : Hp} {ws : List W} {vs : List V} {N : List Str} (r : VRs K ρ η H ws vs) : ER K ρ η H (ws.map some ++ List.replicate (N.length - ws.length) none) (L2.start N vs) := by
  unfold L2.start
  refine ⟨by simp [r.len], fun i w e => ?_⟩
  by_cases hi : i < ws.length
  · rw [List.getElem?_append_left (by simpa using hi), List.getElem?_map] at e
    cases q : ws[i]? with
    | none => rw [q] at e; cases e
    | some u =>
      rw [q] at e
      cases e
      obtain ⟨v, h1, h2⟩ := r.get q
      refine ⟨v, ?_, h2⟩
      rw [List.getElem?_append_left (by rw [List.length_map, r.len]; exact hi), List.getElem?_map, h1]
      rfl
  · rw [List.getElem?_append_right (by simpa using Nat.le_of_not_lt hi), List.getElem?_replicate] at e
    split at e <;> cases e
section
variable {P : Program} {w : World} {K : PySem.W.Frag} {mg : Str → Option Value} {base : Heap} {T : Nat → Addr} {k : Nat}
theorem fn_ok {x qual : Str} {st : Stmt} {f : Addr} {fd : FuncData} {N ps : List Str} {m : MS} (F : Fun K x qual st f fd) (S : FnScope N ps (defScope st))
    (hb : ∀ (cdv : Value) (A : Around) (outer : List Env) (s : Shared) (H : Hp) (E : XK), Room k (A.deeper (envOfC qual (defScope st) s.heap.objs.size f cdv)) →
      SSs (L2.cxOf (L2.CX P w) P w K mg base N qual (defScope st) f cdv A outer s H E) T (WD E) (defBody st) m) : FnM P w K mg base T (k + 1) f fd ps (runOf N.length m) := by
  refine F.okX S (fun vs H Q E h => spM_len vs H Q E h) fun cdv A outer s H vs Q E hr h => ?_
  obtain ⟨ρ, η, sto, ws, sr, r, l, a⟩ := h
  have go := hb cdv A outer s H E hr ρ η sto _ _ H { nx := fun _ H' => Q .non H', rt := Q } sr (er_start (N := N) r) ?_
  · exact go
  · unfold runOf at a
    cases e : m (ws.map some ++ List.replicate (N.length - ws.length) none) sto with
    | nx env s1 => rw [e] at a; exact fun ρ1 H1 σ1 g1 sr1 er1 => a ρ1 H1 _ g1 sr1 (by simp only [VR])
    | rt w1 s1 => rw [e] at a; exact a
    | bk env s1 => rw [e] at a; exact a.elim
    | ct env s1 => rw [e] at a; exact a.elim
    | ex x env s1 => rw [e] at a; exact fun ρ1 H1 σ1 c d g1 sr1 er1 xr => a ρ1 H1 c d g1 sr1 xr
    | stuck => rw [e] at a; exact a
end
/-! ### raise -/
def sRaise (c : Nat) : MS := fun env st => .ex (.plain c) env st
section
variable {X : Cx} {T : Nat → Addr} {Wx : WX'} {pos : Pos}
theorem pmk_own0 {C : Addr} {bmB : List Value} {B newId initId : String} {x : Str} {p : Pos} (F : ExcBaseFacts B newId initId bmB) (q : PySem.W.excIn X.K C bmB newId = true) (gC : X.mg x = some (.ref C)) (kC : PySem.W.keepIn X.K (.ref C) = true)
    (r : Raises X (.ref C)) (hg : Gl X x) (hdb : (x == ("__debug__" : Str)) = false := by decide) : PMk X (.Call (.Name x p) [] [] pos) (fun _ H Q => Q (.ref C) none H) := by
  intro pins s σ H Q I h
  refine wpAny_Call_Name_kw (ld_glob I hg gC (PySem.W.callWith_K0 I.kIn kC ?_) hdb)
  obtain ⟨bm, N, nm, qn, bs, hdct, sn, sub, ab, col, dd, k0, k1, k2, k3, k5, mN, hC, hN, hni, TT⟩ := exc_obj I.kIn q
  exact wpAny_call_exc_subT F TT hC hN hni (fun h' e hm => mk_of I hm r h (I.hok.gone hm.new)) (Nat.zero_le _)
/-- what must be known of an own exception class (over ValueError, no __init__) -/
structure ExcOk (X : Cx) (C : Addr) (x : Str) : Prop where
  ex : PySem.W.excIn X.K C [.type "ValueError", .type "Exception", .type "BaseException", .type "object"] "ValueError.__new__" = true
  mg : X.mg x = some (.ref C)
  kp : PySem.W.keepIn X.K (.ref C) = true
  sub : PySem.W.subIn X.K (.ref C) (.type "BaseException") = some true
  ty : PySem.W.typeIn X.K (.ref C) = some (.type "type")
theorem ss_raise0 {c : Nat} {x : Str} {p p2 : Pos} (hc : X.calm = true) (tk : Takes X Wx) (e : ExcOk X (T c) x) (hg : Gl X x) (hdb : (x == ("__debug__" : Str)) = false := by decide) : SSt X T Wx (.Raise (some (.Call (.Name x p) [] [] p2)) none pos) (sRaise c) := by
  intro ρ η st env σ H D s er h
  refine ⟨_, ps_raise hc tk (pmk_own0 PySem.F.excBase_ValueError e.ex e.mg e.kp (raises_own e.sub e.ty) hg hdb), ?_⟩
  exact h ρ H σ _ _ Grow.refl s er ⟨rfl, rfl⟩
/-! ### stores -/
theorem wset_ok {ρ η : List Addr} {H : Hp} {st st1 : Sto} {o i v : W} {ov iv vv : V} (s : SR X.K T ρ η st H) (ro : VR X.K ρ η H o ov) (ri : VR X.K ρ η H i iv) (rv : VR X.K ρ η H v vv) (e : wSet o i v st = some st1) :
    ∃ (p : Addr) (xs : List V) (k : Int) (j : Nat), ov = .ref p ∧ iv = .int k ∧ H p = some (.lst xs) ∧ ixN xs.length k = some j ∧ Grow ρ H ρ (upd H p (.lst (xs.set j vv))) ∧ SR X.K T ρ η st1 (upd H p (.lst (xs.set j vv))) := by
  unfold wSet at e
  split at e
  · rename_i n
    split at e
    · rename_i xs q
      split at e
      · rename_i k
        split at e
        · rename_i j z
          cases e
          obtain ⟨p, e1, e2, vs, e3, e4⟩ := node_at s ro q
          simp only [VR] at ri
          have g : Grow ρ H ρ (upd H p (.lst (vs.set j vv))) := Grow.write (List.mem_of_getElem? e2) (open_of e3 fun _ _ z => nomatch z)
          exact ⟨p, vs, k, j, e1, ri, e3, by rw [e4.len]; exact z, g, s.write (open_of e3 fun _ _ z => nomatch z) e2 ⟨_, upd_same, (e4.set rv j).mono g⟩⟩
        · cases e
      · cases e
    · cases e
  · cases e
def putKW (kvs : List (Key × W)) (k : Key) (v : W) : List (Key × W) :=
  if (kvs.any fun kv => decide (kv.1 = k)) = true then kvs.map fun kv => if kv.1 = k then (kv.1, v) else kv else kvs ++ [(k, v)]
def dropKW (kvs : List (Key × W)) (k : Key) : List (Key × W) := kvs.filter fun kv => decide (kv.1 ≠ k)
/-- a dict's pairs, here and there -/
def KVs (K : PySem.W.Frag) (ρ η : List Addr) (H : Hp) (kvs : List (Key × W)) (kv : List (Key × V)) : Prop := kv.map (·.1) = kvs.map (·.1) ∧ VRs K ρ η H (kvs.map (·.2)) (kv.map (·.2))
theorem KVs.mono {K : PySem.W.Frag} {ρ ρ' η : List Addr} {H H' : Hp} {kvs : List (Key × W)} {kv : List (Key × V)} (g : Grow ρ H ρ' H') (h : KVs K ρ η H kvs kv) : KVs K ρ' η H' kvs kv := ⟨h.1, h.2.mono g⟩
theorem KVs.nil' {K : PySem.W.Frag} {ρ η : List Addr} {H : Hp} {kv : List (Key × V)} (h : KVs K ρ η H [] kv) : kv = [] := by
  have := h.1
  simpa using this
theorem KVs.cons' {K : PySem.W.Frag} {ρ η : List Addr} {H : Hp} {a : Key} {w : W} {kvs : List (Key × W)} {kv : List (Key × V)} (h : KVs K ρ η H ((a, w) :: kvs) kv) : ∃ v r, kv = (a, v) :: r ∧ VR K ρ η H w v ∧ KVs K ρ η H kvs r := by
  obtain ⟨h1, h2⟩ := h
  cases kv with
  | nil => simp at h1
  | cons p r =>
    obtain ⟨b, v⟩ := p
    simp only [List.map_cons, List.cons.injEq] at h1
    rw [List.map_cons, List.map_cons] at h2
    simp only [VRs] at h2
    obtain ⟨v', r', q1, q2, q3⟩ := h2
    simp only [List.cons.injEq] at q1
    obtain ⟨q1, q4⟩ := q1
    refine ⟨v, r, by rw [h1.1], by rw [q1]; exact q2, h1.2, by rw [q4]; exact q3⟩
theorem KVs.mk' {K : PySem.W.Frag} {ρ η : List Addr} {H : Hp} {a : Key} {w : W} {v : V} {kvs : List (Key × W)} {kv : List (Key × V)} (r : VR K ρ η H w v) (h : KVs K ρ η H kvs kv) : KVs K ρ η H ((a, w) :: kvs) ((a, v) :: kv) :=
  ⟨by simp [h.1], by rw [List.map_cons, List.map_cons]; exact VRs.cons r h.2⟩
theorem KVs.append {K : PySem.W.Frag} {ρ η : List Addr} {H : Hp} : ∀ {kvs ks : List (Key × W)} {kv kw : List (Key × V)}, KVs K ρ η H kvs kv → KVs K ρ η H ks kw → KVs K ρ η H (kvs ++ ks) (kv ++ kw)
  | [], ks, kv, kw, h, k => by
    rw [h.nil']
    exact k
  | (a, w) :: kvs, ks, kv, kw, h, k => by
    obtain ⟨v, r, e, h1, h2⟩ := h.cons'
    subst e
    exact KVs.mk' h1 (h2.append k)
theorem KVs.drop {K : PySem.W.Frag} {ρ η : List Addr} {H : Hp} {k : Key} : ∀ {kvs : List (Key × W)} {kv : List (Key × V)}, KVs K ρ η H kvs kv → KVs K ρ η H (dropKW kvs k) (dropK kv k)
  | [], kv, h => by
    rw [h.nil']
    exact ⟨rfl, VRs.nil⟩
  | (a, w) :: kvs, kv, h => by
    obtain ⟨v, r, e, h1, h2⟩ := h.cons'
    subst e
    have ih := KVs.drop (k := k) h2
    unfold dropKW dropK at ih ⊢
    rw [List.filter_cons, List.filter_cons]
    by_cases z : a = k
    · simp only [z, ne_eq, not_true_eq_false, decide_false, Bool.false_eq_true, if_false]
      simp only [ne_eq] at ih
      exact ih
    · simp only [z, ne_eq, not_false_eq_true, decide_true, if_true]
      simp only [ne_eq] at ih
      exact KVs.mk' h1 ih
theorem KVs.any {K : PySem.W.Frag} {ρ η : List Addr} {H : Hp} {k : Key} : ∀ {kvs : List (Key × W)} {kv : List (Key × V)}, KVs K ρ η H kvs kv → (kvs.any fun x => decide (x.1 = k)) = kv.any fun x => decide (x.1 = k)
  | [], kv, h => by rw [h.nil']; rfl
  | (a, w) :: kvs, kv, h => by
    obtain ⟨v, r, e, h1, h2⟩ := h.cons'
    subst e
    rw [List.any_cons, List.any_cons, KVs.any h2]
theorem KVs.upd {K : PySem.W.Frag} {ρ η : List Addr} {H : Hp} {k : Key} {w : W} {v : V} (r : VR K ρ η H w v) : ∀ {kvs : List (Key × W)} {kv : List (Key × V)}, KVs K ρ η H kvs kv → KVs K ρ η H (kvs.map fun x => if x.1 = k then (x.1, w) else x) (kv.map fun x => if x.1 = k then (x.1, v) else x)
  | [], kv, h => by
    rw [h.nil']
    exact ⟨rfl, VRs.nil⟩
  | (a, u) :: kvs, kv, h => by
    obtain ⟨z, r', e, h1, h2⟩ := h.cons'
    subst e
    have ih := KVs.upd (k := k) r h2
    rw [List.map_cons, List.map_cons]
    by_cases q : a = k
    · rw [if_pos q, if_pos q]
      exact KVs.mk' r ih
    · rw [if_neg q, if_neg q]
      exact KVs.mk' h1 ih
theorem KVs.put {K : PySem.W.Frag} {ρ η : List Addr} {H : Hp} {k : Key} {w : W} {v : V} (r : VR K ρ η H w v) {kvs : List (Key × W)} {kv : List (Key × V)} (h : KVs K ρ η H kvs kv) : KVs K ρ η H (putKW kvs k w) (putK kv k v) := by
  unfold putKW putK
  rw [h.any]
  split
  · exact h.upd r
  · exact h.append (KVs.mk' r ⟨rfl, VRs.nil⟩)
theorem KVs.len {K : PySem.W.Frag} {ρ η : List Addr} {H : Hp} {kvs : List (Key × W)} {kv : List (Key × V)} (h : KVs K ρ η H kvs kv) : kv.length = kvs.length := by
  have := congrArg List.length h.1
  simpa using this
/-- o[i] = v of a dict -/
def wPutD (o i v : W) (st : Sto) : Option Sto := match o with
  | .ref n => match st[n]? with
    | some (.dk kvs) => match keyOf i with
      | some k => if kvs.length < sizeLine then some (st.set n (.dk (putKW kvs k v))) else none
      | none => none
    | _ => none
  | _ => none
def wStore (o i v : W) (st : Sto) : Option Sto := match wSet o i v st with
  | some s => some s
  | none => wPutD o i v st
def gSub' (mo mi : M W) : MG := fun w env st => match mo env st with
  | .ok o s1 => match mi env s1 with
    | .ok i s2 => match wStore o i w s2 with
      | some s3 => some (env, s3)
      | none => none
    | _ => none
  | _ => none
theorem wputd_ok {ρ η : List Addr} {H : Hp} {st st1 : Sto} {o i v : W} {ov iv vv : V} (s : SR X.K T ρ η st H) (ro : VR X.K ρ η H o ov) (ri : VR X.K ρ η H i iv) (rv : VR X.K ρ η H v vv) (e : wPutD o i v st = some st1) :
    ∃ (p : Addr) (H1 : Hp), ov = .ref p ∧ DPut H p iv vv H1 ∧ Grow ρ H ρ H1 ∧ SR X.K T ρ η st1 H1 := by
  unfold wPutD at e
  split at e
  · rename_i n
    split at e
    · rename_i kvs q
      split at e
      · rename_i k z
        split at e
        · rename_i lz
          cases e
          obtain ⟨p, e1, e2, kv, e3, e4, e5⟩ := node_at s ro q
          have kk : KVs X.K ρ η H kvs kv := ⟨e4, e5⟩
          have g : Grow ρ H ρ (upd H p (.dK (putK kv k vv))) := Grow.write (List.mem_of_getElem? e2) (open_of e3 fun _ _ z => nomatch z)
          have k2 := (kk.put (k := k) rv).mono g
          rw [key_ok ri z]
          exact ⟨p, _, e1, DPut.k e3 (by rw [kk.len]; exact lz), g, s.write (open_of e3 fun _ _ z => nomatch z) e2 ⟨_, upd_same, k2.1, k2.2⟩⟩
        · cases e
      · cases e
    · cases e
  · cases e
/-- o[i] = .. -/
theorem sg_sub {o i : Expr} {mo mi : M W} (hu : X.A.units + 1 < cLine) (ho : SE X T W0 o mo) (hi : SE X T W0 i mi)
    (ha : ∀ v, assign (.Subscript o i pos) X.env v = (do
      let ov ← holding [v] (eval o X.env)
      let iv ← holding [v, ov] (eval i X.env)
      standAt pos
      holding [v, ov, iv] (setItem ov iv v)
      release [v, ov, iv] []) := by intro _; rfl) : SGt X T (.Subscript o i pos) (gSub' mo mi) := by
  intro ρ η st env σ H w v Q s er r h
  have pset : PSet X (fun o i v H Q => rSetL o i v H Q ∨ rSetD o i v H Q) := fun pins s σ H o i v ov iv u Q I ro ri rv h => h.elim (fun h => set_list pins s σ H o i v ov iv u Q I ro ri rv h) fun h => set_dict hu pins s σ H o i v ov iv u Q I ro ri rv h
  refine ⟨_, pg_sub pe_S pe_S pset ha, ?_⟩
  unfold gSub' at h
  refine ho ρ η st env σ H _ s er ?_
  cases e1 : mo env st with
  | ok ow s1 =>
    rw [e1] at h
    dsimp only at h
    intro ρ1 H1 ov g1 sr1 r1
    refine hi ρ1 η s1 env σ H1 _ sr1 (er.mono g1) ?_
    cases e2 : mi env s1 with
    | ok iw s2 =>
      rw [e2] at h
      intro ρ2 H2 iv g2 sr2 r2
      dsimp only at h
      have rv := (r.mono g1).mono g2
      have ro := r1.mono g2
      have er2 := (er.mono g1).mono g2
      split at h
      · rename_i s3 e3
        unfold wStore at e3
        split at e3
        · rename_i s4 e4
          cases e3
          obtain ⟨p, xs, k, j, f1, f2, f3, f4, f5, f6⟩ := wset_ok sr2 ro r2 rv e4
          exact .inl ⟨p, xs, k, j, f1, f2, f3, f4, h ρ2 _ σ ((g1.trans g2).trans f5) f6 (er2.mono f5)⟩
        · obtain ⟨p, H3, f1, f2, f3, f4⟩ := wputd_ok sr2 ro r2 rv e3
          exact .inr ⟨p, H3, f1, f2, h ρ2 H3 σ ((g1.trans g2).trans f3) f4 (er2.mono f3)⟩
      · exact h.elim
    | ex x s2 => rw [e2] at h; exact h.elim
    | stuck => rw [e2] at h; exact h.elim
  | ex x s1 => rw [e1] at h; exact h.elim
  | stuck => rw [e1] at h; exact h.elim
/-! ### fields -/
theorem putW_ok {ρ η : List Addr} {H : Hp} {f : Str} {w : W} {v : V} (r : VR X.K ρ η H w v) : ∀ {fs : List (Str × W)} {fv : List (Str × V)}, fv.map (·.1) = fs.map (·.1) → VRs X.K ρ η H (fs.map (·.2)) (fv.map (·.2)) →
    (putF f v fv).map (·.1) = (putW f w fs).map (·.1) ∧ VRs X.K ρ η H ((putW f w fs).map (·.2)) ((putF f v fv).map (·.2))
  | [], [], _, _ => ⟨rfl, VRs.cons r VRs.nil⟩
  | [], p :: fv, e, _ => by simp at e
  | p :: fs, [], e, _ => by simp at e
  | (a, y) :: fs, (b, z) :: fv, e, h => by
    simp only [List.map_cons, List.cons.injEq] at e
    obtain ⟨e1, e2⟩ := e
    subst e1
    rw [List.map_cons, List.map_cons] at h
    simp only [VRs] at h
    obtain ⟨v', r', q1, q2, q3⟩ := h
    simp only [List.cons.injEq] at q1
    obtain ⟨q1, q4⟩ := q1
    subst q1; subst q4
    have ih := putW_ok (f := f) r e2 q3
    unfold putW putF
    by_cases q : b = f
    · rw [if_pos q, if_pos q]
      exact ⟨by simp [e2, q], VRs.cons r q3⟩
    · rw [if_neg q, if_neg q]
      exact ⟨by simp [ih.1], VRs.cons q2 ih.2⟩
theorem wsetf_ok {ρ η : List Addr} {H : Hp} {st st1 : Sto} {cs : List Nat} {f : Str} {o v : W} {ov vv : V} (s : SR X.K T ρ η st H) (ro : VR X.K ρ η H o ov) (rv : VR X.K ρ η H v vv) (e : wSetF cs f o v st = some st1) :
    ∃ (a : Addr) (c : Nat) (dx : Addr) (fs : List (Str × V)), ov = .ref a ∧ H a = some (.ins (T c) dx fs) ∧ c ∈ cs ∧ fs.length < 1000 ∧ Grow ρ H ρ (upd H a (.ins (T c) dx (putF f vv fs))) ∧ SR X.K T ρ η st1 (upd H a (.ins (T c) dx (putF f vv fs))) := by
  unfold wSetF at e
  split at e
  · rename_i n
    split at e
    · rename_i c fs q
      split at e
      · rename_i z
        cases e
        obtain ⟨p, e1, e2, dx, fv, e3, e4, e5⟩ := node_at s ro q
        have g : Grow ρ H ρ (upd H p (.ins (T c) dx (putF f vv fv))) := Grow.write (List.mem_of_getElem? e2) (open_of e3 fun _ _ z => nomatch z)
        have l := congrArg List.length e4
        simp only [List.length_map] at l
        obtain ⟨k1, k2⟩ := putW_ok (f := f) rv e4 e5
        exact ⟨p, c, dx, fv, e1, e3, by simpa using z.1, by rw [l]; exact z.2, g, s.write (open_of e3 fun _ _ z => nomatch z) e2 ⟨dx, _, upd_same, k1, k2.mono g⟩⟩
      · cases e
    · cases e
  · cases e
theorem ss_fld {cs : List Nat} {f : Str} {o e : Expr} {mo m : M W} {pos' : Pos} (ho : SE X T Wx o mo) (he : SE X T Wx e m) (hc : ∀ c ∈ cs, Cls X.K (T c) ∧ NoAttr X.K (T c) f) (hs : swapsWith e (some (.Attribute o f pos')) pos.line X.env = pure false := by rfl) :
    SSt X T Wx (.Assign [.Attribute o f pos'] e pos) (sFld' cs f mo m) := by
  intro ρ η st env σ H D s er q
  refine ⟨_, ps_fld pe_S pe_S hs, ?_⟩
  refine he ρ η st env σ H _ s er (q.bind er fun w s1 ρ1 H1 v _ g1 sr1 r1 h1 => ?_)
  refine ho ρ1 η s1 env σ H1 _ sr1 (er.mono g1) (h1.bind (er.mono g1) fun ow s2 ρ2 H2 ov _ g2 sr2 r2 h2 => ?_)
  split at h2
  · rename_i s3 e3
    obtain ⟨a, c, dx, fs, f1, f2, f3, f4, f5, f6⟩ := wsetf_ok sr2 r2 (r1.mono g2) e3
    obtain ⟨k1, k2⟩ := hc c f3
    exact ⟨a, T c, dx, fs, f1, f2, k1, k2, f4, h2 ρ2 _ σ f5 f6 (((er.mono g1).mono g2).mono f5)⟩
  · exact h2.elim
end
end Mi
namespace Mi
open PySem PySem.Spec PyProof.Rows L2
abbrev FC := List W → Sto → Rs W
def OkC (K : PySem.W.Frag) (T : Nat → Addr) (f : FC) (r : List V → Hp → VK → Prop) : Prop := ∀ ρ η st H ws vs Q E, SR K T ρ η st H → VRs K ρ η H ws vs → After K T η (fun ρ H => VR K ρ η H) ρ H (f ws st) Q E → r vs H Q
def mFn (f : FC) (m : M (List W)) : M W := fun env st => (m env st).bind f
section
variable {X : Cx} {T : Nat → Addr} {Wx : WX'} {pos p : Pos} {x : Str} {e : Expr} {es : List Expr} {ma : M (List W)} {r : List V → Hp → VK → Prop} {f : FC}
theorem se_blt {id : String} (hr : CallR X (.builtin id) r) (hf : OkC X.K T f r) (hg : Gl X x) (hm : X.mg x = none) (hv : bootBuiltins x = some (.builtin id)) (ha : SA X T Wx (e :: es) ma) (hn : x ≠ "__name__" := by decide) (hdb : (x == ("__debug__" : Str)) = false := by decide)
    (hst : starEach (e :: es) X.env = (false, eval e X.env) :: starEach es X.env := by rfl) (hpl : (backTo pos (starEach es X.env)).any (·.1) = false := by rfl) : SE X T Wx (.Call (.Name x p) (e :: es) [] pos) (mFn f ma) := by
  intro ρ η st env σ H Q s er q
  refine ⟨_, pe_callB hr hg hm hv pa_S hn hdb hst hpl, ?_⟩
  exact ha ρ η st env σ H _ s er (q.bind fun ws s1 ρ1 H1 vs g1 sr1 r1 h1 => hf ρ1 η s1 H1 ws vs Q _ sr1 r1 h1)
theorem se_bty {id : String} (hr : CallR X (.type id) r) (hf : OkC X.K T f r) (hg : Gl X x) (hm : X.mg x = none) (hv : bootBuiltins x = some (.type id)) (ha : SA X T Wx (e :: es) ma) (hn : x ≠ "__name__" := by decide) (hdb : (x == ("__debug__" : Str)) = false := by decide)
    (hst : starEach (e :: es) X.env = (false, eval e X.env) :: starEach es X.env := by rfl) (hpl : (backTo pos (starEach es X.env)).any (·.1) = false := by rfl) : SE X T Wx (.Call (.Name x p) (e :: es) [] pos) (mFn f ma) := by
  intro ρ η st env σ H Q s er q
  refine ⟨_, pe_callTy hr hg hm hv pa_S hn hdb hst hpl, ?_⟩
  exact ha ρ η st env σ H _ s er (q.bind fun ws s1 ρ1 H1 vs g1 sr1 r1 h1 => hf ρ1 η s1 H1 ws vs Q _ sr1 r1 h1)
end
/-! ### by values -/
def fLen : FC := fun ws st => match ws with
  | [w] => match seqL st w with
    | some xs => .ok (.int xs.length) st
    | none => match w with
      | .tup xs => .ok (.int xs.length) st
      | .str z => if z.length ≤ sizeLine then .ok (.int z.length) st else .stuck
      | .ref i => match st[i]? with
        | some (.dk kvs) => .ok (.int kvs.length) st
        | _ => .stuck
      | _ => .stuck
  | _ => .stuck
def fAbs : FC := fun ws st => match ws with
  | [.int i] => .ok (.int (if i < 0 then -i else i)) st
  | _ => .stuck
def fInt : FC := fun ws st => match ws with
  | [.int i] => .ok (.int i) st
  | [.bl k] => .ok (.int (if k = true then 1 else 0)) st
  | _ => .stuck
def fList (fz : Bool) : FC := fun ws st => match ws with
  | [w] => match seqL st w with
    | some xs => newL fz xs st
    | none => match w with
      | .tup xs => newL fz xs st
      | _ => .stuck
  | _ => .stuck
def fTuple : FC := fun ws st => match ws with
  | [w] => match seqL st w with
    | some xs => .ok (.tup xs) st
    | none => match w with
      | .tup xs => .ok (.tup xs) st
      | _ => .stuck
  | _ => .stuck
/-- the name of a built-in value's type -/
def tyOf (st : Sto) : W → Option String
  | .non => some "NoneType"
  | .bl _ => some "bool"
  | .int _ => some "int"
  | .str _ => some "str"
  | .tup _ => some "tuple"
  | .lst _ => some "list"
  | .ref i => match st[i]? with
    | some (.lst _) => some "list"
    | some (.dk _) => some "dict"
    | some (.lk _) => some "dict"
    | _ => none
  | _ => none
/-- isinstance for built-in types; own: for an own class's instance -/
def fIsi (own : Nat → String → Option Bool) : FC := fun ws st => match ws with
  | [w, .ty n] => match tyOf st w with
    | some t => match kitB t n with
      | some b => .ok (.bl b) st
      | none => .stuck
    | none => match w with
      | .ref i => match st[i]? with
        | some (.ins c _) => match own c n with
          | some b => .ok (.bl b) st
          | none => .stuck
        | _ => .stuck
      | _ => .stuck
  | _ => .stuck
def blsOf : List W → Option (List Bool)
  | [] => some []
  | .bl b :: r => (blsOf r).map (b :: ·)
  | _ => none
def fAll : FC := fun ws st => match ws with
  | [w] => match seqL st w with
    | some xs => match blsOf xs with
      | some bs => .ok (.bl (bs.all id)) st
      | none => .stuck
    | none => .stuck
  | _ => .stuck
def fAny : FC := fun ws st => match ws with
  | [w] => match seqL st w with
    | some xs => match blsOf xs with
      | some bs => .ok (.bl (bs.any id)) st
      | none => .stuck
    | none => .stuck
  | _ => .stuck
def intsOf : List W → Option (List Int)
  | [] => some []
  | .int b :: r => (intsOf r).map (b :: ·)
  | _ => none
def sortZ (ns : List Int) : List Int := ns.mergeSort fun a b => decide (a ≤ b)
def fSorted (fz : Bool) : FC := fun ws st => match ws with
  | [w] => match seqL st w with
    | some xs => match intsOf xs with
      | some ns => newL fz ((sortZ ns).map W.int) st
      | none => .stuck
    | none => match dkOf st w with
      | some kvs => match intsOf (kvs.map fun p => match p.1 with | .inl i => W.int i | .inr x => W.str x) with
        | some ns => if ns.length < 64 then newL fz ((sortZ ns).map W.int) st else .stuck
        | none => .stuck
      | none => .stuck
  | _ => .stuck
section
variable {K : PySem.W.Frag} {T : Nat → Addr} {ρ η : List Addr} {H : Hp} {st : Sto}
theorem vrs1 {w : W} {vs : List V} (h : VRs K ρ η H [w] vs) : ∃ v, vs = [v] ∧ VR K ρ η H w v := by
  simp only [VRs] at h
  obtain ⟨v, r, e, h1, h2⟩ := h
  subst h2
  exact ⟨v, e, h1⟩
theorem vrs2 {w u : W} {vs : List V} (h : VRs K ρ η H [w, u] vs) : ∃ v z, vs = [v, z] ∧ VR K ρ η H w v ∧ VR K ρ η H u z := by
  simp only [VRs] at h
  obtain ⟨v, r, e, h1, v2, r2, e2, h2, h3⟩ := h
  subst h3; subst e2
  exact ⟨v, v2, e, h1, h2⟩
theorem okc_len : OkC K T fLen (fun xs H Q => (∃ x n, xs = [x] ∧ LenV K x H n ∧ Q (.int (n : Nat)) H) ∨ ∃ a kvs, xs = [V.ref a] ∧ H a = some (.dK kvs) ∧ Q (.int (kvs.length : Nat)) H) := by
  intro ρ η st H ws vs Q E s r h
  unfold fLen at h
  split at h
  · rename_i w
    obtain ⟨v, e, rr⟩ := vrs1 r
    clear r
    have r := rr
    clear rr
    subst e
    split at h
    · rename_i xs q
      obtain ⟨a, us, e1, e2, e3⟩ := seq_ok s r q
      subst e1
      exact .inl ⟨_, xs.length, rfl, .inl ⟨us, e2, e3.len.symm⟩, h.ok s (by simp only [VR])⟩
    · split at h
      · rename_i xs q
        obtain ⟨a, us, e1, e2, e3⟩ := tup_ok r (show tupL (.tup xs) = some xs from rfl)
        subst e1
        exact .inl ⟨_, xs.length, rfl, .inr ⟨us, e2, e3.len.symm⟩, h.ok s (by simp only [VR])⟩
      · rename_i z q
        split at h
        · rename_i lz
          simp only [VR] at r
          subst r
          exact .inl ⟨_, z.length, rfl, ⟨lz, rfl⟩, h.ok s (by simp only [VR])⟩
        · exact h.elim
      · rename_i i q
        split at h
        · rename_i kvs e
          obtain ⟨a, e1, _, kv, e2, e3, e4⟩ := node_at s r e
          subst e1
          have l := congrArg List.length e3
          simp only [List.length_map] at l
          refine .inr ⟨a, kv, rfl, e2, ?_⟩
          rw [l]
          exact h.ok s (by simp only [VR])
        · exact h.elim
      · exact h.elim
  · exact h.elim
theorem okc_abs : OkC K T fAbs (fun xs H Q => ∃ i, xs = [.int i] ∧ Q (.int (if i < 0 then -i else i)) H) := by
  intro ρ η st H ws vs Q E s r h
  unfold fAbs at h
  split at h
  · obtain ⟨v, e, rr⟩ := vrs1 r
    clear r
    have r := rr
    clear rr
    simp only [VR] at r
    subst r
    exact ⟨_, e, h.ok s (by simp only [VR])⟩
  · exact h.elim
theorem okc_int : OkC K T fInt (fun xs H Q => (∃ i, xs = [.int i] ∧ Q (.int i) H) ∨ ∃ k, xs = [.bl k] ∧ Q (.int (if k then 1 else 0)) H) := by
  intro ρ η st H ws vs Q E s r h
  unfold fInt at h
  split at h
  · obtain ⟨v, e, rr⟩ := vrs1 r
    clear r
    have r := rr
    clear rr
    simp only [VR] at r
    subst r
    exact .inl ⟨_, e, h.ok s (by simp only [VR])⟩
  · obtain ⟨v, e, rr⟩ := vrs1 r
    clear r
    have r := rr
    clear rr
    simp only [VR] at r
    subst r
    exact .inr ⟨_, e, h.ok s (by simp only [VR])⟩
  · exact h.elim
theorem okc_list {fz : Bool} : OkC K T (fList fz) (fun xs H Q => ∃ p ys, xs = [.ref p] ∧ (SqL K H p ys ∨ SqT K H p ys) ∧ ∀ l, H l = none → Q (.ref l) (upd H l (.lst ys))) := by
  intro ρ η st H ws vs Q E s r h
  unfold fList at h
  split at h
  · rename_i w
    obtain ⟨v, e, rr⟩ := vrs1 r
    clear r
    have r := rr
    clear rr
    subst e
    split at h
    · rename_i xs q
      obtain ⟨a, us, e1, e2, e3⟩ := seq_ok s r q
      subst e1
      exact ⟨a, us, rfl, .inl e2, fun l hl => newL_ok h s e3 hl⟩
    · split at h
      · rename_i xs q
        obtain ⟨a, us, e1, e2, e3⟩ := tup_ok r (show tupL (.tup xs) = some xs from rfl)
        subst e1
        exact ⟨a, us, rfl, .inr e2, fun l hl => newL_ok h s e3 hl⟩
      · exact h.elim
  · exact h.elim
theorem okc_tuple : OkC K T fTuple (fun xs H Q => ∃ p ys, xs = [.ref p] ∧ ((SqL K H p ys ∧ ∀ l, H l = none → Q (.ref l) (upd H l (.tup ys))) ∨ (SqT K H p ys ∧ Q (.ref p) H))) := by
  intro ρ η st H ws vs Q E s r h
  unfold fTuple at h
  split at h
  · rename_i w
    obtain ⟨v, e, rr⟩ := vrs1 r
    clear r
    have r := rr
    clear rr
    subst e
    split at h
    · rename_i xs q
      obtain ⟨a, us, e1, e2, e3⟩ := seq_ok s r q
      subst e1
      exact ⟨a, us, rfl, .inl ⟨e2, fun l hl => newT_ok h s e3 hl⟩⟩
    · split at h
      · rename_i xs q
        obtain ⟨a, us, e1, e2, e3⟩ := tup_ok r (show tupL (.tup xs) = some xs from rfl)
        subst e1
        exact ⟨a, us, rfl, .inr ⟨e2, h.ok s r⟩⟩
      · exact h.elim
  · exact h.elim
theorem ty_ok {w : W} {v : V} {t : String} (s : SR K T ρ η st H) (r : VR K ρ η H w v) (e : tyOf st w = some t) : TyX K H v (.type t) := by
  cases w with
  | non => simp only [VR] at r; subst r; simp only [tyOf, Option.some.injEq] at e; subst e; exact .base .non
  | bl b => simp only [VR] at r; subst r; simp only [tyOf, Option.some.injEq] at e; subst e; exact .base (.bl b)
  | int b => simp only [VR] at r; subst r; simp only [tyOf, Option.some.injEq] at e; subst e; exact .base (.int b)
  | str b => simp only [VR] at r; subst r; simp only [tyOf, Option.some.injEq] at e; subst e; exact .base (.str b)
  | ty n => simp [tyOf] at e
  | at_ n => simp [tyOf] at e
  | fn _ _ _ _ => simp [tyOf] at e
  | exc _ _ _ _ => simp [tyOf] at e
  | scr n => simp [tyOf] at e
  | tup xs =>
    simp only [tyOf, Option.some.injEq] at e
    subst e
    simp only [VR] at r
    obtain ⟨a, vs, e1, e2, e3⟩ := r
    subst e1
    rcases e2 with ⟨_, _, h⟩ | ⟨o, its, n, h1, h2, _⟩
    · rcases h with h | ⟨o, h⟩
      · exact .base (.tup h)
      · exact .fTuple h
    · exact .kTuple h1 h2
  | lst xs =>
    simp only [tyOf, Option.some.injEq] at e
    subst e
    simp only [VR] at r
    obtain ⟨a, vs, e1, e2, e3⟩ := r
    subst e1
    exact .base (.lst e2.2.2)
  | ref i =>
    simp only [tyOf] at e
    split at e
    · rename_i xs q
      cases e
      obtain ⟨a, e1, _, vs, e2, _⟩ := node_at s r q
      subst e1
      exact .base (.lst e2)
    · rename_i xs q
      cases e
      obtain ⟨a, e1, _, vs, e2, _⟩ := node_at s r q
      subst e1
      exact .base (.dK e2)
    · rename_i xs q
      cases e
      obtain ⟨a, e1, _, od, vs, e2, _⟩ := node_at s r q
      subst e1
      exact .fDict e2
    · cases e
/-- what isinstance asks of an own class's instance -/
structure IsiOwn (K : PySem.W.Frag) (C : Addr) : Prop where
  cl : Cls K C
  ha : PySem.W.findIn K (.ref C) "__class__" = some (some (.builtin "object.__class__"))
  hn : PySem.W.specialIn K (.builtin "object.__class__") "__get__" = some (some (.builtin "getset_descriptor.__get__"))
  htk : PySem.W.takesIn K (.builtin "object.__class__") = some true
  hm : PySem.W.mroIn K C (.type "object") = some true
theorem okc_isi {own : Nat → String → Option Bool} (ho : ∀ c n b, own c n = some b → IsiOwn K (T c) ∧ PySem.W.kitOne K (.ref (T c)) (.type n) = some b) : OkC K T (fIsi own) (rIsi K) := by
  intro ρ η st H ws vs Q E s r h
  unfold fIsi at h
  split at h
  · rename_i w n
    obtain ⟨v, z, e, r1, r2⟩ := vrs2 r
    simp only [VR] at r2
    subst r2
    split at h
    · rename_i t q
      split at h
      · rename_i b q2
        exact ⟨v, .ty n, .type t, .type n, b, e, .ty n, ty_ok s r1 q, kit_ty q2, h.ok s (by simp only [VR])⟩
      · exact h.elim
    · split at h
      · rename_i i q
        split at h
        · rename_i c fs q2
          split at h
          · rename_i b q3
            obtain ⟨o1, o2⟩ := ho c n b q3
            obtain ⟨a, e1, _, dx, fv, e2, _⟩ := node_at s r1 q2
            subst e1
            exact ⟨_, .ty n, .ref (T c), .type n, b, e, .ty n, .base (.ins e2 o1.cl o1.ha o1.hn o1.htk o1.hm), o2, h.ok s (by simp only [VR])⟩
          · exact h.elim
        · exact h.elim
      · exact h.elim
  · exact h.elim
theorem bls_ok : ∀ {ws : List W} {vs : List V} {bs : List Bool}, VRs K ρ η H ws vs → blsOf ws = some bs → vs = bs.map V.bl
  | [], vs, bs, r, e => by
    simp only [VRs] at r
    simp only [blsOf, Option.some.injEq] at e
    subst r; subst e; rfl
  | .bl b :: ws, vs, bs, r, e => by
    simp only [VRs, VR] at r
    obtain ⟨v, rr, e1, e2, e3⟩ := r
    simp only [blsOf, Option.map_eq_some_iff] at e
    obtain ⟨cs, e4, e5⟩ := e
    subst e1; subst e2; subst e5
    rw [bls_ok e3 e4, List.map_cons]
  | .non :: ws, vs, bs, r, e => by simp [blsOf] at e
  | .int _ :: ws, vs, bs, r, e => by simp [blsOf] at e
  | .str _ :: ws, vs, bs, r, e => by simp [blsOf] at e
  | .ty _ :: ws, vs, bs, r, e => by simp [blsOf] at e
  | .tup _ :: ws, vs, bs, r, e => by simp [blsOf] at e
  | .lst _ :: ws, vs, bs, r, e => by simp [blsOf] at e
  | .scr _ :: ws, vs, bs, r, e => by simp [blsOf] at e
  | .ref _ :: ws, vs, bs, r, e => by simp [blsOf] at e
  | .at_ _ :: ws, vs, bs, r, e => by simp [blsOf] at e
  | .fn _ _ _ _ :: ws, vs, bs, r, e => by simp [blsOf] at e
  | .exc _ _ _ _ :: ws, vs, bs, r, e => by simp [blsOf] at e
theorem ints_ok : ∀ {ws : List W} {vs : List V} {bs : List Int}, VRs K ρ η H ws vs → intsOf ws = some bs → vs = bs.map V.int
  | [], vs, bs, r, e => by
    simp only [VRs] at r
    simp only [intsOf, Option.some.injEq] at e
    subst r; subst e; rfl
  | .int b :: ws, vs, bs, r, e => by
    simp only [VRs, VR] at r
    obtain ⟨v, rr, e1, e2, e3⟩ := r
    simp only [intsOf, Option.map_eq_some_iff] at e
    obtain ⟨cs, e4, e5⟩ := e
    subst e1; subst e2; subst e5
    rw [ints_ok e3 e4, List.map_cons]
  | .non :: ws, vs, bs, r, e => by simp [intsOf] at e
  | .bl _ :: ws, vs, bs, r, e => by simp [intsOf] at e
  | .str _ :: ws, vs, bs, r, e => by simp [intsOf] at e
  | .ty _ :: ws, vs, bs, r, e => by simp [intsOf] at e
  | .tup _ :: ws, vs, bs, r, e => by simp [intsOf] at e
  | .lst _ :: ws, vs, bs, r, e => by simp [intsOf] at e
  | .scr _ :: ws, vs, bs, r, e => by simp [intsOf] at e
  | .ref _ :: ws, vs, bs, r, e => by simp [intsOf] at e
  | .at_ _ :: ws, vs, bs, r, e => by simp [intsOf] at e
  | .fn _ _ _ _ :: ws, vs, bs, r, e => by simp [intsOf] at e
  | .exc _ _ _ _ :: ws, vs, bs, r, e => by simp [intsOf] at e
theorem okc_all : OkC K T fAll (rAll K) := by
  intro ρ η st H ws vs Q E s r h
  unfold fAll at h
  split at h
  · rename_i w
    obtain ⟨v, e, rr⟩ := vrs1 r
    clear r
    have r := rr
    clear rr
    subst e
    split at h
    · rename_i xs q
      obtain ⟨a, us, e1, e2, e3⟩ := seq_ok s r q
      split at h
      · rename_i bs q2
        have := bls_ok e3 q2
        subst us; subst e1
        exact ⟨a, bs, rfl, e2, h.ok s (by simp only [VR])⟩
      · exact h.elim
    · exact h.elim
  · exact h.elim
theorem okc_any : OkC K T fAny (rAny K) := by
  intro ρ η st H ws vs Q E s r h
  unfold fAny at h
  split at h
  · rename_i w
    obtain ⟨v, e, rr⟩ := vrs1 r
    clear r
    have r := rr
    clear rr
    subst e
    split at h
    · rename_i xs q
      obtain ⟨a, us, e1, e2, e3⟩ := seq_ok s r q
      split at h
      · rename_i bs q2
        have := bls_ok e3 q2
        subst us; subst e1
        exact ⟨a, bs, rfl, e2, h.ok s (by simp only [VR])⟩
      · exact h.elim
    · exact h.elim
  · exact h.elim
theorem sortZ_of {ns ms : List Int} (p : ms.Perm ns) (q : ms.Pairwise (· ≤ ·)) : ms = sortZ ns := by
  have p2 : (sortZ ns).Perm ns := List.mergeSort_perm ns _
  have q2 : (sortZ ns).Pairwise (· ≤ ·) := by
    have := List.pairwise_mergeSort (le := fun a b : Int => decide (a ≤ b)) (by intro a b c; simp; omega) (by intro a b; simp; omega) ns
    exact this.imp (by intro a b; simp)
  exact (p.trans p2.symm).eq_of_pairwise (fun a b _ _ h1 h2 => Int.le_antisymm h1 h2) q q2
theorem vints {ns : List Int} : VRs K ρ η H (ns.map W.int) (ns.map V.int) := by
  refine VRs.of_get (by simp) fun i x v e1 e2 => ?_
  rw [List.getElem?_map] at e1 e2
  cases q : ns[i]? with
  | none => rw [q] at e1; cases e1
  | some n =>
    rw [q] at e1 e2
    cases e1; cases e2
    simp only [VR]
def rSortDI : List V → Hp → VK → Prop := fun xs H Q => ∃ (a : Addr) (kvs : List (Key × V)) (ks : List Int), xs = [.ref a] ∧ Rd H a (.dK kvs) ∧ kvs.map (·.1) = ks.map Sum.inl ∧ ks.length < 64 ∧ ∀ (ys : List Int) (p : Addr), ys.Perm ks → ys.Pairwise (· ≤ ·) → H p = none → Q (.ref p) (upd H p (.lst (ys.map V.int)))
theorem okc_sorted {fz : Bool} : OkC K T (fSorted fz) (fun xs H Q => rSortedI K xs H Q ∨ rSortDI xs H Q) := by
  intro ρ η st H ws vs Q E s r h
  unfold fSorted at h
  split at h
  · rename_i w
    obtain ⟨v, e, rr⟩ := vrs1 r
    clear r
    have r := rr
    clear rr
    subst e
    split at h
    · rename_i xs q
      obtain ⟨a, us, e1, e2, e3⟩ := seq_ok s r q
      split at h
      · rename_i ns q2
        have := ints_ok e3 q2
        subst us; subst e1
        refine .inl ⟨a, ns, rfl, e2, fun ns' p p1 p2 hp => ?_⟩
        rw [sortZ_of p1 p2]
        exact newL_ok h s vints hp
      · exact h.elim
    · split at h
      · rename_i kvs q
        split at h
        · rename_i ns q2
          split at h
          · rename_i lz
            have hs : ∀ {st : Sto} {w : W} {v : V} {kvs : List (Key × W)}, SR K T ρ η st H → VR K ρ η H w v → dkOf st w = some kvs → ∃ a kv, v = .ref a ∧ Rd H a (.dK kv) ∧ kv.map (·.1) = kvs.map (·.1) := by
              intro st w v kvs s r e
              cases w with
              | ref i =>
                simp only [dkOf] at e
                split at e
                · rename_i ks q
                  cases e
                  obtain ⟨a, h1, _, kv, h2, h3, h4⟩ := node_at s r q
                  exact ⟨a, kv, h1, .inl h2, h3⟩
                · rename_i ks q
                  cases e
                  obtain ⟨a, h1, _, od, kv, h2, h3, h4⟩ := node_at s r q
                  exact ⟨a, kv, h1, .inr ⟨od, h2⟩, h3⟩
                · cases e
              | _ => simp [dkOf] at e
            obtain ⟨a, kv, e1, e2, e3⟩ := hs s r q
            have ks : ∀ {kvs : List (Key × W)} {ns : List Int}, intsOf (kvs.map fun p => match p.1 with | .inl i => W.int i | .inr x => W.str x) = some ns → kvs.map (·.1) = ns.map Sum.inl := by
              intro kvs
              induction kvs with
              | nil => intro ns e; simp [intsOf] at e; subst e; rfl
              | cons p kvs ih =>
                intro ns e
                obtain ⟨k, w⟩ := p
                cases k with
                | inl i =>
                  simp only [List.map_cons, intsOf, Option.map_eq_some_iff] at e
                  obtain ⟨ms, e1, e2⟩ := e
                  subst e2
                  rw [List.map_cons, ih e1, List.map_cons]
                | inr x => simp [intsOf] at e
            subst e1
            refine .inr ⟨a, kv, ns, rfl, e2, by rw [e3]; exact ks q2, lz, fun ys p p1 p2 hp => ?_⟩
            rw [sortZ_of p1 p2]
            exact newL_ok h s vints hp
          · exact h.elim
        · exact h.elim
      · exact h.elim
  · exact h.elim
end
end Mi
namespace Mi
open PySem PySem.Spec PyProof.Rows L2
section
variable {X : Cx} {T : Nat → Addr} {Wx : WX'} {pos : Pos}
/-! ### a method of a list -/
abbrev FM := W → List W → Sto → Rs W
def OkM (K : PySem.W.Frag) (T : Nat → Addr) (f : FM) (r : V → List V → Hp → VK → Prop) : Prop := ∀ ρ η st H o ws x vs Q E, SR K T ρ η st H → VR K ρ η H o x → VRs K ρ η H ws vs → After K T η (fun ρ H => VR K ρ η H) ρ H (f o ws st) Q E → r x vs H Q
def mLm (f : FM) (mo : M W) (ma : M (List W)) : M W := fun env st => (mo env st).bind fun o s1 => if (seqL s1 o).isSome = true then (ma env s1).bind fun ws s2 => f o ws s2 else .stuck
theorem se_lm {id : String} {name : Str} {o e : Expr} {es : List Expr} {mo : M W} {ma : M (List W)} {f : FM} {r : V → List V → Hp → VK → Prop} {apos : Pos} (slot : Slot "list" name id) (hty : typeOf (.builtin id) = pure (.type "method_descriptor")) (hm : MtR X id r) (hf : OkM X.K T f r)
    (ho : SE X T Wx o mo) (ha : SA X T Wx (e :: es) ma)
    (hbase : attributeBase o name X.env (eval o X.env) = eval o X.env := by rfl)
    (hfew : ((backTo pos (starEach (e :: es) X.env)).all (fun x => !x.1) && (backToKw pos (keywordEach [] X.env)).all (fun x => x.1.isSome)
      && decide ((e :: es).length + ([] : List Keyword).length + (if ([] : List Keyword).isEmpty then 0 else 1) < 30)) = true := by rfl)
    (hline : (apos.endLine == pos.line) = true := by rfl) (hs : starEach (e :: es) X.env = (false, eval e X.env) :: starEach es X.env := by rfl) (hplain : (backTo pos (starEach es X.env)).any (·.1) = false := by rfl) :
    SE X T Wx (.Call (.Attribute o name apos) (e :: es) [] pos) (mLm f mo ma) := by
  intro ρ η st env σ H Q s er q
  refine ⟨_, pe_bm PySem.F.plainAttrs_list slot hty hm pe_S pa_S hbase hfew hline hs hplain, ?_⟩
  refine ho ρ η st env σ H _ s er (q.bind fun w s1 ρ1 H1 v g1 sr1 r1 h1 => ?_)
  split at h1
  · rename_i z
    obtain ⟨xs, z⟩ := Option.isSome_iff_exists.mp z
    obtain ⟨a, vs, e1, e2, e3⟩ := seq_ok sr1 r1 z
    subst e1
    refine ⟨.inl ⟨rfl, vs, e2⟩, ?_⟩
    exact ha ρ1 η s1 env σ H1 _ sr1 (er.mono g1) (h1.bind fun ws s2 ρ2 H2 us g2 sr2 r2 h2 => hf ρ2 η s2 H2 w ws _ us Q _ sr2 (r1.mono g2) r2 h2)
  · exact h1.elim
theorem se_lm0 {id : String} {name : Str} {o : Expr} {mo : M W} {f : FM} {r : V → List V → Hp → VK → Prop} {apos : Pos} (slot : Slot "list" name id) (hty : typeOf (.builtin id) = pure (.type "method_descriptor")) (hm : MtR X id r) (hf : OkM X.K T f r)
    (ho : SE X T Wx o mo) (hbase : attributeBase o name X.env (eval o X.env) = eval o X.env := by rfl) (hline : (apos.endLine == pos.line) = true := by rfl) :
    SE X T Wx (.Call (.Attribute o name apos) [] [] pos) (mLm f mo mNil) := by
  intro ρ η st env σ H Q s er q
  refine ⟨_, pe_bm0 PySem.F.plainAttrs_list slot hty hm pe_S hbase hline, ?_⟩
  refine ho ρ η st env σ H _ s er (q.bind fun w s1 ρ1 H1 v g1 sr1 r1 h1 => ?_)
  split at h1
  · rename_i z
    obtain ⟨xs, z⟩ := Option.isSome_iff_exists.mp z
    obtain ⟨a, vs, e1, e2, e3⟩ := seq_ok sr1 r1 z
    subst e1
    exact ⟨.inl ⟨rfl, vs, e2⟩, hf ρ1 η s1 H1 w [] _ [] Q _ sr1 r1 VRs.nil h1⟩
  · exact h1.elim
end
/-- a place's list -/
def nodL (st : Sto) : W → Option (Nat × List W)
  | .ref i => match st[i]? with
    | some (.lst xs) => some (i, xs)
    | _ => none
  | _ => none
def nodD (st : Sto) : W → Option (Nat × List (Key × W))
  | .ref i => match st[i]? with
    | some (.dk xs) => some (i, xs)
    | _ => none
  | _ => none
def fAppend : FM := fun o ws st => match nodL st o, ws with
  | some (i, xs), [w] => if xs.length < sizeLine then .ok .non (st.set i (.lst (xs ++ [w]))) else .stuck
  | _, _ => .stuck
def fPop : FM := fun o ws st => match nodL st o, ws with
  | some (i, xs), [] => match xs[xs.length - 1]? with
    | some w => .ok w (st.set i (.lst xs.dropLast))
    | none => .stuck
  | _, _ => .stuck
section
variable {K : PySem.W.Frag} {T : Nat → Addr} {ρ η : List Addr} {H : Hp} {st : Sto}
theorem nodl_ok {w : W} {v : V} {i : Nat} {xs : List W} (s : SR K T ρ η st H) (h : VR K ρ η H w v) (e : nodL st w = some (i, xs)) : ∃ a vs, v = .ref a ∧ ρ[i]? = some a ∧ H a = some (.lst vs) ∧ VRs K ρ η H xs vs := by
  cases w with
  | ref j =>
    simp only [nodL] at e
    split at e
    · rename_i ys q
      cases e
      obtain ⟨a, h1, h0, vs, h2, h3⟩ := node_at s h q
      exact ⟨a, vs, h1, h0, h2, h3⟩
    · cases e
  | _ => simp [nodL] at e
theorem nodd_ok {w : W} {v : V} {i : Nat} {xs : List (Key × W)} (s : SR K T ρ η st H) (h : VR K ρ η H w v) (e : nodD st w = some (i, xs)) : ∃ a kv, v = .ref a ∧ ρ[i]? = some a ∧ H a = some (.dK kv) ∧ KVs K ρ η H xs kv := by
  cases w with
  | ref j =>
    simp only [nodD] at e
    split at e
    · rename_i ys q
      cases e
      obtain ⟨a, h1, h0, vs, h2, h3, h4⟩ := node_at s h q
      exact ⟨a, vs, h1, h0, h2, h3, h4⟩
    · cases e
  | _ => simp [nodD] at e
/-- a place's list becomes another one -/
theorem lst_put {i : Nat} {a : Addr} {vs us : List V} {ys : List W} {w : W} {v : V} {Q : V → Hp → Prop} {E : Value → Option Addr → Hp → Prop} (s : SR K T ρ η st H) (q : ρ[i]? = some a) (e : H a = some (.lst vs)) (r : VRs K ρ η H ys us) (rw : VR K ρ η H w v)
    (h : After K T η (fun ρ H => VR K ρ η H) ρ H (.ok w (st.set i (.lst ys))) Q E) : Q v (upd H a (.lst us)) := by
  have op : Open H a := open_of e fun _ _ z => nomatch z
  have g : Grow ρ H ρ (upd H a (.lst us)) := Grow.write (List.mem_of_getElem? q) op
  exact h ρ _ v g (s.write op q ⟨us, upd_same, r.mono g⟩) (rw.mono g)
theorem vr_non : VR K ρ η H .non .non := by simp only [VR]
theorem VRs.dropLast {xs : List W} {vs : List V} (h : VRs K ρ η H xs vs) : VRs K ρ η H xs.dropLast vs.dropLast := by
  rw [List.dropLast_eq_take, List.dropLast_eq_take, h.len]
  exact h.take _
theorem okm_append : OkM K T fAppend rAppend := by
  intro ρ η st H o ws x vs Q E s ro r h
  unfold fAppend at h
  split at h
  · rename_i i xs w q
    obtain ⟨a, us, e1, e2, e3, e4⟩ := nodl_ok s ro q
    obtain ⟨v, e5, r1⟩ := vrs1 r
    split at h
    · rename_i lz
      exact ⟨a, us, v, e1, e5, e3, by rw [e4.len]; exact lz, lst_put s e2 e3 (e4.append (VRs.cons r1 VRs.nil)) vr_non h⟩
    · exact h.elim
  · exact h.elim
theorem okm_pop : OkM K T fPop rPop := by
  intro ρ η st H o ws x vs Q E s ro r h
  unfold fPop at h
  split at h
  · rename_i i xs q
    obtain ⟨a, us, e1, e2, e3, e4⟩ := nodl_ok s ro q
    simp only [VRs] at r
    split at h
    · rename_i w q2
      obtain ⟨v, e5, e6⟩ := e4.get q2
      exact ⟨a, us, v, e1, r, e3, by rw [e4.len]; exact e5, lst_put s e2 e3 e4.dropLast e6 h⟩
    · exact h.elim
  · exact h.elim
end
/-! ### dicts -/
def mDin (neg : Bool) (mk mo : M W) : M W := fun env st => (mk env st).bind fun k s1 => (mo env s1).bind fun o s2 => match dkOf s2 o, keyOf k with
  | some kvs, some k => .ok (.bl (if neg = true then !(lkW kvs k).isSome else (lkW kvs k).isSome)) s2
  | _, _ => .stuck
def sDel (mo mk : M W) : MS := fun env st => (mo env st).to env fun o s1 => (mk env s1).to env fun k s2 => match nodD s2 o, keyOf k with
  | some (i, kvs), some k => if (lkW kvs k).isSome = true then .nx env (s2.set i (.dk (dropKW kvs k))) else .stuck
  | _, _ => .stuck
section
variable {X : Cx} {T : Nat → Addr} {Wx : WX'} {pos apos : Pos}
theorem din_ok {ρ η : List Addr} {H : Hp} {st : Sto} {neg : Bool} {k o : W} {kv ov : V} {Q : V → Hp → Prop} {E : Value → Option Addr → Hp → Prop} (s : SR X.K T ρ η st H) (rk : VR X.K ρ η H k kv) (ro : VR X.K ρ η H o ov)
    (h : After X.K T η (fun ρ H => VR X.K ρ η H) ρ H (match dkOf st o, keyOf k with
      | some kvs, some k => .ok (.bl (if neg = true then !(lkW kvs k).isSome else (lkW kvs k).isSome)) st
      | _, _ => .stuck) Q E) : ∃ a o, ov = .ref a ∧ DGet H a kv o ∧ Q (.bl (if neg = true then !o.isSome else o.isSome)) H := by
  split at h
  · rename_i ks k q1 q2
    obtain ⟨a, kw, f1, f2, f3, f4⟩ := dk_ok s ro q1
    rcases kv_find (k := k) f3 f4 with ⟨z1, z2⟩ | ⟨y, u, z1, z2, z3⟩
    · rw [z1] at h
      exact ⟨a, none, f1, .inl ⟨kw, k, f2, key_ok rk q2, z2.symm⟩, h.ok s (by simp only [VR]; cases neg <;> rfl)⟩
    · rw [z1] at h
      exact ⟨a, some u, f1, .inl ⟨kw, k, f2, key_ok rk q2, z2.symm⟩, h.ok s (by simp only [VR]; cases neg <;> rfl)⟩
  · exact h.elim
/-- .. as tests -/
theorem st_din {i o : Expr} {mi mo : M W} (hu : X.A.units + 1 < cLine) (hi : SE X T Wx i mi) (ho : SE X T Wx o mo) (h1 : behindInMarks .In o = false := by rfl) : STt X T Wx (.Compare i [.In] [o] pos) (mB (mDin false mi mo)) := by
  intro ρ η st env σ H Q s er q
  refine ⟨_, pt_cmp (pc_din hu pe_S pe_S) h1, ?_⟩
  unfold mB mDin at q
  rw [Rs.bind_assoc] at q
  refine hi ρ η st env σ H _ s er (q.bind fun k s1 ρ1 H1 v g1 sr1 r1 h1 => ?_)
  rw [Rs.bind_assoc] at h1
  refine ho ρ1 η s1 env σ H1 _ sr1 (er.mono g1) (h1.bind fun w s2 ρ2 H2 u g2 sr2 r2 h2 => ?_)
  have := din_ok (X := X) (T := T) (neg := false) (Q := fun v H => ∃ c, v = .bl c ∧ Q c H) (E := fun c d H' => Wx c d σ H') sr2 (r1.mono g2) r2 (h2.bind fun z s3 ρ3 H3 v3 g3 sr3 r3 h3 => toB_ok sr3 r3 h3)
  exact this
theorem st_dnin {i o : Expr} {mi mo : M W} (hu : X.A.units + 1 < cLine) (hi : SE X T Wx i mi) (ho : SE X T Wx o mo) (h1 : behindInMarks .NotIn o = false := by rfl) : STt X T Wx (.Compare i [.NotIn] [o] pos) (mB (mDin true mi mo)) := by
  intro ρ η st env σ H Q s er q
  refine ⟨_, pt_cmp (pc_dnotin hu pe_S pe_S) h1, ?_⟩
  unfold mB mDin at q
  rw [Rs.bind_assoc] at q
  refine hi ρ η st env σ H _ s er (q.bind fun k s1 ρ1 H1 v g1 sr1 r1 h1 => ?_)
  rw [Rs.bind_assoc] at h1
  refine ho ρ1 η s1 env σ H1 _ sr1 (er.mono g1) (h1.bind fun w s2 ρ2 H2 u g2 sr2 r2 h2 => ?_)
  have := din_ok (X := X) (T := T) (neg := true) (Q := fun v H => ∃ c, v = .bl c ∧ Q c H) (E := fun c d H' => Wx c d σ H') sr2 (r1.mono g2) r2 (h2.bind fun z s3 ρ3 H3 v3 g3 sr3 r3 h3 => toB_ok sr3 r3 h3)
  exact this
theorem ss_del {o i : Expr} {mo mi : M W} {tpos : Pos} (ho : SE X T Wx o mo) (hi : SE X T Wx i mi) : SSt X T Wx (.Delete [.Subscript o i tpos] pos) (sDel mo mi) := by
  intro ρ η st env σ H D s er q
  refine ⟨_, ps_ddel pe_S pe_S, ?_⟩
  refine ho ρ η st env σ H _ s er (q.bind er fun w s1 ρ1 H1 v _ g1 sr1 r1 h1 => ?_)
  refine hi ρ1 η s1 env σ H1 _ sr1 (er.mono g1) (h1.bind (er.mono g1) fun k s2 ρ2 H2 kv _ g2 sr2 r2 h2 => ?_)
  split at h2
  · rename_i i ks k q1 q2
    obtain ⟨a, kw, f1, f2, f3, f4⟩ := nodd_ok sr2 (r1.mono g2) q1
    split at h2
    · rename_i z
      have z' : (valV kw k).isSome = true := by
        rcases kv_find (k := k) f4.1 f4.2 with ⟨y1, y2⟩ | ⟨y, u', y1, y2, y3⟩
        · rw [y1] at z; cases z
        · rw [y2]; rfl
      refine ⟨a, kw, k, f1, f3, key_ok r2 q2, z', ?_⟩
      have op : Open H2 a := open_of f3 fun _ _ z => nomatch z
      have g : Grow ρ2 H2 ρ2 (upd H2 a (.dK (dropK kw k))) := Grow.write (List.mem_of_getElem? f2) op
      have r' := (f4.drop (k := k)).mono g
      exact h2 ρ2 _ σ g (sr2.write op f2 ⟨_, upd_same, r'.1, r'.2⟩) (((er.mono g1).mono g2).mono g)
    · exact h2.elim
  · exact h2.elim
/-! ### op= -/
/-- o.f op= e -/
def sFaug (cs : List Nat) (f : Str) (g : Int → Int → Int) (mo m : M W) : MS := fun env st => (mo env st).to env fun o s1 => match o with
  | .ref i => match s1[i]? with
    | some (.ins c fs) => if cs.contains c then (match fs.lookup f with
      | some (.int a) => (m env s1).to env fun v s2 => match v with
        | .int b => match wSetF [c] f o (.int (g a b)) s2 with
          | some s3 => .nx env s3
          | none => .stuck
        | _ => .stuck
      | _ => .stuck) else .stuck
    | _ => .stuck
  | _ => .stuck
theorem ss_faug {cs : List Nat} {f : Str} {o e : Expr} {mo m : M W} {op : Operator} {g : Int → Int → Int} {rd : V → V → Hp → VK → Prop} {tpos : Pos} (ho : SE X T Wx o mo) (he : SE X T Wx e m) (hop : InOp X op rd) (hrd : ∀ i j H Q, Q (.int (g i j)) H → rd (.int i) (.int j) H Q) (hc : ∀ c ∈ cs, Cls X.K (T c) ∧ NoAttr X.K (T c) f) :
    SSt X T Wx (.AugAssign (.Attribute o f tpos) op e pos) (sFaug cs f g mo m) := by
  intro ρ η st env σ H D s er q
  refine ⟨_, ps_fldaug pe_S pe_S hop, ?_⟩
  refine ho ρ η st env σ H _ s er (q.bind er fun w s1 ρ1 H1 v _ g1 sr1 r1 h1 => ?_)
  split at h1
  · rename_i i
    split at h1
    · rename_i c fs e1
      split at h1
      · rename_i z
        split at h1
        · rename_i a e2
          obtain ⟨p, f1, _, dx, fv, f2, f3, f4⟩ := node_at sr1 r1 e1
          obtain ⟨u, f5, f6⟩ := fv_find f3 f4 e2
          obtain ⟨k1, k2⟩ := hc c (by simpa using z)
          refine ⟨p, T c, dx, fv, u, f1, f2, k1, k2, f5, ?_⟩
          refine he ρ1 η s1 env σ H1 _ sr1 (er.mono g1) (h1.bind (er.mono g1) fun b s2 ρ2 H2 bv _ g2 sr2 r2 h2 => ?_)
          split at h2
          · rename_i b _
            simp only [VR] at f6 r2
            subst f6; subst r2
            refine hrd _ _ _ _ ?_
            split at h2
            · rename_i s3 e3
              obtain ⟨p', c', dx', fs', y1, y2, y3, y4, y5, y6⟩ := wsetf_ok (vv := .int (g a b)) sr2 (r1.mono g2) (by simp only [VR]) e3
              rw [f1] at y1
              cases y1
              have : c' = c := by simpa using y3
              subst this
              exact ⟨dx', fs', y2, y4, h2 ρ2 _ σ y5 y6 (((er.mono g1).mono g2).mono y5)⟩
            · exact h2.elim
          · exact h2.elim
        · exact h1.elim
      · exact h1.elim
    · exact h1.elim
  · exact h1.elim
end
end Mi
namespace Mi
open PySem PySem.Spec PyProof.Rows L2
/-! ### a dict that is walked -/
def keyW : Key → W
  | .inl i => .int i
  | .inr x => .str x
def unlk (n : Nat) (st : Sto) : Option Sto := match st[n]? with
  | some (.lk ks) => some (st.set n (.dk ks))
  | _ => none
def unlkS (n : Nat) (r : SRs) : SRs := match r with
  | .nx env st => match unlk n st with
    | some s => .nx env s
    | none => .stuck
  | .bk env st => match unlk n st with
    | some s => .bk env s
    | none => .stuck
  | .ct env st => match unlk n st with
    | some s => .ct env s
    | none => .stuck
  | .rt w st => match unlk n st with
    | some s => .rt w s
    | none => .stuck
  | _ => .stuck
def sLock (m : M W) (k : MS) : MS := fun env st => match m env st with
  | .ok o _ => match nodD st o with
    | some (n, kvs) => unlkS n (k env (st.set n (.lk kvs)))
    | none => .stuck
  | _ => .stuck
def mLock (m : M W) (k : M W) : M W := fun env st => match m env st with
  | .ok o _ => match nodD st o with
    | some (n, kvs) => match k env (st.set n (.lk kvs)) with
      | .ok w s => match unlk n s with
        | some s2 => .ok w s2
        | none => .stuck
      | _ => .stuck
    | none => .stuck
  | _ => .stuck
def lkOf (st : Sto) : W → Option (Nat × List (Key × W))
  | .ref n => match st[n]? with
    | some (.lk ks) => some (n, ks)
    | _ => none
  | _ => none
def iK (m : M W) : MI := fun env st => (m env st).bind fun w s => match lkOf s w with
  | some (_, ks) => .ok (fixS (ks.map fun p => keyW p.1)) s
  | none => .stuck
section
variable {K : PySem.W.Frag} {T : Nat → Addr} {ρ ρ' η : List Addr} {H H' : Hp} {st st' : Sto}
theorem nodd_get {st : Sto} {o : W} {n : Nat} {kvs : List (Key × W)} (e : nodD st o = some (n, kvs)) : st[n]? = some (.dk kvs) := by
  unfold nodD at e
  split at e
  · split at e
    · cases e
      assumption
    · cases e
  · cases e
/-- the place n is locked -/
theorem lock_in {n : Nat} {kvs : List (Key × W)} (s : SR K T ρ η st H) (e : st[n]? = some (.dk kvs)) :
    ∃ (d : Addr) (kv : List (Key × V)), ρ[n]? = some d ∧ H d = some (.dK kv) ∧ KVs K ρ η H kvs kv ∧ ∀ od, Grow ρ H ρ (upd H d (.frz od (.dK kv))) ∧ SR K T ρ η (st.set n (.lk kvs)) (upd H d (.frz od (.dK kv))) := by
  have hn : n < ρ.length := by rw [s.len]; exact (List.getElem?_eq_some_iff.mp e).1
  have hd : ρ[n]? = some ρ[n] := List.getElem?_eq_getElem hn
  obtain ⟨kv, e2, e3, e4⟩ := s.at_ n _ _ e hd
  refine ⟨ρ[n], kv, hd, e2, ⟨e3, e4⟩, fun od => ?_⟩
  have op : Open H ρ[n] := open_of e2 fun _ _ z => nomatch z
  have g : Grow ρ H ρ (upd H ρ[n] (.frz od (.dK kv))) := Grow.write (List.mem_of_getElem? hd) op
  exact ⟨g, s.write op hd ⟨od, kv, upd_same, e3, e4.mono g⟩⟩
/-- .. and let go again -/
theorem lock_out {n : Nat} {d : Addr} {od : Obj} {kv : List (Key × V)} {s2 : Sto} (hd : ρ[n]? = some d) (e0 : H d = some (.dK kv)) (g : Grow ρ (upd H d (.frz od (.dK kv))) ρ' H') (s : SR K T ρ' η st' H') (e : unlk n st' = some s2) :
    H' d = some (.frz od (.dK kv)) ∧ Grow ρ H ρ' (upd H' d (.dK kv)) ∧ SR K T ρ' η s2 (upd H' d (.dK kv)) ∧ ∀ w v, VR K ρ' η H' w v → VR K ρ' η (upd H' d (.dK kv)) w v := by
  have f : H' d = some (.frz od (.dK kv)) := g.frz d od _ upd_same
  have hd' : ρ'[n]? = some d := g.at hd
  have md : d ∈ ρ' := List.mem_of_getElem? hd'
  unfold unlk at e
  split at e
  · rename_i ks q
    cases e
    -- what stands elsewhere
    have keepV : ∀ {w : W} {v : V}, VR K ρ' η H' w v → VR K ρ' η (upd H' d (.dK kv)) w v := by
      have gx : ∀ a o, a ∉ ρ' → H' a = some o → (upd H' d (.dK kv)) a = some o := fun a o na h => by rw [upd_ne (fun z => na (by rw [z]; exact md))]; exact h
      have tp : ∀ {a vs}, TupAt K ρ' η H' a vs → TupAt K ρ' η (upd H' d (.dK kv)) a vs := fun {a vs} h => by
        rcases h with ⟨h1, h2, h3⟩ | h
        · refine .inl ⟨h1, h2, ?_⟩
          rcases h3 with h3 | ⟨o, h3⟩
          · exact .inl (gx _ _ h1 h3)
          · exact .inr ⟨o, gx _ _ h1 h3⟩
        · exact .inr h
      have lp : ∀ {a vs}, LstAt K ρ' η H' a vs → LstAt K ρ' η (upd H' d (.dK kv)) a vs := fun {a vs} h => by
        rcases h with ⟨h1, h2, h3⟩ | h
        · refine .inl ⟨h1, h2, ?_⟩
          rcases h3 with h3 | ⟨o, h3⟩
          · exact .inl (gx _ _ h1 h3)
          · exact .inr ⟨o, gx _ _ h1 h3⟩
        · exact .inr h
      intro w v h
      -- by what the value is made of
      have both : ∀ k, (∀ w v, sizeOf w ≤ k → VR K ρ' η H' w v → VR K ρ' η (upd H' d (.dK kv)) w v) ∧ (∀ (ws : List W) vs, sizeOf ws ≤ k → VRs K ρ' η H' ws vs → VRs K ρ' η (upd H' d (.dK kv)) ws vs) := by
        intro k
        induction k with
        | zero =>
          refine ⟨fun w v z _ => ?_, fun ws vs z _ => ?_⟩
          · cases w <;> simp at z <;> omega
          · cases ws <;> simp at z <;> omega
        | succ k ih =>
          refine ⟨fun w v z h => ?_, fun ws vs z h => ?_⟩
          · cases w with
            | tup xs =>
              simp only [VR] at h ⊢
              obtain ⟨a, us, e1, e2, e3⟩ := h
              exact ⟨a, us, e1, tp e2, ih.2 xs us (by simp at z; omega) e3⟩
            | lst xs =>
              simp only [VR] at h ⊢
              obtain ⟨a, us, e1, ⟨t1, t2, t3⟩, e3⟩ := h
              exact ⟨a, us, e1, ⟨t1, t2, gx _ _ t1 t3⟩, ih.2 xs us (by simp at z; omega) e3⟩
            | scr xs =>
              simp only [VR] at h ⊢
              obtain ⟨a, us, e1, e2, e3⟩ := h
              exact ⟨a, us, e1, lp e2, ih.2 xs us (by simp at z; omega) e3⟩
            | fn f0 ρ0 η0 H0 =>
              simp only [VR] at h ⊢
              refine ⟨h.1, h.2.1, fun a o h1 h2 h3 n => ?_⟩
              obtain ⟨x1, x2, x3⟩ := h.2.2 a o h1 h2 h3 n
              exact ⟨x1, x2, gx _ _ x1 x3⟩
            | exc a0 d0 f0 w0 =>
              simp only [VR] at h ⊢
              obtain ⟨e, d1, d2, fs, u, x1, x2, r⟩ := h
              exact ⟨e, d1, d2, fs, u, gx _ _ d1 x1, x2, ih.1 w0 u (by simp at z; omega) r⟩
            | _ => simpa only [VR] using h
          · cases ws with
            | nil => simpa only [VRs] using h
            | cons x xs =>
              simp only [VRs] at h ⊢
              obtain ⟨a, us, e1, e2, e3⟩ := h
              exact ⟨a, us, e1, ih.1 x a (by simp at z; omega) e2, ih.2 xs us (by simp at z; omega) e3⟩
      exact (both (sizeOf w)).1 w v (Nat.le_refl _) h
    have keepVs : ∀ {ws : List W} {vs : List V}, VRs K ρ' η H' ws vs → VRs K ρ' η (upd H' d (.dK kv)) ws vs := by
      intro ws
      induction ws with
      | nil => intro vs h; simpa only [VRs] using h
      | cons x xs ih =>
        intro vs h
        simp only [VRs] at h ⊢
        obtain ⟨a, us, e1, e2, e3⟩ := h
        exact ⟨a, us, e1, keepV e2, ih e3⟩
    refine ⟨f, ⟨?_, fun a o na h no => ?_, fun a o h no => ?_, fun a o u h => ?_⟩, ⟨s.nd, by simp [s.len], s.hid, fun a ha => ?_, fun i m a e1 e2 => ?_⟩, fun w v h => keepV h⟩
    · obtain ⟨t, e, ht⟩ := g.pre
      refine ⟨t, e, fun a ha => ?_⟩
      have z := ht a ha
      intro o e
      by_cases q : a = d
      · exact (z.not (by rw [q, upd_same]) rfl).elim
      · exact z o (by rw [upd_ne q]; exact e)
    · have ne : a ≠ d := fun z => na (by rw [z]; exact List.mem_of_getElem? hd)
      rw [upd_ne ne]
      exact g.same a o na (by rw [upd_ne ne]; exact h) no
    · by_cases ne : a = d
      · exact ⟨_, by rw [ne, upd_same], rfl⟩
      · obtain ⟨o', k, nk⟩ := g.all a o (by rw [upd_ne ne]; exact h) no
        exact ⟨o', by rw [upd_ne ne]; exact k, nk⟩
    · have ne : a ≠ d := fun z => by rw [z, e0] at h; cases h
      rw [upd_ne ne]
      exact g.frz a o u (by rw [upd_ne ne]; exact h)
    · by_cases ne : a = d
      · exact ⟨_, by rw [ne, upd_same], rfl⟩
      · obtain ⟨o', k, pk⟩ := s.has a ha
        exact ⟨o', by rw [upd_ne ne]; exact k, pk⟩
    · rw [List.getElem?_set] at e1
      split at e1
      · rename_i z
        subst z
        rw [hd'] at e2
        cases e2
        split at e1
        · cases e1
          obtain ⟨od', kv', k1, k2, k3⟩ := s.at_ n _ _ q hd'
          rw [f] at k1
          cases k1
          exact ⟨kv, upd_same, k2, keepVs k3⟩
        · cases e1
      · rename_i z
        have ne : a ≠ d := by
          rintro rfl
          obtain ⟨b1, c1⟩ := List.getElem?_eq_some_iff.mp hd'
          obtain ⟨b2, c2⟩ := List.getElem?_eq_some_iff.mp e2
          exact z ((List.getElem_inj s.nd).mp (c1.trans c2.symm))
        have k := s.at_ i m a e1 e2
        cases m with
        | lst xs => obtain ⟨vs, z, r⟩ := k; exact ⟨vs, by rw [upd_ne ne]; exact z, keepVs r⟩
        | dk kvs => obtain ⟨kv', z, q, r⟩ := k; exact ⟨kv', by rw [upd_ne ne]; exact z, q, keepVs r⟩
        | lk kvs => obtain ⟨od', kv', z, q, r⟩ := k; exact ⟨od', kv', by rw [upd_ne ne]; exact z, q, keepVs r⟩
        | ins c fs => obtain ⟨dx, fv, z, q, r⟩ := k; exact ⟨dx, fv, by rw [upd_ne ne]; exact z, q, keepVs r⟩
        | tb p q =>
          obtain ⟨e0, ps, h1, h2, h3⟩ := k
          refine ⟨e0, ps, by rw [upd_ne ne]; exact h1, h2, fun pos cv z => ?_⟩
          obtain ⟨c, c1, c2, c3, c4⟩ := h3 pos cv z
          exact ⟨c, c1, c2, c3, by rw [upd_ne (fun y => c2 (by rw [y]; exact List.mem_of_getElem? hd'))]; exact c4⟩
  · cases e
end
section
variable {X : Cx} {T : Nat → Addr} {Wx : WX'} {pos : Pos}
theorem ss_lock {c : Stmt} {m : M W} {k : MS} (hx : SSt X T Wx c k) : SSt X T Wx c (sLock m k) := by
  intro ρ η st env σ H D s er q
  unfold sLock at q
  split at q
  · rename_i o s0 e0
    split at q
    · rename_i n kvs e1
      obtain ⟨d, kv, h1, h2, h3, h4⟩ := lock_in s (nodd_get e1)
      refine ⟨_, ps_lock ps_S, ?_⟩
      refine ⟨d, .dK kv, h2, True.intro, fun od => ?_⟩
      obtain ⟨g1, s1⟩ := h4 od
      refine hx ρ η _ env σ _ _ s1 (er.mono g1) ?_
      cases e2 : k env (st.set n (.lk kvs)) with
      | nx env2 st2 =>
        rw [e2] at q
        unfold unlkS at q
        dsimp only at q
        cases e3 : unlk n st2 with
        | none => rw [e3] at q; exact q.elim
        | some s3 =>
          rw [e3] at q
          intro ρ2 H2 σ2 g2 sr2 er2
          obtain ⟨f1, f2, f3, f4⟩ := lock_out h1 h2 g2 sr2 e3
          exact ⟨f1, q ρ2 _ σ2 f2 f3 ⟨er2.1, fun i w z => by obtain ⟨v, y1, y2⟩ := er2.2 i w z; exact ⟨v, y1, f4 w v y2⟩⟩⟩
      | bk env2 st2 =>
        rw [e2] at q
        unfold unlkS at q
        dsimp only at q
        cases e3 : unlk n st2 with
        | none => rw [e3] at q; exact q.elim
        | some s3 =>
          rw [e3] at q
          intro ρ2 H2 σ2 g2 sr2 er2
          obtain ⟨f1, f2, f3, f4⟩ := lock_out h1 h2 g2 sr2 e3
          exact ⟨f1, q ρ2 _ σ2 f2 f3 ⟨er2.1, fun i w z => by obtain ⟨v, y1, y2⟩ := er2.2 i w z; exact ⟨v, y1, f4 w v y2⟩⟩⟩
      | ct env2 st2 =>
        rw [e2] at q
        unfold unlkS at q
        dsimp only at q
        cases e3 : unlk n st2 with
        | none => rw [e3] at q; exact q.elim
        | some s3 =>
          rw [e3] at q
          intro ρ2 H2 σ2 g2 sr2 er2
          obtain ⟨f1, f2, f3, f4⟩ := lock_out h1 h2 g2 sr2 e3
          exact ⟨f1, q ρ2 _ σ2 f2 f3 ⟨er2.1, fun i w z => by obtain ⟨v, y1, y2⟩ := er2.2 i w z; exact ⟨v, y1, f4 w v y2⟩⟩⟩
      | rt w2 st2 =>
        rw [e2] at q
        unfold unlkS at q
        dsimp only at q
        cases e3 : unlk n st2 with
        | none => rw [e3] at q; exact q.elim
        | some s3 =>
          rw [e3] at q
          intro ρ2 H2 v2 g2 sr2 r2
          obtain ⟨f1, f2, f3, f4⟩ := lock_out h1 h2 g2 sr2 e3
          exact ⟨f1, q ρ2 _ v2 f2 f3 (f4 w2 v2 r2)⟩
      | ex x env2 st2 => rw [e2] at q; exact q.elim
      | stuck => rw [e2] at q; exact q.elim
    · exact q.elim
  · exact q.elim
theorem se_lock {e : Expr} {m k : M W} (h : SE X T Wx e k) : SE X T Wx e (mLock m k) := by
  intro ρ η st env σ H Q s er q
  unfold mLock at q
  split at q
  · rename_i o s0 e0
    split at q
    · rename_i n kvs e1
      obtain ⟨d, kv, h1, h2, h3, h4⟩ := lock_in s (nodd_get e1)
      refine ⟨_, pe_lock pe_S, ?_⟩
      refine ⟨d, .dK kv, h2, True.intro, fun od => ?_⟩
      obtain ⟨g1, s1⟩ := h4 od
      refine h ρ η _ env σ _ _ s1 (er.mono g1) ?_
      cases e2 : k env (st.set n (.lk kvs)) with
      | ok w2 st2 =>
        rw [e2] at q
        dsimp only at q
        cases e3 : unlk n st2 with
        | none => rw [e3] at q; exact q.elim
        | some s3 =>
          rw [e3] at q
          intro ρ2 H2 v2 g2 sr2 r2
          obtain ⟨f1, f2, f3, f4⟩ := lock_out h1 h2 g2 sr2 e3
          exact ⟨f1, q ρ2 _ v2 f2 f3 (f4 w2 v2 r2)⟩
      | ex x st2 => rw [e2] at q; exact q.elim
      | stuck => rw [e2] at q; exact q.elim
    · exact q.elim
  · exact q.elim
theorem lk_ok {ρ η : List Addr} {H : Hp} {st : Sto} {w : W} {v : V} {n : Nat} {ks : List (Key × W)} (s : SR X.K T ρ η st H) (r : VR X.K ρ η H w v) (e : lkOf st w = some (n, ks)) : ∃ d od kv, v = .ref d ∧ H d = some (.frz od (.dK kv)) ∧ KVs X.K ρ η H ks kv := by
  cases w with
  | ref j =>
    simp only [lkOf] at e
    split at e
    · rename_i ys q
      cases e
      obtain ⟨a, h1, h0, od, kv, h2, h3, h4⟩ := node_at s r q
      exact ⟨a, od, kv, h1, h2, h3, h4⟩
    · cases e
  | _ => simp [lkOf] at e
theorem keyW_ok {ρ η : List Addr} {H : Hp} (k : Key) : VR X.K ρ η H (keyW k) (kV k) := by
  cases k <;> simp only [keyW, kV, VR]
theorem KVs.get {K : PySem.W.Frag} {ρ η : List Addr} {H : Hp} : ∀ {kvs : List (Key × W)} {kv : List (Key × V)} {i : Nat} {k : Key} {w : W}, KVs K ρ η H kvs kv → kvs[i]? = some (k, w) → ∃ v, kv[i]? = some (k, v) ∧ VR K ρ η H w v
  | [], kv, i, k, w, h, e => by simp at e
  | (a, u) :: kvs, kv, i, k, w, h, e => by
    obtain ⟨v, r, e1, h1, h2⟩ := h.cons'
    subst e1
    cases i with
    | zero =>
      simp at e
      obtain ⟨e2, e3⟩ := e
      subst e2; subst e3
      exact ⟨v, rfl, h1⟩
    | succ i =>
      obtain ⟨v', e2, e3⟩ := KVs.get h2 (by simpa using e)
      exact ⟨v', by simpa using e2, e3⟩
theorem KVs.more {K : PySem.W.Frag} {ρ ρ' η η' : List Addr} {H H' : Hp} {kvs : List (Key × W)} {kv : List (Key × V)} (g : Grow ρ H ρ' H') (k : Hid η H η') (h : KVs K ρ η H kvs kv) : KVs K ρ' η' H' kvs kv := ⟨h.1, h.2.more g k⟩
theorem si_keys {tg l : Expr} {m : M W} (h : SE X T Wx l m) : SI X T Wx tg l (iK m) := by
  intro ρ η st env σ H Q s er q
  refine ⟨_, pi_keys pe_S, ?_⟩
  refine h ρ η st env σ H _ s er (q.bind fun w s1 ρ1 H1 v g1 sr1 r1 h1 => ?_)
  split at h1
  · rename_i n ks e
    obtain ⟨d, od, kv, e1, e2, e3⟩ := lk_ok sr1 r1 e
    refine ⟨d, od, e1, .inl ⟨kv, e2, h1.ok sr1 ?_⟩⟩
    intro η' k i ρ' H' st' g sr
    have f := g.frz d od _ e2
    show match some (ks.map fun p => keyW p.1)[i]? with | some (some w) => _ | some none => _ | none => _
    rw [List.getElem?_map]
    cases z : ks[i]? with
    | none => exact ⟨f, by rw [e3.len]; exact List.getElem?_eq_none_iff.mp z⟩
    | some p =>
      obtain ⟨a, u⟩ := p
      obtain ⟨v', z1, z2⟩ := e3.get z
      refine ⟨⟨f, by exact (List.getElem?_eq_some_iff.mp z1).1⟩, fun x H2 y => ?_⟩
      obtain ⟨y1, k', v2, y2, y3⟩ := y
      rw [z1] at y2
      cases y2
      subst y1; subst y3
      exact ⟨Grow.refl, sr, keyW_ok a⟩
  · exact h1.elim
/-! ### enumerate, zip -/
def enumW (s : Src) : Src := ⟨s.fuel, fun i st => match s.at_ i st with
  | some (some w) => some (some (.tup [.int i, w]))
  | some none => some none
  | none => none⟩
def srcOf (st : Sto) : W → Option Src
  | .lst xs => some (fixS xs)
  | .scr xs => some (fixS xs)
  | .ref n => match st[n]? with
    | some (.lst xs) => some (nodS n xs.length)
    | _ => none
  | _ => none
def iE (m : M (List W)) : MI := fun env st => (m env st).bind fun ws s => match ws with
  | [w] => match srcOf s w with
    | some src => .ok (enumW src) s
    | none => .stuck
  | _ => .stuck
def zipW (s t : Src) : Src := ⟨min s.fuel t.fuel, fun i st => match s.at_ i st, t.at_ i st with
  | some (some w), some (some u) => some (some (.tup [w, u]))
  | some none, some _ => some none
  | some (some _), some none => some none
  | _, _ => none⟩
end
end Mi
namespace Mi
open PySem PySem.Spec PyProof.Rows L2
/-! ### dicts made of dicts, of pairs -/
def mergeKW (kvs more : List (Key × W)) : List (Key × W) := more.foldl (fun acc kv => putKW acc kv.1 kv.2) kvs
def pairsW : List W → Option (List (Key × W))
  | [] => some []
  | .tup [k, w] :: r => match keyOf k, pairsW r with
    | some k, some ps => some ((k, w) :: ps)
    | _, _ => none
  | _ => none
def newD (kvs : List (Key × W)) (st : Sto) : Rs W := .ok (.ref st.length) (st ++ [.dk kvs])
def fDict : FC := fun ws st => match ws with
  | [w] => match dkOf st w with
    | some kvs => newD kvs st
    | none => match seqL st w with
      | some xs => match pairsW xs with
        | some ps => newD (mergeKW [] ps) st
        | none => .stuck
      | none => .stuck
  | _ => .stuck
section
variable {X : Cx} {T : Nat → Addr} {ρ η : List Addr} {H : Hp} {st : Sto}
theorem newD_ok {kvs : List (Key × W)} {kv : List (Key × V)} {p : Addr} {Q : V → Hp → Prop} {E : Value → Option Addr → Hp → Prop} (h : After X.K T η (fun ρ H => VR X.K ρ η H) ρ H (newD kvs st) Q E) (s : SR X.K T ρ η st H) (r : KVs X.K ρ η H kvs kv) (n : H p = none) : Q (.ref p) (upd H p (.dK kv)) := by
  unfold newD at h
  have r' := r.mono (Grow.node (o := .dK kv) n)
  refine h (ρ ++ [p]) _ _ (Grow.node n) (s.node n ⟨kv, upd_same, r'.1, r'.2⟩) ?_
  simp only [VR]
  exact ⟨p, by rw [← s.len, List.getElem?_append_right (Nat.le_refl _)]; simp, rfl⟩
theorem KVs.merge : ∀ {more : List (Key × W)} {kw : List (Key × V)} {kvs : List (Key × W)} {kv : List (Key × V)}, KVs X.K ρ η H more kw → KVs X.K ρ η H kvs kv → KVs X.K ρ η H (mergeKW kvs more) (mergeK kv kw)
  | [], kw, kvs, kv, h, k => by
    rw [h.nil']
    exact k
  | (a, w) :: more, kw, kvs, kv, h, k => by
    obtain ⟨v, r, e, h1, h2⟩ := h.cons'
    subst e
    show KVs X.K ρ η H (mergeKW (putKW kvs a w) more) (mergeK (putK kv a v) r)
    exact KVs.merge h2 (k.put h1)
theorem pairs_ok : ∀ {xs : List W} {vs : List V} {ps : List (Key × W)}, VRs X.K ρ η H xs vs → pairsW xs = some ps → ∃ (as : List Addr) (kvs : List (Key × V)), vs = as.map V.ref ∧ Paired (fun p kv => SqT X.K H p [kV kv.1, kv.2]) as kvs ∧ KVs X.K ρ η H ps kvs
  | [], vs, ps, r, e => by
    simp only [VRs] at r
    simp only [pairsW, Option.some.injEq] at e
    subst r; subst e
    exact ⟨[], [], rfl, .nil, rfl, VRs.nil⟩
  | x :: xs, vs, ps, r, e => by
    unfold pairsW at e
    split at e
    · cases ‹x :: xs = []›
    · rename_i k w r' heq
      injection heq with h1 h2
      subst h1; subst h2
      split at e
      · rename_i kk pp q1 q2
        cases e
        simp only [VRs] at r
        obtain ⟨v, rr, e1, r1, e9⟩ := r
        simp only [VR, VRs] at r1
        obtain ⟨a, us, e2, e3, k1, u1, e4, e5, w1, u2, e6, e7, e8⟩ := r1
        obtain ⟨as, kvs, f1, f2, f3⟩ := pairs_ok e9 q2
        have e5' : VR X.K ρ η H k k1 := e5
        have z := key_ok e5' q1
        subst e1; subst e2; subst e8; subst e6; subst e4; subst f1; subst z
        exact ⟨a :: as, (kk, w1) :: kvs, rfl, .cons e3.sq f2, KVs.mk' e7 f3⟩
      · cases e
    · cases e
theorem okc_dict : OkC X.K T fDict (fun xs H Q => (∃ (a : Addr) (ps : List Addr) (kvs : List (Key × V)), xs = [.ref a] ∧ SqL X.K H a (ps.map V.ref) ∧ Paired (fun p kv => SqT X.K H p [kV kv.1, kv.2]) ps kvs ∧ ∀ p, H p = none → Q (.ref p) (upd H p (.dK (mergeK [] kvs)))) ∨
    ∃ (a : Addr) (kvs : List (Key × V)), xs = [.ref a] ∧ Rd H a (.dK kvs) ∧ ∀ p, H p = none → Q (.ref p) (upd H p (.dK kvs))) := by
  intro ρ η st H ws vs Q E s r h
  unfold fDict at h
  split at h
  · rename_i w
    obtain ⟨v, e, r1⟩ := vrs1 r
    split at h
    · rename_i kvs q
      obtain ⟨a, kv, e1, e2, e3, e4⟩ := dk_ok s r1 q
      subst e1
      exact .inr ⟨a, kv, e, e2, fun p hp => newD_ok h s ⟨e3, e4⟩ hp⟩
    · split at h
      · rename_i xs q
        obtain ⟨a, us, e1, e2, e3⟩ := seq_ok s r1 q
        split at h
        · rename_i ps q2
          obtain ⟨as, kvs, f1, f2, f3⟩ := pairs_ok e3 q2
          subst e1; subst f1
          exact .inl ⟨a, as, kvs, e, e2, f2, fun p hp => newD_ok h s (KVs.merge f3 ⟨rfl, VRs.nil⟩) hp⟩
        · exact h.elim
      · exact h.elim
  · exact h.elim
/-! ### equal dicts of flat things -/
end
/-! ### {k: v for ..} -/
def compD (s : Src) (t : CT) (cond : M Bool) (mk mv : M W) (env : Ev) : Nat → Nat → List (Key × W) → Sto → Rs (List (Key × W))
  | 0, _, _, _ => .stuck
  | n + 1, i, acc, st => match s.at_ i st with
    | some (some w) => match t.put w env with
      | some env1 => match cond env1 st with
        | .ok true st1 => match mk env1 st1 with
          | .ok k st2 => match mv env1 st2 with
            | .ok v st3 => match keyOf k with
              | some k => if acc.length < sizeLine then compD s t cond mk mv env n (i + 1) (putKW acc k v) st3 else .stuck
              | none => .stuck
            | _ => .stuck
          | _ => .stuck
        | .ok false st1 => compD s t cond mk mv env n (i + 1) acc st1
        | _ => .stuck
      | none => .stuck
    | some none => .ok acc st
    | none => .stuck
def mDcomp (mi : MI) (vs : List Nat) (t : CT) (cond : M Bool) (mk mv : M W) : M W := fun env st => (mi env st).bind fun s st1 => (compD s t cond mk mv (wipeW env vs) s.fuel 0 [] st1).bind fun kvs st2 => newD kvs st2
section
variable {X : Cx} {T : Nat → Addr} {Wx : WX'} {pos : Pos}
theorem KVs.hid {K : PySem.W.Frag} {ρ η : List Addr} {H : Hp} {D : Addr} {o : HO} (n : D ∈ η) {kvs : List (Key × W)} {kv : List (Key × V)} (h : KVs K ρ η H kvs kv) : KVs K ρ η (L2.upd H D o) kvs kv := ⟨h.1, h.2.hid n⟩
theorem se_dcomp {kx vx tg iter : Expr} {ifs : List Expr} {scope : Scope} {own : List (Str × Nat)} {mi : MI} {t : CT} {cond : M Bool} {mk mv : M W} (hc : X.calm = true) (hN : X.N.Nodup) (hi : SI X T Wx tg iter mi) (ok : BlkOk X.N X.env.scope scope own)
    (hv : ∀ i ∈ t.ix, i ∈ own.map (fun p : Str × Nat => p.2))
    (hg : ∀ (s : Shared) (H : Hp) (C : Addr) (cl : List (Str × Addr)) (fp : List Addr), PG (X.blk s H scope (compEnvC scope cl C X.env) fp) tg (t.tg X.K))
    (ht : (ifs = [] ∧ cond = mYes) ∨ ∃ c, ifs = [c] ∧ ∀ (s : Shared) (H : Hp) (C : Addr) (cl : List (Str × Addr)) (fp : List Addr), STt (X.blk s H scope (compEnvC scope cl C X.env) fp) T W0 c cond)
    (hk : ∀ (s : Shared) (H : Hp) (C : Addr) (cl : List (Str × Addr)) (fp : List Addr), SE (X.blk s H scope (compEnvC scope cl C X.env) fp) T W0 kx mk)
    (hw : ∀ (s : Shared) (H : Hp) (C : Addr) (cl : List (Str × Addr)) (fp : List Addr), SE (X.blk s H scope (compEnvC scope cl C X.env) fp) T W0 vx mv) (hs : ∀ x, foldedSetIterable iter X.env x = pure x := by intro _; rfl) :
    SE X T Wx (.DictComp kx vx [⟨tg, iter, ifs, 0⟩] scope pos) (mDcomp mi (own.map (fun p : Str × Nat => p.2)) t cond mk mv) := by
  intro ρ η st env σ H Q s er q
  let tt : TT := fun σ H Q => ∀ (s : Shared) (G : Hp) (C : Addr) (cl : List (Str × Addr)) (fp : List Addr), (∃ u, PTs (X.blk s G scope (compEnvC scope cl C X.env) fp) ifs u ∧ u σ H Q)
  let tk : TE := fun σ H Q => ∀ (s : Shared) (G : Hp) (C : Addr) (cl : List (Str × Addr)) (fp : List Addr), (∃ u, PE (X.blk s G scope (compEnvC scope cl C X.env) fp) kx u ∧ u σ H Q)
  let te : TE := fun σ H Q => ∀ (s : Shared) (G : Hp) (C : Addr) (cl : List (Str × Addr)) (fp : List Addr), (∃ u, PE (X.blk s G scope (compEnvC scope cl C X.env) fp) vx u ∧ u σ H Q)
  refine ⟨_, pe_dc (tt := tt) (tk := tk) (tv := te) hc hN pi_S ok hg (fun s G C cl fp => ⟨fun pins s' σ' H' Q' I h => ?_⟩) (fun s G C cl fp => ⟨fun pins s' σ' H' Q' I h => ?_⟩) (fun s G C cl fp => ⟨fun pins s' σ' H' Q' I h => ?_⟩) hs, ?_⟩
  · obtain ⟨u, h1, h2⟩ := h s G C cl fp
    exact h1.run pins s' σ' H' Q' I h2
  · obtain ⟨u, h1, h2⟩ := h s G C cl fp
    exact h1.run pins s' σ' H' Q' I h2
  · obtain ⟨u, h1, h2⟩ := h s G C cl fp
    exact h1.run pins s' σ' H' Q' I h2
  refine hi ρ η st env σ H _ s er (q.bind fun src s1 ρ1 H1 J g1 sr1 ok1 h1 => ?_)
  intro D hD
  have D1 : Hid η H1 (D :: η) := hid_new hD
  have er0 : ER X.K ρ1 η H1 (wipeW env (own.map (fun p : Str × Nat => p.2))) (wipe σ (own.map (fun p : Str × Nat => p.2))) := (er.mono g1).wipe _
  -- what holds between two turns
  let G : Nat → Nat → Hp → Prop := fun i n H' => ∃ (ρ' : List Addr) (st' : Sto) (acc : List (Key × W)) (accv : List (Key × V)), Grow ρ1 H1 ρ' H' ∧ SR X.K T ρ' (D :: η) st' H' ∧ H' D = some (.dK accv) ∧ KVs X.K ρ' (D :: η) H' acc accv ∧
      After X.K T η (fun ρ H => VR X.K ρ η H) ρ1 H1 ((compD src t cond mk mv (wipeW env (own.map (fun p : Str × Nat => p.2))) n i acc st').bind fun kvs st2 => newD kvs st2) Q (fun c d H' => Wx c d σ H')
  refine ⟨G, ⟨src.fuel, ρ1, s1, [], [], Grow.new hD, sr1.hide hD, upd_same, ⟨rfl, VRs.nil⟩, h1⟩, ?_⟩
  rintro i n H2 ⟨ρ2, st2, acc, accv, g2, sr2, hD2, rac, h2⟩
  cases n with
  | zero => exact h2.elim
  | succ n =>
    have k := ok1 (D :: η) D1 i ρ2 H2 st2 g2 sr2
    unfold compD at h2
    split at h2
    · rename_i w e
      rw [e] at k
      obtain ⟨k1, k2⟩ := k
      refine .inr ⟨k1, G (i + 1) n, fun H' z => ⟨n, Nat.lt_succ_self n, z⟩, fun x H3 y => ?_⟩
      obtain ⟨g3, sr3, r3⟩ := k2 x H3 y
      have hD3 : H3 D = some (.dK accv) := g3.same D _ (sr2.hid D List.mem_cons_self) hD2
      split at h2
      · rename_i env4 e4
        refine ct_ok (vs := own.map (fun p : Str × Nat => p.2)) e4 r3 (er0.more (g2.trans g3) D1) hv fun σ4 er4 w4 => ?_
        rw [wipe_wipe] at w4
        refine ⟨w4, ?_⟩
        have step : ∀ (b : Bool) (st5 : Sto) (ρ5 : List Addr) (H5 : Hp), Grow ρ2 H3 ρ5 H5 → SR X.K T ρ5 (D :: η) st5 H5 →
            After X.K T η (fun ρ H => VR X.K ρ η H) ρ1 H1 ((match b with
              | true => (match mk env4 st5 with
                | .ok k st2 => match mv env4 st2 with
                  | .ok v st3 => match keyOf k with
                    | some k => if acc.length < sizeLine then compD src t cond mk mv (wipeW env (own.map (fun p : Str × Nat => p.2))) n (i + 1) (putKW acc k v) st3 else .stuck
                    | none => .stuck
                  | _ => .stuck
                | _ => .stuck)
              | false => compD src t cond mk mv (wipeW env (own.map (fun p : Str × Nat => p.2))) n (i + 1) acc st5).bind fun kvs st2 => newD kvs st2) Q (fun c d H' => Wx c d σ H') →
            (if b = true then tk σ4 H5 fun y H4 => te σ4 H4 fun z H5 => ∃ (kvs : List (Key × V)) (k : Key), y = kV k ∧ H5 D = some (.dK kvs) ∧ kvs.length < sizeLine ∧ G (i + 1) n (upd H5 D (.dK (putK kvs k z)))
            else G (i + 1) n H5) := by
          intro b st5 ρ5 H5 g5 sr5 h5
          have hD5 : H5 D = some (.dK accv) := g5.same D _ (sr3.hid D List.mem_cons_self) hD3
          have gA : Grow ρ1 H1 ρ5 H5 := (g2.trans g3).trans g5
          cases b with
          | false => exact iteF ⟨ρ5, st5, acc, accv, gA, sr5, hD5, (rac.mono g3).mono g5, h5⟩
          | true =>
            refine iteT ?_
            intro s' G' C cl fp
            refine hk s' G' C cl fp ρ5 (D :: η) st5 env4 σ4 H5 _ sr5 (er4.mono g5) ?_
            dsimp only at h5
            cases e6 : mk env4 st5 with
            | ok kw st6 =>
              rw [e6] at h5
              dsimp only at h5
              intro ρ6 H6 y g6 sr6 r6
              intro s'' G'' C' cl' fp'
              refine hw s'' G'' C' cl' fp' ρ6 (D :: η) st6 env4 σ4 H6 _ sr6 ((er4.mono g5).mono g6) ?_
              cases e7 : mv env4 st6 with
              | ok v st7 =>
                rw [e7] at h5
                dsimp only at h5
                split at h5
                · rename_i kk e8
                  split at h5
                  · rename_i lz
                    intro ρ7 H7 z g7 sr7 r7
                    have hD7 : H7 D = some (.dK accv) := g7.same D _ (sr6.hid D List.mem_cons_self) (g6.same D _ (sr5.hid D List.mem_cons_self) hD5)
                    have rac7 : KVs X.K ρ7 (D :: η) H7 acc accv := ((((rac.mono g3).mono g5).mono g6).mono g7)
                    refine ⟨accv, kk, key_ok r6 e8, hD7, by rw [rac7.len]; exact lz, ρ7, st7, putKW acc kk v, putK accv kk z, ((gA.trans g6).trans g7).hid hD, sr7.hid' List.mem_cons_self, upd_same, (rac7.put r7).hid List.mem_cons_self, h5⟩
                  · exact h5.elim
                · exact h5.elim
              | ex x s' => rw [e7] at h5; exact h5.elim
              | stuck => rw [e7] at h5; exact h5.elim
            | ex x s' => rw [e6] at h5; exact h5.elim
            | stuck => rw [e6] at h5; exact h5.elim
        rcases ht with ⟨z1, z2⟩ | ⟨c, z1, z2⟩
        · subst z2
          intro s' G' C cl fp
          refine ⟨tYes, by rw [z1]; exact pts_nil, ?_⟩
          exact step true st2 ρ2 H3 Grow.refl sr3 h2
        · intro s' G' C cl fp
          obtain ⟨u, hu1, hu2⟩ := z2 s' G' C cl fp ρ2 (D :: η) st2 env4 σ4 H3 (fun b H5 => if b = true then tk σ4 H5 fun y H4 => te σ4 H4 fun z H5 => ∃ (kvs : List (Key × V)) (k : Key), y = kV k ∧ H5 D = some (.dK kvs) ∧ kvs.length < sizeLine ∧ G (i + 1) n (upd H5 D (.dK (putK kvs k z)))
            else G (i + 1) n H5) sr3 er4 (by
            cases e6 : cond env4 st2 with
            | ok b st6 =>
              rw [e6] at h2
              intro ρ6 H6 b' g6 sr6 r6
              subst r6
              refine step b st6 ρ6 H6 g6 sr6 ?_
              cases b <;> exact h2
            | ex x s' => rw [e6] at h2; exact h2.elim
            | stuck => rw [e6] at h2; exact h2.elim)
          exact ⟨u, by rw [z1]; exact pts_one hu1, hu2⟩
      · exact h2.elim
    · rename_i e
      rw [e] at k
      refine .inl ⟨k, ?_⟩
      have h2 : After X.K T η (fun ρ H => VR X.K ρ η H) ρ1 H1 (newD acc st2) Q (fun c d H' => Wx c d σ H') := h2
      have nD : D ∉ η := fun z => by
        obtain ⟨o, e, _⟩ := sr1.has D z
        rw [hD] at e; cases e
      refine h2 (ρ2 ++ [D]) H2 _ (g2.shift hD) (sr2.shift nD ⟨accv, hD2, rac.1, rac.2.shift⟩) ?_
      simp only [VR]
      exact ⟨D, by rw [← sr2.len, List.getElem?_append_right (Nat.le_refl _)]; simp, rfl⟩
    · exact h2.elim
end
end Mi
namespace Mi
open PySem PySem.Spec PyProof.Rows L2
/-- what is not carried, or never reached -/
def sStk : MS := fun _ _ => .stuck
section
variable {X : Cx} {T : Nat → Addr} {Wx : WX'} {pos : Pos}
theorem ss_stk {c : Stmt} : SSt X T Wx c sStk := fun _ _ _ _ _ _ _ _ _ h => h.elim
end
/-! ### a text, sign by sign -/
def iS (m : M W) : MI := fun env st => (m env st).bind fun w s => match w with
  | .str z => .ok (fixS (z.cps.toList.map fun c => .str ⟨#[c]⟩)) s
  | _ => .stuck
theorem si_str {X : Cx} {T : Nat → Addr} {Wx : WX'} {tg l : Expr} {m : M W} (h : SE X T Wx l m) : SI X T Wx tg l (iS m) := by
  intro ρ η st env σ H Q s er q
  refine ⟨_, pi_str pe_S, ?_⟩
  refine h ρ η st env σ H _ s er (q.bind fun w s1 ρ1 H1 v g1 sr1 r1 h1 => ?_)
  split at h1
  · rename_i z
    simp only [VR] at r1
    refine ⟨z, r1, h1.ok sr1 ?_⟩
    intro η' k i ρ' H' st' g sr
    show match some (z.cps.toList.map fun c => W.str ⟨#[c]⟩)[i]? with | some (some w) => _ | some none => _ | none => _
    rw [List.getElem?_map]
    cases e : z.cps.toList[i]? with
    | none =>
      have := List.getElem?_eq_none_iff.mp e
      show z.cps.size ≤ i
      simpa using this
    | some c =>
      have hi := (List.getElem?_eq_some_iff.mp e).1
      refine ⟨by show i < z.cps.size; simpa using hi, fun x H2 y => ?_⟩
      obtain ⟨y1, c', y2, y3⟩ := y
      subst y1
      have : z.cps[i]? = some c := by rw [← Array.getElem?_toList]; exact e
      rw [y2] at this
      cases this
      exact ⟨Grow.refl, sr, by simp only [VR]; exact y3⟩
  · exact h1.elim
end Mi
namespace Mi
open PySem PySem.Spec PyProof.Rows L2
section
variable {X : Cx} {T : Nat → Addr} {Wx : WX'} {pos : Pos}
theorem se_tupA {es : List Expr} {k : M (List W)} {n : Nat} {x1} (h : SAn X T Wx n es k) (hn : n ≤ 1000 := by decide) : SE X T Wx (.Tuple es x1 pos) (mTup k) := se_tup h.run h.len hn
theorem se_lstA {fz : Bool} {es : List Expr} {k : M (List W)} {n : Nat} (h : SAn X T Wx n es k) (hn : n ≤ 1000 := by decide) : SE X T Wx (.List es pos) (mLst fz k) := se_lst h.run h.len hn
end
end Mi
/-! The mirror: try .. except X: of own classes; the clause's suite raises nothing. -/
namespace Mi
open PySem PySem.Spec PyProof.Rows L2
def calmS (r : SRs) : SRs := match r with
  | .ex _ _ _ => .stuck
  | r => r
/-- tb tells which of the classes that may come the clause takes -/
def sTry (tb : List (Nat × Bool)) (m k : MS) : MS := fun env st => match m env st with
  | .ex (.plain n) env1 st1 => match tb.lookup n with
    | some true => calmS (k env1 st1)
    | some false => .ex (.plain n) env1 st1
    | none => .stuck
  | .ex (.one _ _ _) _ _ => .stuck
  | r => r
theorem SAfter.calm {K : PySem.W.Frag} {T : Nat → Addr} {η ρ : List Addr} {H : Hp} {r : SRs} {D : Ends} {Wx Wy : WX'} (h : SAfter K T η ρ H (calmS r) D Wx) : SAfter K T η ρ H r D Wy := by
  cases r with
  | ex x env st => exact h.elim
  | nx env st => exact h
  | rt w st => exact h
  | bk env st => exact h
  | ct env st => exact h
  | stuck => exact h.elim
theorem lookup_mem {α : Type} : ∀ {tb : List (Nat × α)} {n : Nat} {b : α}, tb.lookup n = some b → (n, b) ∈ tb
  | (m, c) :: tb, n, b, h => by
    rw [List.lookup_cons] at h
    by_cases e : n = m
    · subst e
      simp at h
      subst h
      exact List.mem_cons_self
    · have e' : (n == m) = false := by simpa using e
      rw [e'] at h
      exact List.mem_cons_of_mem _ (lookup_mem h)
/-- what must be known of an own exception class, by the fragment alone -/
structure ExcF (K : PySem.W.Frag) (mg : Str → Option Value) (C : Addr) (x : Str) : Prop where
  ex : PySem.W.excIn K C [.type "ValueError", .type "Exception", .type "BaseException", .type "object"] "ValueError.__new__" = true
  mg : mg x = some (.ref C)
  kp : PySem.W.keepIn K (.ref C) = true
  sub : PySem.W.subIn K (.ref C) (.type "BaseException") = some true
  ty : PySem.W.typeIn K (.ref C) = some (.type "type")
theorem ExcF.ok {X : Cx} {C : Addr} {x : Str} (h : ExcF X.K X.mg C x) : ExcOk X C x := ⟨h.ex, h.mg, h.kp, h.sub, h.ty⟩
/-- an error of the class at A against the clause that names the class at C -/
theorem exm_by {K : PySem.W.Frag} {A C : Addr} {b : Bool} (hb : PySem.W.subIn K (.ref C) (.type "BaseException") = some true) (hi : PySem.W.isClsIn K C = true) (hy : PySem.W.typeIn K (.ref C) = some (.type "type")) (hs : PySem.W.subIn K (.ref A) (.ref C) = some b) : PySem.W.exmOne K (.ref A) (.ref C) = some b := by
  have hi2 : (PySem.W.clsIn K C).isSome = true := hi
  simp [PySem.W.exmOne, PySem.W.kitCls, hb, hi2, hy, hs]
end Mi
/-! enumerate of a tuple, from the library's draws -/
namespace PySem
open Sem (wp)
open AutoSeq1 (wpAny_loadPart')
end PySem
namespace Mi
open PySem PySem.Spec PyProof.Rows L2
end Mi
namespace Mi
open PySem PySem.Spec PyProof.Rows L2
/-! ### // by great divisors -/
def wDivW : F2 := fun a b st => match a, b with
  | .int i, .int j => if 0 < j ∧ j.natAbs.log2 < 9000 then .ok (.int (i / j)) st else .stuck
  | _, _ => .stuck
section
variable {K : PySem.W.Frag} {T : Nat → Addr}
end
section
variable {X : Cx} {T : Nat → Addr} {Wx : WX'} {pos : Pos}
/-! ### walks over lists and tuples -/
def iA (m : M W) : MI := fun env st => match m env st with
  | .ok (.tup _) _ => iT m env st
  | _ => iL m env st
def iET (m : M (List W)) : MI := fun env st => (m env st).bind fun ws s => match ws with
  | [.tup xs] => .ok (enumW (fixS xs)) s
  | _ => .stuck
def iEA (m : M (List W)) : MI := fun env st => match m env st with
  | .ok [.tup _] _ => iET m env st
  | _ => iE m env st
/-- reversed(x), x a list that stands still or a tuple -/
def iRv (m : M W) : MI := fun env st => (m env st).bind fun w s => match w with
  | .lst xs => .ok (fixS xs.reverse) s
  | .tup xs => .ok (fixS xs.reverse) s
  | _ => .stuck
/-! ### *e in a display -/
def itsW (st : Sto) (w : W) : Option (List W) := match w with
  | .tup xs => some xs
  | w => seqL st w
def mStar (ma : M W) (mr : M (List W)) : M (List W) := fun env st => (ma env st).bind fun a s1 => match itsW s1 a with
  | some xs => (mr env s1).bind fun r s2 => .ok (xs ++ r) s2
  | none => .stuck
theorem its_ok {ρ η : List Addr} {H : Hp} {st : Sto} {w : W} {v : V} {xs : List W} (s : SR X.K T ρ η st H) (h : VR X.K ρ η H w v) (e : itsW st w = some xs) : ∃ a vs, v = .ref a ∧ (SqT X.K H a vs ∨ SqL X.K H a vs) ∧ VRs X.K ρ η H xs vs := by
  unfold itsW at e
  split at e
  · rename_i ys
    cases e
    simp only [VR] at h
    obtain ⟨a, vs, h1, h2, h3⟩ := h
    exact ⟨a, vs, h1, .inl h2.sq, h3⟩
  · obtain ⟨a, vs, h1, h2, h3⟩ := seq_ok s h e
    exact ⟨a, vs, h1, .inr h2, h3⟩
theorem sa_star {e : Expr} {es : List Expr} {p : Pos} {m : M W} {k : M (List W)} (he : SE X T Wx e m) (hr : SA X T Wx es k) (hs : starEach (.Starred e p :: es) X.env = (true, eval e X.env) :: starEach es X.env := by rfl) : SA X T Wx (.Starred e p :: es) (mStar m k) := by
  intro ρ η st env σ H Q s er q
  refine ⟨_, StX.pa_star pe_S pa_S hs, ?_⟩
  refine he ρ η st env σ H _ s er (q.bind fun w s1 ρ1 H1 v g1 sr1 r1 h1 => ?_)
  split at h1
  · rename_i xs e1
    obtain ⟨a, vs, e2, e3, e4⟩ := its_ok sr1 r1 e1
    refine ⟨a, vs, e2, e3, ?_⟩
    refine hr ρ1 η s1 env σ H1 _ sr1 (er.mono g1) (h1.bind fun ws s2 ρ2 H2 us g2 sr2 r2 h2 => ?_)
    exact h2.ok sr2 ((e4.mono g2).append r2)
  · exact h1.elim
def mLstS (fz : Bool) (m : M (List W)) : M W := fun env st => (m env st).bind fun ws s1 => if ws.length ≤ sizeLine then newL fz ws s1 else .stuck
/-! ### isinstance with some types -/
/-! ### min, max of two -/
def fMin2 : FC := fun ws st => match ws with
  | [.int i, .int j] => .ok (.int (if j < i then j else i)) st
  | _ => .stuck
def fMax2 : FC := fun ws st => match ws with
  | [.int i, .int j] => .ok (.int (if j > i then j else i)) st
  | _ => .stuck
end
end Mi
/-! t[::-1] at the library's level -/
namespace HT
open PySem PySem.Spec PyProof.Rows
section
variable {prog : Program} {w : World} {A : Around} {E : Value → Shared → Prop} {s : Shared}
end
end HT
namespace Mi
open PySem PySem.Spec PyProof.Rows L2
section
variable {X : Cx} {T : Nat → Addr} {Wx : WX'} {pos : Pos}
/-! ### x[::-1] -/
def wRevA (fz : Bool) (a : W) (st : Sto) : Rs W := match seqL st a with
  | some xs => newL fz xs.reverse st
  | none => match a with
    | .tup xs => .ok (.tup xs.reverse) st
    | _ => .stuck
def mRev (fz : Bool) (m : M W) : M W := fun env st => (m env st).bind fun a s1 => wRevA fz a s1
/-! ### {k: v, ..} -/
def trsOf (X : Cx) : List (Option Expr) → List Expr → List (TE × TE)
  | some k :: ks, v :: vs => (tS X k, tS X v) :: trsOf X ks vs
  | _, _ => []
def kvsV (kvs : List (Key × V)) : List (V × V) := kvs.map fun kv => (kV kv.1, kv.2)
def SDp (X : Cx) (T : Nat → Addr) (pos : Pos) (Wx : WX') (ks : List (Option Expr)) (vs : List Expr) (m : M (List (Key × W))) : Prop := PPs X pos ks vs (trsOf X ks vs) ∧
  ∀ ρ η st env σ H (Q : List (V × V) → Hp → Prop), SR X.K T ρ η st H → ER X.K ρ η H env σ → After X.K T η (fun ρ H => KVs X.K ρ η H) ρ H (m env st) (fun kvs H' => Q (kvsV kvs) H') (fun c d H' => Wx c d σ H') →
    tPairs (trsOf X ks vs) σ H Q
def mPair (mk mv : M W) (mr : M (List (Key × W))) : M (List (Key × W)) := fun env st => (mk env st).bind fun k s1 => (mv env s1).bind fun v s2 => match keyOf k with
  | some k => (mr env s2).bind fun r s3 => .ok ((k, v) :: r) s3
  | none => .stuck
def mPair0 : M (List (Key × W)) := fun _ st => .ok [] st
theorem sd_nil : SDp X T pos Wx [] [] mPair0 := ⟨pps_nil, fun ρ η st env σ H Q s er h => by
  exact h ρ H [] Grow.refl s ⟨rfl, by simpa using VRs.nil⟩⟩
theorem sd_cons {k v : Expr} {ks : List (Option Expr)} {vs : List Expr} {mk mv : M W} {mr : M (List (Key × W))} (hk : SE X T Wx k mk) (hv : SE X T Wx v mv) (hr : SDp X T pos Wx ks vs mr) : SDp X T pos Wx (some k :: ks) (v :: vs) (mPair mk mv mr) := by
  refine ⟨pps_cons pe_S pe_S hr.1, fun ρ η st env σ H Q s er h => ?_⟩
  show tS X k σ H fun x H1 => tS X v σ H1 fun y H2 => tPairs (trsOf X ks vs) σ H2 fun ps H3 => Q ((x, y) :: ps) H3
  refine hk ρ η st env σ H _ s er (h.bind fun w s1 ρ1 H1 u g1 sr1 r1 h1 => ?_)
  refine hv ρ1 η s1 env σ H1 _ sr1 (er.mono g1) (h1.bind fun w2 s2 ρ2 H2 u2 g2 sr2 r2 h2 => ?_)
  split at h2
  · rename_i kk e
    have ek := key_ok (r1.mono g2) e
    subst ek
    exact hr.2 ρ2 η s2 env σ H2 _ sr2 ((er.mono g1).mono g2) (h2.bind fun r s3 ρ3 H3 kvs g3 sr3 r3 h3 => h3.ok sr3 (KVs.mk' (r2.mono g3) r3))
  · exact h2.elim
def mDisp (m : M (List (Key × W))) : M W := fun env st => match m env st with
  | .ok kvs s1 => if kvs.length ≤ 15 then newD (mergeKW [] kvs) s1 else .stuck
  | _ => .stuck
theorem se_disp {ks : List (Option Expr)} {vs : List Expr} {m : M (List (Key × W))} (h : SDp X T pos Wx ks vs m) (hall : ks.all (·.isSome) = true := by rfl) (hl : ks.length = vs.length := by rfl) (h0 : ks ≠ [] := by simp) (h15 : ks.length ≤ 15 := by decide) : SE X T Wx (.Dict ks vs pos) (mDisp m) := by
  intro ρ η st env σ H Q s er q
  refine ⟨_, pe_disp h.1 hall hl h0 h15, ?_⟩
  intro p hp
  have D1 : Hid η H (p :: η) := hid_new hp
  have g0 : Grow ρ H ρ (upd H p (.dK [])) := Grow.new hp
  refine h.2 ρ (p :: η) st env σ (upd H p (.dK [])) _ (s.hide hp) (er.more g0 D1) ?_
  unfold mDisp at q
  cases e : m env st with
  | ok kvs s1 =>
    rw [e] at q
    simp only at q
    split at q
    · rename_i hlen
      intro ρ' H' kv g sr r
      have hp' : H' p = some (.dK []) := g.same p _ (s.fresh hp) upd_same
      refine ⟨hp', kv, rfl, by rw [r.len]; exact hlen, ?_⟩
      have gA : Grow ρ H ρ' H' := g0.trans g
      have rm : KVs X.K ρ' (p :: η) H' (mergeKW [] kvs) (mergeK [] kv) := r.merge ⟨rfl, VRs.nil⟩
      have nD : p ∉ η := s.freshH hp
      have sr' : SR X.K T ρ' (p :: η) s1 (upd H' p (.dK (mergeK [] kv))) := sr.hid' List.mem_cons_self
      have rm' : KVs X.K ρ' (p :: η) (upd H' p (.dK (mergeK [] kv))) (mergeKW [] kvs) (mergeK [] kv) := rm.hid List.mem_cons_self
      refine q (ρ' ++ [p]) _ _ ((gA.hid hp).shift hp) (sr'.shift nD ⟨_, upd_same, rm'.1, rm'.2.shift⟩) ?_
      simp only [VR]
      exact ⟨p, by rw [← sr'.len, List.getElem?_append_right (Nat.le_refl _)]; simp, rfl⟩
    · exact q.elim
  | ex x s' => rw [e] at q; exact q.elim
  | stuck => rw [e] at q; exact q.elim
end
end Mi
/-! The mirror: try .. except X as e, isinstance(e, C) in its suite. -/
namespace Mi
open PySem PySem.Spec PyProof.Rows L2
def clrS (i : Nat) : SRs → SRs
  | .nx e s => .nx (e.set i none) s
  | .bk e s => .bk (e.set i none) s
  | .ct e s => .ct (e.set i none) s
  | .rt w s => .rt w s
  | .ex _ _ _ => .stuck
  | .stuck => .stuck
open Classical in
noncomputable def agree (f : Addr → SRs) : SRs := if ∀ a, f a = f 0 then f 0 else .stuck
theorem agree_eq {f : Addr → SRs} {r : SRs} (h : ∀ a, f a = r) : agree f = r := by
  unfold agree
  rw [if_pos (fun a => by rw [h a, h 0])]
  exact h 0
noncomputable def sTryAs (tb : List (Nat × Bool)) (i : Nat) (m : MS) (k : Nat → Addr → MS) : MS := fun env st => match m env st with
  | .ex (.plain n) env1 st1 => match tb.lookup n with
    | some true => agree fun a => clrS i (k n a (env1.set i (some (.at_ a))) st1)
    | some false => .ex (.plain n) env1 st1
    | none => .stuck
  | .ex (.one _ _ _) _ _ => .stuck
  | r => r
theorem SAfter.agree {K : PySem.W.Frag} {T : Nat → Addr} {η ρ : List Addr} {H : Hp} {f : Addr → SRs} {D : Ends} {Wx : WX'} (h : SAfter K T η ρ H (agree f) D Wx) (a : Addr) : SAfter K T η ρ H (f a) D Wx := by
  unfold Mi.agree at h
  split at h
  · rename_i q
    rw [q a]
    exact h
  · exact h.elim
theorem ER.clr {K : PySem.W.Frag} {ρ η : List Addr} {H : Hp} {env : Ev} {σ : L2.St} (i : Nat) (h : ER K ρ η H env σ) : ER K ρ η H (env.set i none) (σ.set i none) := ⟨by simp [h.1], fun j u e => by
  rw [List.getElem?_set] at e ⊢
  split at e
  · split at e
    · cases e
    · cases e
  · rename_i q
    rw [if_neg q]
    exact h.2 j u e⟩
theorem SAfter.clr {K : PySem.W.Frag} {T : Nat → Addr} {η ρ : List Addr} {H : Hp} {r : SRs} {i : Nat} {D : Ends} {Wx Wy : WX'} (h : SAfter K T η ρ H (clrS i r) D Wx) :
    SAfter K T η ρ H r { nx := fun σ' H' => D.nx (σ'.set i none) H', rt := D.rt, bk := fun σ' H' => D.bk (σ'.set i none) H', ct := fun σ' H' => D.ct (σ'.set i none) H' } Wy := by
  cases r with
  | nx e s => exact fun ρ' H' σ' g sr er => h ρ' H' _ g sr (er.clr i)
  | bk e s => exact fun ρ' H' σ' g sr er => h ρ' H' _ g sr (er.clr i)
  | ct e s => exact fun ρ' H' σ' g sr er => h ρ' H' _ g sr (er.clr i)
  | rt w s => exact h
  | ex x e s => exact h.elim
  | stuck => exact h.elim
/-- isinstance(e, C), e the error that the suite holds; tb tells which of the classes are C's -/
def mExIs (n : Nat) (a : Addr) (tb : List (Nat × Bool)) (i : Nat) : M W := fun env st => match env[i]? with
  | some (some (.at_ b)) => if b = a then (match tb.lookup n with
    | some r => .ok (.bl r) st
    | none => .stuck) else .stuck
  | _ => .stuck
theorem se_exis {X : Cx} {T : Nat → Addr} {Wx : WX'} {n : Nat} {a C : Addr} {oe : Obj} {pn : List (Addr × Obj)} {tb : List (Nat × Bool)} {i : Nat} {nm x : Str} {p p1 p2 pos : Pos}
    (hE : ∀ q ∈ tb, ExcC X.K (T q.1)) (hz : Zc (.ref (T n)) none oe) (hf : ∃ vs, oe.data = .fields vs) (hk : ∀ q ∈ tb, PySem.W.kitOne X.K (.ref (T q.1)) (.ref C) = some q.2)
    (hg : Gl (X.suite a ((a, oe) :: pn)) "isinstance") (hm : (X.suite a ((a, oe) :: pn)).mg "isinstance" = none) (hN : (X.suite a ((a, oe) :: pn)).N[i]? = some nm) (hv : Vis (X.suite a ((a, oe) :: pn)).env.scope nm) (hgC : Gl (X.suite a ((a, oe) :: pn)) x) (hmC : (X.suite a ((a, oe) :: pn)).mg x = some (.ref C))
    (hd : (nm == ("__debug__" : Str)) = false := by decide) (hcd : (nm == ("__classdict__" : Str)) = false := by decide) (hdx : (x == ("__debug__" : Str)) = false := by decide)
    (s1 : starEach [.Name nm p1, .Name x p2] (X.suite a ((a, oe) :: pn)).env = (false, eval (.Name nm p1) (X.suite a ((a, oe) :: pn)).env) :: starEach [.Name x p2] (X.suite a ((a, oe) :: pn)).env := by rfl)
    (s2 : starEach [.Name x p2] (X.suite a ((a, oe) :: pn)).env = (false, eval (.Name x p2) (X.suite a ((a, oe) :: pn)).env) :: starEach [] (X.suite a ((a, oe) :: pn)).env := by rfl)
    (hpl : (backTo pos (starEach [.Name x p2] (X.suite a ((a, oe) :: pn)).env)).any (·.1) = false := by rfl) :
    SE (X.suite a ((a, oe) :: pn)) T Wx (.Call (.Name "isinstance" p) [.Name nm p1, .Name x p2] [] pos) (mExIs n a tb i) := by
  intro ρ η st env σ H Q s er q
  unfold mExIs at q
  split at q
  · rename_i b e0
    split at q
    · rename_i eb
      subst eb
      cases el : tb.lookup n with
      | none => rw [el] at q; exact q.elim
      | some r =>
        rw [el] at q
        have hmem := lookup_mem el
        obtain ⟨v, e1, r1⟩ := er.2 i _ e0
        simp only [VR] at r1
        subst r1
        refine ⟨_, pe_callB (call_isE (hE _ hmem) hz hf) hg hm (by decide +kernel) (pa_cons (pe_var hN hv hd hcd) (pa_cons (pe_glob (v := .ref C) hgC hmC rfl hdx) pa_nil s2) s1) (by decide) (by decide) s1 hpl, ?_⟩
        exact ⟨_, e1, .ref C, .ref C, r, rfl, fun u h => h, hk _ hmem, After.ok q s (by simp only [VR])⟩
    · exact q.elim
  · exact q.elim
end Mi
/-! a dict beside a whole number -/
namespace PySem.SeqAt
open AutoSeq1 (wpAny_loadPart')
end PySem.SeqAt
namespace Mi
open PySem PySem.Spec PyProof.Rows L2
end Mi
/-! dict.pop(k), list.remove of whole numbers, list(range(n)) -/
namespace Mi
open PySem PySem.Spec PyProof.Rows L2
section
variable {K : PySem.W.Frag} {T : Nat → Addr} {ρ η : List Addr} {H : Hp} {st : Sto}
end
section
variable {X : Cx} {T : Nat → Addr} {Wx : WX'} {pos apos : Pos}
end
end Mi
set_option maxHeartbeats 6400000
/-! set(a list of whole numbers) -/
namespace Mi
open PySem PySem.Spec PyProof.Rows L2
/-- the set is made, the other objects stay -/
structure MadeSet (w : World) (h : Heap) (ns : List Int) (h' : Heap) : Prop where
  set : ∃ c, c ≤ ns.length ∧ SetR w h' h.objs.size (fun j => decide (j ∈ ns)) c
  old : ∀ b o, h.get? b = some o → h'.get? b = some o
section
variable {P : Program} {w : World} {A : Around} {E : Value → Shared → Prop} {s : Shared} {l : Addr} {items : Array Value} {ns : List Int}
end
def rSetL (K : PySem.W.Frag) (w : World) : List V → Hp → VK → Prop := fun xs H Q => ∃ (a : Addr) (ns : List Int), xs = [V.ref a] ∧ SqL K H a (ns.map V.int) ∧ ns.length < 64 ∧ ∀ p c, c ≤ ns.length → H p = none → Q (.ref p) (upd H p (SetO w p (fun j => decide (j ∈ ns)) c))
section
variable {X : Cx} {T : Nat → Addr} {Wx : WX'}
end
end Mi
/-! The mirror: a lambda without parameters, handed to a def that calls it. -/
namespace Mi
open PySem PySem.Spec PyProof.Rows L2 LamX
def tbOf (T : Nat → Addr) : Nd → Option (Addr × Str)
  | .tb j q => some (T (1000 + j), q)
  | _ => none
theorem nt_of {o : HO} (h : plO o = true) : nt o = true := by cases o <;> first | rfl | cases h
section
variable {K : PySem.W.Frag} {T : Nat → Addr} {ρ η ρ' η' : List Addr} {H H1 H' : Hp} {st : Sto}
theorem SR.tabs (s : SR K T ρ η st H) : Tabs (st.filterMap (tbOf T)) H := by
  intro p hp
  obtain ⟨nd, h1, h2⟩ := List.mem_filterMap.mp hp
  obtain ⟨i, hi⟩ := List.getElem?_of_mem h1
  have hi' : i < ρ.length := by rw [s.len]; exact (List.getElem?_eq_some_iff.mp hi).1
  have k := s.at_ i nd ρ[i] hi (List.getElem?_eq_getElem hi')
  cases nd with
  | tb j q =>
    simp only [tbOf, Option.some.injEq] at h2
    subst h2
    obtain ⟨e, ps, k1, k2, k3⟩ := k
    refine ⟨ps, by rw [← e]; exact k1, k2, fun pos cv z => ?_⟩
    obtain ⟨c, c1, c2, c3, c4⟩ := k3 pos cv z
    exact ⟨c, c1, c4⟩
  | _ => simp [tbOf] at h2
/-- a place holds no code object -/
theorem SR.noext {a : Addr} {f : Heap → Prop} (s : SR K T ρ η st H) (ha : a ∈ ρ) : H a ≠ some (.ext f) := by
  intro z
  obtain ⟨i, hi⟩ := List.getElem?_of_mem ha
  have hi' : i < st.length := by rw [← s.len]; exact (List.getElem?_eq_some_iff.mp hi).1
  have k := s.at_ i _ a (List.getElem?_eq_getElem hi') hi
  cases e : st[i] with
  | lst xs => rw [e] at k; obtain ⟨vs, y, _⟩ := k; rw [y] at z; cases z
  | dk xs => rw [e] at k; obtain ⟨vs, y, _⟩ := k; rw [y] at z; cases z
  | lk xs => rw [e] at k; obtain ⟨od, vs, y, _⟩ := k; rw [y] at z; cases z
  | ins c xs => rw [e] at k; obtain ⟨dx, vs, y, _⟩ := k; rw [y] at z; cases z
  | tb p q => rw [e] at k; obtain ⟨_, ps, y, _⟩ := k; rw [y] at z; cases z
theorem SR.noextH {a : Addr} {f : Heap → Prop} (s : SR K T ρ η st H) (ha : a ∈ η) : H a ≠ some (.ext f) := by
  intro z
  obtain ⟨o, e, p⟩ := s.has a ha
  rw [z] at e
  cases e
  cases p
/-- more stands, and tables have more -/
theorem SR.ext (s : SR K T ρ η st H) (x : ExtN H H1) (t : Tabs (st.filterMap (tbOf T)) H1) : Grow ρ H ρ H1 ∧ SR K T ρ η st H1 := by
  have keep : ∀ a o, H a = some o → nt o = true → H1 a = some o := fun a o e n => x a o e (fun ps z => by rw [z] at n; cases n)
  have g : Grow ρ H ρ H1 := ⟨⟨[], by simp, by simp⟩, fun a o _ e n => keep a o e n, fun a o e n => ⟨o, keep a o e n, n⟩, fun a o u e => keep a _ e rfl⟩
  have noR : ∀ a ∈ ρ, ∀ f, H1 a ≠ some (.ext f) := by
    intro a ha f z
    obtain ⟨i, hi⟩ := List.getElem?_of_mem ha
    have hi' : i < st.length := by rw [← s.len]; exact (List.getElem?_eq_some_iff.mp hi).1
    have k := s.at_ i _ a (List.getElem?_eq_getElem hi') hi
    cases e : st[i] with
    | lst xs => rw [e] at k; obtain ⟨vs, y, _⟩ := k; rw [keep a _ y rfl] at z; cases z
    | dk xs => rw [e] at k; obtain ⟨vs, y, _⟩ := k; rw [keep a _ y rfl] at z; cases z
    | lk xs => rw [e] at k; obtain ⟨od, vs, y, _⟩ := k; rw [keep a _ y rfl] at z; cases z
    | ins c xs => rw [e] at k; obtain ⟨dx, vs, y, _⟩ := k; rw [keep a _ y rfl] at z; cases z
    | tb j q =>
      rw [e] at k
      obtain ⟨e0, _⟩ := k
      obtain ⟨ps, m1, _⟩ := t (T (1000 + j), q) (List.mem_filterMap.mpr ⟨_, List.getElem_mem hi', by rw [e]; rfl⟩)
      rw [e0, m1] at z
      cases z
  refine ⟨g, s.nd, s.len, s.hid, fun a ha => ?_, fun i nd a e q => ?_⟩
  · obtain ⟨o, e, p⟩ := s.has a ha
    exact ⟨o, keep a o e (nt_of p), p⟩
  · have k := s.at_ i nd a e q
    cases nd with
    | lst xs => obtain ⟨vs, y, _⟩ := id k; exact NR.mono g ((keep a _ y rfl).trans y.symm) k
    | dk xs => obtain ⟨vs, y, _⟩ := id k; exact NR.mono g ((keep a _ y rfl).trans y.symm) k
    | lk xs => obtain ⟨od, vs, y, _⟩ := id k; exact NR.mono g ((keep a _ y rfl).trans y.symm) k
    | ins c xs => obtain ⟨dx, vs, y, _⟩ := id k; exact NR.mono g ((keep a _ y rfl).trans y.symm) k
    | tb j w =>
      obtain ⟨e0, _⟩ := k
      obtain ⟨ps, m1, m2, m3⟩ := t (T (1000 + j), w) (List.mem_filterMap.mpr ⟨_, List.mem_of_getElem? e, rfl⟩)
      refine ⟨e0, ps, by rw [e0]; exact m1, m2, fun pos cv z => ?_⟩
      obtain ⟨c, c1, c2⟩ := m3 pos cv z
      refine ⟨c, c1, fun hc => noR c hc _ c2, fun hc => ?_, c2⟩
      obtain ⟨o, e1, p⟩ := s.has c hc
      have z := keep c o e1 (nt_of p)
      have c3 : H1 c = some (CodeO c w) := c2
      rw [c3] at z
      cases z
      cases p
mutual
theorem VR.gh {ρ0 η0 : List Addr} {H0 : Hp} (g : GH ρ0 η0 H0 ρ η H) : ∀ {w : W} {v : V}, VR K ρ0 η0 H0 w v → VR K ρ η H w v
  | .non, _, h => h
  | .bl _, _, h => h
  | .int _, _, h => h
  | .str _, _, h => h
  | .ty _, _, h => h
  | .at_ _, _, h => h
  | .fn _ _ _ _, _, h => ⟨h.1, h.2.trans g⟩
  | .exc a d f w, v, h => by
    simp only [VR] at h ⊢
    obtain ⟨e, d1, d2, fs, u, x1, x2, r⟩ := h
    obtain ⟨y1, y2, y3⟩ := g.2 d _ d1 d2 x1 rfl
    exact ⟨e, y1, y2, fs, u, y3, x2, VR.gh g r⟩
  | .ref i, v, h => by
    simp only [VR] at h ⊢
    obtain ⟨a, e, r⟩ := h
    obtain ⟨⟨t, e2⟩, _⟩ := g
    exact ⟨a, by rw [e2, List.getElem?_append_left (List.getElem?_eq_some_iff.mp e).1]; exact e, r⟩
  | .tup xs, v, h => by
    simp only [VR] at h ⊢
    obtain ⟨a, vs, e, t, r⟩ := h
    refine ⟨a, vs, e, ?_, VRs.gh g r⟩
    rcases t with ⟨h1, h2, h3⟩ | t
    · rcases h3 with h3 | ⟨o, h3⟩
      · obtain ⟨x1, x2, x3⟩ := g.2 a _ h1 h2 h3 rfl
        exact .inl ⟨x1, x2, .inl x3⟩
      · obtain ⟨x1, x2, x3⟩ := g.2 a _ h1 h2 h3 rfl
        exact .inl ⟨x1, x2, .inr ⟨o, x3⟩⟩
    · exact .inr t
  | .lst xs, v, h => by
    simp only [VR] at h ⊢
    obtain ⟨a, vs, e, ⟨t1, t2, t3⟩, r⟩ := h
    exact ⟨a, vs, e, g.2 a _ t1 t2 t3 rfl, VRs.gh g r⟩
  | .scr xs, v, h => by
    simp only [VR] at h ⊢
    obtain ⟨a, vs, e, t, r⟩ := h
    refine ⟨a, vs, e, ?_, VRs.gh g r⟩
    rcases t with ⟨h1, h2, h3⟩ | t
    · rcases h3 with h3 | ⟨o, h3⟩
      · obtain ⟨x1, x2, x3⟩ := g.2 a _ h1 h2 h3 rfl
        exact .inl ⟨x1, x2, .inl x3⟩
      · obtain ⟨x1, x2, x3⟩ := g.2 a _ h1 h2 h3 rfl
        exact .inl ⟨x1, x2, .inr ⟨o, x3⟩⟩
    · exact .inr t
theorem VRs.gh {ρ0 η0 : List Addr} {H0 : Hp} (g : GH ρ0 η0 H0 ρ η H) : ∀ {ws : List W} {vs : List V}, VRs K ρ0 η0 H0 ws vs → VRs K ρ η H ws vs
  | [], _, h => by simpa only [VRs] using h
  | x :: xs, vs, h => by
    simp only [VRs] at h ⊢
    obtain ⟨v, r, e, h1, h2⟩ := h
    exact ⟨v, r, e, VR.gh g h1, VRs.gh g h2⟩
end
theorem ER.gh {ρ0 η0 : List Addr} {H0 : Hp} {env : Ev} {σ : L2.St} (g : GH ρ0 η0 H0 ρ η H) (h : ER K ρ0 η0 H0 env σ) : ER K ρ η H env σ := ⟨h.1, fun i w e => by
  obtain ⟨v, q, r⟩ := h.2 i w e
  exact ⟨v, q, r.gh g⟩⟩
end
/-! ### what a call of the parameter does -/
open Classical in
/-- F is what the parameter at i holds, cl what its call does -/
noncomputable def mCallP (F : W) (i : Nat) (cl : Sto → Rs W) : M W := fun env st => if env[i]? = some (some F) then cl st else .stuck
def calmR (r : Rs W) : Rs W := match r with
  | .ex _ _ => .stuck
  | r => r
theorem After.calm {K : PySem.W.Frag} {T : Nat → Addr} {η ρ : List Addr} {H : Hp} {R : List Addr → Hp → W → V → Prop} {r : Rs W} {Q : VK} {E E' : Value → Option Addr → Hp → Prop} (h : After K T η R ρ H (calmR r) Q E) : After K T η R ρ H r Q E' := by
  cases r with
  | ok w s => exact h
  | ex x s => exact h.elim
  | stuck => exact h.elim
/-- what comes is told of any state of names -/
def sForget (n : Nat) (m : MS) : MS := fun env st => match m env st with
  | .ex x _ st1 => .ex x (List.replicate n none) st1
  | r => r
theorem takes_any {X : Cx} {Wx : WX'} (tk : Takes X Wx) : Takes X (WD fun c d H => ∀ σ : L2.St, σ.length = X.N.length → Wx c d σ H) := by
  rintro u s' ⟨a, B, sI, pins, σ, H, cls, d, h1, I, h2, h3, h4, h5, h6, h7, h8⟩
  exact tk u s' ⟨a, B, sI, pins, σ, H, cls, d, h1, I, h2, h3, h4, h5, h6, h7, h8 σ I.len⟩
theorem er_none {K : PySem.W.Frag} {ρ η : List Addr} {H : Hp} {σ : L2.St} : ER K ρ η H (List.replicate σ.length none) σ := ⟨by simp, fun i w e => by
  rw [List.getElem?_replicate] at e
  split at e <;> cases e⟩
theorem ss_forget {X : Cx} {T : Nat → Addr} {Wx : WX'} {c : Stmt} {m : MS} {n : Nat} (tk : Takes X Wx) (hn : X.N.length = n) (h : ∀ E : XK, Takes X (WD E) → SSt X T (WD E) c m) : SSt X T Wx c (sForget n m) := by
  subst hn
  intro ρ η st env σ H D s er q
  refine h _ (takes_any tk) ρ η st env σ H D s er ?_
  unfold sForget at q
  cases e : m env st with
  | ex x env1 st1 =>
    rw [e] at q
    intro ρ1 H1 σ1 c d g sr1 er1 xr σ' hl
    refine q ρ1 H1 σ' c d g sr1 ?_ xr
    rw [← hl]
    exact er_none
  | nx env1 st1 => rw [e] at q; exact q
  | rt w st1 => rw [e] at q; exact q
  | bk env1 st1 => rw [e] at q; exact q
  | ct env1 st1 => rw [e] at q; exact q
  | stuck => rw [e] at q; exact q
/-- what a def is told of the parameter a, its i-th name -/
def CallP (X : Cx) (T : Nat → Addr) (F : W) (i : Nat) (a : Str) (cl : Sto → Rs W) : Prop :=
  ∀ (E : XK) (pn : List (Addr × Obj)) (xe : Value → Shared → Prop) (p1 p2 : Pos), Takes (X.tr pn xe) (WD E) → SE (X.tr pn xe) T (WD E) (.Call (.Name a p1) [] [] p2) (mCallP F i cl)
/-- x(lambda: ..): n names behind the parameter, mL what x does with what it is handed -/
noncomputable def mLam (j : Nat) (q : Str) (mL : W → (Sto → Rs W) → MS) (n : Nat) (mb : M W) : M W := fun env st => match st[j]? with
  | some (.tb j' q') => if j' = j ∧ q' = q then calmR (outOf (mL .non (fun s => mb env s) (some .non :: List.replicate n none) st)) else .stuck
  | _ => .stuck
section
variable {X : Cx} {T : Nat → Addr} {Wx : WX'}
theorem se_lamcall {x a q : Str} {st0 : Stmt} {g c P : Addr} {fd : FuncData} {k j n : Nat} {Ng : List Str} {params : Arguments} {body : Expr} {scope : Scope} {p lpos pos : Pos} {mL : W → (Sto → Rs W) → MS} {mb : M W}
    (F : Fun X.K x x st0 g fd) (hg : Gl X x) (hm : X.mg x = some (.ref g)) (hb : Binds X.K fd [a] []) (Sg : FnScope Ng [a] (defScope st0)) (hNg : Ng[0]? = some a) (hn : Ng.length = n + 1) (hva : Vis (defScope st0) a)
    (hTB : TabB X.base X.mg c P) (hcode : X.env.code = .ref c) (hP : T (1000 + j) = P) (hq : X.env.qual ++ "<lambda>" = q)
    (hr : Room (k + 2) X.A) (L : LamS X.env.scope scope) (hdef : defaultsOf params X.env = ([], []))
    (hbind : ∀ (q : Str) (cl : List (Str × Addr)) (pm cv ctv : Value), bindArgs (PySem.W.kla_fn "<lambda>" q params body scope cl pm cv ctv) ⟨[], []⟩ = pure [])
    (hbody : ∀ (A : Around) (outer : List Env) (s : Shared) (G : Hp) (E : XK) (f c' : Addr), Room k (A.deeper (lamEnv X scope s.heap.objs.size f c')) → SE (lamCx X A outer s G E scope f c') T (WD E) body mb)
    (hcal : ∀ (cdv : Value) (s : Shared) (G : Hp), Room (k + 1) (X.A.deeper (envOfC x (defScope st0) s.heap.objs.size g cdv)) → ∀ (F : W) (cl : Sto → Rs W), CallP (cxOf C8.CX0 X.prog X.w X.K X.mg X.base Ng x (defScope st0) g cdv X.A X.stack s G C8.E0) T F 0 a cl →
      SSs (cxOf C8.CX0 X.prog X.w X.K X.mg X.base Ng x (defScope st0) g cdv X.A X.stack s G C8.E0).nox T W0 (defBody st0) (mL F cl))
    (hpar : ∀ (F : W) (cl : Sto → Rs W) (st : Sto), outOf (mL F cl (some F :: List.replicate n none) st) = outOf (mL .non cl (some .non :: List.replicate n none) st))
    (hdb : (x == ("__debug__" : Str)) = false := by decide) (hda : (a == ("__debug__" : Str)) = false := by decide) (hdc : (a == ("__classdict__" : Str)) = false := by decide) :
    SE X T Wx (.Call (.Name x p) [.Lambda params body scope lpos] [] pos) (mLam j q mL n mb) := by
  intro ρ η st env σ H Q s er aft
  subst hq
  obtain ⟨oc, od, kV, doc, pm, an, cdv, ct, osl, rfl, lk, hcg⟩ := F.ex
  unfold mLam at aft
  split at aft
  · rename_i j' q' e1
    split at aft
    · rename_i e2
      obtain ⟨rfl, rfl⟩ := e2
      have hj : j' < ρ.length := by rw [s.len]; exact (List.getElem?_eq_some_iff.mp e1).1
      have hρ : ρ[j']? = some ρ[j'] := List.getElem?_eq_getElem hj
      have eP : ρ[j'] = P := (s.at_ j' _ _ e1 hρ).1.trans hP
      refine ⟨tLam (st.filterMap (tbOf T)) (fun tl H1 Q1 => SR X.K T ρ η st H1 ∧ ER X.K ρ η H1 env σ ∧
          (∀ (E : XK) (ρZ ηZ : List Addr) (HZ : Hp) (QZ : VK) (stZ : Sto), SR X.K T ρZ ηZ stZ HZ → ER X.K ρZ ηZ HZ env σ → After X.K T ηZ (fun ρ H => VR X.K ρ ηZ H) ρZ HZ (mb env stZ) QZ (fun c d H' => E c d H') → tl E HZ QZ) ∧
          After X.K T η (fun ρ H => VR X.K ρ η H) ρ H1 (calmR (outOf (mL .non (fun s => mb env s) (some .non :: List.replicate n none) st))) Q1 (fun _ _ _ => False))
        (fun E σ' H' Q' => ∀ (A : Around) (outer : List Env) (s0 : Shared) (G : Hp) (f c' : Addr), Room k (A.deeper (lamEnv X scope s0.heap.objs.size f c')) → tS (lamCx X A outer s0 G E scope f c') body σ' H' Q'),
        pe_lamcall hg hm F.kp lk hcg hb Sg hNg hva ?G hTB hcode ?mem ?hu hr L hdef hbind ?body hdb hda hdc, ?_⟩
      case mem => exact List.mem_filterMap.mpr ⟨_, List.mem_of_getElem? e1, by simp only [tbOf, hP]⟩
      case hu =>
        intro p hp z
        obtain ⟨nd, h1, h2⟩ := List.mem_filterMap.mp hp
        obtain ⟨i, hi⟩ := List.getElem?_of_mem h1
        have hi' : i < ρ.length := by rw [s.len]; exact (List.getElem?_eq_some_iff.mp hi).1
        have k1 := s.at_ i nd ρ[i] hi (List.getElem?_eq_getElem hi')
        cases nd with
        | tb j2 q2 =>
          simp only [tbOf, Option.some.injEq] at h2
          subst h2
          have e3 : ρ[i] = P := k1.1.trans z
          have e4 : i = j' := (List.getElem_inj s.nd).mp (e3.trans eP.symm)
          subst e4
          rw [e1] at hi
          cases hi
          rfl
        | _ => simp [tbOf] at h2
      case body =>
        intro A outer s0 G E f c' hrr
        exact ⟨fun pins s' σ' H' Q' I h => by
          obtain ⟨u, h1, h2⟩ := h A outer s0 G f c' hrr
          exact h1.run pins s' σ' H' Q' I h2⟩
      case G =>
        intro f c' s0 H1 Q1 tl sup hc' hTT
        obtain ⟨sr, er1, rel, aft1⟩ := hTT
        have hc1 : c' ∉ ρ := fun z => sr.noext z hc'
        have hc2 : c' ∉ η := fun z => sr.noextH z hc'
        have CP : CallP (cxOf C8.CX0 X.prog X.w X.K X.mg X.base Ng x (defScope st0) g cdv X.A X.stack s0 H1 C8.E0) T (.fn f ρ η H1) 0 a (fun s => mb env s) := by
          intro E pn xe p1 p2 tk ρ2 η2 st2 env2 σ2 H2 Q2 sr2 er2 q2
          unfold mCallP at q2
          split at q2
          · rename_i hF
            obtain ⟨v, v1, v2⟩ := er2.2 0 _ hF
            simp only [VR] at v2
            obtain ⟨v3, gh⟩ := v2
            subst v3
            exact ⟨_, sup (WD E) pn xe E p1 p2 tk (fun _ _ _ _ h => h), v1, (gh.2 c' _ hc1 hc2 hc' rfl).2.2, rel E ρ2 η2 H2 Q2 st2 sr2 (er1.gh gh) q2⟩
          · exact q2.elim
        have es : ER X.K ρ η H1 (some (.fn f ρ η H1) :: List.replicate n none) (L2.start Ng [V.ref f]) := by
          have := er_start (K := X.K) (ρ := ρ) (η := η) (H := H1) (N := Ng) (VRs.cons (x := .fn f ρ η H1) (v := V.ref f) (show _ ∧ _ from ⟨rfl, GH.refl⟩) VRs.nil)
          rw [hn] at this
          exact this
        have go := hcal cdv s0 H1 (hr.deeper _) (.fn f ρ η H1) (fun s => mb env s) CP ρ η st _ _ H1 { nx := fun _ H' => Q1 V.non H', rt := Q1 } sr es ?_
        · exact go
        · rw [← hpar (.fn f ρ η H1)] at aft1
          cases e : mL (.fn f ρ η H1) (fun s => mb env s) (some (.fn f ρ η H1) :: List.replicate n none) st with
          | nx env1 s1 => rw [e] at aft1; exact fun ρ1 H1 σ1 g1 sr1 er1 => aft1 ρ1 H1 _ g1 sr1 (by simp only [VR])
          | rt w1 s1 => rw [e] at aft1; exact aft1
          | bk env1 s1 => rw [e] at aft1; exact aft1.elim
          | ct env1 s1 => rw [e] at aft1; exact aft1.elim
          | ex y env1 s1 => rw [e] at aft1; exact aft1.elim
          | stuck => rw [e] at aft1; exact aft1.elim
      · refine ⟨s.tabs, fun H1 hx ht => ?_⟩
        obtain ⟨g1, sr1⟩ := s.ext hx ht
        refine ⟨sr1, er.mono g1, fun E ρZ ηZ HZ QZ stZ srZ erZ aZ A outer s0 G f c' hrr => hbody A outer s0 G E f c' hrr ρZ ηZ stZ env σ HZ QZ srZ erZ aZ, ?_⟩
        have a1 := After.grow g1 aft
        cases e : outOf (mL .non (fun s => mb env s) (some .non :: List.replicate n none) st) with
        | ok w s => rw [e] at a1; exact a1
        | ex x s => rw [e] at a1; exact a1.elim
        | stuck => rw [e] at a1; exact a1.elim
    · exact aft.elim
  · exact aft.elim
end
/-! ### a def in which a lambda stands -/
/-- a def whose code object stands at c -/
def FunL (K : PySem.W.Frag) (x qual : Str) (st : Stmt) (f : Addr) (fd : FuncData) (c : Addr) : Prop :=
  ∃ oc od kV doc pm an ct osl, fd = PySem.W.fnOf x qual (defArgs st) (defBody st) (defScope st) .none kV doc pm an (.ref c) ct ∧ K.lookup f = some ⟨oc, od, .func fd, osl⟩ ∧ PySem.W.codeIn K (.ref c) qual = true
section
variable {P : Program} {w : World} {K : PySem.W.Frag} {mg : Str → Option Value} {base : Heap} {T : Nat → Addr} {k : Nat}
theorem fn_okL {x qual : Str} {st : Stmt} {f c : Addr} {fd : FuncData} {N ps : List Str} {m : MS} (F : FunL K x qual st f fd c) (S : FnScope N ps (defScope st))
    (hb : ∀ (A : Around) (outer : List Env) (s : Shared) (H : Hp) (E : XK), Room k (A.deeper (envOfC qual (defScope st) s.heap.objs.size f (.ref c))) →
      SSs (L2.cxOf (L2.CX P w) P w K mg base N qual (defScope st) f (.ref c) A outer s H E) T (WD E) (defBody st) m) : FnM P w K mg base T (k + 1) f fd ps (runOf N.length m) := by
  obtain ⟨oc, od, kV, doc, pm, an, ct, osl, rfl, lk, hcd⟩ := F
  refine ⟨fun vs H Q E h => spM_len vs H Q E h, fun A outer s H args us vs Q E hr env bd rv h => ?_⟩
  refine LamX.run_ofS lk hcd S hr env bd rv (spM_len vs H Q E h) fun hr' => ?_
  obtain ⟨ρ, η, sto, ws, sr, r, l, a⟩ := h
  have go := hb A outer s H E hr' ρ η sto _ _ H { nx := fun _ H' => Q .non H', rt := Q } sr (er_start (N := N) r) ?_
  · exact go
  · unfold runOf at a
    cases e : m (ws.map some ++ List.replicate (N.length - ws.length) none) sto with
    | nx env s1 => rw [e] at a; exact fun ρ1 H1 σ1 g1 sr1 er1 => a ρ1 H1 _ g1 sr1 (by simp only [VR])
    | rt w1 s1 => rw [e] at a; exact a
    | bk env s1 => rw [e] at a; exact a.elim
    | ct env s1 => rw [e] at a; exact a.elim
    | ex x env s1 => rw [e] at a; exact fun ρ1 H1 σ1 c d g1 sr1 er1 xr => a ρ1 H1 c d g1 sr1 xr
    | stuck => rw [e] at a; exact a
end
theorem tab_nil : TriplesOk (#[] : Array Value).toList := by trivial
end Mi
/-! list.count and list.index of flags -/
namespace Mi
open PySem PySem.Spec PyProof.Rows L2
def rCntB (K : PySem.W.Frag) : V → List V → Hp → VK → Prop := fun x xs H Q => ∃ (p : Addr) (bs : List Bool) (b : Bool), x = .ref p ∧ xs = [.bl b] ∧ SqL K H p (bs.map V.bl) ∧ Q (.int (bs.count b : Nat)) H
/-- a flag's own equality -/
def isB (b : Bool) : Value → Bool
  | .bool c => c == b
  | _ => false
theorem flags_vals : ∀ {bs : List Bool} {its : List Value}, Vals (bs.map V.bl) its → its = bs.map Value.bool
  | [], its, h => by cases h; rfl
  | b :: bs, its, h => by
    cases h with
    | cons h1 h2 =>
      rw [flags_vals h2]
      cases h1
      rfl
theorem count_flags (b : Bool) : ∀ bs : List Bool, (bs.map Value.bool).countP (isB b) = bs.count b
  | [] => rfl
  | c :: bs => by
    rw [List.map_cons, List.countP_cons, count_flags b bs, List.count_cons]
    rfl
theorem mt_countB {X : Cx} : MtR X "list.count" (rCntB X.K) := by
  intro pins s σ H x xs v us Q I rx rs h
  obtain ⟨p, bs, b, rfl, rfl, hs, q⟩ := h
  cases rx
  obtain ⟨its, rv, pl, _⟩ := I.list hs
  cases rs with
  | cons r1 r2 =>
    cases r2
    cases r1
    obtain ⟨⟨cls, dd, data, sl⟩, n, ho, hc, hdn, hd⟩ := pl
    simp only at hc hd
    subst hc hd
    have hi := flags_vals rv
    have k1 : Shared.TypeIs s (.ref p) "list" := ⟨_, ho, rfl⟩
    refine call_meets F.slot_list_count k1 F.entry_list_count (F.args_list_count_2 _ _) (SeqAt.list_countAt p its.toArray n dd sl _ (isB b)) ⟨ho, fun y hy => ?_, ?_⟩
    · rw [List.mem_toArray, hi] at hy
      obtain ⟨c, _, rfl⟩ := List.mem_map.mp hy
      exact SeqAt.EqAt.bool_bool c b
    · have e : List.countP (isB b) its.toArray.toList = bs.count b := by
        show List.countP (isB b) its = _
        rw [hi, count_flags]
      refine ⟨V.int (bs.count b : Nat), H, I.tok (s.toks + 1), ⟨s.toks, ?_⟩, q⟩
      rw [e]
def fCountB : FM := fun o ws st => match seqL st o, ws with
  | some xs, [.bl b] => match blsOf xs with
    | some bs => .ok (.int (bs.count b : Nat)) st
    | none => .stuck
  | _, _ => .stuck
def fIndexB : FM := fun o ws st => match seqL st o, ws with
  | some xs, [.bl b] => match blsOf xs with
    | some bs => match bs.idxOf? b with
      | some j => .ok (.int (j : Nat)) st
      | none => .stuck
    | none => .stuck
  | _, _ => .stuck
section
variable {K : PySem.W.Frag} {T : Nat → Addr}
theorem okm_countB : OkM K T fCountB (rCntB K) := by
  intro ρ η st H o ws x vs Q E s ro r h
  unfold fCountB at h
  split at h
  · rename_i xs b q
    obtain ⟨a, us, e1, e2, e3⟩ := seq_ok s ro q
    obtain ⟨v, e5, r1⟩ := vrs1 r
    simp only [VR] at r1
    subst r1
    split at h
    · rename_i bs q2
      have := bls_ok e3 q2
      subst us
      exact ⟨a, bs, b, e1, e5, e2, h.ok s (by simp only [VR])⟩
    · exact h.elim
  · exact h.elim
theorem flat_flags : ∀ bs : List Bool, (bs.map V.bl).all flatV = true
  | [] => rfl
  | b :: bs => by rw [List.map_cons, List.all_cons, flat_flags bs]; rfl
theorem idx_at {b : Bool} : ∀ {bs : List Bool} {j : Nat}, bs.idxOf? b = some j → bs[j]? = some b ∧ ∀ m c, m < j → bs[m]? = some c → (c == b) = false
  | [], j, e => by simp [List.idxOf?, List.findIdx?, List.findIdx?.go] at e
  | c :: bs, j, e => by
    rw [List.idxOf?_cons] at e
    split at e
    · rename_i z
      cases e
      have : c = b := by simpa using z
      exact ⟨by rw [this]; rfl, fun m c hm => absurd hm (Nat.not_lt_zero m)⟩
    · rename_i z
      rw [Option.map_eq_some_iff] at e
      obtain ⟨i, e1, e2⟩ := e
      obtain ⟨h1, h2⟩ := idx_at e1
      subst e2
      refine ⟨by simpa using h1, fun m c' hm q => ?_⟩
      cases m with
      | zero =>
        simp at q
        subst q
        cases hz : (c == b) with
        | false => rfl
        | true => rw [hz] at z; exact absurd rfl z
      | succ m => exact h2 m c' (by omega) (by simpa using q)
theorem okm_indexB : OkM K T fIndexB (rIndex K) := by
  intro ρ η st H o ws x vs Q E s ro r h
  unfold fIndexB at h
  split at h
  · rename_i xs b q
    obtain ⟨a, us, e1, e2, e3⟩ := seq_ok s ro q
    obtain ⟨v, e5, r1⟩ := vrs1 r
    simp only [VR] at r1
    subst r1
    split at h
    · rename_i bs q2
      have := bls_ok e3 q2
      subst us
      split at h
      · rename_i j q3
        obtain ⟨h1, h2⟩ := idx_at q3
        refine ⟨a, bs.map V.bl, .bl b, j, .bl b, e1, e5, e2, rfl, flat_flags bs, by rw [List.getElem?_map, h1]; rfl, by cases b <;> rfl, fun m z hm hz => ?_, h.ok s (by simp only [VR])⟩
        rw [List.getElem?_map] at hz
        cases q4 : bs[m]? with
        | none => rw [q4] at hz; cases hz
        | some c =>
          rw [q4] at hz
          cases hz
          have := h2 m c hm q4
          cases b <;> cases c <;> first | rfl | cases this
      · exact h.elim
    · exact h.elim
  · exact h.elim
end
end Mi
/-! == of instances of own classes that tell no ==, and of dicts of unlike lengths -/
namespace Mi
open PySem PySem.Spec PyProof.Rows L2
/-! the mirror -/
section
variable {X : Cx} {T : Nat → Addr}
end
end Mi
/-! The mirror: try with several clauses `except X as e`. -/
namespace Mi
open PySem PySem.Spec PyProof.Rows L2
inductive HdsA (X : Cx) : List ExceptHandler → List (Value × Nat × (Addr → Value → Option Addr → TS)) → Prop where
  | nil : HdsA X [] []
  | cons {x nm : Str} {c : Value} {i : Nat} {ts : Addr → Value → Option Addr → TS} {b₀ : Stmt} {suite : List Stmt} {np pos' : Pos} {hds : List ExceptHandler} {l : List (Value × Nat × (Addr → Value → Option Addr → TS))}
    (hi : X.N[i]? = some nm) (hln : X.env.kindOf nm = some .local) (hc : Names X x c)
    (hsu : ∀ (a : Addr) (oe : Obj) (cls : Value) (d : Option Addr) (pn : List (Addr × Obj)), Zc cls d oe → (∃ vs, oe.data = .fields vs) → PSs (X.suite a ((a, oe) :: pn)) (b₀ :: suite) (ts a cls d))
    (r : HdsA X hds l) : HdsA X (.ExceptHandler (some (.Name x np)) (some nm) (b₀ :: suite) pos' :: hds) ((c, i, ts) :: l)
end Mi
namespace Mi
open PySem PySem.Spec PyProof.Rows L2
/-- a clause: which classes it takes, the name's place, its suite -/
abbrev Cls1 := List (Nat × Bool) × Nat × (Nat → Addr → MS)
noncomputable def catchA : List Cls1 → Nat → Ev → Sto → SRs
  | [], n, env, st => .ex (.plain n) env st
  | (tb, i, k) :: r, n, env, st => match tb.lookup n with
    | some true => agree fun a => clrS i (k n a (env.set i (some (.at_ a))) st)
    | some false => catchA r n env st
    | none => .stuck
noncomputable def sTryM (cs : List Cls1) (m : MS) : MS := fun env st => match m env st with
  | .ex (.plain n) env1 st1 => catchA cs n env1 st1
  | .ex (.one _ _ _) _ _ => .stuck
  | r => r
inductive HdsM (X : Cx) (T : Nat → Addr) : List ExceptHandler → List Cls1 → Prop where
  | nil : HdsM X T [] []
  | cons {x nm : Str} {cv : Value} {i : Nat} {b₀ : Stmt} {suite : List Stmt} {np pos' : Pos} {tb : List (Nat × Bool)} {k : Nat → Addr → MS} {hds : List ExceptHandler} {cs : List Cls1}
    (hi : X.N[i]? = some nm) (hln : X.env.kindOf nm = some .local) (hc : Names X x cv) (ht : ∀ p ∈ tb, PySem.W.exmOne X.K (.ref (T p.1)) cv = some p.2)
    (hsu : ∀ (n : Nat) (a : Addr) (oe : Obj) (pn : List (Addr × Obj)), (∃ b, (n, b) ∈ tb) → Zc (.ref (T n)) none oe → (∃ vs, oe.data = .fields vs) → SSs (X.suite a ((a, oe) :: pn)) T W0 (b₀ :: suite) (k n a))
    (r : HdsM X T hds cs) : HdsM X T (.ExceptHandler (some (.Name x np)) (some nm) (b₀ :: suite) pos' :: hds) ((tb, i, k) :: cs)
section
variable {X : Cx} {T : Nat → Addr} {Wx : WX'}
/-- isinstance(e, C), C a built-in class -/
theorem se_exisB {n : Nat} {a : Addr} {oe : Obj} {pn : List (Addr × Obj)} {tb : List (Nat × Bool)} {i : Nat} {nm : Str} {t : String} {p p1 p2 pos : Pos}
    (hE : ∀ q ∈ tb, ExcC X.K (T q.1)) (hz : Zc (.ref (T n)) none oe) (hf : ∃ vs, oe.data = .fields vs) (hk : ∀ q ∈ tb, PySem.W.kitOne X.K (.ref (T q.1)) (.type t) = some q.2)
    (hg : Gl (X.suite a ((a, oe) :: pn)) "isinstance") (hm : (X.suite a ((a, oe) :: pn)).mg "isinstance" = none) (hN : (X.suite a ((a, oe) :: pn)).N[i]? = some nm) (hv : Vis (X.suite a ((a, oe) :: pn)).env.scope nm) (hgC : Gl (X.suite a ((a, oe) :: pn)) t) (hmC : (X.suite a ((a, oe) :: pn)).mg t = none) (hbt : bootBuiltins t = some (.type t))
    (hd : (nm == ("__debug__" : Str)) = false := by decide) (hcd : (nm == ("__classdict__" : Str)) = false := by decide) (hn1 : (Str.ofString t) ≠ "__name__" := by decide) (hn2 : (Str.ofString t == ("__debug__" : Str)) = false := by decide)
    (s1 : starEach [.Name nm p1, .Name t p2] (X.suite a ((a, oe) :: pn)).env = (false, eval (.Name nm p1) (X.suite a ((a, oe) :: pn)).env) :: starEach [.Name t p2] (X.suite a ((a, oe) :: pn)).env := by rfl)
    (s2 : starEach [.Name t p2] (X.suite a ((a, oe) :: pn)).env = (false, eval (.Name t p2) (X.suite a ((a, oe) :: pn)).env) :: starEach [] (X.suite a ((a, oe) :: pn)).env := by rfl)
    (hpl : (backTo pos (starEach [.Name t p2] (X.suite a ((a, oe) :: pn)).env)).any (·.1) = false := by rfl) :
    SE (X.suite a ((a, oe) :: pn)) T Wx (.Call (.Name "isinstance" p) [.Name nm p1, .Name t p2] [] pos) (mExIs n a tb i) := by
  intro ρ η st env σ H Q s er q
  unfold mExIs at q
  split at q
  · rename_i b e0
    split at q
    · rename_i eb
      subst eb
      cases el : tb.lookup n with
      | none => rw [el] at q; exact q.elim
      | some r =>
        rw [el] at q
        have hmem := lookup_mem el
        obtain ⟨v, e1, r1⟩ := er.2 i _ e0
        simp only [VR] at r1
        subst r1
        refine ⟨_, pe_callB (call_isE (hE _ hmem) hz hf) hg hm (by decide +kernel) (pa_cons (pe_var hN hv hd hcd) (pa_cons (pe_bltn (v := .ty t) hgC hmC hbt rfl hn1 hn2) pa_nil s2) s1) (by decide) (by decide) s1 hpl, ?_⟩
        exact ⟨_, e1, .ty t, .type t, r, rfl, fun u h => h, hk _ hmem, After.ok q s (by simp only [VR])⟩
    · exact q.elim
  · exact q.elim
end
end Mi
/-! a tuple many times over -/
namespace Mi
open PySem PySem.Spec PyProof.Rows L2
section
variable {K : PySem.W.Frag} {T : Nat → Addr} {ρ η : List Addr} {H : Hp}
end
end Mi
/-! zip of two tuples -/
namespace Mi
open PySem PySem.Spec PyProof.Rows L2
section
variable {X : Cx} {T : Nat → Addr} {Wx : WX'}
theorem fixT_at {ρ η : List Addr} {H : Hp} {xs : List W} {a : Addr} {vs : List V} (t : TupAt X.K ρ η H a vs) (r : VRs X.K ρ η H xs vs) {η' : List Addr} (k : Hid η H η') (i : Nat) {ρ' : List Addr} {H' : Hp} (g : Grow ρ H ρ' H') :
    SqT X.K H' a vs ∧ match xs[i]? with | some w => ∃ v, vs[i]? = some v ∧ VR X.K ρ' η' H' w v | none => vs.length ≤ i := by
  refine ⟨(t.mono g).sq, ?_⟩
  cases e : xs[i]? with
  | none => exact (by rw [r.len]; exact List.getElem?_eq_none_iff.mp e)
  | some w =>
    obtain ⟨v, e1, e2⟩ := r.get e
    exact ⟨v, e1, e2.more g k⟩
def iZT (m : M (List W)) : MI := fun env st => (m env st).bind fun ws s => match ws with
  | [.tup xs, .tup ys] => .ok (zipW (fixS xs) (fixS ys)) s
  | _ => .stuck
theorem si_zipT {e e2 : Expr} {m : M (List W)} {p pos tpos : Pos} {elts : List Expr} {kk : Nat} (hg : Gl X "zip") (hm : X.mg "zip" = none) (h : SA X T Wx [e, e2] m) (hs : starEach [e, e2] X.env = (false, eval e X.env) :: starEach [e2] X.env := by rfl) (hpl : (backTo pos (starEach [e2] X.env)).any (·.1) = false := by rfl) :
    SI X T Wx (.Tuple elts kk tpos) (.Call (.Name "zip" p) [e, e2] [] pos) (iZT m) := by
  intro ρ η st env σ H Q s er q
  refine ⟨_, RZ.pi_zipA hg hm pa_S hs hpl, ?_⟩
  refine h ρ η st env σ H _ s er (q.bind fun ws s1 ρ1 H1 vs g1 sr1 r1 h1 => ?_)
  split at h1
  · rename_i xs ys
    obtain ⟨v, v2, e1, r2, r3⟩ := vrs2 r1
    simp only [VR] at r2 r3
    obtain ⟨a, us, e3, e4, e5⟩ := r2
    obtain ⟨b, ts, f3, f4, f5⟩ := r3
    subst e3; subst f3
    refine ⟨a, b, us, ts, e1, .inr ⟨e4.sq, f4.sq, h1.ok sr1 ?_⟩⟩
    intro η' k i ρ' H' st' g sr
    obtain ⟨z1, z2⟩ := fixT_at e4 e5 k i g
    obtain ⟨y1, y2⟩ := fixT_at f4 f5 k i g
    show match (match some xs[i]?, some ys[i]? with | some (some w), some (some u) => some (some (W.tup [w, u])) | some none, some _ => some none | some (some _), some none => some none | _, _ => none) with | some (some w) => _ | some none => _ | none => _
    cases c1 : xs[i]? with
    | none =>
      rw [c1] at z2
      cases c2 : ys[i]? with
      | none => exact ⟨us, ts, z1, y1, .inl z2⟩
      | some w2 => exact ⟨us, ts, z1, y1, .inl z2⟩
    | some w1 =>
      rw [c1] at z2
      obtain ⟨v1, z2, z3⟩ := z2
      cases c2 : ys[i]? with
      | none =>
        rw [c2] at y2
        exact ⟨us, ts, z1, y1, .inr y2⟩
      | some w2 =>
        rw [c2] at y2
        obtain ⟨v2, y2, y3⟩ := y2
        refine ⟨⟨us, ts, v1, v2, z1, y1, z2, y2⟩, fun x H2 t => ?_⟩
        obtain ⟨TT, x1, x2, t1, t2, t3, t4, t5⟩ := t
        subst t1; subst t3
        have := t4 us z1
        rw [z2] at this
        cases this
        have := t5 ts y1
        rw [y2] at this
        cases this
        refine ⟨Grow.new t2, sr.new' t2, ?_⟩
        simp only [VR]
        exact ⟨TT, _, rfl, .inl ⟨sr.fresh t2, sr.freshH t2, .inl upd_same⟩, VRs.cons (z3.mono (Grow.new t2)) (VRs.cons (y3.mono (Grow.new t2)) VRs.nil)⟩
  · exact h1.elim
end
end Mi
/-! range with a step; xs.extend(ys); isinstance(x, C), C an own class -/
namespace Mi
open PySem PySem.Spec PyProof.Rows L2
section
variable {X : Cx} {T : Nat → Addr} {Wx : WX'}
end
end Mi
/-! a part of a text -/
namespace Mi
open PySem PySem.Spec PyProof.Rows L2
section
variable {X : Cx} {T : Nat → Addr} {Wx : WX'} {pos : Pos}
end
end Mi
/-! equality of plain data (no flags) -/
namespace Mi
open PySem L2
/-- data without flags, at most so deep -/
def plW : Nat → W → Prop
  | _, .int _ => True
  | _, .non => True
  | _, .str x => (PyData.str x).canLay0 = true
  | 0, _ => False
  | n + 1, .tup xs => ∀ x ∈ xs, plW n x
  | n + 1, .lst xs => ∀ x ∈ xs, plW n x
  | _, _ => False
inductive PlC : Nat → W → Prop
  | int (n : Nat) (i : Int) : PlC n (.int i)
  | non (n : Nat) : PlC n .non
  | str (n : Nat) (x : Str) : PlC n (.str x)
  | tup (n : Nat) (xs : List W) (h : ∀ x ∈ xs, plW n x) : PlC (n + 1) (.tup xs)
  | lst (n : Nat) (xs : List W) (h : ∀ x ∈ xs, plW n x) : PlC (n + 1) (.lst xs)
end Mi
/-! The mirror: try with several clauses `except X`, no names. -/
namespace Mi
open PySem PySem.Spec PyProof.Rows L2
abbrev Cls0 := List (Nat × Bool) × MS
inductive HdsN (X : Cx) (T : Nat → Addr) : List ExceptHandler → List Cls0 → Prop where
  | nil : HdsN X T [] []
  | cons {x : Str} {cv : Value} {b₀ : Stmt} {suite : List Stmt} {np pos' : Pos} {tb : List (Nat × Bool)} {k : MS} {hds : List ExceptHandler} {cs : List Cls0}
    (hc : Names X x cv) (ht : ∀ p ∈ tb, PySem.W.exmOne X.K (.ref (T p.1)) cv = some p.2)
    (hsu : ∀ (a : Addr) (pn : List (Addr × Obj)), SSs (X.suite a pn) T W0 (b₀ :: suite) k)
    (r : HdsN X T hds cs) : HdsN X T (.ExceptHandler (some (.Name x np)) none (b₀ :: suite) pos' :: hds) ((tb, k) :: cs)
section
variable {X : Cx} {T : Nat → Addr} {Wx : WX'}
end
end Mi
/-! a tuple not at all, or thousands of times over -/
namespace Mi
open PySem PySem.Spec PyProof.Rows L2
section
variable {X : Cx}
end
section
variable {K : PySem.W.Frag} {T : Nat → Addr} {ρ η : List Addr} {H : Hp}
end
end Mi
/-! The mirror: a tuple display with a starred part. -/
namespace Mi
open PySem PySem.Spec PyProof.Rows L2
section
variable {X : Cx} {T : Nat → Addr} {Wx : WX'} {pos : Pos}
def mTupS (m : M (List W)) : M W := fun env st => (m env st).bind fun ws s1 => if ws.length ≤ sizeLine then .ok (.tup ws) s1 else .stuck
theorem se_tupS {es : List Expr} {k : M (List W)} {x1} (h : SA X T Wx es k) : SE X T Wx (.Tuple es x1 pos) (mTupS k) := by
  intro ρ η st env σ H Q s er q
  refine ⟨_, pe_tup pa_S, ?_⟩
  refine h ρ η st env σ H _ s er (q.bind fun ws s1 ρ1 H1 vs g1 sr1 r1 h1 => ?_)
  split at h1
  · rename_i hl
    exact ⟨by rw [r1.len]; exact hl, fun p hp => newT_ok h1 sr1 r1 hp⟩
  · exact h1.elim
end
/-! ### in a tuple of things of any depth -/
/-! ### a text many times over -/
instance {x : Str} {n : Int} : Decidable (MulOk x n) := by unfold MulOk; exact inferInstance
end Mi
/-! The mirror: tuple(range(a, b)). -/
namespace Mi
open PySem PySem.Spec PyProof.Rows L2
section
variable {X : Cx} {T : Nat → Addr} {Wx : WX'} {pos : Pos} {K : PySem.W.Frag} {ρ η : List Addr} {H : Hp}
end
end Mi
/-! The mirror: list(d.items()). -/
namespace Mi
open PySem PySem.Spec PyProof.Rows L2 LiI
section
variable {X : Cx} {T : Nat → Addr} {Wx : WX'} {pos : Pos} {K : PySem.W.Frag} {ρ η : List Addr} {H : Hp}
end
end Mi
/-! The mirror: d.update(e), both dicts with plain keys. -/
namespace Mi
open PySem PySem.Spec PyProof.Rows L2
section
variable {X : Cx} {pins : List (Addr × Obj)} {σ : L2.St} {H : Hp} {s : Shared} {a b : Addr} {kvs more : List (Key × V)} {A : Around} {E : Value → Shared → Prop}
end
section
variable {X : Cx} {T : Nat → Addr} {Wx : WX'} {pos apos cpos : Pos} {o e : Expr} {td ty : TE}
end
end Mi
/-! The mirror: a tuple of the module. -/
namespace Mi
open PySem PySem.Spec PyProof.Rows L2
section
variable {X : Cx} {T : Nat → Addr} {Wx : WX'} {pos : Pos}
end
end Mi
/-! The mirror: an exception with one field: raise C(e), except C as x, x.f. -/
namespace Mi
open PySem PySem.Spec PyProof.Rows L2
/-- what C's own __init__(self, f) keeps, which says self.f = f alone -/
def spXi (K : PySem.W.Frag) (f : Str) : Sp := fun vs H Q _ => ∃ (a C : Addr) (v : V), vs = [.ref a, v] ∧ OexC K C ∧ PySem.W.findIn K (.ref C) f = some none ∧ H a = some (exo a C none) ∧
  ∀ d, H d = none → d ≠ a → Q .non (upd (upd H d (exd d [(f, v)])) a (exo a C (some d)))
theorem xinit_ok {P : Program} {w : World} {K : PySem.W.Frag} {mg : Str → Option Value} {base : Heap} {f qual : Str} {st : Stmt} {fI : Addr} {fd : FuncData} {p1 p2 p3 p4 : Pos} (F : L2.Fun K "__init__" qual st fI fd) (S : FnScope ["self", f] ["self", f] (defScope st))
    (hbd : defBody st = [.Assign [.Attribute (.Name "self" p1) f p2] (.Name f p3) p4]) (hv0 : Vis (defScope st) "self") (hv1 : Vis (defScope st) f) (h1 : (f == ("__debug__" : Str)) = false) (h2 : (f == ("__classdict__" : Str)) = false) :
    FnOk P w K mg base L2.CX0 1 fI fd ["self", f] (spXi K f) := by
  refine L2.Fun.ok F S (fun vs H Q E h => ?_) (fun cdv A outer s H vs Q E hr h => ?_)
  · obtain ⟨a, C, v, rfl, _⟩ := h
    rfl
  · rw [hbd]
    refine ⟨_, PSs.nox (pss_one (ps_ost (pv 0 (x := "self") rfl hv0) (pv 1 (x := f) rfl hv1 h1 h2))), ?_⟩
    obtain ⟨a, C, v, rfl, hC, hno, e, hq⟩ := h
    exact ⟨_, rfl, _, rfl, a, C, rfl, hC, hno, .inl ⟨e, fun dx n ne => hq dx n ne⟩⟩
def sRaise1 (c : Nat) (f : Str) (ma : M (List W)) : MS := fun env st => (ma env st).to env fun ws s1 => match ws with
  | [w] => .ex (.one c f w) env s1
  | _ => .stuck
section
variable {X : Cx} {T : Nat → Addr} {Wx : WX'} {pos : Pos}
theorem ss_raise1 {c k : Nat} {x f : Str} {e : Expr} {ma : M (List W)} {fI : Addr} {fd : FuncData} {p p2 : Pos} (hc : X.calm = true) (tk : Takes X Wx) (TO : OexC X.K (T c)) (hno : PySem.W.findIn X.K (.ref (T c)) f = some none)
    (iC : PySem.W.findIn X.K (.ref (T c)) "__init__" = some (some (.ref fI))) (tI : PySem.W.typeIn X.K (.ref fI) = some (.type "function")) (F1 : FnOk X.prog X.w X.K X.mg X.base L2.CX0 k fI fd ["self", f] (spXi X.K f)) (hr : Room (k + 1) X.A)
    (hb : Binds X.K fd ["self", f] []) (hg : Gl X x) (hm : X.mg x = some (.ref (T c))) (ha : SAn X T Wx 1 [e] ma)
    (hdb : (x == ("__debug__" : Str)) = false := by decide) (hst : starEach [e] X.env = (false, eval e X.env) :: starEach [] X.env := by rfl) (hpl : (backTo p2 (starEach [] X.env)).any (·.1) = false := by rfl) :
    SSt X T Wx (.Raise (some (.Call (.Name x p) [e] [] p2)) none pos) (sRaise1 c f ma) := by
  intro ρ η st env σ H D s er h
  refine ⟨_, ps_raise hc tk (pmk_oex TO iC tI F1 hr hb .nil (fun _ _ _ _ _ _ _ z => z.elim) hg hm pa_S hdb hst hpl), ?_⟩
  refine ha.run ρ η st env σ H _ s er (SAfter.bind h er fun ws st1 ρ1 H1 vs _ g s1 r h1 => ?_)
  have er1 := er.mono g
  rcases ws with _ | ⟨w, _ | ⟨w2, ws⟩⟩
  · exact h1.elim
  · obtain ⟨v, rfl, rv⟩ : ∃ v, vs = [v] ∧ VR X.K ρ1 η H1 w v := by
      simp only [VRs] at r
      obtain ⟨v, r', e1, e2, e3⟩ := r
      subst e3
      exact ⟨v, e1, e2⟩
    refine ⟨by simp, fun a ha0 => ⟨a, T c, v, rfl, TO, hno, upd_same, fun d hd ne => ⟨rfl, d, [(f, v)], upd_same, ?_, ?_, ?_⟩⟩⟩
    · rw [upd_ne ne, upd_same]
    · rw [← hd, upd_ne ne]
    · have hd1 : H1 d = none := by rw [← hd, upd_ne ne]
      have eH : upd (del (upd (upd (upd H1 a (exo a (T c) none)) d (exd d [(f, v)])) a (exo a (T c) (some d))) a) d (.xd [(f, v)]) = upd H1 d (.xd [(f, v)]) := by
        funext b
        by_cases b1 : b = d
        · subst b1
          rw [upd_same, upd_same]
        · rw [upd_ne b1, upd_ne b1]
          by_cases b2 : b = a
          · subst b2
            rw [del_same, ha0]
          · rw [del_ne b2, upd_ne b2, upd_ne b1, upd_ne b2]
      rw [eH]
      have np : ∀ (i : Nat) (b : Addr), ρ1[i]? = some b → b ≠ d := fun i b q z => by
        obtain ⟨o, ho⟩ := s1.there q
        rw [z, hd1] at ho
        cases ho
      have dr : d ∉ ρ1 := fun z => by
        obtain ⟨i, hi⟩ := List.getElem?_of_mem z
        exact np i d hi rfl
      have dh : d ∉ η := fun z => by
        obtain ⟨o, ho, _⟩ := s1.has d z
        rw [hd1] at ho
        cases ho
      have gn : Grow ρ1 H1 ρ1 (upd H1 d (.xd [(f, v)])) := Grow.new hd1
      exact h1 ρ1 _ σ _ _ gn (s1.new hd1 np) (er1.mono gn) ⟨rfl, d, rfl, dr, dh, _, v, upd_same, by simp, rv.mono gn⟩
  · exact h1.elim
end
/-! ### try: .. except X as e, with such exceptions -/
open Classical in
noncomputable def agree2 (f : Addr → Addr → SRs) : SRs := if ∀ a d, f a d = f 0 0 then f 0 0 else .stuck
theorem agree2_eq {f : Addr → Addr → SRs} {r : SRs} (h : ∀ a d, f a d = r) : agree2 f = r := by
  unfold agree2
  rw [if_pos (fun a d => by rw [h a d, h 0 0])]
  exact h 0 0
theorem SAfter.agree2 {K : PySem.W.Frag} {T : Nat → Addr} {η ρ : List Addr} {H : Hp} {f : Addr → Addr → SRs} {D : Ends} {Wx : WX'} (h : SAfter K T η ρ H (agree2 f) D Wx) (a d : Addr) : SAfter K T η ρ H (f a d) D Wx := by
  unfold Mi.agree2 at h
  split at h
  · rename_i q
    rw [q a d]
    exact h
  · exact h.elim
noncomputable def sTryX (tb : List (Nat × Bool)) (i : Nat) (m : MS) (k : Nat → Addr → MS) (kx : Nat → Addr → Addr → MS) : MS := fun env st => match m env st with
  | .ex (.plain n) env1 st1 => match tb.lookup n with
    | some true => agree fun a => clrS i (k n a (env1.set i (some (.at_ a))) st1)
    | some false => .ex (.plain n) env1 st1
    | none => .stuck
  | .ex (.one n f w) env1 st1 => match tb.lookup n with
    | some true => agree2 fun a d => clrS i (kx n a d (env1.set i (some (.exc a d f w))) st1)
    | some false => .ex (.one n f w) env1 st1
    | none => .stuck
  | r => r
theorem ss_tryX {X : Cx} {T : Nat → Addr} {Wx : WX'} {x nm : Str} {cv : Value} {i : Nat} {body suite : List Stmt} {b₀ : Stmt} {np pos pos' : Pos} {tb : List (Nat × Bool)} {m : MS} {k : Nat → Addr → MS} {kx : Nat → Addr → Addr → MS}
    (hs : X.stack = X.env :: X.outer) (hf : X.env.frame = some X.env.locals) (hN : X.N.Nodup) (hi : X.N[i]? = some nm) (hln : X.env.kindOf nm = some .local) (hc : Names X x cv) (tk : Takes X Wx)
    (ht : ∀ p ∈ tb, PySem.W.exmOne X.K (.ref (T p.1)) cv = some p.2)
    (hb : ∀ (Wy : WX') (pn : List (Addr × Obj)) (xe : Value → Shared → Prop), Takes (X.tr pn xe) Wy → PassesOwn (model X.prog X.w) X.A X.env xe → SSs (X.tr pn xe) T Wy body m)
    (hsu : ∀ (n : Nat) (a : Addr) (oe : Obj) (pn : List (Addr × Obj)), (n, true) ∈ tb → Zc (.ref (T n)) none oe → (∃ vs, oe.data = .fields vs) → SSs (X.suite a ((a, oe) :: pn)) T W0 (b₀ :: suite) (k n a))
    (hsx : ∀ (n : Nat) (a d : Addr) (oe : Obj) (pn : List (Addr × Obj)), (n, true) ∈ tb → Zc (.ref (T n)) (some d) oe → (∃ vs, oe.data = .fields vs) → SSs (X.suite a ((a, oe) :: pn)) T W0 (b₀ :: suite) (kx n a d)) :
    SSt X T Wx (.Try body [.ExceptHandler (some (.Name x np)) (some nm) (b₀ :: suite) pos'] [] [] pos) (sTryX tb i m k kx) := by
  intro ρ η st env σ H D s er q
  refine ⟨_, ps_try_as hs hf hN hi hln hc tk (tb := fun Wy D σ H => ∀ pn xe, Takes (X.tr pn xe) Wy → PassesOwn (model X.prog X.w) X.A X.env xe → tSSs (X.tr pn xe) body D σ H)
    (ts := fun a cls d D σ H => ∀ oe pn, Zc cls d oe → (∃ vs, oe.data = .fields vs) → tSSs (X.suite a ((a, oe) :: pn)) (b₀ :: suite) D σ H)
    (fun Wy pn xe tk1 pw1 => ⟨fun pins s σ H D I h => pss_S.run pins s σ H D I (h pn xe tk1 pw1)⟩)
    (fun a oe cls d pn hz hf => ⟨fun pins s σ H D I h => ?_⟩), ?_⟩
  · exact pss_S.run pins s σ H D I (h oe pn hz hf)
  intro pn xe tk1 pw1
  refine hb _ pn xe tk1 pw1 ρ η st env σ H D s er ?_
  unfold sTryX at q
  cases e : m env st with
  | nx env1 st1 => rw [e] at q; exact q
  | rt w st1 => rw [e] at q; exact q
  | bk env1 st1 => rw [e] at q; exact q
  | ct env1 st1 => rw [e] at q; exact q
  | stuck => rw [e] at q; exact q
  | ex y env1 st1 =>
    rw [e] at q
    cases y with
    | plain n =>
      intro ρ1 H1 σ1 c d g sr1 er1 xr
      simp only at q
      cases el : tb.lookup n with
      | none => rw [el] at q; exact q.elim
      | some b =>
        rw [el] at q
        have hx := ht _ (lookup_mem el)
        obtain ⟨rfl, hd⟩ := xr
        refine ⟨b, hx, fun hb1 a na => ?_, fun hb1 => ?_⟩
        · subst hb1
          subst hd
          intro oe pn hz hf
          refine hsu n a oe pn (lookup_mem el) hz hf ρ1 η st1 (env1.set i (some (.at_ a))) (σ1.set i (some (.ref a))) H1 _ sr1 (er1.set (by simp only [VR])) ?_
          exact SAfter.clr (((SAfter.agree q a).grow g))
        · subst hb1
          exact q ρ1 H1 σ1 _ d g sr1 er1 ⟨rfl, hd⟩
    | one n f w =>
      intro ρ1 H1 σ1 c d g sr1 er1 xr
      simp only at q
      cases el : tb.lookup n with
      | none => rw [el] at q; exact q.elim
      | some b =>
        rw [el] at q
        have hx := ht _ (lookup_mem el)
        obtain ⟨rfl, dd, hd, rest⟩ := xr
        refine ⟨b, hx, fun hb1 a na => ?_, fun hb1 => ?_⟩
        · subst hb1
          subst hd
          intro oe pn hz hf
          refine hsx n a dd oe pn (lookup_mem el) hz hf ρ1 η st1 (env1.set i (some (.exc a dd f w))) (σ1.set i (some (.ref a))) H1 _ sr1 (er1.set (by simp only [VR, true_and]; exact rest)) ?_
          exact SAfter.clr (((SAfter.agree2 q a dd).grow g))
        · subst hb1
          exact q ρ1 H1 σ1 _ d g sr1 er1 ⟨rfl, dd, hd, rest⟩
end Mi
/-! The mirror: a def of the module handed to a def, which calls it. -/
namespace Mi
open PySem PySem.Spec PyProof.Rows L2
/-- a call of what the i-th name holds, the def at g -/
def mCallV (i : Nat) (g : Addr) (run : RunM) (m : M (List W)) : M W := fun env st => match env[i]? with
  | some (some (.at_ b)) => if b = g then (m env st).bind run else .stuck
  | _ => .stuck
section
variable {X : Cx} {T : Nat → Addr} {Wx : WX'} {pos p pJ : Pos} {k i : Nat} {f g : Addr} {fd : FuncData} {ps : List Str} {run : RunM} {x J : Str} {e : Expr} {es : List Expr} {ma : M (List W)}
theorem se_callV (F : FnM X.prog X.w X.K X.mg X.base T k g fd ps run) (hr : Room k X.A) (tk : Takes X Wx) (hN : X.N[i]? = some x) (hv : Vis X.env.scope x) (hk : PySem.W.keepIn X.K (.ref g) = true) (hb : Binds X.K fd ps [])
    (ha : SAn X T Wx ps.length (e :: es) ma) (hdb : (x == ("__debug__" : Str)) = false := by decide) (hcd : (x == ("__classdict__" : Str)) = false := by decide) (he : starEach (e :: es) X.env = (false, eval e X.env) :: starEach es X.env := by rfl) (hpl : (backTo pos (starEach es X.env)).any (·.1) = false := by rfl) :
    SE X T Wx (.Call (.Name x p) (e :: es) [] pos) (mCallV i g run ma) := by
  intro ρ η st env σ H Q s er q
  unfold mCallV at q
  split at q
  · rename_i b e0
    split at q
    · rename_i eb
      subst eb
      obtain ⟨v, e1, r1⟩ := er.2 i _ e0
      simp only [VR] at r1
      subst r1
      refine ⟨fun σ' H' Q' => σ'[i]? = some (some (.ref b)) ∧ tSA X (e :: es) σ' H' (fun vs H1 => spM X.K T ps.length run vs H1 Q' (WE Wx σ')), ⟨fun pins s' σ' H' Q' I h => ?_⟩, e1, ?_⟩
      · obtain ⟨hs, ht⟩ := h
        refine wpAny_Call_Name_kw (thn ((pe_var (pos := p) hN hv hdb hcd).run pins s' σ' H' (fun v H1 => v = .ref b ∧ H1 = H') I ⟨.ref b, hs, rfl, rfl⟩) fun u s1 ⟨v, H1, I1, r1, q1⟩ => ?_)
        obtain ⟨rfl, rfl⟩ := q1
        cases r1
        refine PySem.W.callWith_K (h₀ := X.base) I.ok.mod.kin hk (thn (pa_S.run pos pins s1 σ' _ _ I1 ht) fun us s2 ⟨vs, H2, I2, r, q⟩ => ⟨I2.kIn, ?_⟩) he hpl
        exact run_fnS F hr hb (passAt tk σ') I2 r q
      · refine ha.run ρ η st env σ H _ s er (After.bindE q fun ws s1 ρ1 H1 vs e1 g1 sr1 r1 h1 => ?_)
        exact sp_of sr1 r1 (ha.len env st ws s1 e1) h1
    · exact q.elim
  · exact q.elim
/-- f(g, e), g a def of the module: r is what the call does, wherever g stands -/
theorem se_callF {r : RunM} {m : M W} (F : FnM X.prog X.w X.K X.mg X.base T k f fd ps run) (hr : Room k X.A) (tk : Takes X Wx) (hg : Gl X x) (hm : X.mg x = some (.ref f)) (hk : PySem.W.keepIn X.K (.ref f) = true) (hb : Binds X.K fd ps [])
    (hgJ : Gl X J) (hmJ : X.mg J = some (.ref g)) (par : ∀ w st, run [.at_ g, w] st = r [w] st) (he : SE X T Wx e m) (hps : ps.length = 2) (hdJ : (J == ("__debug__" : Str)) = false := by decide)
    (hdb : (x == ("__debug__" : Str)) = false := by decide) (h1 : starEach [e] X.env = (false, eval e X.env) :: starEach [] X.env := by rfl) (h2 : starEach [.Name J pJ, e] X.env = (false, eval (.Name J pJ) X.env) :: starEach [e] X.env := by rfl) (hpl : (backTo pos (starEach [e] X.env)).any (·.1) = false := by rfl) :
    SE X T Wx (.Call (.Name x p) [.Name J pJ, e] [] pos) (mCall r (mCons m mNil)) := by
  have h := se_call (pos := pos) (p := p) F hr tk hg hm hk hb (by rw [hps]; exact san_cons (se_c (pe_glob (pos := pJ) (v := .ref g) hgJ hmJ rfl hdJ) (fun _ _ _ => by simp only [VR]) : SE X T Wx (.Name J pJ) (mC (.at_ g))) (san_cons he san_nil h1) h2) hdb h2 hpl
  have e : mCall run (mCons (mC (.at_ g)) (mCons m mNil)) = mCall r (mCons m mNil) := by
    funext env st
    simp only [mCall, mCons, mC, mNil, Rs.bind]
    cases m env st with
    | ok w s1 => exact par w s1
    | ex y s1 => rfl
    | stuck => rfl
  rw [← e]
  exact h
end
theorem callV_at {i : Nat} {g : Addr} {r : RunM} {m : M (List W)} {env : Ev} {st : Sto} (h : env[i]? = some (some (.at_ g))) : mCallV i g r m env st = (m env st).bind r := by
  unfold mCallV
  rw [h]
  exact if_pos rfl
theorem compS_V {s : Src} {r : RunM} {w : W} {g : Addr} : ∀ (n i : Nat) (acc : List W) (st : Sto), compS s (.one 2) mYes (mCallV 0 g r (mCons (mVar 2) mNil)) [some (.at_ g), some w, none] n i acc st = compS s (.one 2) mYes (mCallV 0 0 r (mCons (mVar 2) mNil)) [some (.at_ 0), some w, none] n i acc st
  | 0, _, _, _ => rfl
  | n + 1, i, acc, st => by
    have ih := fun j a t => compS_V (s := s) (r := r) (w := w) (g := g) n j a t
    unfold compS
    cases s.at_ i st with
    | none => rfl
    | some o =>
      cases o with
      | none => rfl
      | some u =>
        have e1 : mCallV 0 g r (mCons (mVar 2) mNil) [some (.at_ g), some w, some u] st = r [u] st := callV_at rfl
        have e2 : mCallV 0 0 r (mCons (mVar 2) mNil) [some (.at_ 0), some w, some u] st = r [u] st := callV_at rfl
        simp only [mYes, CT.put, List.set_cons_succ, List.set_cons_zero, e1, e2, ih]
end Mi
/-! The mirror: what the written part must say of an exception class with one field. -/
namespace Mi
open PySem PySem.Spec PyProof.Rows L2
def oexSl (sl : List (Option Value)) : Bool := match sl with
  | [_, _, _, _, some (.builtin n), _] => n == "ValueError.__new__"
  | _ => false
def oexMro (C : Addr) (mro : List Value) : Bool := match mro with
  | .ref D :: bm => D == C && PySem.HandSPX.refsVE bm
  | _ => false
def oexB (K : PySem.W.Frag) (C : Addr) : Bool := match K.lookup C with
  | some ⟨.type t, _, .cls cd, sl⟩ => t == "type" && (oexMro C cd.mro && (oexSl sl.toList && (cd.hasDict && !cd.hasDel)))
  | _ => false
theorem oexSl_of {l : List (Option Value)} (h : oexSl l = true) : ∃ k0 k1 k2 k3 k5, l = [k0, k1, k2, k3, some (.builtin "ValueError.__new__"), k5] := by
  unfold oexSl at h
  split at h
  · rename_i k0 k1 k2 k3 n k5
    rw [beq_iff_eq] at h
    subst h
    exact ⟨_, _, _, _, _, rfl⟩
  · cases h
theorem oexMro_of {C : Addr} {l : List Value} (h : oexMro C l = true) : ∃ bm, l = .ref C :: bm ∧ PySem.HandSPX.refsVE bm = true := by
  unfold oexMro at h
  split at h
  · rename_i D bm
    rw [Bool.and_eq_true, beq_iff_eq] at h
    obtain ⟨rfl, h2⟩ := h
    exact ⟨bm, rfl, h2⟩
  · cases h
theorem oexC_by {K : PySem.W.Frag} {C : Addr} (h : oexB K C = true) (sa : PySem.W.findIn K (.ref C) "__setattr__" = some (some (.builtin "object.__setattr__"))) (exC : PySem.W.subIn K (.ref C) (.type "BaseException") = some true)
    (tyC : PySem.W.typeIn K (.ref C) = some (.type "type")) (kC : PySem.W.keepIn K (.ref C) = true) : OexC K C := by
  refine ⟨?_, sa, exC, tyC, kC⟩
  unfold oexB at h
  split at h
  · rename_i t dd cd sl lk
    simp only [Bool.and_eq_true, Bool.not_eq_true', beq_iff_eq] at h
    obtain ⟨rfl, h1, h2, h3, h4⟩ := h
    obtain ⟨bm, e1, hb⟩ := oexMro_of h1
    obtain ⟨k0, k1, k2, k3, k5, e2⟩ := oexSl_of h2
    obtain ⟨nm, bs, mro, ns, qn, hd, sn, sub, ab, col, del⟩ := cd
    obtain ⟨l⟩ := sl
    have e1' : mro = .ref C :: bm := e1
    have e2' : l = [k0, k1, k2, k3, some (.builtin "ValueError.__new__"), k5] := e2
    have e3 : hd = true := h3
    have e4 : del = false := h4
    subst e1' e2' e3 e4
    exact ⟨nm, qn, ns, bs, bm, sn, sub, ab, col, dd, k0, k1, k2, k3, k5, lk, hb⟩
  · cases h
end Mi
/-! The mirror: tuple(range(n)), min(d.values(), default=x). -/
namespace Mi
open PySem PySem.Spec PyProof.Rows L2
def minL (d : W) : List Int → W
  | [] => d
  | n :: r => .int (r.foldl min n)
def mMinV (mo md : M W) : M W := fun env st => (mo env st).bind fun o s1 => match nodD s1 o with
  | some (_, _) => (md env s1).bind fun d s2 => match nodD s2 o with
    | some (_, kvs) => match intsOf (kvs.map (·.2)) with
      | some ns => .ok (minL d ns) s2
      | none => .stuck
    | none => .stuck
  | none => .stuck
section
variable {X : Cx} {T : Nat → Addr} {Wx : WX'} {pos : Pos} {K : PySem.W.Frag} {ρ η : List Addr} {H : Hp}
end
end Mi
/-! The mirror: sorted of whole numbers, of texts, of a dict's numbers, by insertion. -/
namespace Mi
open PySem PySem.Spec PyProof.Rows L2
def insZ (a : Int) : List Int → List Int
  | [] => [a]
  | b :: r => if a ≤ b then a :: b :: r else b :: insZ a r
def isZ : List Int → List Int
  | [] => []
  | a :: r => insZ a (isZ r)
theorem insZ_perm (a : Int) : ∀ l, (insZ a l).Perm (a :: l)
  | [] => .refl _
  | b :: r => by
    unfold insZ
    split
    · exact .refl _
    · exact ((insZ_perm a r).cons b).trans (List.Perm.swap a b r)
theorem isZ_perm : ∀ l, (isZ l).Perm l
  | [] => .refl _
  | a :: r => (insZ_perm a (isZ r)).trans ((isZ_perm r).cons a)
theorem insZ_up (a : Int) : ∀ l : List Int, l.Pairwise (· ≤ ·) → (insZ a l).Pairwise (· ≤ ·)
  | [], _ => by simp [insZ]
  | b :: r, h => by
    obtain ⟨h1, h2⟩ := List.pairwise_cons.mp h
    unfold insZ
    split
    · rename_i q
      refine List.pairwise_cons.mpr ⟨fun c hc => ?_, h⟩
      rcases List.mem_cons.mp hc with rfl | hc
      · exact q
      · exact Int.le_trans q (h1 c hc)
    · rename_i q
      refine List.pairwise_cons.mpr ⟨fun c hc => ?_, insZ_up a r h2⟩
      rcases List.mem_cons.mp ((insZ_perm a r).mem_iff.mp hc) with rfl | hc
      · omega
      · exact h1 c hc
theorem isZ_up : ∀ l, (isZ l).Pairwise (· ≤ ·)
  | [] => .nil
  | a :: r => insZ_up a _ (isZ_up r)
theorem isZ_of {ns ms : List Int} (p : ms.Perm ns) (q : ms.Pairwise (· ≤ ·)) : ms = isZ ns := (p.trans (isZ_perm ns).symm).eq_of_pairwise (fun a b _ _ h1 h2 => Int.le_antisymm h1 h2) q (isZ_up ns)
/-- a stands no later than b -/
def leS (a b : Str) : Prop := ltCps b.cps.toList a.cps.toList = false
theorem leS_iff {a b : Str} : leS a b ↔ a.cps.toList ≤ b.cps.toList := by
  unfold leS
  rw [ltCps_eq, decide_eq_false_iff_not]
  exact Iff.rfl
theorem leS_trans {a b c : Str} (h : leS a b) (k : leS b c) : leS a c := leS_iff.mpr (List.le_trans (leS_iff.mp h) (leS_iff.mp k))
theorem leS_anti {a b : Str} (h : leS a b) (k : leS b a) : a = b := by
  have e : a.cps.toList = b.cps.toList := List.le_antisymm (leS_iff.mp h) (leS_iff.mp k)
  cases a
  cases b
  simp only [Str.mk.injEq]
  exact Array.toList_inj.mp e
theorem leS_total {a b : Str} (h : ¬ leS a b) : leS b a := leS_iff.mpr ((List.le_total a.cps.toList b.cps.toList).resolve_left fun z => h (leS_iff.mpr z))
def insS (a : Str) : List Str → List Str
  | [] => [a]
  | b :: r => if ltCps b.cps.toList a.cps.toList = true then b :: insS a r else a :: b :: r
def isS : List Str → List Str
  | [] => []
  | a :: r => insS a (isS r)
theorem insS_perm (a : Str) : ∀ l, (insS a l).Perm (a :: l)
  | [] => .refl _
  | b :: r => by
    unfold insS
    split
    · exact ((insS_perm a r).cons b).trans (List.Perm.swap a b r)
    · exact .refl _
theorem isS_perm : ∀ l, (isS l).Perm l
  | [] => .refl _
  | a :: r => (insS_perm a (isS r)).trans ((isS_perm r).cons a)
theorem insS_up (a : Str) : ∀ l : List Str, l.Pairwise leS → (insS a l).Pairwise leS
  | [], _ => by simp [insS]
  | b :: r, h => by
    obtain ⟨h1, h2⟩ := List.pairwise_cons.mp h
    unfold insS
    split
    · rename_i q
      refine List.pairwise_cons.mpr ⟨fun c hc => ?_, insS_up a r h2⟩
      rcases List.mem_cons.mp ((insS_perm a r).mem_iff.mp hc) with rfl | hc
      · exact leS_total fun z => by rw [leS, q] at z; cases z
      · exact h1 c hc
    · rename_i q
      have q' : leS a b := by simpa [leS] using q
      refine List.pairwise_cons.mpr ⟨fun c hc => ?_, h⟩
      rcases List.mem_cons.mp hc with rfl | hc
      · exact q'
      · exact leS_trans q' (h1 c hc)
theorem isS_up : ∀ l, (isS l).Pairwise leS
  | [] => .nil
  | a :: r => insS_up a _ (isS_up r)
theorem rising_up : ∀ {p : Str} {l : List Str}, risingS p l = true → (p :: l).Pairwise leS
  | p, [], _ => by simp
  | p, x :: r, h => by
    have h' : (!ltCps x.cps.toList p.cps.toList && risingS x r) = true := h
    rw [Bool.and_eq_true, Bool.not_eq_true'] at h'
    have ih := rising_up h'.2
    refine List.pairwise_cons.mpr ⟨fun c hc => ?_, ih⟩
    rcases List.mem_cons.mp hc with rfl | hc
    · exact h'.1
    · exact leS_trans (b := x) h'.1 ((List.pairwise_cons.mp ih).1 c hc)
theorem isS_of {xs ys : List Str} (p : ys.Perm xs) (q : sortedS ys = true) : ys = isS xs := by
  have u : ys.Pairwise leS := by
    cases ys with
    | nil => exact .nil
    | cons x r => exact rising_up q
  exact (p.trans (isS_perm xs).symm).eq_of_pairwise (fun a b _ _ h1 h2 => leS_anti h1 h2) u (isS_up xs)
def strsOf : List W → Option (List Str)
  | [] => some []
  | .str b :: r => (strsOf r).map (b :: ·)
  | _ => none
def fSortedX (fz : Bool) : FC := fun ws st => match ws with
  | [w] => match seqL st w with
    | some xs => match intsOf xs with
      | some ns => newL fz ((isZ ns).map W.int) st
      | none => match strsOf xs with
        | some ys => if ys.length < 64 then newL fz ((isS ys).map W.str) st else .stuck
        | none => .stuck
    | none => match dkOf st w with
      | some kvs => match intsOf (kvs.map fun p => keyW p.1) with
        | some ns => if ns.length < 64 then newL fz ((isZ ns).map W.int) st else .stuck
        | none => .stuck
      | none => .stuck
  | _ => .stuck
section
variable {K : PySem.W.Frag} {T : Nat → Addr} {ρ η : List Addr} {H : Hp} {st : Sto}
theorem strs_ok : ∀ {ws : List W} {vs : List V} {bs : List Str}, VRs K ρ η H ws vs → strsOf ws = some bs → vs = bs.map V.str
  | [], vs, bs, r, e => by
    simp only [VRs] at r
    simp only [strsOf, Option.some.injEq] at e
    subst r
    subst e
    rfl
  | w :: ws, vs, bs, r, e => by
    cases w with
    | str b =>
      simp only [VRs, VR] at r
      obtain ⟨v, rr, e1, e2, e3⟩ := r
      simp only [strsOf, Option.map_eq_some_iff] at e
      obtain ⟨cs, e4, e5⟩ := e
      subst e1
      subst e2
      subst e5
      rw [strs_ok e3 e4, List.map_cons]
    | _ => simp [strsOf] at e
theorem vstrs : ∀ {ns : List Str}, VRs K ρ η H (ns.map W.str) (ns.map V.str)
  | [] => VRs.nil
  | a :: r => VRs.cons (by simp only [VR]) vstrs
theorem okc_sortedX {fz : Bool} : OkC K T (fSortedX fz) (fun xs H Q => (rSortedI K xs H Q ∨ rSortDI xs H Q) ∨ rSortedS K xs H Q) := by
  intro ρ η st H ws vs Q E s r h
  unfold fSortedX at h
  split at h
  · rename_i w
    obtain ⟨v, e, rr⟩ := vrs1 r
    subst e
    split at h
    · rename_i xs q
      obtain ⟨a, us, e1, e2, e3⟩ := seq_ok s rr q
      subst e1
      split at h
      · rename_i ns q2
        have := ints_ok e3 q2
        subst this
        refine .inl (.inl ⟨a, ns, rfl, e2, fun ns' p p1 p2 hp => ?_⟩)
        rw [isZ_of p1 p2]
        exact newL_ok h s vints hp
      · split at h
        · rename_i ys q3
          have := strs_ok e3 q3
          subst this
          split at h
          · rename_i lz
            refine .inr ⟨a, ys, rfl, e2, lz, fun ys' p p1 p2 hp => ?_⟩
            rw [isS_of p1 p2]
            exact newL_ok h s vstrs hp
          · exact h.elim
        · exact h.elim
    · split at h
      · rename_i kvs q
        split at h
        · rename_i ns q2
          split at h
          · rename_i lz
            have ef : ∀ f : Key × W → W, (∀ p, f p = keyW p.1) → intsOf (kvs.map f) = some ns := fun f hf => by rw [show f = fun p => keyW p.1 from funext hf]; exact q2
            have k := okc_sorted (K := K) (T := T) (fz := fz) ρ η st H [w] [v] Q E s r ?_
            · exact .inl k
            · unfold fSorted
              simp only
              rename_i sq _ _
              rw [sq]
              simp only
              rw [q]
              simp only
              rw [ef _ (fun p => by cases p.1 <;> rfl)]
              simp only
              rw [if_pos lz]
              have e : sortZ ns = isZ ns := isZ_of (List.mergeSort_perm ns _) (by
                have := List.pairwise_mergeSort (le := fun a b : Int => decide (a ≤ b)) (by intro a b c; simp; omega) (by intro a b; simp; omega) ns
                exact this.imp (by intro a b; simp))
              rw [e]
              exact h
          · exact h.elim
        · exact h.elim
      · exact h.elim
  · exact h.elim
end
end Mi
/-! The mirror: names bound to a list's items. -/
namespace Mi
open PySem PySem.Spec PyProof.Rows L2
/-- a list, frozen or a place -/
def lstOf (st : Sto) (w : W) : Option (List W) := match w with
  | .lst zs => some zs
  | w => (nodL st w).map (·.2)
def fExtX : FM := fun o ws st => match nodL st o, ws with
  | some (i, xs), [w] => match lstOf st w with
    | some zs => if xs.length + zs.length ≤ sizeLine then .ok .non (st.set i (.lst (xs ++ zs))) else .stuck
    | none => .stuck
  | _, _ => .stuck
theorem lstOf_ok {K : PySem.W.Frag} {T : Nat → Addr} {ρ η : List Addr} {H : Hp} {st : Sto} {w : W} {v : V} {zs : List W} (s : SR K T ρ η st H) (r : VR K ρ η H w v) (e : lstOf st w = some zs) : ∃ b us, v = .ref b ∧ H b = some (.lst us) ∧ VRs K ρ η H zs us := by
  unfold lstOf at e
  split at e
  · cases e
    simp only [VR] at r
    obtain ⟨b, us, f1, f2, f3⟩ := r
    exact ⟨b, us, f1, f2.2.2, f3⟩
  · obtain ⟨p, e1, e2⟩ := Option.map_eq_some_iff.mp e
    subst e2
    obtain ⟨a, us, e3, e4, e5, e6⟩ := nodl_ok s r (show nodL st w = some (p.1, p.2) from e1)
    exact ⟨a, us, e3, e5, e6⟩
theorem okm_extX {X : Cx} {T : Nat → Addr} : OkM X.K T fExtX rExtend := by
  intro ρ η st H o ws x vs Q E s ro r h
  unfold fExtX at h
  split at h
  · rename_i i xs w q
    obtain ⟨a, us, e1, e2, e3, e4⟩ := nodl_ok s ro q
    obtain ⟨v, e5, r1⟩ := vrs1 r
    split at h
    · rename_i zs q2
      obtain ⟨b, us2, f1, f2, f3⟩ := lstOf_ok s r1 q2
      subst f1
      split at h
      · rename_i lz
        exact ⟨a, b, us, us2, e1, e5, e3, f2, by rw [e4.len, f3.len]; exact lz, lst_put s e2 e3 (e4.append f3) vr_non h⟩
      · exact h.elim
    · exact h.elim
  · exact h.elim
end Mi
/-! The mirror: what a call of a handed lambda told, or the field of the error that it raised. -/
namespace Mi
open PySem PySem.Spec PyProof.Rows L2
theorem outOf_to {r : Rs W} {e1 e2 : Ev} : outOf (r.to e1 fun w s => .rt w s) = outOf (r.to e2 fun w s => .rt w s) := by cases r <;> rfl
end Mi
/-! The mirror: min(d.values(), default=x). -/
namespace Mi
open PySem PySem.Spec PyProof.Rows L2
theorem foldMin_le : ∀ (r : List Int) (n : Int), r.foldl min n ≤ n ∧ ∀ y ∈ r, r.foldl min n ≤ y
  | [], n => ⟨Int.le_refl _, by simp⟩
  | a :: r, n => by
    obtain ⟨h1, h2⟩ := foldMin_le r (min n a)
    refine ⟨Int.le_trans h1 (Int.min_le_left ..), fun y hy => ?_⟩
    rcases List.mem_cons.mp hy with rfl | hy
    · exact Int.le_trans h1 (Int.min_le_right ..)
    · exact h2 y hy
theorem foldMin_mem : ∀ (r : List Int) (n : Int), r.foldl min n ∈ n :: r
  | [], n => by simp
  | a :: r, n => by
    have h := foldMin_mem r (min n a)
    rcases List.mem_cons.mp h with h | h
    · rw [List.foldl_cons, h]
      rcases Int.le_total n a with q | q
      · rw [Int.min_eq_left q]; simp
      · rw [Int.min_eq_right q]; simp
    · exact List.mem_cons_of_mem _ (List.mem_cons_of_mem _ h)
theorem foldMin_of {n m : Int} {r : List Int} (h1 : m ∈ n :: r) (h2 : ∀ y ∈ n :: r, m ≤ y) : m = r.foldl min n := by
  obtain ⟨a, b⟩ := foldMin_le r n
  refine Int.le_antisymm (h2 _ (foldMin_mem r n)) ?_
  rcases List.mem_cons.mp h1 with rfl | h
  · exact a
  · exact b m h
def minV (y : V) : List Int → V
  | [] => y
  | n :: r => .int (r.foldl min n)
def tVals (t : TE) : TE := fun σ H Q => t σ H fun x H1 => ∃ (d : Addr) (kvs : List (Key × V)), x = .ref d ∧ H1 d = some (.dK kvs) ∧ ∀ p, H1 p = none → Q (.ref p) (upd H1 p (viewO "dict_values" p d))
def rMinV : List V → List V → Hp → VK → Prop := fun xs zs H Q => ∃ (p d : Addr) (kvs : List (Key × V)) (ns : List Int) (y : V), xs = [.ref p] ∧ zs = [y] ∧ H p = some (viewO "dict_values" p d) ∧ H d = some (.dK kvs) ∧ kvs.map Prod.snd = ns.map V.int ∧ Q (minV y ns) H
section
variable {X : Cx}
theorem pe_vals {e : Expr} {te : TE} {apos cpos : Pos} (he : PE X e te) (hbase : attributeBase e "values" X.env (eval e X.env) = eval e X.env := by rfl) (hline : (apos.endLine == cpos.line) = true := by rfl) :
    PE X (.Call (.Attribute e "values" apos) [] [] cpos) (tVals te) := by
  refine ⟨fun pins s σ H Q I hq => ?_⟩
  refine wpAny_Call_method (T := "dict") (id := "dict.values") hbase rfl hline F.plainAttrs_dict F.slot_dict_values F.type_dict_values (thn (he.run pins s σ H _ I hq) fun u s1 ⟨x, H1, I1, rx, d, kvs, ex, hd, q⟩ => ?_)
  subst ex
  obtain rfl : u = Value.ref d := rx
  obtain ⟨hz, hs0, vs, kv, hdo⟩ := I1.hok d _ hd
  refine ⟨hdo.typeIs, hdo.mapOf.noDict, ?_⟩
  show wpAny _ _ (callWith cpos (.builtin "dict.values") [.ref d] [] []) _ X.xe s1
  refine method_meetsIn F.slot_dict_values F.entry_dict_values rfl (PySem.evalArgs_none ⟨rfl, hdo.typeIs, F.args_dict_values_1 _, _, meets_dict_values (mixKind X.prog X.w) d hs0, ⟨vs, hdo⟩, ?_⟩)
  exact ⟨.ref s1.heap.objs.size, _, I1.laid (t' := s1.toks) (fun b o q => Heap.get?_push_of_some _ q) (Nat.le_refl _) (viewO_ok (Heap.get?_push_size _ rfl)), rfl, q _ (I1.hok.fresh (Nat.le_refl _))⟩
theorem cr_minV (hc : X.calm = true) : CallRK X (.builtin "min") ["default"] rMinV := by
  intro pins s σ H xs zs us ws Q I rx rz h
  obtain ⟨p, d, kvs, ns, y, rfl, rfl, hp, hd, hns, q⟩ := h
  rw [Vals.ref1 rx]
  obtain ⟨u, rfl, ru⟩ := rz.one
  obtain ⟨hz, hs0, vs, kv, hdo⟩ := I.hok d _ hd
  obtain ⟨ep, o, es, ho, hex, hdat, hko, hpr, hnd⟩ := hdo.dictAt
  have hv : s.heap.get? p = some (DSub.viewOb "dict_values" d) := (show ObjOk X.prog X.w H s.heap p (viewO "dict_values" p d) from I.hok p _ hp).1
  have hkn : kvs.length = ns.length := by
    have e := congrArg List.length hns
    rwa [List.length_map, List.length_map] at e
  have hkv : kvs.length = vs.length := Paired.length kv
  have hev : es.size = vs.length := by
    have := hpr.length
    rwa [Array.length_toList] at this
  have hsz : es.size = ns.length := by omega
  have hP : ∀ (i : Nat) (e : DictEntry), es[i]? = some e → ∃ t, e.val = .int (ns.getD i 0) t := fun i e he => by
    have hi : i < es.size := by
      rcases Nat.lt_or_ge i es.size with z | z
      · exact z
      · rw [Array.getElem?_eq_none z] at he
        cases he
    have hi2 : i < kvs.length := by omega
    have hi3 : i < ns.length := by omega
    obtain ⟨x, hx, rx⟩ := kv_get kv (k := kvs[i].1) (v := kvs[i].2) (i := i) (List.getElem?_eq_getElem hi2)
    have he2 : es.toList[i]? = some e := by rw [Array.getElem?_toList]; exact he
    obtain ⟨h1, h2⟩ := hpr.get? (e := e) he2 hx
    have e2 : kvs[i].2 = V.int ns[i] := by
      have z : (kvs.map Prod.snd)[i]? = (ns.map V.int)[i]? := by rw [hns]
      rw [List.getElem?_map, List.getElem?_map, List.getElem?_eq_getElem hi2, List.getElem?_eq_getElem hi3] at z
      exact Option.some.inj z
    have e3 : ns.getD i 0 = ns[i] := by rw [List.getD_eq_getElem?_getD, List.getElem?_eq_getElem hi3]; rfl
    rw [e2] at rx
    rw [h2, e3]
    exact rx
  show wpAny _ _ (call (.builtin "min") [.ref p] [(Str.ofString "default", u)]) _ _ _
  refine call_min_walkD ?_
  refine DSub.iter_vals hv ho hdat ?_
  have ha : d < s.heap.objs.size := Heap.lt_size ho
  have hne : d ≠ s.heap.objs.size := Nat.ne_of_lt ha
  refine ⟨s.heap.objs.size, [s.heap.objs.size, d], [s.heap.objs.size], _, es.size, fun i v => ∃ t, v = .int (ns.getD i 0) t, _, s.heap, fun i j => decide (ns.getD i 0 < ns.getD j 0), rfl,
    (DSub.walksVal (a := d) (show X.A.in1.handled = none from I.ok.hd hc) hne hdat hP).toS, ⟨Heap.get?_push_size _ rfl, Heap.get?_push_of_some _ ho⟩, fun b hb => ?_, fun b o e hb => ?_, fun b o e => Heap.get?_push_of_some _ e, fun hn s' hm => ?_, fun hn => ⟨fun i j vi vj s Q E _ => CmpOf.ints_lt (fun i => ns.getD i 0) (fun i v z => z) i j vi vj s Q E, fun v s' hv' hm => ?_⟩⟩
  · show b < (s.heap.push _).objs.size
    rw [size_push']
    rcases List.mem_cons.mp hb with z | z
    · rw [z]
      exact Nat.lt_succ_self _
    · rw [List.mem_singleton.mp z]
      exact Nat.lt_succ_of_lt ha
  · rw [List.mem_singleton.mp hb] at e
    exact absurd (Heap.lt_size e) (Nat.lt_irrefl _)
  all_goals
    have hk2 : ∀ b o, s.heap.get? b = some o → s'.heap.get? b = some o := fun b o e => hm.heap b o (fun z => by rw [List.mem_singleton.mp z] at e; exact absurd (Heap.lt_size e) (Nat.lt_irrefl _)) (Heap.get?_push_of_some _ e)
    obtain ⟨hh, gg, dr, tk, os⟩ := s'
    have eg : gg = s.gens := hm.gens
    have ed : dr = s.drawn := hm.drawn
    have eo : os = s.os := hm.os
    subst eg
    subst ed
    subst eo
  · have e0 : ns = [] := List.eq_nil_of_length_eq_zero (by omega)
    subst e0
    exact ⟨y, H, I.kept (t' := tk) hk2, ru, q⟩
  · obtain ⟨t, rfl⟩ := hv'
    obtain ⟨m1, m2⟩ := argBest_lt (fun i => ns.getD i 0) (es.size - 1)
    cases ns with
    | nil =>
      have hz0 : es.size = 0 := hsz
      omega
    | cons n0 r =>
      refine ⟨.int _, H, I.kept (t' := tk) hk2, ⟨t, rfl⟩, ?_⟩
      rw [foldMin_of (n := n0) (r := r) (PySem.getD_mem (by simp only [List.length_cons] at hsz ⊢; omega)) fun z hz => ?_]
      · exact q
      · obtain ⟨j, hj, e⟩ := List.mem_iff_getElem.mp hz
        have z2 := m2 j (by simp only [List.length_cons] at hsz hj; omega)
        have e3 : (n0 :: r).getD j 0 = z := by rw [List.getD_eq_getElem?_getD, List.getElem?_eq_getElem hj, ← e]; rfl
        rwa [e3] at z2
theorem se_minV {T : Nat → Addr} {Wx : WX'} {e f : Expr} {mo md : M W} {p apos cpos kpos pos : Pos} (hc : X.calm = true) (hg : Gl X "min") (hm : X.mg "min" = none) (ho : SE X T Wx e mo) (hf : SE X T Wx f md)
    (hbase : attributeBase e "values" X.env (eval e X.env) = eval e X.env := by rfl) (hline : (apos.endLine == cpos.line) = true := by rfl)
    (hs : starEach [.Call (.Attribute e "values" apos) [] [] cpos] X.env = (false, eval (.Call (.Attribute e "values" apos) [] [] cpos) X.env) :: starEach [] X.env := by rfl)
    (he : backTo pos (starEach [.Call (.Attribute e "values" apos) [] [] cpos] X.env) = (false, eval (.Call (.Attribute e "values" apos) [] [] cpos) X.env) :: backTo pos (starEach [] X.env) := by rfl)
    (hpl : (backTo pos (starEach [.Call (.Attribute e "values" apos) [] [] cpos] X.env)).any (·.1) = false := by rfl)
    (hall : (backToKw pos (keywordEach [⟨some "default", f, kpos⟩] X.env)).all (·.1.isSome) = true := by rfl) (hnone : (backToKw pos (keywordEach [⟨some "default", f, kpos⟩] X.env)).any (·.1.isNone) = false := by rfl)
    (hks : (backToKw pos (keywordEach [⟨some "default", f, kpos⟩] X.env)).filterMap (·.1) = [Str.ofString "default"] := by rfl) :
    SE X T Wx (.Call (.Name "min" p) [.Call (.Attribute e "values" apos) [] [] cpos] [⟨some "default", f, kpos⟩] pos) (mMinV mo md) := by
  intro ρ η st env σ H Q s er q
  refine ⟨_, pe_callBK (cr_minV hc) hg hm (by decide +kernel) (pa_cons (pe_vals pe_S hbase hline) pa_nil hs) (pk_cons pe_S pk_nil) (by decide) (by decide) he hpl hall hnone hks, ?_⟩
  refine ho ρ η st env σ H _ s er (q.bind fun o s1 ρ1 H1 v g1 sr1 r1 h1 => ?_)
  split at h1
  · rename_i i kvs z
    obtain ⟨a, kv, e1, _, e2, e3⟩ := nodd_ok sr1 r1 z
    refine ⟨a, kv, e1, e2, fun pv hp => ?_⟩
    have np : ∀ (i : Nat) (b : Addr), ρ1[i]? = some b → b ≠ pv := fun i b q z => by
      obtain ⟨o, ho⟩ := sr1.there q
      rw [z, hp] at ho
      cases ho
    have nr : pv ∉ ρ1 := fun z => by
      obtain ⟨i, hi⟩ := List.getElem?_of_mem z
      exact np i pv hi rfl
    have gn : Grow ρ1 H1 ρ1 (upd H1 pv (viewO "dict_values" pv a)) := Grow.new hp
    refine hf ρ1 η s1 env σ _ _ (sr1.new hp np) ((er.mono g1).mono gn) ((After.grow gn h1).bind fun dd s2 ρ2 H2 y g2 sr2 r2 h2 => ?_)
    split at h2
    · rename_i i2 kvs2 z2
      split at h2
      · rename_i ns z3
        obtain ⟨a2, kv2, f1, _, f2, f3⟩ := nodd_ok sr2 ((r1.mono gn).mono g2) z2
        have ea : a2 = a := by
          have := f1.symm.trans e1
          cases this
          rfl
        subst ea
        refine ⟨pv, a2, kv2, ns, y, rfl, rfl, g2.same pv _ nr upd_same, f2, ints_ok f3.2 z3, After.ok h2 sr2 ?_⟩
        cases ns with
        | nil => exact r2
        | cons n r => simp only [minL, minV, VR]
      · exact h2.elim
    · exact h2.elim
  · exact h1.elim
end
end Mi
/-! The mirror: places that nothing names any more are let go of behind a call. -/
namespace Mi
open PySem PySem.Spec PyProof.Rows L2
mutual
/-- no place from n on is named -/
def blW (n : Nat) : W → Bool
  | .ref i => decide (i < n)
  | .tup xs => blWs n xs
  | .lst xs => blWs n xs
  | .scr xs => blWs n xs
  | .fn _ _ _ _ => false
  | .exc _ _ _ _ => false
  | _ => true
def blWs (n : Nat) : List W → Bool
  | [] => true
  | x :: xs => blW n x && blWs n xs
end
def blN (n : Nat) : Nd → Bool
  | .lst xs => blWs n xs
  | .dk kvs => blWs n (kvs.map (·.2))
  | .lk kvs => blWs n (kvs.map (·.2))
  | .ins _ fs => blWs n (fs.map (·.2))
  | .tb _ _ => true
def mGc (m : M W) : M W := fun env st => match m env st with
  | .ok w s => if (blW st.length w && (s.take st.length).all (blN st.length)) = true then .ok w (s.take st.length) else .stuck
  | r => r
section
variable {K : PySem.W.Frag} {T : Nat → Addr} {ρ t η : List Addr} {H : Hp}
mutual
theorem VR.lower : ∀ {w : W} {v : V}, VR K (ρ ++ t) η H w v → blW ρ.length w = true → VR K ρ η H w v
  | .non, _, h, _ => by simpa only [VR] using h
  | .bl _, _, h, _ => by simpa only [VR] using h
  | .int _, _, h, _ => by simpa only [VR] using h
  | .str _, _, h, _ => by simpa only [VR] using h
  | .ty _, _, h, _ => by simpa only [VR] using h
  | .at_ _, _, h, _ => by simpa only [VR] using h
  | .fn _ _ _ _, _, _, b => by simp [blW] at b
  | .exc _ _ _ _, _, _, b => by simp [blW] at b
  | .ref i, v, h, b => by
    simp only [VR] at h ⊢
    simp only [blW, decide_eq_true_eq] at b
    obtain ⟨a, e, r⟩ := h
    rw [List.getElem?_append_left b] at e
    exact ⟨a, e, r⟩
  | .tup xs, v, h, b => by
    simp only [VR] at h ⊢
    simp only [blW] at b
    obtain ⟨a, vs, e, k, r⟩ := h
    exact ⟨a, vs, e, k.imp (fun k => ⟨fun z => k.1 (List.mem_append_left _ z), k.2⟩) id, VRs.lower r b⟩
  | .lst xs, v, h, b => by
    simp only [VR] at h ⊢
    simp only [blW] at b
    obtain ⟨a, vs, e, ⟨k1, k2⟩, r⟩ := h
    exact ⟨a, vs, e, ⟨fun z => k1 (List.mem_append_left _ z), k2⟩, VRs.lower r b⟩
  | .scr xs, v, h, b => by
    simp only [VR] at h ⊢
    simp only [blW] at b
    obtain ⟨a, vs, e, k, r⟩ := h
    exact ⟨a, vs, e, k.imp (fun k => ⟨fun z => k.1 (List.mem_append_left _ z), k.2⟩) id, VRs.lower r b⟩
theorem VRs.lower : ∀ {ws : List W} {vs : List V}, VRs K (ρ ++ t) η H ws vs → blWs ρ.length ws = true → VRs K ρ η H ws vs
  | [], _, h, _ => by simpa only [VRs] using h
  | x :: xs, vs, h, b => by
    simp only [VRs] at h ⊢
    simp only [blWs, Bool.and_eq_true] at b
    obtain ⟨v, r, e, h1, h2⟩ := h
    exact ⟨v, r, e, VR.lower h1 b.1, VRs.lower h2 b.2⟩
end
theorem NR.lower {a : Addr} {n : Nd} (h : NR K T (ρ ++ t) η H a n) (b : blN ρ.length n = true) : NR K T ρ η H a n := by
  cases n with
  | lst xs => obtain ⟨vs, e, r⟩ := h; exact ⟨vs, e, r.lower b⟩
  | dk kvs => obtain ⟨kv, e, q, r⟩ := h; exact ⟨kv, e, q, r.lower b⟩
  | lk kvs => obtain ⟨od, kv, e, q, r⟩ := h; exact ⟨od, kv, e, q, r.lower b⟩
  | ins c fs => obtain ⟨dx, fv, e, q, r⟩ := h; exact ⟨dx, fv, e, q, r.lower b⟩
  | tb p q =>
    obtain ⟨e, ps, h1, h2, h3⟩ := h
    refine ⟨e, ps, h1, h2, fun pos cv z => ?_⟩
    obtain ⟨c, c1, c2, c3⟩ := h3 pos cv z
    exact ⟨c, c1, fun z => c2 (List.mem_append_left _ z), c3⟩
theorem SR.lower {st : Sto} (h : SR K T (ρ ++ t) η st H) (b : (st.take ρ.length).all (blN ρ.length) = true) : SR K T ρ η (st.take ρ.length) H := by
  refine ⟨(List.nodup_append.mp h.nd).1, ?_, fun a ha z => h.hid a ha (List.mem_append_left _ z), h.has, fun i n a e q => ?_⟩
  · have := h.len
    rw [List.length_append] at this
    rw [List.length_take]
    omega
  · have bn := List.all_eq_true.mp b n (List.mem_of_getElem? e)
    have hi : i < ρ.length := (List.getElem?_eq_some_iff.mp q).1
    rw [List.getElem?_take_of_lt hi] at e
    exact (h.at_ i n a e (by rw [List.getElem?_append_left hi]; exact q)).lower bn
end
theorem se_gc {X : Cx} {T : Nat → Addr} {Wx : WX'} {e : Expr} {m : M W} (h : SE X T Wx e m) : SE X T Wx e (mGc m) := by
  intro ρ η st env σ H Q s er q
  refine h ρ η st env σ H Q s er ?_
  unfold mGc at q
  cases z : m env st with
  | stuck => rw [z] at q; exact q
  | ex y s1 => rw [z] at q; exact q
  | ok w s1 =>
    rw [z] at q
    simp only at q
    split at q
    · rename_i b
      rw [Bool.and_eq_true, ← s.len] at b
      intro ρ' H' v g sr r
      obtain ⟨t, e1, _⟩ := id g.pre
      subst e1
      have g' : Grow ρ H ρ H' := ⟨⟨[], by simp, by simp⟩, g.same', g.all, g.frz⟩
      rw [← s.len] at q
      exact q ρ H' v g' (sr.lower b.2) (r.lower b.1)
    · exact q.elim
theorem mGc_ok {m : M W} {env : Ev} {st s : Sto} {w : W} (h : m env st = .ok w s) (b : (blW st.length w && (s.take st.length).all (blN st.length)) = true) : mGc m env st = .ok w (s.take st.length) := by
  unfold mGc
  rw [h]
  exact if_pos b
end Mi
/-! The mirror: min, max of a list of whole numbers. -/
namespace Mi
open PySem PySem.Spec PyProof.Rows L2
def fMinL : FC := fun ws st => match ws with
  | [w] => match seqL st w with
    | some xs => match intsOf xs with
      | some (n :: r) => .ok (.int (r.foldl min n)) st
      | _ => .stuck
    | none => .stuck
  | _ => .stuck
section
variable {K : PySem.W.Frag} {T : Nat → Addr}
theorem okc_minL : OkC K T fMinL (rMin K) := by
  intro ρ η st H ws vs Q E s r h
  unfold fMinL at h
  split at h
  · rename_i w
    obtain ⟨v, e, rr⟩ := vrs1 r
    subst e
    split at h
    · rename_i xs q
      obtain ⟨a, us, e1, e2, e3⟩ := seq_ok s rr q
      subst e1
      split at h
      · rename_i n r q2
        have := ints_ok e3 q2
        subst this
        refine ⟨a, n :: r, rfl, e2, by simp, fun m h1 h2 => ?_⟩
        rw [foldMin_of h1 h2]
        exact After.ok h s (by simp only [VR])
      · exact h.elim
    · exact h.elim
  · exact h.elim
end
end Mi
/-! The mirror: places let go of behind a suite; statements taken together. -/
namespace Mi
open PySem PySem.Spec PyProof.Rows L2
def evBl (n : Nat) (env : Ev) : Bool := env.all fun o => match o with
  | some w => blW n w
  | none => true
def sGc (is : List Nat) (m : MS) : MS := fun env st => match m env st with
  | .nx env1 st1 => if (evBl st.length (wipeW env1 is) && (st1.take st.length).all (blN st.length)) = true then .nx (wipeW env1 is) (st1.take st.length) else .stuck
  | r => r
theorem sGc_ok {is : List Nat} {m : MS} {env env1 : Ev} {st st1 : Sto} (h : m env st = .nx env1 st1) (b : (evBl st.length (wipeW env1 is) && (st1.take st.length).all (blN st.length)) = true) : sGc is m env st = .nx (wipeW env1 is) (st1.take st.length) := by
  unfold sGc
  rw [h]
  exact if_pos b
section
variable {K : PySem.W.Frag} {T : Nat → Addr} {ρ t η : List Addr} {H : Hp}
theorem ER.forget {env : Ev} {σ : L2.St} (h : ER K ρ η H env σ) : ∀ vs : List Nat, ER K ρ η H (wipeW env vs) σ
  | [] => h
  | v :: vs => by
    obtain ⟨h1, h2⟩ := ER.forget h vs
    refine ⟨by simp only [wipeW, List.length_set]; exact h1, fun j u e => ?_⟩
    unfold wipeW at e
    rw [List.getElem?_set] at e
    split at e
    · split at e <;> cases e
    · exact h2 j u e
theorem ER.lower {env : Ev} {σ : L2.St} (h : ER K (ρ ++ t) η H env σ) (b : evBl ρ.length env = true) : ER K ρ η H env σ := ⟨h.1, fun i w e => by
  obtain ⟨v, e1, r⟩ := h.2 i w e
  have bw := List.all_eq_true.mp b (some w) (List.mem_of_getElem? e)
  exact ⟨v, e1, r.lower bw⟩⟩
end
section
variable {X : Cx} {T : Nat → Addr} {Wx : WX'}
theorem SAfter.gc {η ρ : List Addr} {H : Hp} {st : Sto} {is : List Nat} {m : MS} {env : Ev} {D : Ends} (s : SR X.K T ρ η st H) (q : SAfter X.K T η ρ H (sGc is m env st) D Wx) : SAfter X.K T η ρ H (m env st) D Wx := by
  unfold sGc at q
  cases z : m env st with
  | stuck => rw [z] at q; exact q
  | ex y e1 s1 => rw [z] at q; exact q
  | rt w s1 => rw [z] at q; exact q
  | bk e1 s1 => rw [z] at q; exact q
  | ct e1 s1 => rw [z] at q; exact q
  | nx e1 s1 =>
    rw [z] at q
    simp only at q
    split at q
    · rename_i b
      rw [Bool.and_eq_true, ← s.len] at b
      intro ρ' H' σ' g sr er
      obtain ⟨t, e2, _⟩ := id g.pre
      subst e2
      have g' : Grow ρ H ρ H' := ⟨⟨[], by simp, by simp⟩, g.same', g.all, g.frz⟩
      rw [← s.len] at q
      exact q ρ H' σ' g' (sr.lower b.2) ((er.forget is).lower b.1)
    · exact q.elim
theorem sss_gc {c : List Stmt} {m : MS} {is : List Nat} (h : SSs X T Wx c m) : SSs X T Wx c (sGc is m) := fun ρ η st env σ H D s er q => h ρ η st env σ H D s er (SAfter.gc s q)
theorem execs_both (a b : List Stmt) (env : Env) : execs (a ++ b) env = (execs a env >>= fun f => match f with
    | .next => execs b env
    | f => pure f) := by
  induction a with
  | nil => exact (pure_bind (m := Sem) Flow.next (fun f => match f with | .next => execs b env | f => pure f)).symm
  | cons s a ih =>
    rw [List.cons_append, execs_cons, execs_cons, bind_assoc]
    congr 1
    funext f
    cases f with
    | next => exact ih
    | ret v => exact (pure_bind (m := Sem) (Flow.ret v) (fun f => match f with | .next => execs b env | f => pure f)).symm
    | brk => exact (pure_bind (m := Sem) Flow.brk (fun f => match f with | .next => execs b env | f => pure f)).symm
    | cont => exact (pure_bind (m := Sem) Flow.cont (fun f => match f with | .next => execs b env | f => pure f)).symm
theorem pss_both {a b : List Stmt} {t u : TS} (h1 : PSs X a t) (h2 : PSs X b u) : PSs X (a ++ b) (tSeq t u) := by
  refine ⟨fun pins s σ H D I h => ?_⟩
  rw [execs_both]
  refine wpAny_bind (thn (h1.run pins s σ H { D with nx := u D } I h) fun f s1 q => ?_)
  cases f with
  | next =>
    obtain ⟨σ', H', I', q⟩ := q
    exact h2.run pins s1 σ' H' D I' q
  | ret v => exact wpAny_pure q
  | brk => exact wpAny_pure q
  | cont => exact wpAny_pure q
theorem sss_both {a b : List Stmt} {m k : MS} (h1 : SSs X T Wx a m) (h2 : SSs X T Wx b k) : SSs X T Wx (a ++ b) (sSeq m k) := by
  intro ρ η st env σ H D s er q
  refine ⟨_, pss_both pss_S pss_S, ?_⟩
  refine h1 ρ η st env σ H _ s er ?_
  unfold sSeq at q
  cases z : m env st with
  | nx e1 s1 => rw [z] at q; exact fun ρ' H' σ' g sr er' => h2 ρ' η s1 e1 σ' H' D sr er' (q.grow g)
  | rt w s1 => rw [z] at q; exact q
  | bk e1 s1 => rw [z] at q; exact q
  | ct e1 s1 => rw [z] at q; exact q
  | ex y e1 s1 => rw [z] at q; exact q
  | stuck => rw [z] at q; exact q
theorem sss_bothN {c : List Stmt} {m k : MS} (n : Nat) (h1 : SSs X T Wx (c.take n) m) (h2 : SSs X T Wx (c.drop n) k) : SSs X T Wx c (sSeq m k) := by
  have h := sss_both h1 h2
  rwa [List.take_append_drop] at h
/-- places are let go of where nothing names them -/
def mGcS (m : M W) : M W := fun env st => match m env st with
  | .ok w s => if (blW st.length w && (s.take st.length).all (blN st.length)) = true then .ok w (s.take st.length) else .ok w s
  | r => r
theorem se_gcS {e : Expr} {m : M W} (h : SE X T Wx e m) : SE X T Wx e (mGcS m) := by
  intro ρ η st env σ H Q s er q
  unfold mGcS at q
  cases z : m env st with
  | stuck => rw [z] at q; exact q.elim
  | ex y s1 =>
    rw [z] at q
    exact h ρ η st env σ H Q s er (by rw [z]; exact q)
  | ok w s1 =>
    rw [z] at q
    simp only at q
    split at q
    · rename_i b
      refine se_gc h ρ η st env σ H Q s er ?_
      unfold mGc
      rw [z]
      simp only
      rw [if_pos b]
      exact q
    · exact h ρ η st env σ H Q s er (by rw [z]; exact q)
end
end Mi
/-! The mirror: isinstance of a caught error with one field. -/
namespace L2
open PySem PySem.Spec PySem.Calls PyProof.Rows
section
open PySem.W
variable {prog : Program} {w : World} {A : Around} {E : Value → Shared → Prop} {s : Shared} {K : Frag} {x D : Addr} {ox : Obj} {od : Option Obj}
/-- a data descriptor of the class goes before what the object itself keeps -/
theorem find_first {a g : Value} {name : Str} (hc : hasDictIn K D = true) (ha : findIn K (.ref D) name = some (some a)) (hg : specialIn K a "__get__" = some (some g)) (ht : takesIn K a = some true) : findObj K D od name = some (.bind g a) := by
  obtain ⟨cd, e, _⟩ := any_some hc
  simp [findObj, e, ha, hg, ht]
/-- BaseException.__getattribute__(x, name), where a data descriptor answers with v -/
theorem bga_run {name : Str} {t : Tok} {a g v : Value} {Q : Value → Shared → Prop} (X : K.In s.heap) (I : InstAt s.heap x ox D od) (hsub : subIn K (.ref D) (.type "BaseException") = some true) (hf : findObj K D od name = some (.bind g a)) 
    (hcall : ∀ (B : Around) (R : Result → Shared → Prop), R (.ok (.ret v)) s → codeAny (model prog w) B (.call g ⟨[a, .ref x, .ref D], []⟩) R s) (h : Q v s) : wpAny (model prog w) A (call (.builtin "BaseException.__getattribute__") [.ref x, .str name t]) Q E s := by
  have cls := I.type (M := model prog w)
  have fnd := looks_find (M := model prog w) X I hf
  refine wpAny_call (codeAny_call_builtin PySem.F.excAttr_ValueError.ga.plain PySem.F.entry_bexc_ga (@check_slot (model prog w) _ _ s "BaseException.__getattribute__" "BaseException" "__getattribute__" (.ref x) [.str name t] [] _ (by decide +kernel) (by decide +kernel) (cls.andThen (looks_subIn X hsub)) (PySem.F.args_bexc_ga (.ref x) (.str name t)) ?_))
  unfold Builtin.«object.__getattribute__»
  refine wpAny_bind (wpAny_of_eq (a := (Value.ref x, [Value.str name t])) (by first | rfl | (simp only [slotArgs]; rfl)) (wpAny_bind (wpAny_pure (wpAny_bind (cls.at (wpAny_bind (fnd.at ?_)))))))
  refine wpAny_bind (wpAny_holding (wpAny_call (hcall _ _ (wpAny_pure ?_))))
  exact h
/-- x.__class__, asked of such an error -/
theorem kin_classO {Q : Option Value → Shared → Prop} (C : ExcC K D) (X : K.In s.heap) (I : InstAt s.heap x ox D od) (h : Q (some (.ref D)) { s with toks := s.toks + 1 }) : wpAny (model prog w) A (getAttr? (.ref x) "__class__") Q E s := by
  have ne : (Value.builtin "BaseException.__getattribute__" == Value.builtin "object.__getattribute__") = false := by decide +kernel
  have cls := I.type (M := model prog w)
  have ga := looks_findIn (M := model prog w) X C.hg
  have gt := looks_findIn (M := model prog w) X C.hk
  unfold getAttr? getAttrBy? getAttrBy
  refine wpAny_bind (wpAny_mkText (wpAny_bind (wpAny_attempt (wpAny_holding (wpAny_bind (cls.at (wpAny_bind (ga.at ?_))))))))
  have off : (onTheHeap (Value.ref D) && Value.builtin "BaseException.__getattribute__" == Value.builtin "object.__getattribute__") = false := by rw [ne]; rfl
  simp only [off]
  rw [if_neg Bool.false_ne_true]
  unfold getAttrByItsOwn hookBefore
  refine wpAny_bind ?_
  rw [if_pos (show onTheHeap (Value.ref D) = true from rfl)]
  refine gt.at (wpAny_bind (wpAny_attempt (wpAny_holding ?_)))
  unfold callGetattribute boundAndCalled
  simp only [Bool.false_and, Bool.false_eq_true, if_false]
  rw [PySem.F.excAttr_ValueError.ga.bind (.ref x)]
  refine wpAny_bind (wpAny_pure (bga_run (g := .builtin "getset_descriptor.__get__") (a := .builtin "object.__class__") (v := .ref D) X I C.hs (find_first C.hd C.ha C.hn C.ht) (fun B R r => class_get X I C.hm r) ?_))
  exact wpAny_pure (wpAny_pure h)
theorem kitx_excO (C : ExcC K D) : KitX K (.ref x) (.ref D) (fun h => InstAt h x ox D od) where
  ty := fun _ _ _ I => I.type
  it := fun _ _ X _ => by
    obtain ⟨cdD, hcD, _⟩ := any_some C.hd
    unfold clsIn at hcD
    split at hcD
    · rename_i c' d' cd' sl' ho
      intro A' Q' E' s' k q
      unfold isType loadHead
      exact wpAny_bind (wpAny_loadPart (k _ _ (X _ _ ho)) (wpAny_pure q))
    · cases hcD
  ne := fun h tp dd its n sl X htp => by
    obtain ⟨cdD, hcD, _⟩ := any_some C.hd
    refine Bool.eq_false_iff.mpr fun q => ?_
    have e : D = tp := Value.ref.inj (beq_iff_eq.mp q)
    subst e
    unfold clsIn at hcD
    split at hcD
    · rename_i c' d' cd' sl' ho
      have z := (X _ _ ho).symm.trans htp
      cases z
    · cases hcD
  ca := fun X I k => kin_classO C X I k
end
def rIsX (K : PySem.W.Frag) (D a d : Addr) : List V → Hp → VK → Prop := fun xs H Q => ∃ (c : V) (cv : Value) (b : Bool) (fs : List (Str × V)), xs = [.ref a, c] ∧ H d = some (.xd fs) ∧ (∀ u, RelV c u → u = cv) ∧ PySem.W.kitOne K (.ref D) cv = some b ∧ Q (.bl b) H
theorem call_isX {X : Cx} {a d D : Addr} {oe : Obj} {pn : List (Addr × Obj)} (C : ExcC X.K D) (hz : Zc (.ref D) (some d) oe) (hf : ∃ vs, oe.data = .fields vs) : CallR (X.suite a ((a, oe) :: pn)) (.builtin "isinstance") (rIsX X.K D a d) := by
  intro pins s σ H xs us Q I r h
  obtain ⟨c, cv, b, fs, rfl, ea, hcv, e, q⟩ := h
  cases r with
  | cons rx rr =>
    cases rr with
    | cons rt rr =>
      cases rr
      cases rx
      have ec := hcv _ rt
      subst ec
      obtain ⟨hget, _⟩ := I.pin (a, oe) (List.mem_append.mpr (.inl List.mem_cons_self))
      obtain ⟨vs, hv⟩ := hf
      have hx : ObjOk X.prog X.w H s.heap d (.xd fs) := I.hok d _ ea
      obtain ⟨mA, hns, hr⟩ := hx
      obtain ⟨od, ho, hl⟩ := lookIn_ns hns
      have J : PySem.W.InstAt s.heap a oe D (some od) := ⟨hget, hz.1, by unfold PySem.W.notCls; rw [hv] <;> rfl, by rw [hz.2]; exact ho⟩
      exact PySem.W.kia_one (kitx_excO C) I.kIn J e (fun z => nomatch z) fun tk => ⟨.bl b, H, I.kept (t' := tk) fun _ _ z => z, rfl, q⟩
end L2
namespace Mi
open PySem PySem.Spec PyProof.Rows L2
/-- isinstance(e, C), e the error with a field that the suite holds -/
def mExIsX (n : Nat) (a d : Addr) (tb : List (Nat × Bool)) (i : Nat) : M W := fun env st => match env[i]? with
  | some (some (.exc a' d' _ _)) => if a' = a ∧ d' = d then (match tb.lookup n with
    | some r => .ok (.bl r) st
    | none => .stuck) else .stuck
  | _ => .stuck
theorem se_exisX {X : Cx} {T : Nat → Addr} {Wx : WX'} {n : Nat} {a d C : Addr} {oe : Obj} {pn : List (Addr × Obj)} {tb : List (Nat × Bool)} {i : Nat} {nm x : Str} {p p1 p2 pos : Pos}
    (hE : ∀ q ∈ tb, ExcC X.K (T q.1)) (hz : Zc (.ref (T n)) (some d) oe) (hf : ∃ vs, oe.data = .fields vs) (hk : ∀ q ∈ tb, PySem.W.kitOne X.K (.ref (T q.1)) (.ref C) = some q.2)
    (hg : Gl (X.suite a ((a, oe) :: pn)) "isinstance") (hm : (X.suite a ((a, oe) :: pn)).mg "isinstance" = none) (hN : (X.suite a ((a, oe) :: pn)).N[i]? = some nm) (hv : Vis (X.suite a ((a, oe) :: pn)).env.scope nm) (hgC : Gl (X.suite a ((a, oe) :: pn)) x) (hmC : (X.suite a ((a, oe) :: pn)).mg x = some (.ref C))
    (hd : (nm == ("__debug__" : Str)) = false := by decide) (hcd : (nm == ("__classdict__" : Str)) = false := by decide) (hdx : (x == ("__debug__" : Str)) = false := by decide)
    (s1 : starEach [.Name nm p1, .Name x p2] (X.suite a ((a, oe) :: pn)).env = (false, eval (.Name nm p1) (X.suite a ((a, oe) :: pn)).env) :: starEach [.Name x p2] (X.suite a ((a, oe) :: pn)).env := by rfl)
    (s2 : starEach [.Name x p2] (X.suite a ((a, oe) :: pn)).env = (false, eval (.Name x p2) (X.suite a ((a, oe) :: pn)).env) :: starEach [] (X.suite a ((a, oe) :: pn)).env := by rfl)
    (hpl : (backTo pos (starEach [.Name x p2] (X.suite a ((a, oe) :: pn)).env)).any (·.1) = false := by rfl) :
    SE (X.suite a ((a, oe) :: pn)) T Wx (.Call (.Name "isinstance" p) [.Name nm p1, .Name x p2] [] pos) (mExIsX n a d tb i) := by
  intro ρ η st env σ H Q s er q
  unfold mExIsX at q
  split at q
  · rename_i b d' f' w' e0
    split at q
    · rename_i eb
      obtain ⟨rfl, rfl⟩ := eb
      cases el : tb.lookup n with
      | none => rw [el] at q; exact q.elim
      | some r =>
        rw [el] at q
        have hmem := lookup_mem el
        obtain ⟨v, e1, r1⟩ := er.2 i _ e0
        simp only [VR] at r1
        obtain ⟨rfl, d1, d2, fs, u, x1, x2, rr⟩ := r1
        refine ⟨_, pe_callB (call_isX (hE _ hmem) hz hf) hg hm (by decide +kernel) (pa_cons (pe_var hN hv hd hcd) (pa_cons (pe_glob (v := .ref C) hgC hmC rfl hdx) pa_nil s2) s1) (by decide) (by decide) s1 hpl, ?_⟩
        exact ⟨_, e1, .ref C, .ref C, r, fs, rfl, x1, fun u h => h, hk _ hmem, After.ok q s (by simp only [VR])⟩
    · exact q.elim
  · exact q.elim
theorem se_exisXB {X : Cx} {T : Nat → Addr} {Wx : WX'} {n : Nat} {a d : Addr} {oe : Obj} {pn : List (Addr × Obj)} {tb : List (Nat × Bool)} {i : Nat} {nm : Str} {t : String} {p p1 p2 pos : Pos}
    (hE : ∀ q ∈ tb, ExcC X.K (T q.1)) (hz : Zc (.ref (T n)) (some d) oe) (hf : ∃ vs, oe.data = .fields vs) (hk : ∀ q ∈ tb, PySem.W.kitOne X.K (.ref (T q.1)) (.type t) = some q.2)
    (hg : Gl (X.suite a ((a, oe) :: pn)) "isinstance") (hm : (X.suite a ((a, oe) :: pn)).mg "isinstance" = none) (hN : (X.suite a ((a, oe) :: pn)).N[i]? = some nm) (hv : Vis (X.suite a ((a, oe) :: pn)).env.scope nm) (hgC : Gl (X.suite a ((a, oe) :: pn)) t) (hmC : (X.suite a ((a, oe) :: pn)).mg t = none) (hbt : bootBuiltins t = some (.type t))
    (hd : (nm == ("__debug__" : Str)) = false := by decide) (hcd : (nm == ("__classdict__" : Str)) = false := by decide) (hn1 : (Str.ofString t) ≠ "__name__" := by decide) (hn2 : (Str.ofString t == ("__debug__" : Str)) = false := by decide)
    (s1 : starEach [.Name nm p1, .Name t p2] (X.suite a ((a, oe) :: pn)).env = (false, eval (.Name nm p1) (X.suite a ((a, oe) :: pn)).env) :: starEach [.Name t p2] (X.suite a ((a, oe) :: pn)).env := by rfl)
    (s2 : starEach [.Name t p2] (X.suite a ((a, oe) :: pn)).env = (false, eval (.Name t p2) (X.suite a ((a, oe) :: pn)).env) :: starEach [] (X.suite a ((a, oe) :: pn)).env := by rfl)
    (hpl : (backTo pos (starEach [.Name t p2] (X.suite a ((a, oe) :: pn)).env)).any (·.1) = false := by rfl) :
    SE (X.suite a ((a, oe) :: pn)) T Wx (.Call (.Name "isinstance" p) [.Name nm p1, .Name t p2] [] pos) (mExIsX n a d tb i) := by
  intro ρ η st env σ H Q s er q
  unfold mExIsX at q
  split at q
  · rename_i b d' f' w' e0
    split at q
    · rename_i eb
      obtain ⟨rfl, rfl⟩ := eb
      cases el : tb.lookup n with
      | none => rw [el] at q; exact q.elim
      | some r =>
        rw [el] at q
        have hmem := lookup_mem el
        obtain ⟨v, e1, r1⟩ := er.2 i _ e0
        simp only [VR] at r1
        obtain ⟨rfl, d1, d2, fs, u, x1, x2, rr⟩ := r1
        refine ⟨_, pe_callB (call_isX (hE _ hmem) hz hf) hg hm (by decide +kernel) (pa_cons (pe_var hN hv hd hcd) (pa_cons (pe_bltn (v := .ty t) hgC hmC hbt rfl hn1 hn2) pa_nil s2) s1) (by decide) (by decide) s1 hpl, ?_⟩
        exact ⟨_, e1, .ty t, .type t, r, fs, rfl, x1, fun u h => h, hk _ hmem, After.ok q s (by simp only [VR])⟩
    · exact q.elim
  · exact q.elim
end Mi
/-! what a run of the mirror comes to -/
namespace Mi
open PySem L2
def wp {α : Type} (r : Rs α) (P : α → Sto → Prop) (E : Xc → Sto → Prop) : Prop := match r with
  | .ok a s => P a s
  | .ex x s => E x s
  | .stuck => False
abbrev KN := Ev → Sto → Prop
abbrev KR := W → Sto → Prop
abbrev KX := Xc → Ev → Sto → Prop
def ws (r : SRs) (N : KN) (R : KR) (B C : KN) (E : KX) : Prop := match r with
  | .nx e s => N e s
  | .rt w s => R w s
  | .bk e s => B e s
  | .ct e s => C e s
  | .ex x e s => E x e s
  | .stuck => False
def NoE : Xc → Sto → Prop := fun _ _ => False
theorem wp_mono {α : Type} {r : Rs α} {P P' : α → Sto → Prop} {E E' : Xc → Sto → Prop} (h : wp r P E) (f : ∀ a s, P a s → P' a s) (g : ∀ x s, E x s → E' x s) : wp r P' E' := by
  cases r with
  | ok a s => exact f a s h
  | ex x s => exact g x s h
  | stuck => exact h
theorem wp_get {α : Type} {r : Rs α} {P : α → Sto → Prop} (h : wp r P NoE) : ∃ a s, r = .ok a s ∧ P a s := by
  cases r with
  | ok a s => exact ⟨a, s, rfl, h⟩
  | ex x s => exact h.elim
  | stuck => exact h.elim
theorem ws_mono {r : SRs} {N N' : KN} {R R' : KR} {B B' C C' : KN} {E E' : KX} (h : ws r N R B C E) (f : ∀ e s, N e s → N' e s) (g : ∀ w s, R w s → R' w s) (b : ∀ e s, B e s → B' e s) (c : ∀ e s, C e s → C' e s) (x : ∀ x e s, E x e s → E' x e s) : ws r N' R' B' C' E' := by
  cases r with
  | nx e s => exact f e s h
  | rt w s => exact g w s h
  | bk e s => exact b e s h
  | ct e s => exact c e s h
  | ex y e s => exact x y e s h
  | stuck => exact h
theorem ws_nx {r : SRs} {N N' : KN} {R : KR} {B C : KN} {E : KX} (h : ws r N R B C E) (f : ∀ e s, N e s → N' e s) : ws r N' R B C E := ws_mono h f (fun _ _ z => z) (fun _ _ z => z) (fun _ _ z => z) (fun _ _ _ z => z)
section
variable {P : W → Sto → Prop} {PB : Bool → Sto → Prop} {PL : List W → Sto → Prop} {E : Xc → Sto → Prop} {env : Ev} {st : Sto}
theorem wp_ok {α : Type} {a : α} {Q : α → Sto → Prop} : wp (.ok a st) Q E ↔ Q a st := Iff.rfl
theorem wp_bind {α β : Type} {r : Rs α} {k : α → Sto → Rs β} {Q : β → Sto → Prop} : wp (r.bind k) Q E ↔ wp r (fun a s => wp (k a s) Q E) E := by cases r <;> exact Iff.rfl
theorem wp_var0 {w : W} {e : Ev} : wp (mVar 0 (some w :: e) st) P E ↔ P w st := Iff.rfl
theorem wp_varS {n : Nat} {o : Option W} {e : Ev} : wp (mVar (n + 1) (o :: e) st) P E ↔ wp (mVar n e st) P E := by
  unfold mVar
  rw [List.getElem?_cons_succ]
theorem wp_c {w : W} : wp (mC w env st) P E ↔ P w st := Iff.rfl
theorem wp_op {f : F2} {a b : M W} : wp (mOp f a b env st) P E ↔ wp (a env st) (fun x s => wp (b env s) (fun y s2 => wp (f x y s2) P E) E) E := by
  unfold mOp; simp only [wp_bind]
theorem wp_neg {a : M W} : wp (mNeg a env st) P E ↔ wp (a env st) (fun x s => wp (match x with | .int i => .ok (.int (-i)) s | _ => .stuck) P E) E := by
  unfold mNeg; simp only [wp_bind] <;> rfl
theorem wp_toB {b : Bool} : wp (toB (.bl b) st) PB E ↔ PB b st := Iff.rfl
theorem wp_mB {a : M W} : wp (mB a env st) PB E ↔ wp (a env st) (fun w s => wp (toB w s) PB E) E := by
  unfold mB; simp only [wp_bind]
def trB (w : W) (s : Sto) : Rs Bool := match trW s w with
  | some b => .ok b s
  | none => .stuck
theorem wp_tr {a : M W} : wp (mTr a env st) PB E ↔ wp (a env st) (fun w s => wp (trB w s) PB E) E := by
  unfold mTr; simp only [wp_bind] <;> rfl
theorem wp_trB_bl {b : Bool} : wp (trB (.bl b) st) PB E ↔ PB b st := Iff.rfl
theorem wp_trB_non : wp (trB .non st) PB E ↔ PB false st := Iff.rfl
theorem wp_trB_int {i : Int} : wp (trB (.int i) st) PB E ↔ PB (i != 0) st := Iff.rfl
theorem wp_not {m : M Bool} : wp (mNot m env st) PB E ↔ wp (m env st) (fun b s => PB (!b) s) E := by
  unfold mNot; simp only [wp_bind, wp_ok]
theorem wp_ite {α : Type} {c : Prop} [Decidable c] {r k : Rs α} {Q : α → Sto → Prop} : wp (if c then r else k) Q E ↔ if c then wp r Q E else wp k Q E := by
  by_cases h : c <;> simp [h]
theorem wp_and {m k : M Bool} : wp (mAnd m k env st) PB E ↔ wp (m env st) (fun b s => if b = true then wp (k env s) PB E else PB false s) E := by
  unfold mAnd; simp only [wp_bind, wp_ite, wp_ok]
theorem wp_or {m k : M Bool} : wp (mOr m k env st) PB E ↔ wp (m env st) (fun b s => if b = true then PB true s else wp (k env s) PB E) E := by
  unfold mOr; simp only [wp_bind, wp_ite, wp_ok]
theorem wp_if {α : Type} {c : M Bool} {a b : M α} {Q : α → Sto → Prop} : wp (mIf c a b env st) Q E ↔ wp (c env st) (fun z s => if z = true then wp (a env s) Q E else wp (b env s) Q E) E := by
  unfold mIf; simp only [wp_bind, wp_ite]
theorem wp_mBl {m : M Bool} : wp (mBl m env st) P E ↔ wp (m env st) (fun b s => P (.bl b) s) E := by
  unfold mBl; simp only [wp_bind, wp_ok]
theorem wp_nil : wp (mNil env st) PL E ↔ PL [] st := Iff.rfl
theorem wp_cons {a : M W} {r : M (List W)} : wp (mCons a r env st) PL E ↔ wp (a env st) (fun x s => wp (r env s) (fun xs s2 => PL (x :: xs) s2) E) E := by
  unfold mCons; simp only [wp_bind, wp_ok]
theorem wp_tup {m : M (List W)} : wp (mTup m env st) P E ↔ wp (m env st) (fun xs s => P (.tup xs) s) E := by
  unfold mTup; simp only [wp_bind, wp_ok]
theorem wp_lst {fz : Bool} {m : M (List W)} : wp (mLst fz m env st) P E ↔ wp (m env st) (fun xs s => wp (newL fz xs s) P E) E := by
  unfold mLst; simp only [wp_bind]
theorem wp_lstS {fz : Bool} {m : M (List W)} : wp (mLstS fz m env st) P E ↔ wp (m env st) (fun xs s => xs.length ≤ sizeLine ∧ wp (newL fz xs s) P E) E := by
  unfold mLstS; simp only [wp_bind]
  constructor
  · intro h
    refine wp_mono h (fun x s h => ?_) (fun _ _ z => z)
    split at h
    · rename_i q; exact ⟨q, h⟩
    · exact h.elim
  · intro h
    refine wp_mono h (fun x s h => ?_) (fun _ _ z => z)
    rw [if_pos h.1]; exact h.2
theorem wp_newL_t {xs : List W} : wp (newL true xs st) P E ↔ P (.lst xs) st := Iff.rfl
theorem wp_newL_f {xs : List W} : wp (newL false xs st) P E ↔ P (.ref st.length) (st ++ [.lst xs]) := Iff.rfl
theorem wp_dict0 : wp (mDict0 env st) P E ↔ P (.ref st.length) (st ++ [.dk []]) := Iff.rfl
theorem wp_chain {f g : F2} {a b c : M W} : wp (mChain f g a b c env st) P E ↔ wp (a env st) (fun x s => wp (b env s) (fun y s2 => wp (f x y s2) (fun z s3 => wp (toB z s3) (fun t s4 => if t = true then wp (c env s4) (fun u s5 => wp (g y u s5) P E) E else P (.bl false) s4) E) E) E) E := by
  unfold mChain; simp only [wp_bind]
  constructor
  · intro h
    refine wp_mono h (fun x s h => wp_mono h (fun y s2 h => wp_mono h (fun z s3 h => ?_) (fun _ _ z => z)) (fun _ _ z => z)) (fun _ _ z => z)
    split at h
    · simpa only [wp_toB, if_true, wp_bind] using h
    · simpa only [wp_toB, if_false, Bool.false_eq_true, wp_ok] using h
    · exact h.elim
  · intro h
    refine wp_mono h (fun x s h => wp_mono h (fun y s2 h => wp_mono h (fun z s3 h => ?_) (fun _ _ z => z)) (fun _ _ z => z)) (fun _ _ z => z)
    cases z with
    | bl t => cases t <;> simpa only [wp_toB, if_true, if_false, Bool.false_eq_true, wp_bind, wp_ok] using h
    | _ => exact h.elim
theorem wp_call {run : RunM} {m : M (List W)} : wp (mCall run m env st) P E ↔ wp (m env st) (fun ws s => wp (run ws s) P E) E := by
  unfold mCall; simp only [wp_bind]
theorem wp_fn {f : FC} {m : M (List W)} : wp (mFn f m env st) P E ↔ wp (m env st) (fun ws s => wp (f ws s) P E) E := by
  unfold mFn; simp only [wp_bind]
theorem wp_sl {fz : Bool} {ma : M W} {ml mh : M (Option Int)} : wp (mSl fz ma ml mh env st) P E ↔ wp (ma env st) (fun a s => wp (ml env s) (fun lo s2 => wp (mh env s2) (fun hi s3 => wp (wSl fz a lo hi s3) P E) E) E) E := by
  unfold mSl; simp only [wp_bind]
theorem wp_noPart {Q : Option Int → Sto → Prop} : wp (mNoPart env st) Q E ↔ Q none st := Iff.rfl
theorem wp_part {Q : Option Int → Sto → Prop} {m : M W} : wp (mPart m env st) Q E ↔ wp (m env st) (fun a s => wp (match a with | .int i => .ok (some i) s | _ => .stuck) Q E) E := by
  unfold mPart; simp only [wp_bind] <;> rfl
theorem wp_comp {fz : Bool} {mi : MI} {vs : List Nat} {t : CT} {cond : M Bool} {elt : M W} : wp (mComp fz mi vs t cond elt env st) P E ↔ wp (mi env st) (fun s st1 => wp (compS s t cond elt (wipeW env vs) s.fuel 0 [] st1) (fun xs st2 => wp (newL fz xs st2) P E) E) E := by
  unfold mComp; simp only [wp_bind]
theorem wp_yes : wp (mYes env st) PB E ↔ PB true st := Iff.rfl
/-! values -/
theorem wp_add {b : Bool} {i j : Int} : wp (wAdd b (.int i) (.int j) st) P E ↔ P (.int (i + j)) st := Iff.rfl
theorem wp_sub {i j : Int} : wp (wSub (.int i) (.int j) st) P E ↔ P (.int (i - j)) st := Iff.rfl
theorem wp_mul {b : Bool} {i j : Int} : wp (wMul b (.int i) (.int j) st) P E ↔ (Mi.small64 i || Mi.small64 j) = true ∧ P (.int (i * j)) st := by
  show wp (if Mi.small64 i || Mi.small64 j then .ok (.int (i * j)) st else .stuck) P E ↔ _
  rw [wp_ite]
  by_cases h : (Mi.small64 i || Mi.small64 j) = true
  · rw [if_pos h]; exact ⟨fun z => ⟨h, z⟩, fun z => z.2⟩
  · rw [if_neg h]; exact ⟨fun z => z.elim, fun z => (h z.1).elim⟩
theorem wp_mod {i j : Int} : wp (wMod (.int i) (.int j) st) P E ↔ j ≠ 0 ∧ P (.int (i.fmod j)) st := by
  show wp (if j ≠ 0 then .ok (.int (i.fmod j)) st else .stuck) P E ↔ _
  rw [wp_ite]
  by_cases h : j ≠ 0
  · rw [if_pos h]; exact ⟨fun z => ⟨h, z⟩, fun z => z.2⟩
  · rw [if_neg h]; exact ⟨fun z => z.elim, fun z => (h z.1).elim⟩
theorem wp_div {i j : Int} : wp (wDiv (.int i) (.int j) st) P E ↔ (j ≠ 0 ∧ j.natAbs < 1073741824) ∧ P (.int (i.fdiv j)) st := by
  show wp (if j ≠ 0 ∧ j.natAbs < 1073741824 then .ok (.int (i.fdiv j)) st else .stuck) P E ↔ _
  rw [wp_ite]
  by_cases h : j ≠ 0 ∧ j.natAbs < 1073741824
  · rw [if_pos h]; exact ⟨fun z => ⟨h, z⟩, fun z => z.2⟩
  · rw [if_neg h]; exact ⟨fun z => z.elim, fun z => (h z.1).elim⟩
theorem wp_divW {i j : Int} : wp (wDivW (.int i) (.int j) st) P E ↔ (0 < j ∧ j.natAbs.log2 < 9000) ∧ P (.int (i / j)) st := by
  show wp (if 0 < j ∧ j.natAbs.log2 < 9000 then .ok (.int (i / j)) st else .stuck) P E ↔ _
  rw [wp_ite]
  by_cases h : 0 < j ∧ j.natAbs.log2 < 9000
  · rw [if_pos h]; exact ⟨fun z => ⟨h, z⟩, fun z => z.2⟩
  · rw [if_neg h]; exact ⟨fun z => z.elim, fun z => (h z.1).elim⟩
theorem wp_pow18 : wp (wPow (.int 10) (.int 18) st) P E ↔ P (.int 1000000000000000000) st := by
  have : wPow (.int 10) (.int 18) st = .ok (.int 1000000000000000000) st := rfl
  rw [this]; exact Iff.rfl
theorem wp_pow17 : wp (wPow (.int 10) (.int 17) st) P E ↔ P (.int 100000000000000000) st := by
  have : wPow (.int 10) (.int 17) st = .ok (.int 100000000000000000) st := rfl
  rw [this]; exact Iff.rfl
theorem wp_pow16 : wp (wPow (.int 10) (.int 16) st) P E ↔ P (.int 10000000000000000) st := by
  have : wPow (.int 10) (.int 16) st = .ok (.int 10000000000000000) st := rfl
  rw [this]; exact Iff.rfl
theorem wp_pow30 : wp (wPow (.int 10) (.int 30) st) P E ↔ P (.int 1000000000000000000000000000000) st := by
  have : wPow (.int 10) (.int 30) st = .ok (.int 1000000000000000000000000000000) st := rfl
  rw [this]; exact Iff.rfl
theorem wp_eqI {i j : Int} : wp (wEq (.int i) (.int j) st) P E ↔ P (.bl (decide (i = j))) st := by
  have : wEq (.int i) (.int j) st = .ok (.bl (decide (i = j))) st := by simp [wEq, eqW, scalV, scal]
  rw [this]; exact Iff.rfl
theorem wp_neI {i j : Int} : wp (wNe (.int i) (.int j) st) P E ↔ P (.bl (!decide (i = j))) st := by
  have : wNe (.int i) (.int j) st = .ok (.bl (!decide (i = j))) st := by simp [wNe, eqW, scalV, scal]
  rw [this]; exact Iff.rfl
theorem wp_cmpI {p : Str → Str → Bool} {q : Int → Int → Bool} {i j : Int} : wp (wCmpS p q (.int i) (.int j) st) P E ↔ P (.bl (q i j)) st := Iff.rfl
theorem wp_isN {a : W} : wp (wIs a .non st) P E ↔ P (.bl (isNon a)) st := Iff.rfl
theorem wp_isNotN {a : W} : wp (wIsNot a .non st) P E ↔ P (.bl (!isNon a)) st := Iff.rfl
theorem wp_lenL {xs : List W} : wp (fLen [.lst xs] st) P E ↔ P (.int xs.length) st := Iff.rfl
theorem wp_lenT {xs : List W} : wp (fLen [.tup xs] st) P E ↔ P (.int xs.length) st := Iff.rfl
theorem wp_abs {i : Int} : wp (fAbs [.int i] st) P E ↔ P (.int (if i < 0 then -i else i)) st := Iff.rfl
theorem wp_int {i : Int} : wp (fInt [.int i] st) P E ↔ P (.int i) st := Iff.rfl
theorem wp_min2 {i j : Int} : wp (fMin2 [.int i, .int j] st) P E ↔ P (.int (if j < i then j else i)) st := Iff.rfl
theorem wp_max2 {i j : Int} : wp (fMax2 [.int i, .int j] st) P E ↔ P (.int (if j > i then j else i)) st := Iff.rfl
theorem wp_listL {xs : List W} : wp (fList true [.lst xs] st) P E ↔ P (.lst xs) st := Iff.rfl
theorem wp_listT {xs : List W} : wp (fList true [.tup xs] st) P E ↔ P (.lst xs) st := Iff.rfl
theorem wp_tupleL {xs : List W} : wp (fTuple [.lst xs] st) P E ↔ P (.tup xs) st := Iff.rfl
theorem wp_tupleT {xs : List W} : wp (fTuple [.tup xs] st) P E ↔ P (.tup xs) st := Iff.rfl
theorem wp_ixL {xs : List W} {n : Nat} {w : W} (e : xs[n]? = some w) : wp (wIx (.lst xs) (.int (n : Int)) st) P E ↔ P w st := by
  have h : n < xs.length := (List.getElem?_eq_some_iff.mp e).1
  have q : xs[n] = w := (List.getElem?_eq_some_iff.mp e).2
  have : wIx (.lst xs) (.int (n : Int)) st = .ok w st := by simp [wIx, dkOf, seqL, wNth, atI, ixN, h, q]
  rw [this]; exact Iff.rfl
theorem wp_ixT {xs : List W} {n : Nat} {w : W} (e : xs[n]? = some w) : wp (wIx (.tup xs) (.int (n : Int)) st) P E ↔ P w st := by
  have h : n < xs.length := (List.getElem?_eq_some_iff.mp e).1
  have q : xs[n] = w := (List.getElem?_eq_some_iff.mp e).2
  have : wIx (.tup xs) (.int (n : Int)) st = .ok w st := by simp [wIx, dkOf, seqL, tupL, wNth, atI, ixN, h, q]
  rw [this]; exact Iff.rfl
theorem wp_ixT0 {w : W} {xs : List W} : wp (wIx (.tup (w :: xs)) (.int 0) st) P E ↔ P w st := wp_ixT (n := 0) rfl
theorem wp_ixT1 {v w : W} {xs : List W} : wp (wIx (.tup (v :: w :: xs)) (.int 1) st) P E ↔ P w st := wp_ixT (n := 1) rfl
theorem wp_ixL0 {w : W} {xs : List W} : wp (wIx (.lst (w :: xs)) (.int 0) st) P E ↔ P w st := wp_ixL (n := 0) rfl
theorem wp_ixR {i n : Nat} {xs : List W} {w : W} (e : st[i]? = some (.lst xs)) (e2 : xs[n]? = some w) : wp (wIx (.ref i) (.int (n : Int)) st) P E ↔ P w st := by
  have h : n < xs.length := (List.getElem?_eq_some_iff.mp e2).1
  have q : xs[n] = w := (List.getElem?_eq_some_iff.mp e2).2
  have : wIx (.ref i) (.int (n : Int)) st = .ok w st := by simp [wIx, dkOf, seqL, e, wNth, atI, ixN, h, q]
  rw [this]; exact Iff.rfl
end
section
variable {N : KN} {R : KR} {B C : KN} {E : KX} {env : Ev} {st : Sto}
theorem ws_to {α : Type} {r : Rs α} {k : α → Sto → SRs} : ws (r.to env k) N R B C E ↔ wp r (fun a s => ws (k a s) N R B C E) (fun x s => E x env s) := by cases r <;> exact Iff.rfl
theorem ws_seq {m k : MS} : ws (sSeq m k env st) N R B C E ↔ ws (m env st) (fun e s => ws (k e s) N R B C E) R B C E := by
  unfold sSeq
  cases m env st <;> exact Iff.rfl
theorem ws_sNx : ws (sNx env st) N R B C E ↔ N env st := Iff.rfl
theorem ws_ret {m : M W} : ws (sRet m env st) N R B C E ↔ wp (m env st) R (fun x s => E x env s) := by
  unfold sRet; rw [ws_to]; exact Iff.rfl
theorem ws_retN : ws (sRetN env st) N R B C E ↔ R .non st := Iff.rfl
theorem ws_expr {m : M W} : ws (sExpr m env st) N R B C E ↔ wp (m env st) (fun _ s => N env s) (fun x s => E x env s) := by
  unfold sExpr; rw [ws_to]; exact Iff.rfl
theorem ws_ite {c : Prop} [Decidable c] {r k : SRs} : ws (if c then r else k) N R B C E ↔ if c then ws r N R B C E else ws k N R B C E := by
  by_cases h : c <;> simp [h]
theorem ws_if {c : M Bool} {m k : MS} : ws (sIf c m k env st) N R B C E ↔ wp (c env st) (fun b s => if b = true then ws (m env s) N R B C E else ws (k env s) N R B C E) (fun x s => E x env s) := by
  unfold sIf; simp only [ws_to, ws_ite]
theorem ws_set {i : Nat} {m : M W} : ws (sAsg m (gName' i) env st) N R B C E ↔ wp (m env st) (fun w s => N (env.set i (some w)) s) (fun x s => E x env s) := by
  unfold sAsg; rw [ws_to]; exact Iff.rfl
def stR (o i w : W) (s : Sto) : Rs Unit := match wStore o i w s with
  | some s3 => .ok () s3
  | none => .stuck
theorem wp_stR {o i w : W} {s s3 : Sto} {P : Unit → Sto → Prop} {E : Xc → Sto → Prop} (e : wStore o i w s = some s3) : wp (stR o i w s) P E ↔ P () s3 := by
  unfold stR; rw [e]; exact Iff.rfl
theorem ws_sub {mo mi : M W} {m : M W} : ws (sAsg m (gSub' mo mi) env st) N R B C E ↔ wp (m env st) (fun w s => wp (mo env s) (fun o s1 => wp (mi env s1) (fun i s2 => wp (stR o i w s2) (fun _ s3 => N env s3) NoE) NoE) NoE) (fun x s => E x env s) := by
  unfold sAsg; rw [ws_to]
  have e : ∀ w s, ws (gDo (gSub' mo mi w env s)) N R B C E ↔ wp (mo env s) (fun o s1 => wp (mi env s1) (fun i s2 => wp (stR o i w s2) (fun _ s3 => N env s3) NoE) NoE) NoE := by
    intro w s
    unfold gSub' stR
    cases h1 : mo env s with
    | ok o s1 =>
      cases h2 : mi env s1 with
      | ok i s2 =>
        cases h3 : wStore o i w s2 with
        | some s3 => simp only [h2, h3, wp]; exact Iff.rfl
        | none => simp only [h2, h3, wp]; exact Iff.rfl
      | ex x s2 => simp only [h2, wp]; exact Iff.rfl
      | stuck => simp only [h2, wp]; exact Iff.rfl
    | ex x s2 => exact Iff.rfl
    | stuck => exact Iff.rfl
  simp only [e]
theorem ws_for {mi : MI} {g : MG} {b : MS} : ws (sFor mi g b env st) N R B C E ↔ wp (mi env st) (fun s st1 => ws (forS s g b s.fuel 0 env st1) N R B C E) (fun x s => E x env s) := by
  unfold sFor; rw [ws_to]
/-- a walk over things that stand still -/
theorem forS_fix {xs : List W} {g : MG} {b : MS} (inv : Nat → KN) (h0 : inv 0 env st)
    (step : ∀ (i : Nat) (w : W), xs[i]? = some w → ∀ env st, inv i env st → ∃ env1 st1, g w env st = some (env1, st1) ∧ ws (b env1 st1) (inv (i + 1)) R N (inv (i + 1)) E)
    (fin : ∀ env st, inv xs.length env st → N env st) : ws (forS (fixS xs) g b (fixS xs).fuel 0 env st) N R B C E := by
  suffices H : ∀ m i env st, xs.length < i + m → i ≤ xs.length → inv i env st → ws (forS (fixS xs) g b m i env st) N R B C E by
    refine H _ _ _ _ ?_ (Nat.zero_le _) h0
    show xs.length < 0 + (xs.length + 1)
    omega
  intro m
  induction m with
  | zero => intro i env st h1 h2; omega
  | succ m ih =>
    intro i env st h1 h2 hi
    show ws (match (some xs[i]? : Option (Option W)) with | some (some w) => _ | some none => _ | none => _) N R B C E
    by_cases e : i = xs.length
    · rw [List.getElem?_eq_none (by omega)]
      subst e
      exact fin env st hi
    · have hl : i < xs.length := by omega
      rw [List.getElem?_eq_getElem hl]
      obtain ⟨env1, st1, e1, q⟩ := step i xs[i] (List.getElem?_eq_getElem hl) env st hi
      simp only [e1]
      cases e2 : b env1 st1 with
      | nx e s => rw [e2] at q; exact ih (i + 1) e s (by omega) (by omega) q
      | ct e s => rw [e2] at q; exact ih (i + 1) e s (by omega) (by omega) q
      | bk e s => rw [e2] at q; exact q
      | rt w s => rw [e2] at q; exact q
      | ex x e s => rw [e2] at q; exact q
      | stuck => rw [e2] at q; exact q
end
section
variable {Q : List W → Sto → Prop} {E : Xc → Sto → Prop} {env : Ev} {st : Sto}
/-- a comprehension over things that stand still -/
theorem compS_fix {xs : List W} {t : CT} {cond : M Bool} {elt : M W} (inv : Nat → List W → Sto → Prop) (h0 : inv 0 [] st) (hl : xs.length ≤ sizeLine)
    (hacc : ∀ i acc st, inv i acc st → acc.length ≤ i)
    (step : ∀ (i : Nat) (w : W), xs[i]? = some w → ∀ acc st, inv i acc st → ∃ env1, t.put w env = some env1 ∧ wp (cond env1 st) (fun c s => if c = true then wp (elt env1 s) (fun v s2 => inv (i + 1) (acc ++ [v]) s2) NoE else inv (i + 1) acc s) NoE)
    (fin : ∀ acc st, inv xs.length acc st → Q acc st) : wp (compS (fixS xs) t cond elt env (fixS xs).fuel 0 [] st) Q E := by
  suffices H : ∀ m i acc st, xs.length < i + m → i ≤ xs.length → inv i acc st → wp (compS (fixS xs) t cond elt env m i acc st) Q E by
    refine H _ _ _ _ ?_ (Nat.zero_le _) h0
    show xs.length < 0 + (xs.length + 1)
    omega
  intro m
  induction m with
  | zero => intro i acc st h1 h2; omega
  | succ m ih =>
    intro i acc st h1 h2 hi
    show wp (match (some xs[i]? : Option (Option W)) with | some (some w) => _ | some none => _ | none => _) Q E
    by_cases e : i = xs.length
    · rw [List.getElem?_eq_none (by omega)]
      subst e
      exact fin acc st hi
    · have hx : i < xs.length := by omega
      rw [List.getElem?_eq_getElem hx]
      obtain ⟨env1, e1, q⟩ := step i xs[i] (List.getElem?_eq_getElem hx) acc st hi
      obtain ⟨c, s, e2, q⟩ := wp_get q
      simp only [e1, e2]
      cases c with
      | false => exact ih (i + 1) acc s (by omega) (by omega) q
      | true =>
        obtain ⟨v, s2, e3, q⟩ := wp_get q
        have := hacc i acc st hi
        simp only [e3]
        rw [if_pos (by omega)]
        exact ih (i + 1) (acc ++ [v]) s2 (by omega) (by omega) q
end
section
variable {P : Src → Sto → Prop} {E : Xc → Sto → Prop} {env : Ev} {st : Sto}
def srcL (w : W) (s : Sto) : Rs Src := match w with
  | .lst xs => .ok (fixS xs) s
  | .scr xs => .ok (fixS xs) s
  | .tup xs => .stuck
  | .ref n => match s[n]? with
    | some (.lst xs) => .ok (nodS n xs.length) s
    | _ => .stuck
  | _ => .stuck
def srcA (w : W) (s : Sto) : Rs Src := match w with
  | .tup xs => .ok (fixS xs) s
  | w => srcL w s
theorem wp_iL {m : M W} : wp (iL m env st) P E ↔ wp (m env st) (fun w s => wp (srcL w s) P E) E := by
  unfold iL; rw [wp_bind] <;> exact Iff.rfl
theorem wp_iT {m : M W} : wp (iT m env st) P E ↔ wp (m env st) (fun w s => wp (match w with | .tup xs => .ok (fixS xs) s | _ => .stuck) P E) E := by
  unfold iT; rw [wp_bind] <;> exact Iff.rfl
theorem wp_iA {m : M W} : wp (iA m env st) P E ↔ wp (m env st) (fun w s => wp (srcA w s) P E) E := by
  unfold iA
  cases e : m env st with
  | ok w s =>
    cases w with
    | tup xs => simp only [wp_iT, e]; exact Iff.rfl
    | _ => simp only [wp_iL, e]; exact Iff.rfl
  | ex x s => simp only [wp_iL, e]; exact Iff.rfl
  | stuck => simp only [wp_iL, e]; exact Iff.rfl
theorem wp_srcL {xs : List W} : wp (srcL (.lst xs) st) P E ↔ P (fixS xs) st := Iff.rfl
theorem wp_srcS {xs : List W} : wp (srcL (.scr xs) st) P E ↔ P (fixS xs) st := Iff.rfl
theorem wp_srcAL {xs : List W} : wp (srcA (.lst xs) st) P E ↔ P (fixS xs) st := Iff.rfl
theorem wp_srcAT {xs : List W} : wp (srcA (.tup xs) st) P E ↔ P (fixS xs) st := Iff.rfl
def rng1 (ws : List W) (s : Sto) : Rs Src := match ws with
  | [.int j] => if small62 j then .ok (fixS (rngW 0 j.toNat)) s else .stuck
  | _ => .stuck
def rng2 (ws : List W) (s : Sto) : Rs Src := match ws with
  | [.int i, .int j] => if small62 i ∧ small62 j then .ok (fixS (rngW i (j - i).toNat)) s else .stuck
  | _ => .stuck
theorem wp_iR1 {m : M (List W)} : wp (iR1 m env st) P E ↔ wp (m env st) (fun w s => wp (rng1 w s) P E) E := by
  unfold iR1; rw [wp_bind] <;> exact Iff.rfl
theorem wp_iR2 {m : M (List W)} : wp (iR2 m env st) P E ↔ wp (m env st) (fun w s => wp (rng2 w s) P E) E := by
  unfold iR2; rw [wp_bind] <;> exact Iff.rfl
theorem wp_rng1 {j : Int} : wp (rng1 [.int j] st) P E ↔ Mi.small62 j = true ∧ P (fixS (rngW 0 j.toNat)) st := by
  show wp (if Mi.small62 j then .ok (fixS (rngW 0 j.toNat)) st else .stuck) P E ↔ _
  rw [wp_ite]
  by_cases h : Mi.small62 j = true
  · rw [if_pos h]; exact ⟨fun z => ⟨h, z⟩, fun z => z.2⟩
  · rw [if_neg h]; exact ⟨fun z => z.elim, fun z => (h z.1).elim⟩
theorem wp_rng2 {i j : Int} : wp (rng2 [.int i, .int j] st) P E ↔ (Mi.small62 i ∧ Mi.small62 j) ∧ P (fixS (rngW i (j - i).toNat)) st := by
  show wp (if small62 i ∧ small62 j then .ok (fixS (rngW i (j - i).toNat)) st else .stuck) P E ↔ _
  rw [wp_ite]
  by_cases h : (Mi.small62 i ∧ Mi.small62 j : Prop)
  · rw [if_pos h]; exact ⟨fun z => ⟨h, z⟩, fun z => z.2⟩
  · rw [if_neg h]; exact ⟨fun z => z.elim, fun z => (h z.1).elim⟩
def srcR (w : W) (s : Sto) : Rs Src := match w with
  | .lst xs => .ok (fixS xs.reverse) s
  | .tup xs => .ok (fixS xs.reverse) s
  | _ => .stuck
theorem wp_iRv {m : M W} : wp (iRv m env st) P E ↔ wp (m env st) (fun w s => wp (srcR w s) P E) E := by
  unfold iRv; rw [wp_bind] <;> exact Iff.rfl
theorem wp_srcRL {xs : List W} : wp (srcR (.lst xs) st) P E ↔ P (fixS xs.reverse) st := Iff.rfl
theorem wp_srcRT {xs : List W} : wp (srcR (.tup xs) st) P E ↔ P (fixS xs.reverse) st := Iff.rfl
/-- what enumerate tells -/
def enL (xs : List W) : List W := (List.range xs.length).map fun (i : Nat) => W.tup [.int i, xs.getD i .non]
theorem enL_at {xs : List W} {i : Nat} {s : Sto} : (enumW (fixS xs)).at_ i s = (fixS (enL xs)).at_ i s := by
  show (match (some xs[i]? : Option (Option W)) with | some (some w) => some (some (.tup [.int i, w])) | some none => some none | none => none) = some (enL xs)[i]?
  unfold enL
  rw [List.getElem?_map]
  by_cases h : i < xs.length
  · rw [List.getElem?_eq_getElem h, List.getElem?_eq_getElem (by simpa using h)]
    simp [List.getD, h]
  · rw [List.getElem?_eq_none (by omega), List.getElem?_eq_none (by simp; omega)]
    rfl
theorem en_src {xs : List W} : enumW (fixS xs) = fixS (enL xs) := by
  have e1 : (enumW (fixS xs)).fuel = (fixS (enL xs)).fuel := by simp [enumW, fixS, enL]
  have e2 : (enumW (fixS xs)).at_ = (fixS (enL xs)).at_ := by funext i s; exact enL_at
  cases h : enumW (fixS xs)
  cases k : fixS (enL xs)
  rw [h, k] at e1 e2
  simp only at e1 e2
  rw [e1, e2]
def srcE (ws : List W) (s : Sto) : Rs Src := match ws with
  | [.tup xs] => .ok (fixS (enL xs)) s
  | [.lst xs] => .ok (fixS (enL xs)) s
  | [.scr xs] => .ok (fixS (enL xs)) s
  | [.ref n] => match s[n]? with
    | some (.lst xs) => .ok (enumW (nodS n xs.length)) s
    | _ => .stuck
  | _ => .stuck
theorem iE_src {m : M (List W)} : iE m env st = (m env st).bind fun ws s => match ws with | [.tup _] => .stuck | ws => srcE ws s := by
  unfold iE
  cases m env st with
  | ok ws s =>
    show (match ws with | [w] => _ | _ => _) = _
    cases ws with
    | nil => rfl
    | cons w r =>
      cases r with
      | nil =>
        cases w with
        | ref n =>
          show (match srcOf s (.ref n) with | some src => Rs.ok (enumW src) s | none => .stuck) = srcE [.ref n] s
          simp only [srcOf, srcE]
          cases s[n]? with
          | none => rfl
          | some nd => cases nd <;> rfl
        | lst xs =>
          show Rs.ok (enumW (fixS xs)) s = srcE [.lst xs] s
          rw [en_src]; rfl
        | scr xs =>
          show Rs.ok (enumW (fixS xs)) s = srcE [.scr xs] s
          rw [en_src]; rfl
        | _ => rfl
      | cons a b => cases w <;> rfl
  | ex x s => rfl
  | stuck => rfl
theorem wp_iEA {m : M (List W)} : wp (iEA m env st) P E ↔ wp (m env st) (fun ws s => wp (srcE ws s) P E) E := by
  unfold iEA
  cases e : m env st with
  | ok ws s =>
    have k : wp (iE m env st) P E ↔ wp (match ws with | [.tup _] => .stuck | ws => srcE ws s) P E := by rw [iE_src, e]; exact Iff.rfl
    have k2 : wp (iET m env st) P E ↔ wp (match ws with | [.tup xs] => .ok (enumW (fixS xs)) s | _ => .stuck) P E := by unfold iET; rw [e]; exact Iff.rfl
    cases ws with
    | nil => exact k
    | cons w r =>
      cases r with
      | cons a b => cases w <;> exact k
      | nil =>
        cases w with
        | tup xs =>
          refine k2.trans ?_
          show P (enumW (fixS xs)) s ↔ P (fixS (enL xs)) s
          rw [en_src]
        | _ => exact k
  | ex x s =>
    show wp (iE m env st) P E ↔ _
    rw [iE_src, e]; exact Iff.rfl
  | stuck =>
    show wp (iE m env st) P E ↔ _
    rw [iE_src, e]; exact Iff.rfl
theorem wp_srcEL {xs : List W} : wp (srcE [.lst xs] st) P E ↔ P (fixS (enL xs)) st := Iff.rfl
theorem wp_srcET {xs : List W} : wp (srcE [.tup xs] st) P E ↔ P (fixS (enL xs)) st := Iff.rfl
end
theorem rng_get {lo : Int} {n i : Nat} {w : W} (e : (rngW lo n)[i]? = some w) : w = .int (lo + i) ∧ i < n := by
  unfold rngW at e
  rw [List.getElem?_map] at e
  by_cases h : i < n
  · rw [List.getElem?_eq_getElem (by simpa using h)] at e
    simp at e
    exact ⟨e.symm, h⟩
  · rw [List.getElem?_eq_none (by simp; omega)] at e
    simp at e
theorem wp_cut63 {xs : List W} {st : Sto} {P : W → Sto → Prop} {E : Xc → Sto → Prop} : wp (wSl true (.scr xs) none (some 63) st) P E ↔ P (.lst (xs.take 63)) st := by
  have : wSl true (.scr xs) none (some 63) st = .ok (.lst (xs.take 63)) st := by
    simp only [wSl, seqL, newL, cutW, if_true]
    have e1 : HT.sIx xs.length 0 none = 0 := rfl
    have e2 : HT.sIx xs.length xs.length (some 63) = min 63 xs.length := by
      rw [show (63 : Int) = ((63 : Nat) : Int) by rfl, HT.sIx_nat]
    rw [e1, e2]
    simp only [Nat.sub_zero, List.drop_zero]
    by_cases h : 63 ≤ xs.length
    · rw [Nat.min_eq_left h]
    · rw [Nat.min_eq_right (by omega), List.take_of_length_le (Nat.le_refl _), List.take_of_length_le (by omega)]
  rw [this]; exact Iff.rfl
/-- a def's run -/
theorem wp_run {n : Nat} {m : MS} {ws' : List W} {st : Sto} {P : W → Sto → Prop} {E : Xc → Sto → Prop} :
    wp (runOf n m ws' st) P E ↔ ws (m (ws'.map some ++ List.replicate (n - ws'.length) none) st) (fun _ s => P .non s) P (fun _ _ => False) (fun _ _ => False) (fun x _ s => E x s) := by
  unfold runOf outOf
  cases m (ws'.map some ++ List.replicate (n - ws'.length) none) st <;> exact Iff.rfl
end Mi
/-! more of what a run of the mirror comes to -/
namespace Mi
open PySem L2
section
variable {N : KN} {R : KR} {B C : KN} {E : KX} {env : Ev} {st : Sto}
end
section
variable {Q : List W → Sto → Prop} {E : Xc → Sto → Prop} {env : Ev} {st : Sto}
end
section
variable {P : W → Sto → Prop} {E : Xc → Sto → Prop} {env : Ev} {st : Sto}
theorem bls_b : ∀ bs : List Bool, blsOf (bs.map W.bl) = some bs
  | [] => rfl
  | b :: bs => by simp only [List.map_cons, blsOf, bls_b bs, Option.map_some]
theorem wp_all {bs : List Bool} : wp (fAll [.lst (bs.map W.bl)] st) P E ↔ P (.bl (bs.all id)) st := by
  have : fAll [.lst (bs.map W.bl)] st = .ok (.bl (bs.all id)) st := by simp only [fAll, seqL, bls_b]
  rw [this]; exact Iff.rfl
theorem wp_any {bs : List Bool} : wp (fAny [.lst (bs.map W.bl)] st) P E ↔ P (.bl (bs.any id)) st := by
  have : fAny [.lst (bs.map W.bl)] st = .ok (.bl (bs.any id)) st := by simp only [fAny, seqL, bls_b]
  rw [this]; exact Iff.rfl
theorem wp_isB {a : W} {c : Bool} : wp (wIs a (.bl c) st) P E ↔ P (.bl (isBl c a)) st := Iff.rfl
theorem wp_isNotB {a : W} {c : Bool} : wp (wIsNot a (.bl c) st) P E ↔ P (.bl (!isBl c a)) st := Iff.rfl
theorem wp_eqB {a b : Bool} : wp (wEq (.bl a) (.bl b) st) P E ↔ P (.bl (decide (a = b))) st := by
  have : wEq (.bl a) (.bl b) st = .ok (.bl (decide (a = b))) st := by cases a <;> cases b <;> rfl
  rw [this]; exact Iff.rfl
theorem wp_neB {a b : Bool} : wp (wNe (.bl a) (.bl b) st) P E ↔ P (.bl (!decide (a = b))) st := by
  have : wNe (.bl a) (.bl b) st = .ok (.bl (!decide (a = b))) st := by cases a <;> cases b <;> rfl
  rw [this]; exact Iff.rfl
/-- slices -/
theorem wp_slT {fz : Bool} {xs : List W} {lo hi : Option Int} : wp (wSl fz (.tup xs) lo hi st) P E ↔ P (.tup (cutW xs lo hi)) st := Iff.rfl
theorem wp_slL {xs : List W} {lo hi : Option Int} : wp (wSl true (.lst xs) lo hi st) P E ↔ P (.lst (cutW xs lo hi)) st := Iff.rfl
theorem wp_rev {fz : Bool} {m : M W} : wp (mRev fz m env st) P E ↔ wp (m env st) (fun a s => wp (wRevA fz a s) P E) E := by
  unfold mRev; simp only [wp_bind]
theorem wp_revT {fz : Bool} {xs : List W} : wp (wRevA fz (.tup xs) st) P E ↔ P (.tup xs.reverse) st := Iff.rfl
theorem wp_revL {xs : List W} : wp (wRevA true (.lst xs) st) P E ↔ P (.lst xs.reverse) st := Iff.rfl
theorem wp_disp {m : M (List (Key × W))} : wp (mDisp m env st) P E ↔ wp (m env st) (fun kvs s => kvs.length ≤ 15 ∧ P (.ref s.length) (s ++ [.dk (mergeKW [] kvs)])) NoE := by
  unfold mDisp
  cases m env st with
  | ok kvs s =>
    show wp (if kvs.length ≤ 15 then newD (mergeKW [] kvs) s else .stuck) P E ↔ _
    rw [wp_ite]
    by_cases h : kvs.length ≤ 15
    · simp only [h, if_true, true_and, wp_ok]; exact Iff.rfl
    · simp only [h, if_false, false_and, wp_ok]; exact Iff.rfl
  | ex x s => exact Iff.rfl
  | stuck => exact Iff.rfl
theorem wp_pair0 {Q : List (Key × W) → Sto → Prop} : wp (mPair0 env st) Q E ↔ Q [] st := Iff.rfl
theorem wp_pair {Q : List (Key × W) → Sto → Prop} {mk mv : M W} {mr : M (List (Key × W))} : wp (mPair mk mv mr env st) Q E ↔ wp (mk env st) (fun k s => wp (mv env s) (fun v s2 => ∃ kk, keyOf k = some kk ∧ wp (mr env s2) (fun r s3 => Q ((kk, v) :: r) s3) E) E) E := by
  unfold mPair; simp only [wp_bind]
  constructor
  · intro h
    refine wp_mono h (fun k s h => wp_mono h (fun v s2 h => ?_) (fun _ _ z => z)) (fun _ _ z => z)
    split at h
    · rename_i kk e; exact ⟨kk, e, by simpa only [wp_bind, wp_ok] using h⟩
    · exact h.elim
  · intro h
    refine wp_mono h (fun k s h => wp_mono h (fun v s2 h => ?_) (fun _ _ z => z)) (fun _ _ z => z)
    obtain ⟨kk, e, h⟩ := h
    rw [e]
    simpa only [wp_bind, wp_ok] using h
end
end Mi
/-! errors in a run of the mirror -/
namespace Mi
open PySem L2
section
variable {N : KN} {R : KR} {B C : KN} {E : KX} {env : Ev} {st : Sto}
end
end Mi
/-! objects, dicts, while loops in a run of the mirror -/
namespace Mi
open PySem L2
/-! objects -/
section
variable {P : W → Sto → Prop} {PB : Bool → Sto → Prop} {PL : List W → Sto → Prop} {E : Xc → Sto → Prop} {env : Ev} {st : Sto}
end
section
variable {N : KN} {R : KR} {B C : KN} {E : KX} {env : Ev} {st : Sto}
/-! while -/
end
/-! dicts -/
section
variable {P : W → Sto → Prop} {PB : Bool → Sto → Prop} {E : Xc → Sto → Prop} {env : Ev} {st : Sto}
end
end Mi
namespace Lw
open PySem PySem.Spec PyProof.Rows L2 Mi
/-! the text by places -/
def top (i : Nat) : Stmt := PySem.Challenge.pw_wholecommits_k56_checks_refused.main.body.getD i (.Pass ⟨0, 0, 0, 0⟩)
abbrev s_law_hand : Stmt := top 40
abbrev N_law_hand : List Str := ["script", "cells", "cell"]
theorem sc_law_hand : FnScope N_law_hand ["script"] (defScope s_law_hand) := ⟨rfl, rfl, rfl, by decide +kernel, rfl, by decide +kernel, by decide +kernel⟩
abbrev s_law_draw : Stmt := top 41
abbrev N_law_draw : List Str := ["hand", "many", "cell", "digit", "number"]
theorem sc_law_draw : FnScope N_law_draw ["hand", "many"] (defScope s_law_draw) := ⟨rfl, rfl, rfl, by decide +kernel, rfl, by decide +kernel, by decide +kernel⟩
abbrev s_law_deep : Stmt := top 48
abbrev N_law_deep : List Str := ["hand", "found", "turn"]
theorem sc_law_deep : FnScope N_law_deep ["hand"] (defScope s_law_deep) := ⟨rfl, rfl, rfl, by decide +kernel, rfl, by decide +kernel, by decide +kernel⟩
abbrev s_law_odd : Stmt := top 49
abbrev N_law_odd : List Str := ["hand", "right", "menu"]
theorem sc_law_odd : FnScope N_law_odd ["hand", "right"] (defScope s_law_odd) := ⟨rfl, rfl, rfl, by decide +kernel, rfl, by decide +kernel, by decide +kernel⟩
abbrev s_law_is_int : Stmt := top 43
abbrev N_law_is_int : List Str := ["thing", "least", "most"]
theorem sc_law_is_int : FnScope N_law_is_int ["thing", "least", "most"] (defScope s_law_is_int) := ⟨rfl, rfl, rfl, by decide +kernel, rfl, by decide +kernel, by decide +kernel⟩
abbrev s_law_word : Stmt := top 42
abbrev N_law_word : List Str := ["call", "word", "e", "flags"]
theorem sc_law_word : FnScope N_law_word ["call"] (defScope s_law_word) := ⟨rfl, rfl, rfl, by decide +kernel, rfl, by decide +kernel, by decide +kernel⟩
abbrev s_is_integer : Stmt := top 13
abbrev N_is_integer : List Str := ["thing"]
theorem sc_is_integer : FnScope N_is_integer ["thing"] (defScope s_is_integer) := ⟨rfl, rfl, rfl, by decide +kernel, rfl, by decide +kernel, by decide +kernel⟩
abbrev s_is_number : Stmt := top 15
abbrev N_is_number : List Str := ["thing"]
theorem sc_is_number : FnScope N_is_number ["thing"] (defScope s_is_number) := ⟨rfl, rfl, rfl, by decide +kernel, rfl, by decide +kernel, by decide +kernel⟩
abbrev s_Check_init : Stmt := inClass (top 38) 0
abbrev N_Check_init : List Str := ["self", "last"]
theorem sc_Check_init : FnScope N_Check_init ["self", "last"] (defScope s_Check_init) := ⟨rfl, rfl, rfl, by decide +kernel, rfl, by decide +kernel, by decide +kernel⟩
abbrev s_is_within : Stmt := top 14
abbrev N_is_within : List Str := ["low", "high", "thing"]
theorem sc_is_within : FnScope N_is_within ["low", "high", "thing"] (defScope s_is_within) := ⟨rfl, rfl, rfl, by decide +kernel, rfl, by decide +kernel, by decide +kernel⟩
abbrev s_Check_least_snapshot : Stmt := inClass (top 38) 11
abbrev N_Check_least_snapshot : List Str := ["self"]
theorem sc_Check_least_snapshot : FnScope N_Check_least_snapshot ["self"] (defScope s_Check_least_snapshot) := ⟨rfl, rfl, rfl, by decide +kernel, rfl, by decide +kernel, by decide +kernel⟩
abbrev s_Check_opens : Stmt := inClass (top 38) 1
abbrev N_Check_opens : List Str := ["self", "snapshot", "entry"]
theorem sc_Check_opens : FnScope N_Check_opens ["self", "snapshot"] (defScope s_Check_opens) := ⟨rfl, rfl, rfl, by decide +kernel, rfl, by decide +kernel, by decide +kernel⟩
abbrev s_Check_demand_open : Stmt := inClass (top 38) 10
abbrev N_Check_demand_open : List Str := ["self", "entry"]
theorem sc_Check_demand_open : FnScope N_Check_demand_open ["self", "entry"] (defScope s_Check_demand_open) := ⟨rfl, rfl, rfl, by decide +kernel, rfl, by decide +kernel, by decide +kernel⟩
abbrev s_is_word : Stmt := top 16
abbrev N_is_word : List Str := ["thing", "sign"]
theorem sc_is_word : FnScope N_is_word ["thing"] (defScope s_is_word) := ⟨rfl, rfl, rfl, by decide +kernel, rfl, by decide +kernel, by decide +kernel⟩
abbrev s_is_key : Stmt := top 17
abbrev N_is_key : List Str := ["thing"]
theorem sc_is_key : FnScope N_is_key ["thing"] (defScope s_is_key) := ⟨rfl, rfl, rfl, by decide +kernel, rfl, by decide +kernel, by decide +kernel⟩
abbrev s_is_tuple_of_is_key : Stmt := top 21
abbrev N_is_tuple_of_is_key : List Str := ["judge", "thing", "item"]
theorem sc_is_tuple_of_is_key : FnScope N_is_tuple_of_is_key ["judge", "thing"] (defScope s_is_tuple_of_is_key) := ⟨rfl, rfl, rfl, by decide +kernel, rfl, by decide +kernel, by decide +kernel⟩
abbrev s_is_ascending : Stmt := top 22
abbrev N_is_ascending : List Str := ["row", "at"]
theorem sc_is_ascending : FnScope N_is_ascending ["row"] (defScope s_is_ascending) := ⟨rfl, rfl, rfl, by decide +kernel, rfl, by decide +kernel, by decide +kernel⟩
abbrev s_is_keys : Stmt := top 23
abbrev N_is_keys : List Str := ["thing"]
theorem sc_is_keys : FnScope N_is_keys ["thing"] (defScope s_is_keys) := ⟨rfl, rfl, rfl, by decide +kernel, rfl, by decide +kernel, by decide +kernel⟩
abbrev s_is_tuple : Stmt := top 20
abbrev N_is_tuple : List Str := ["many", "thing"]
theorem sc_is_tuple : FnScope N_is_tuple ["many", "thing"] (defScope s_is_tuple) := ⟨rfl, rfl, rfl, by decide +kernel, rfl, by decide +kernel, by decide +kernel⟩
abbrev s_is_range : Stmt := top 24
abbrev N_is_range : List Str := ["thing", "low", "high", "own", "key"]
theorem sc_is_range : FnScope N_is_range ["thing"] (defScope s_is_range) := ⟨rfl, rfl, rfl, by decide +kernel, rfl, by decide +kernel, by decide +kernel⟩
abbrev s_is_tuple_of_is_range : Stmt := top 21
abbrev N_is_tuple_of_is_range : List Str := ["judge", "thing", "item"]
theorem sc_is_tuple_of_is_range : FnScope N_is_tuple_of_is_range ["judge", "thing"] (defScope s_is_tuple_of_is_range) := ⟨rfl, rfl, rfl, by decide +kernel, rfl, by decide +kernel, by decide +kernel⟩
abbrev s_is_ranges : Stmt := top 25
abbrev N_is_ranges : List Str := ["thing"]
theorem sc_is_ranges : FnScope N_is_ranges ["thing"] (defScope s_is_ranges) := ⟨rfl, rfl, rfl, by decide +kernel, rfl, by decide +kernel, by decide +kernel⟩
abbrev s_is_worth : Stmt := top 18
abbrev N_is_worth : List Str := ["thing"]
theorem sc_is_worth : FnScope N_is_worth ["thing"] (defScope s_is_worth) := ⟨rfl, rfl, rfl, by decide +kernel, rfl, by decide +kernel, by decide +kernel⟩
abbrev s_is_mark : Stmt := top 19
abbrev N_is_mark : List Str := ["thing"]
theorem sc_is_mark : FnScope N_is_mark ["thing"] (defScope s_is_mark) := ⟨rfl, rfl, rfl, by decide +kernel, rfl, by decide +kernel, by decide +kernel⟩
abbrev s_is_write : Stmt := top 26
abbrev N_is_write : List Str := ["thing"]
theorem sc_is_write : FnScope N_is_write ["thing"] (defScope s_is_write) := ⟨rfl, rfl, rfl, by decide +kernel, rfl, by decide +kernel, by decide +kernel⟩
abbrev s_is_tuple_of_is_write : Stmt := top 21
abbrev N_is_tuple_of_is_write : List Str := ["judge", "thing", "item"]
theorem sc_is_tuple_of_is_write : FnScope N_is_tuple_of_is_write ["judge", "thing"] (defScope s_is_tuple_of_is_write) := ⟨rfl, rfl, rfl, by decide +kernel, rfl, by decide +kernel, by decide +kernel⟩
abbrev s_is_writes : Stmt := top 27
abbrev N_is_writes : List Str := ["thing", "row"]
theorem sc_is_writes : FnScope N_is_writes ["thing"] (defScope s_is_writes) := ⟨rfl, rfl, rfl, by decide +kernel, rfl, by decide +kernel, by decide +kernel⟩
abbrev s_is_number_for : Stmt := top 36
abbrev N_is_number_for : List Str := ["snapshot", "writes", "thing"]
theorem sc_is_number_for : FnScope N_is_number_for ["snapshot", "writes", "thing"] (defScope s_is_number_for) := ⟨rfl, rfl, rfl, by decide +kernel, rfl, by decide +kernel, by decide +kernel⟩
abbrev s_Dealing_init : Stmt := inClass (top 35) 0
abbrev N_Dealing_init : List Str := ["self", "snapshot", "number", "gets", "ranges", "writes"]
theorem sc_Dealing_init : FnScope N_Dealing_init ["self", "snapshot", "number", "gets", "ranges", "writes"] (defScope s_Dealing_init) := ⟨rfl, rfl, rfl, by decide +kernel, rfl, by decide +kernel, by decide +kernel⟩
abbrev s_writes_key : Stmt := top 29
abbrev N_writes_key : List Str := ["dealing", "key", "row"]
theorem sc_writes_key : FnScope N_writes_key ["dealing", "key"] (defScope s_writes_key) := ⟨rfl, rfl, rfl, by decide +kernel, rfl, by decide +kernel, by decide +kernel⟩
abbrev s_saw_key : Stmt := top 30
abbrev N_saw_key : List Str := ["dealing", "key", "low", "high", "own"]
theorem sc_saw_key : FnScope N_saw_key ["dealing", "key"] (defScope s_saw_key) := ⟨rfl, rfl, rfl, by decide +kernel, rfl, by decide +kernel, by decide +kernel⟩
abbrev s_is_tied : Stmt := top 31
abbrev N_is_tied : List Str := ["one", "other", "key", "_"]
theorem sc_is_tied : FnScope N_is_tied ["one", "other"] (defScope s_is_tied) := ⟨rfl, rfl, rfl, by decide +kernel, rfl, by decide +kernel, by decide +kernel⟩
abbrev s_Check_ways_with : Stmt := inClass (top 38) 13
abbrev N_Check_ways_with : List Str := ["self", "entry", "dealing", "ways", "other"]
theorem sc_Check_ways_with : FnScope N_Check_ways_with ["self", "entry", "dealing"] (defScope s_Check_ways_with) := ⟨rfl, rfl, rfl, by decide +kernel, rfl, by decide +kernel, by decide +kernel⟩
abbrev s_ring_from : Stmt := top 32
abbrev N_ring_from : List Str := ["start", "ways", "met", "paths", "longer", "path", "other"]
theorem sc_ring_from : FnScope N_ring_from ["start", "ways"] (defScope s_ring_from) := ⟨rfl, rfl, rfl, by decide +kernel, rfl, by decide +kernel, by decide +kernel⟩
abbrev s_Check_judged : Stmt := inClass (top 38) 12
abbrev N_Check_judged : List Str := ["self", "entry", "keys", "ranges", "writes", "number", "dealing", "ways", "ring"]
theorem sc_Check_judged : FnScope N_Check_judged ["self", "entry", "keys", "ranges", "writes"] (defScope s_Check_judged) := ⟨rfl, rfl, rfl, by decide +kernel, rfl, by decide +kernel, by decide +kernel⟩
abbrev s_reached_from : Stmt := top 33
abbrev N_reached_from : List Str := ["starts", "ways", "met", "rest", "one"]
theorem sc_reached_from : FnScope N_reached_from ["starts", "ways"] (defScope s_reached_from) := ⟨rfl, rfl, rfl, by decide +kernel, rfl, by decide +kernel, by decide +kernel⟩
abbrev s_Check_unseen : Stmt := inClass (top 38) 14
abbrev N_Check_unseen : List Str := ["self", "least", "numbers", "entry"]
theorem sc_Check_unseen : FnScope N_Check_unseen ["self"] (defScope s_Check_unseen) := ⟨rfl, rfl, rfl, by decide +kernel, rfl, by decide +kernel, by decide +kernel⟩
abbrev s_Check_forget : Stmt := inClass (top 38) 15
abbrev N_Check_forget : List Str := ["self", "met", "entry"]
theorem sc_Check_forget : FnScope N_Check_forget ["self"] (defScope s_Check_forget) := ⟨rfl, rfl, rfl, by decide +kernel, rfl, by decide +kernel, by decide +kernel⟩
abbrev s_Check_commits : Stmt := inClass (top 38) 2
abbrev N_Check_commits : List Str := ["self", "entry", "keys", "ranges", "writes", "dealing", "ways"]
theorem sc_Check_commits : FnScope N_Check_commits ["self", "entry", "keys", "ranges", "writes"] (defScope s_Check_commits) := ⟨rfl, rfl, rfl, by decide +kernel, rfl, by decide +kernel, by decide +kernel⟩
abbrev s_Check_gives_up : Stmt := inClass (top 38) 4
abbrev N_Check_gives_up : List Str := ["self", "entry"]
theorem sc_Check_gives_up : FnScope N_Check_gives_up ["self", "entry"] (defScope s_Check_gives_up) := ⟨rfl, rfl, rfl, by decide +kernel, rfl, by decide +kernel, by decide +kernel⟩
abbrev s_law_ready : Stmt := top 50
abbrev N_law_ready : List Str := ["hand", "last", "check", "entry"]
theorem sc_law_ready : FnScope N_law_ready ["hand", "last"] (defScope s_law_ready) := ⟨rfl, rfl, rfl, by decide +kernel, rfl, by decide +kernel, by decide +kernel⟩
abbrev s_Check_last : Stmt := inClass (top 38) 5
abbrev N_Check_last : List Str := ["self"]
theorem sc_Check_last : FnScope N_Check_last ["self"] (defScope s_Check_last) := ⟨rfl, rfl, rfl, by decide +kernel, rfl, by decide +kernel, by decide +kernel⟩
abbrev s_Check_open_entries : Stmt := inClass (top 38) 6
abbrev N_Check_open_entries : List Str := ["self"]
theorem sc_Check_open_entries : FnScope N_Check_open_entries ["self"] (defScope s_Check_open_entries) := ⟨rfl, rfl, rfl, by decide +kernel, rfl, by decide +kernel, by decide +kernel⟩
abbrev s_Check_remembered : Stmt := inClass (top 38) 7
abbrev N_Check_remembered : List Str := ["self"]
theorem sc_Check_remembered : FnScope N_Check_remembered ["self"] (defScope s_Check_remembered) := ⟨rfl, rfl, rfl, by decide +kernel, rfl, by decide +kernel, by decide +kernel⟩
abbrev s_Check_copy : Stmt := inClass (top 38) 9
abbrev N_Check_copy : List Str := ["self", "other", "entry"]
theorem sc_Check_copy : FnScope N_Check_copy ["self"] (defScope s_Check_copy) := ⟨rfl, rfl, rfl, by decide +kernel, rfl, by decide +kernel, by decide +kernel⟩
abbrev s_law_is_key : Stmt := top 44
abbrev N_law_is_key : List Str := ["thing", "sign"]
theorem sc_law_is_key : FnScope N_law_is_key ["thing"] (defScope s_law_is_key) := ⟨rfl, rfl, rfl, by decide +kernel, rfl, by decide +kernel, by decide +kernel⟩
abbrev s_law_are_writes : Stmt := top 47
abbrev N_law_are_writes : List Str := ["thing", "one", "other"]
theorem sc_law_are_writes : FnScope N_law_are_writes ["thing"] (defScope s_law_are_writes) := ⟨rfl, rfl, rfl, by decide +kernel, rfl, by decide +kernel, by decide +kernel⟩
abbrev s_law_are_keys : Stmt := top 45
abbrev N_law_are_keys : List Str := ["thing", "one", "other", "key"]
theorem sc_law_are_keys : FnScope N_law_are_keys ["thing"] (defScope s_law_are_keys) := ⟨rfl, rfl, rfl, by decide +kernel, rfl, by decide +kernel, by decide +kernel⟩
abbrev s_law_are_ranges : Stmt := top 46
abbrev N_law_are_ranges : List Str := ["thing", "one", "other", "key"]
theorem sc_law_are_ranges : FnScope N_law_are_ranges ["thing"] (defScope s_law_are_ranges) := ⟨rfl, rfl, rfl, by decide +kernel, rfl, by decide +kernel, by decide +kernel⟩
abbrev s_Check_would_commit : Stmt := inClass (top 38) 3
abbrev N_Check_would_commit : List Str := ["self", "entry", "keys", "ranges", "writes", "dealing", "_"]
theorem sc_Check_would_commit : FnScope N_Check_would_commit ["self", "entry", "keys", "ranges", "writes"] (defScope s_Check_would_commit) := ⟨rfl, rfl, rfl, by decide +kernel, rfl, by decide +kernel, by decide +kernel⟩
abbrev s_Check_key_into : Stmt := inClass (top 38) 16
abbrev N_Check_key_into : List Str := ["self", "entry", "dealing", "written", "other", "key", "_"]
theorem sc_Check_key_into : FnScope N_Check_key_into ["self", "entry"] (defScope s_Check_key_into) := ⟨rfl, rfl, rfl, by decide +kernel, rfl, by decide +kernel, by decide +kernel⟩
abbrev s_Check_could_ring : Stmt := inClass (top 38) 8
abbrev N_Check_could_ring : List Str := ["self", "entry", "least", "eldest", "starts", "first", "key", "start", "other"]
theorem sc_Check_could_ring : FnScope N_Check_could_ring ["self", "entry"] (defScope s_Check_could_ring) := ⟨rfl, rfl, rfl, by decide +kernel, rfl, by decide +kernel, by decide +kernel⟩
abbrev s_law : Stmt := top 51
abbrev N_law : List Str := ["script", "hand", "odd", "due", "last", "check", "shown", "turn", "snapshot", "entry", "is_open", "keys", "ranges", "writes", "told"]
theorem sc_law : FnScope N_law ["script"] (defScope s_law) := ⟨rfl, rfl, rfl, by decide +kernel, rfl, by decide +kernel, by decide +kernel⟩
abbrev s_Refused_init : Stmt := inClass (top 8) 0
theorem sc_Refused_init : FnScope ["self", "ring"] ["self", "ring"] (defScope s_Refused_init) := ⟨rfl, rfl, rfl, by decide +kernel, rfl, by decide +kernel, by decide +kernel⟩
/-! the mirror -/
def x_own : Nat → String → Option Bool := fun c n => if (c = 1) ∧ (n = "int" ∨ n = "bool" ∨ n = "str" ∨ n = "tuple") then some false else none
noncomputable def m_law_hand : MS := sSeq (sAsg (mComp true (iL (mSl true (mVar 0) (mNoPart) (mPart (mC (.int 63))))) [2] (.one 2) (mYes) (mFn fAbs (mCons (mFn fInt (mCons (mVar 2) (mNil))) (mNil)))) (gName' 1)) (sRet (mLst false (mCons (mVar 1) (mCons (mC (.int 0)) (mCons (mC (.int 0)) (mCons (mOp (wAdd true) (mC (.int 1)) (mFn fLen (mCons (mVar 1) (mNil)))) (mCons (mC (.int 0)) (mNil))))))))
noncomputable def r_law_hand : RunM := runOf 3 m_law_hand
noncomputable def m_law_draw : MS := sSeq (sIf (mAnd (mB (mOp (wEq) (mOp wIx (mVar 0) (mC (.int 2))) (mC (.int 0)))) (mB (mOp (wCmpS (fun i j => decide (i.cps.toList < j.cps.toList)) (fun i j => decide (i < j))) (mOp wIx (mVar 0) (mC (.int 1))) (mFn fLen (mCons (mOp wIx (mVar 0) (mC (.int 0))) (mNil)))))) (sSeq (sAsg (mOp wIx (mOp wIx (mVar 0) (mC (.int 0))) (mOp wIx (mVar 0) (mC (.int 1)))) (gName' 2)) (sSeq (sAsg (mOp (wAdd true) (mOp wIx (mVar 0) (mC (.int 1))) (mC (.int 1))) (gSub' (mVar 0) (mC (.int 1)))) (sSeq (sAsg (mOp (wMod) (mFn fInt (mCons (mOp (wAdd true) (mOp (wAdd true) (mOp (wMul true) (mOp wIx (mVar 0) (mC (.int 3))) (mC (.int 69621))) (mVar 2)) (mC (.int 11))) (mNil))) (mC (.int 2147483629))) (gSub' (mVar 0) (mC (.int 3)))) (sIf (mB (mOp (wCmpS (fun i j => !decide (i.cps.toList < j.cps.toList)) (fun i j => decide (j ≤ i))) (mVar 2) (mOp (wPow) (mC (.int 10)) (mC (.int 18))))) (sAsg (mVar 2) (gSub' (mVar 0) (mC (.int 2)))) (sNx))))) (sNx)) (sSeq (sIf (mB (mOp (wCmpS (fun i j => decide (j.cps.toList < i.cps.toList)) (fun i j => decide (j < i))) (mOp wIx (mVar 0) (mC (.int 2))) (mC (.int 0)))) (sSeq (sAsg (mOp (wMod) (mFn fInt (mCons (mOp wIx (mVar 0) (mC (.int 2))) (mNil))) (mVar 1)) (gName' 3)) (sSeq (sAsg (mOp (wDiv) (mOp wIx (mVar 0) (mC (.int 2))) (mVar 1)) (gSub' (mVar 0) (mC (.int 2)))) (sRet (mVar 3)))) (sNx)) (sSeq (sAsg (mOp (wAdd true) (mOp wIx (mVar 0) (mC (.int 4))) (mC (.int 1))) (gSub' (mVar 0) (mC (.int 4)))) (sSeq (sAsg (mOp (wMod) (mFn fInt (mCons (mOp (wMul true) (mFn fInt (mCons (mOp (wAdd true) (mOp wIx (mVar 0) (mC (.int 3))) (mOp (wMul true) (mC (.int 7919)) (mOp wIx (mVar 0) (mC (.int 4))))) (mNil))) (mC (.int 48271))) (mNil))) (mC (.int 2147483647))) (gName' 4)) (sSeq (sAsg (mOp (wMod) (mFn fInt (mCons (mOp (wMul true) (mVar 4) (mOp (wAdd true) (mOp (wDiv) (mVar 4) (mC (.int 1009))) (mC (.int 69621)))) (mNil))) (mC (.int 2147483647))) (gName' 4)) (sSeq (sAsg (mOp (wMod) (mFn fInt (mCons (mOp (wMul true) (mVar 4) (mOp (wAdd true) (mOp (wDiv) (mVar 4) (mC (.int 2003))) (mC (.int 40692)))) (mNil))) (mC (.int 2147483399))) (gName' 4)) (sRet (mOp (wMod) (mFn fInt (mCons (mOp (wDiv) (mVar 4) (mC (.int 16))) (mNil))) (mVar 1))))))))
noncomputable def r_law_draw : RunM := runOf 5 m_law_draw
noncomputable def m_law_deep : MS := sSeq (sAsg (mOp wIx (mLst true (mCons (mC .non) (mCons (mTup (mNil)) (mCons (mC (.str "a")) (mCons (mC (.int 0)) (mNil)))))) (mCall r_law_draw (mCons (mVar 0) (mCons (mC (.int 4)) (mNil))))) (gName' 1)) (sSeq (sFor (iR1 (mCons (mC (.int 33)) (mNil))) (gName' 2) (sAsg (mOp wIx (mLst true (mCons (mTup (mCons (mVar 1) (mNil))) (mCons (mLst true (mCons (mVar 1) (mNil))) (mNil)))) (mCall r_law_draw (mCons (mVar 0) (mCons (mC (.int 2)) (mNil))))) (gName' 1))) (sRet (mVar 1)))
noncomputable def r_law_deep : RunM := runOf 3 m_law_deep
noncomputable def m_law_odd : MS := sSeq (sIf (mB (mOp (wEq) (mCall r_law_draw (mCons (mVar 0) (mCons (mC (.int 2)) (mNil)))) (mC (.int 0)))) (sRet (mVar 1)) (sNx)) (sSeq (sAsg (mLst true (mCons (mC .non) (mCons (mC (.bl true)) (mCons (mNeg (mC (.int 1))) (mCons (mC (.int 0)) (mCons (mC (.int 1)) (mCons (mOp (wPow) (mC (.int 10)) (mC (.int 30))) (mCons (mC (.str "a")) (mCons (mC (.str "")) (mCons (mTup (mNil)) (mCons (mLst true (mNil)) (mCons (mDict0) (mCons (mTup (mCons (mC (.str "a")) (mNil))) (mCons (mLst true (mCons (mC (.str "a")) (mNil))) (mCons (mTup (mCons (mTup (mCons (mC (.str "a")) (mCons (mC (.int 1)) (mNil)))) (mNil))) (mCons (mTup (mCons (mTup (mCons (mC (.str "a")) (mCons (mC (.str "b")) (mCons (mTup (mNil)) (mNil))))) (mNil))) (mNil))))))))))))))))) (gName' 2)) (sSeq (sAsg (mOp (wAdd true) (mVar 2) (mLst true (mCons (mTup (mCons (mC (.str "b")) (mCons (mC (.str "a")) (mNil)))) (mCons (mTup (mCons (mC (.str "a")) (mCons (mC (.str "a")) (mNil)))) (mCons (mTup (mCons (mC (.str "A")) (mNil))) (mCons (mTup (mCons (mC (.str "abcdefghijklm")) (mNil))) (mCons (mTup (mCons (mTup (mCons (mC (.str "b")) (mCons (mC (.str "a")) (mCons (mTup (mNil)) (mNil))))) (mNil))) (mCons (mTup (mCons (mTup (mCons (mC (.str "a")) (mCons (mC (.str "c")) (mCons (mTup (mCons (mC (.str "d")) (mNil))) (mNil))))) (mNil))) (mNil))))))))) (gName' 2)) (sSeq (sAsg (mOp (wAdd true) (mVar 2) (mLst true (mCons (mTup (mCons (mTup (mCons (mC (.str "a")) (mCons (mC (.str "c")) (mCons (mLst true (mCons (mC (.str "b")) (mNil))) (mNil))))) (mNil))) (mCons (mTup (mCons (mTup (mCons (mC (.str "a")) (mCons (mC (.str "c")) (mCons (mTup (mCons (mC (.str "b")) (mNil))) (mNil))))) (mNil))) (mCons (mTup (mCons (mTup (mCons (mC (.str "b")) (mCons (mC (.int 1)) (mNil)))) (mCons (mTup (mCons (mC (.str "a")) (mCons (mC (.int 2)) (mNil)))) (mNil)))) (mCons (mTup (mCons (mTup (mCons (mC (.str "a")) (mCons (mC (.int 1)) (mNil)))) (mCons (mTup (mCons (mC (.str "a")) (mCons (mC (.int 2)) (mNil)))) (mNil)))) (mNil))))))) (gName' 2)) (sSeq (sAsg (mOp (wAdd true) (mVar 2) (mLst true (mCons (mTup (mCons (mTup (mCons (mC (.str "a")) (mCons (mOp (wAdd true) (mOp (wPow) (mC (.int 10)) (mC (.int 18))) (mC (.int 1))) (mNil)))) (mNil))) (mCons (mTup (mCons (mTup (mCons (mC (.str "a")) (mCons (mC (.bl true)) (mNil)))) (mNil))) (mCons (mTup (mCons (mTup (mCons (mC (.str "a")) (mCons (mC .non) (mNil)))) (mNil))) (mCons (mTup (mCons (mTup (mCons (mC (.str "a")) (mNil))) (mNil))) (mNil))))))) (gName' 2)) (sSeq (sAsg (mOp (wAdd true) (mVar 2) (mLst true (mCons (mCall r_law_deep (mCons (mVar 0) (mNil))) (mCons (mTup (mCons (mCall r_law_deep (mCons (mVar 0) (mNil))) (mNil))) (mNil))))) (gName' 2)) (sRet (mOp wIx (mVar 2) (mCall r_law_draw (mCons (mVar 0) (mCons (mFn fLen (mCons (mVar 2) (mNil))) (mNil)))))))))))
noncomputable def r_law_odd : RunM := runOf 3 m_law_odd
noncomputable def m_law_is_int : MS := sRet (mBl (mAnd (mB (mFn (fIsi x_own) (mCons (mVar 0) (mCons (mC (.ty "int")) (mNil))))) (mAnd (mNot (mB (mFn (fIsi x_own) (mCons (mVar 0) (mCons (mC (.ty "bool")) (mNil)))))) (mB (mChain (wCmpS (fun i j => !decide (j.cps.toList < i.cps.toList)) (fun i j => decide (i ≤ j))) (wCmpS (fun i j => !decide (j.cps.toList < i.cps.toList)) (fun i j => decide (i ≤ j))) (mVar 1) (mVar 0) (mVar 2))))))
noncomputable def r_law_is_int : RunM := runOf 3 m_law_is_int
noncomputable def mL_law_word (F : W) (cl : Sto → Rs W) : MS := sSeq (sAsg (mC (.str "let")) (gName' 1)) (sSeq (sTryX [(2, true), (3, true), (4, true), (5, true), (6, true), (7, true), (8, true), (9, true)] 2 (sForget 4 (sExpr (mCallP F 0 cl))) (fun n a => sSeq (sAsg (mLst true (mCons (mExIs n a [(2, false), (3, false), (4, true), (5, false), (6, false), (7, false), (8, false), (9, false)] 2) (mCons (mExIs n a [(2, false), (3, true), (4, false), (5, false), (6, false), (7, false), (8, false), (9, false)] 2) (mCons (mExIs n a [(2, false), (3, false), (4, false), (5, true), (6, false), (7, false), (8, false), (9, false)] 2) (mCons (mExIs n a [(2, false), (3, false), (4, false), (5, false), (6, true), (7, false), (8, false), (9, false)] 2) (mNil)))))) (gName' 3)) (sSeq (sAsg (mOp (wAdd true) (mVar 3) (mLst true (mCons (mExIs n a [(2, false), (3, false), (4, false), (5, false), (6, false), (7, true), (8, false), (9, false)] 2) (mCons (mExIs n a [(2, false), (3, false), (4, false), (5, false), (6, false), (7, false), (8, false), (9, true)] 2) (mNil))))) (gName' 3)) (sSeq (sAsg (mC (.str "other")) (gName' 1)) (sIf (mAnd (mB (mOp (wEq) (mLm fCountB (mVar 3) (mCons (mC (.bl true)) (mNil))) (mC (.int 1)))) (mTr (mExIs n a [(2, true), (3, true), (4, true), (5, true), (6, true), (7, true), (8, true), (9, true)] 2))) (sAsg (mOp wIx (mLst true (mCons (mC (.str "number")) (mCons (mC (.str "snapshot")) (mCons (mC (.str "open")) (mCons (mC (.str "seen")) (mCons (mC (.str "writes")) (mCons (mC (.str "known")) (mNil)))))))) (mLm fIndexB (mVar 3) (mCons (mC (.bl true)) (mNil)))) (gName' 1)) (sNx))))) (fun n a dd => sSeq (sAsg (mLst true (mCons (mExIsX n a dd [(2, false), (3, false), (4, true), (5, false), (6, false), (7, false), (8, false), (9, false)] 2) (mCons (mExIsX n a dd [(2, false), (3, true), (4, false), (5, false), (6, false), (7, false), (8, false), (9, false)] 2) (mCons (mExIsX n a dd [(2, false), (3, false), (4, false), (5, true), (6, false), (7, false), (8, false), (9, false)] 2) (mCons (mExIsX n a dd [(2, false), (3, false), (4, false), (5, false), (6, true), (7, false), (8, false), (9, false)] 2) (mNil)))))) (gName' 3)) (sSeq (sAsg (mOp (wAdd true) (mVar 3) (mLst true (mCons (mExIsX n a dd [(2, false), (3, false), (4, false), (5, false), (6, false), (7, true), (8, false), (9, false)] 2) (mCons (mExIsX n a dd [(2, false), (3, false), (4, false), (5, false), (6, false), (7, false), (8, false), (9, true)] 2) (mNil))))) (gName' 3)) (sSeq (sAsg (mC (.str "other")) (gName' 1)) (sIf (mAnd (mB (mOp (wEq) (mLm fCountB (mVar 3) (mCons (mC (.bl true)) (mNil))) (mC (.int 1)))) (mTr (mExIsX n a dd [(2, true), (3, true), (4, true), (5, true), (6, true), (7, true), (8, true), (9, true)] 2))) (sAsg (mOp wIx (mLst true (mCons (mC (.str "number")) (mCons (mC (.str "snapshot")) (mCons (mC (.str "open")) (mCons (mC (.str "seen")) (mCons (mC (.str "writes")) (mCons (mC (.str "known")) (mNil)))))))) (mLm fIndexB (mVar 3) (mCons (mC (.bl true)) (mNil)))) (gName' 1)) (sNx)))))) (sRet (mVar 1)))
noncomputable def m_is_integer : MS := sRet (mBl (mAnd (mB (mFn (fIsi x_own) (mCons (mVar 0) (mCons (mC (.ty "int")) (mNil))))) (mNot (mB (mFn (fIsi x_own) (mCons (mVar 0) (mCons (mC (.ty "bool")) (mNil))))))))
noncomputable def r_is_integer : RunM := runOf 1 m_is_integer
noncomputable def m_is_number : MS := sRet (mBl (mAnd (mB (mCall r_is_integer (mCons (mVar 0) (mNil)))) (mB (mOp (wCmpS (fun i j => !decide (i.cps.toList < j.cps.toList)) (fun i j => decide (j ≤ i))) (mVar 0) (mC (.int 0))))))
noncomputable def r_is_number : RunM := runOf 1 m_is_number
noncomputable def m_Check_init : MS := sSeq (sIf (mNot (mTr (mCall r_is_number (mCons (mVar 1) (mNil))))) (sRaise 4) (sNx)) (sSeq (sFld' [0] "newest" (mVar 0) (mVar 1)) (sSeq (sFld' [0] "opened" (mVar 0) (mC (.int 0))) (sSeq (sFld' [0] "snapshots" (mVar 0) (mDict0)) (sSeq (sFld' [0] "dealings" (mVar 0) (mDict0)) (sFld' [0] "ways" (mVar 0) (mDict0))))))
noncomputable def r_Check_init : RunM := runOf 2 m_Check_init
noncomputable def m_is_within : MS := sRet (mBl (mAnd (mB (mCall r_is_integer (mCons (mVar 2) (mNil)))) (mB (mChain (wCmpS (fun i j => !decide (j.cps.toList < i.cps.toList)) (fun i j => decide (i ≤ j))) (wCmpS (fun i j => !decide (j.cps.toList < i.cps.toList)) (fun i j => decide (i ≤ j))) (mVar 0) (mVar 2) (mVar 1)))))
noncomputable def r_is_within : RunM := runOf 3 m_is_within
noncomputable def m_Check_least_snapshot : MS := sRet (mMinV (mFld [0] "snapshots" (mVar 0)) (mFld [0] "newest" (mVar 0)))
noncomputable def r_Check_least_snapshot : RunM := runOf 1 m_Check_least_snapshot
noncomputable def m_Check_opens : MS := sSeq (sIf (mNot (mTr (mCall r_is_within (mCons (mMeth [(0, r_Check_least_snapshot)] "least_snapshot" (mVar 0) mNil) (mCons (mFld [0] "newest" (mVar 0)) (mCons (mVar 1) (mNil))))))) (sRaise 3) (sNx)) (sSeq (sAsg (mFld [0] "opened" (mVar 0)) (gName' 2)) (sSeq (sAsg (mVar 1) (gSub' (mFld [0] "snapshots" (mVar 0)) (mVar 2))) (sSeq (sFaug [0] "opened" (fun p q => p + q) (mVar 0) (mC (.int 1))) (sRet (mVar 2)))))
noncomputable def r_Check_opens : RunM := runOf 3 m_Check_opens
noncomputable def m_Check_demand_open : MS := sIf (mOr (mNot (mTr (mCall r_is_number (mCons (mVar 1) (mNil))))) (mB (mDin true (mVar 1) (mFld [0] "snapshots" (mVar 0))))) (sRaise 5) (sNx)
noncomputable def r_Check_demand_open : RunM := runOf 2 m_Check_demand_open
noncomputable def m_is_word : MS := sSeq (sIf (mOr (mNot (mTr (mFn (fIsi x_own) (mCons (mVar 0) (mCons (mC (.ty "str")) (mNil)))))) (mB (mOp (wCmpS (fun i j => decide (j.cps.toList < i.cps.toList)) (fun i j => decide (j < i))) (mFn fLen (mCons (mVar 0) (mNil))) (mC (.int 12))))) (sRet (mC (.bl false))) (sNx)) (sRet (mFn fAll (mCons (mComp true (iS (mVar 0)) [1] (.one 1) (mYes) (mChain (wCmpS (fun i j => !decide (j.cps.toList < i.cps.toList)) (fun i j => decide (i ≤ j))) (wCmpS (fun i j => !decide (j.cps.toList < i.cps.toList)) (fun i j => decide (i ≤ j))) (mC (.str "a")) (mVar 1) (mC (.str "z")))) (mNil))))
noncomputable def r_is_word : RunM := runOf 2 m_is_word
noncomputable def m_is_key : MS := sRet (mBl (mAnd (mB (mCall r_is_word (mCons (mVar 0) (mNil)))) (mB (mOp (wNe) (mVar 0) (mC (.str ""))))))
noncomputable def r_is_key : RunM := runOf 1 m_is_key
noncomputable def m_is_tuple_of_is_key (g : Addr) : MS := sRet (mBl (mAnd (mB (mFn (fIsi x_own) (mCons (mVar 1) (mCons (mC (.ty "tuple")) (mNil))))) (mB (mFn fAll (mCons (mComp true (iT (mVar 1)) [2] (.one 2) (mYes) (mCallV 0 g r_is_key (mCons (mVar 2) (mNil)))) (mNil))))))
noncomputable def r_is_tuple_of_is_key : RunM := fun ws st => runOf 3 (m_is_tuple_of_is_key 0) (.at_ 0 :: ws) st
noncomputable def m_is_ascending : MS := sRet (mFn fAll (mCons (mComp true (iR1 (mCons (mOp (wSub) (mFn fLen (mCons (mVar 0) (mNil))) (mC (.int 1))) (mNil))) [1] (.one 1) (mYes) (mOp (wCmpS (fun i j => decide (i.cps.toList < j.cps.toList)) (fun i j => decide (i < j))) (mOp wIx (mVar 0) (mVar 1)) (mOp wIx (mVar 0) (mOp (wAdd true) (mVar 1) (mC (.int 1)))))) (mNil)))
noncomputable def r_is_ascending : RunM := runOf 2 m_is_ascending
noncomputable def m_is_keys : MS := sRet (mBl (mAnd (mB (mCall r_is_tuple_of_is_key (mCons (mVar 0) mNil))) (mB (mCall r_is_ascending (mCons (mVar 0) (mNil))))))
noncomputable def r_is_keys : RunM := runOf 1 m_is_keys
noncomputable def m_is_tuple : MS := sRet (mBl (mAnd (mB (mFn (fIsi x_own) (mCons (mVar 1) (mCons (mC (.ty "tuple")) (mNil))))) (mB (mOp (wEq) (mFn fLen (mCons (mVar 1) (mNil))) (mVar 0)))))
noncomputable def r_is_tuple : RunM := runOf 2 m_is_tuple
noncomputable def m_is_range : MS := sSeq (sIf (mNot (mTr (mCall r_is_tuple (mCons (mC (.int 3)) (mCons (mVar 0) (mNil)))))) (sRet (mC (.bl false))) (sNx)) (sSeq (sAsg (mVar 0) (gTup' [gName' 1, gName' 2, gName' 3])) (sSeq (sIf (mOr (mNot (mTr (mCall r_is_key (mCons (mVar 1) (mNil))))) (mOr (mNot (mTr (mCall r_is_key (mCons (mVar 2) (mNil))))) (mB (mOp (wCmpS (fun i j => decide (j.cps.toList < i.cps.toList)) (fun i j => decide (j < i))) (mVar 1) (mVar 2))))) (sRet (mC (.bl false))) (sNx)) (sRet (mBl (mAnd (mB (mCall r_is_keys (mCons (mVar 3) (mNil)))) (mB (mFn fAll (mCons (mComp true (iT (mVar 3)) [4] (.one 4) (mYes) (mChain (wCmpS (fun i j => !decide (j.cps.toList < i.cps.toList)) (fun i j => decide (i ≤ j))) (wCmpS (fun i j => !decide (j.cps.toList < i.cps.toList)) (fun i j => decide (i ≤ j))) (mVar 1) (mVar 4) (mVar 2))) (mNil)))))))))
noncomputable def r_is_range : RunM := runOf 5 m_is_range
noncomputable def m_is_tuple_of_is_range (g : Addr) : MS := sRet (mBl (mAnd (mB (mFn (fIsi x_own) (mCons (mVar 1) (mCons (mC (.ty "tuple")) (mNil))))) (mB (mFn fAll (mCons (mComp true (iT (mVar 1)) [2] (.one 2) (mYes) (mCallV 0 g r_is_range (mCons (mVar 2) (mNil)))) (mNil))))))
noncomputable def r_is_tuple_of_is_range : RunM := fun ws st => runOf 3 (m_is_tuple_of_is_range 0) (.at_ 0 :: ws) st
noncomputable def m_is_ranges : MS := sRet (mBl (mAnd (mB (mCall r_is_tuple_of_is_range (mCons (mVar 0) mNil))) (mB (mCall r_is_ascending (mCons (mVar 0) (mNil))))))
noncomputable def r_is_ranges : RunM := runOf 1 m_is_ranges
noncomputable def m_is_worth : MS := sRet (mCall r_is_within (mCons (mNeg (mC (.int 1000000000000000000))) (mCons (mC (.int 1000000000000000000)) (mCons (mVar 0) (mNil)))))
noncomputable def r_is_worth : RunM := runOf 1 m_is_worth
noncomputable def m_is_mark : MS := sRet (mBl (mOr (mB (mOp (wIs) (mVar 0) (mC .non))) (mB (mCall r_is_worth (mCons (mVar 0) (mNil))))))
noncomputable def r_is_mark : RunM := runOf 1 m_is_mark
noncomputable def m_is_write : MS := sRet (mBl (mAnd (mB (mCall r_is_tuple (mCons (mC (.int 2)) (mCons (mVar 0) (mNil))))) (mAnd (mB (mCall r_is_key (mCons (mOp wIx (mVar 0) (mC (.int 0))) (mNil)))) (mB (mCall r_is_mark (mCons (mOp wIx (mVar 0) (mC (.int 1))) (mNil)))))))
noncomputable def r_is_write : RunM := runOf 1 m_is_write
noncomputable def m_is_tuple_of_is_write (g : Addr) : MS := sRet (mBl (mAnd (mB (mFn (fIsi x_own) (mCons (mVar 1) (mCons (mC (.ty "tuple")) (mNil))))) (mB (mFn fAll (mCons (mComp true (iT (mVar 1)) [2] (.one 2) (mYes) (mCallV 0 g r_is_write (mCons (mVar 2) (mNil)))) (mNil))))))
noncomputable def r_is_tuple_of_is_write : RunM := fun ws st => runOf 3 (m_is_tuple_of_is_write 0) (.at_ 0 :: ws) st
noncomputable def m_is_writes : MS := sRet (mBl (mAnd (mB (mCall r_is_tuple_of_is_write (mCons (mVar 0) mNil))) (mB (mCall r_is_ascending (mCons (mComp true (iT (mVar 0)) [1] (.one 1) (mYes) (mOp wIx (mVar 1) (mC (.int 0)))) (mNil))))))
noncomputable def r_is_writes : RunM := runOf 2 m_is_writes
noncomputable def m_is_number_for : MS := sSeq (sIf (mB (mOp (wIs) (mVar 2) (mC .non))) (sRet (mBl (mOr (mNot (mB (mFn (fIsi x_own) (mCons (mVar 1) (mCons (mC (.ty "tuple")) (mNil)))))) (mB (mOp (wEq) (mVar 1) (mTup (mNil))))))) (sNx)) (sRet (mBl (mAnd (mB (mCall r_is_integer (mCons (mVar 2) (mNil)))) (mAnd (mB (mOp (wCmpS (fun i j => decide (j.cps.toList < i.cps.toList)) (fun i j => decide (j < i))) (mVar 2) (mVar 0))) (mB (mOp (wNe) (mVar 1) (mTup (mNil))))))))
noncomputable def r_is_number_for : RunM := runOf 3 m_is_number_for
noncomputable def m_Dealing_init : MS := sSeq (sIf (mNot (mTr (mCall r_is_number (mCons (mVar 1) (mNil))))) (sStk) (sNx)) (sSeq (sIf (mNot (mTr (mCall r_is_number_for (mCons (mVar 1) (mCons (mVar 5) (mCons (mVar 2) (mNil))))))) (sStk) (sNx)) (sSeq (sIf (mNot (mTr (mCall r_is_keys (mCons (mVar 3) (mNil))))) (sStk) (sNx)) (sSeq (sIf (mNot (mTr (mCall r_is_ranges (mCons (mVar 4) (mNil))))) (sStk) (sNx)) (sSeq (sIf (mNot (mTr (mCall r_is_writes (mCons (mVar 5) (mNil))))) (sStk) (sNx)) (sSeq (sFld' [1] "snapshot" (mVar 0) (mVar 1)) (sSeq (sFld' [1] "number" (mVar 0) (mVar 2)) (sSeq (sFld' [1] "gets" (mVar 0) (mVar 3)) (sSeq (sFld' [1] "ranges" (mVar 0) (mVar 4)) (sFld' [1] "writes" (mVar 0) (mVar 5))))))))))
noncomputable def r_Dealing_init : RunM := runOf 6 m_Dealing_init
noncomputable def m_writes_key : MS := sRet (mFn fAny (mCons (mComp true (iT (mFld [1] "writes" (mVar 0))) [2] (.one 2) (mYes) (mOp (wEq) (mOp wIx (mVar 2) (mC (.int 0))) (mVar 1))) (mNil)))
noncomputable def r_writes_key : RunM := runOf 3 m_writes_key
noncomputable def m_saw_key : MS := sSeq (sIf (mB (mOp (wIn false) (mVar 1) (mFld [1] "gets" (mVar 0)))) (sRet (mC (.bl true))) (sNx)) (sRet (mFn fAny (mCons (mComp true (iT (mFld [1] "ranges" (mVar 0))) [2, 3, 4] (.tup [2, 3, 4]) (mYes) (mBl (mAnd (mB (mChain (wCmpS (fun i j => !decide (j.cps.toList < i.cps.toList)) (fun i j => decide (i ≤ j))) (wCmpS (fun i j => !decide (j.cps.toList < i.cps.toList)) (fun i j => decide (i ≤ j))) (mVar 2) (mVar 1) (mVar 3))) (mB (mOp (wIn true) (mVar 1) (mVar 4)))))) (mNil))))
noncomputable def r_saw_key : RunM := runOf 5 m_saw_key
noncomputable def m_is_tied : MS := sSeq (sFor (iT (mFld [1] "writes" (mVar 0))) (gTup' [gName' 2, gName' 3]) (sSeq (sIf (mAnd (mTr (mCall r_writes_key (mCons (mVar 1) (mCons (mVar 2) (mNil))))) (mB (mOp (wCmpS (fun i j => decide (i.cps.toList < j.cps.toList)) (fun i j => decide (i < j))) (mFld [1] "number" (mVar 0)) (mFld [1] "number" (mVar 1))))) (sRet (mC (.bl true))) (sNx)) (sIf (mAnd (mB (mOp (wCmpS (fun i j => !decide (j.cps.toList < i.cps.toList)) (fun i j => decide (i ≤ j))) (mFld [1] "number" (mVar 0)) (mFld [1] "snapshot" (mVar 1)))) (mTr (mCall r_saw_key (mCons (mVar 1) (mCons (mVar 2) (mNil)))))) (sRet (mC (.bl true))) (sNx)))) (sRet (mFn fAny (mCons (mComp true (iT (mFld [1] "writes" (mVar 1))) [2, 3] (.tup [2, 3]) (mYes) (mBl (mAnd (mB (mOp (wCmpS (fun i j => decide (j.cps.toList < i.cps.toList)) (fun i j => decide (j < i))) (mFld [1] "number" (mVar 1)) (mFld [1] "snapshot" (mVar 0)))) (mB (mCall r_saw_key (mCons (mVar 0) (mCons (mVar 2) (mNil)))))))) (mNil))))
noncomputable def r_is_tied : RunM := runOf 4 m_is_tied
noncomputable def m_Check_ways_with : MS := sSeq (sAsg (mDisp (mPair (mVar 1) (mLst false (mNil)) (mPair0))) (gName' 3)) (sSeq (sLock (mFld [0] "dealings" (mVar 0)) (sFor (iK (mFld [0] "dealings" (mVar 0))) (gName' 4) (sSeq (sAsg (mFn (fList false) (mCons (mOp wIx (mFld [0] "ways" (mVar 0)) (mVar 4)) (mNil))) (gSub' (mVar 3) (mVar 4))) (sSeq (sIf (mTr (mCall r_is_tied (mCons (mOp wIx (mFld [0] "dealings" (mVar 0)) (mVar 4)) (mCons (mVar 2) (mNil))))) (sExpr (mLm fAppend (mOp wIx (mVar 3) (mVar 4)) (mCons (mVar 1) (mNil)))) (sNx)) (sIf (mTr (mCall r_is_tied (mCons (mVar 2) (mCons (mOp wIx (mFld [0] "dealings" (mVar 0)) (mVar 4)) (mNil))))) (sExpr (mLm fAppend (mOp wIx (mVar 3) (mVar 1)) (mCons (mVar 4) (mNil)))) (sNx)))))) (sRet (mVar 3)))
noncomputable def r_Check_ways_with : RunM := runOf 5 m_Check_ways_with
noncomputable def m_ring_from : MS := sSeq (sAsg (mDisp (mPair (mVar 0) (mC (.bl true)) (mPair0))) (gName' 2)) (sSeq (sAsg (mLst true (mCons (mTup (mCons (mVar 0) (mNil))) (mNil))) (gName' 3)) (sSeq (sWhile 1000000 (mTr (mVar 3)) (sSeq (sAsg (mLst false (mNil)) (gName' 4)) (sSeq (sFor (iL (mVar 3)) (gName' 5) (sFor (iL (mFn (fSortedX true) (mCons (mOp wIx (mVar 1) (mOp wIx (mVar 5) (mNeg (mC (.int 1))))) (mNil)))) (gName' 6) (sSeq (sIf (mB (mOp (wEq) (mVar 6) (mVar 0))) (sRet (mVar 5)) (sNx)) (sIf (mB (mDin true (mVar 6) (mVar 2))) (sSeq (sAsg (mC (.bl true)) (gSub' (mVar 2) (mVar 6))) (sExpr (mLm fAppend (mVar 4) (mCons (mTupS (mStar (mVar 5) (mCons (mVar 6) (mNil)))) (mNil))))) (sNx))))) (sAsg (mVar 4) (gName' 3))))) (sRet (mC .non))))
noncomputable def r_ring_from : RunM := runOf 7 m_ring_from
noncomputable def m_Check_judged : MS := sSeq (sExpr (mMeth [(0, r_Check_demand_open)] "demand_open" (mVar 0) (mCons (mVar 1) (mNil)))) (sSeq (sIf (mOr (mNot (mTr (mCall r_is_keys (mCons (mVar 2) (mNil))))) (mNot (mTr (mCall r_is_ranges (mCons (mVar 3) (mNil)))))) (sRaise 6) (sNx)) (sSeq (sIf (mNot (mTr (mCall r_is_writes (mCons (mVar 4) (mNil))))) (sRaise 7) (sNx)) (sSeq (sAsg (mIf (mTr (mVar 4)) (mOp (wAdd true) (mFld [0] "newest" (mVar 0)) (mC (.int 1))) (mC .non)) (gName' 5)) (sSeq (sAsg (mMake 1 r_Dealing_init (mCons (mOp wIx (mFld [0] "snapshots" (mVar 0)) (mVar 1)) (mCons (mVar 5) (mCons (mVar 2) (mCons (mVar 3) (mCons (mVar 4) (mNil))))))) (gName' 6)) (sSeq (sAsg (mMeth [(0, r_Check_ways_with)] "ways_with" (mVar 0) (mCons (mVar 1) (mCons (mVar 6) (mNil)))) (gName' 7)) (sSeq (sAsg (mCall r_ring_from (mCons (mVar 1) (mCons (mVar 7) (mNil)))) (gName' 8)) (sSeq (sIf (mB (mOp (wIsNot) (mVar 8) (mC .non))) (sRaise1 8 "ring" (mCons (mVar 8) (mNil))) (sNx)) (sRet (mTup (mCons (mVar 6) (mCons (mVar 7) (mNil))))))))))))
noncomputable def r_Check_judged : RunM := runOf 9 m_Check_judged
noncomputable def m_reached_from : MS := sSeq (sAsg (mDict0) (gName' 2)) (sSeq (sAsg (mFn (fList false) (mCons (mVar 0) (mNil))) (gName' 3)) (sSeq (sWhile 1000000 (mTr (mVar 3)) (sSeq (sAsg (mLm fPop (mVar 3) mNil) (gName' 4)) (sIf (mB (mDin true (mVar 4) (mVar 2))) (sSeq (sAsg (mC (.bl true)) (gSub' (mVar 2) (mVar 4))) (sExpr (mLm fExtX (mVar 3) (mCons (mOp wIx (mVar 1) (mVar 4)) (mNil))))) (sNx)))) (sRet (mVar 2))))
noncomputable def r_reached_from : RunM := runOf 5 m_reached_from
noncomputable def m_Check_unseen : MS := sSeq (sAsg (mMeth [(0, r_Check_least_snapshot)] "least_snapshot" (mVar 0) mNil) (gName' 1)) (sSeq (sAsg (mLock (mFld [0] "dealings" (mVar 0)) (mDcomp (iK (mFld [0] "dealings" (mVar 0))) [3] (.one 3) (mYes) (mVar 3) (mFld [1] "number" (mOp wIx (mFld [0] "dealings" (mVar 0)) (mVar 3))))) (gName' 2)) (sRet (mLock (mVar 2) (mComp true (iK (mVar 2)) [3] (.one 3) (mAnd (mB (mOp (wIsNot) (mOp wIx (mVar 2) (mVar 3)) (mC .non))) (mB (mOp (wCmpS (fun i j => decide (j.cps.toList < i.cps.toList)) (fun i j => decide (j < i))) (mOp wIx (mVar 2) (mVar 3)) (mVar 1)))) (mVar 3)))))
noncomputable def r_Check_unseen : RunM := runOf 4 m_Check_unseen
noncomputable def m_Check_forget : MS := sSeq (sAsg (mCall r_reached_from (mCons (mMeth [(0, r_Check_unseen)] "unseen" (mVar 0) mNil) (mCons (mFld [0] "ways" (mVar 0)) (mNil)))) (gName' 1)) (sSeq (sFld' [0] "dealings" (mVar 0) (mLock (mFld [0] "dealings" (mVar 0)) (mDcomp (iK (mFld [0] "dealings" (mVar 0))) [2] (.one 2) (mB (mDin false (mVar 2) (mVar 1))) (mVar 2) (mOp wIx (mFld [0] "dealings" (mVar 0)) (mVar 2))))) (sFld' [0] "ways" (mVar 0) (mLock (mFld [0] "ways" (mVar 0)) (mDcomp (iK (mFld [0] "ways" (mVar 0))) [2] (.one 2) (mB (mDin false (mVar 2) (mVar 1))) (mVar 2) (mOp wIx (mFld [0] "ways" (mVar 0)) (mVar 2))))))
noncomputable def r_Check_forget : RunM := runOf 3 m_Check_forget
noncomputable def m_Check_commits : MS := sSeq (sAsg (mMeth [(0, r_Check_judged)] "judged" (mVar 0) (mCons (mVar 1) (mCons (mVar 2) (mCons (mVar 3) (mCons (mVar 4) (mNil)))))) (gTup' [gName' 5, gName' 6])) (sSeq (sAsg (mVar 5) (gSub' (mFld [0] "dealings" (mVar 0)) (mVar 1))) (sSeq (sFld' [0] "ways" (mVar 0) (mVar 6)) (sSeq (sIf (mB (mOp (wIsNot) (mFld [1] "number" (mVar 5)) (mC .non))) (sFld' [0] "newest" (mVar 0) (mFld [1] "number" (mVar 5))) (sNx)) (sSeq (sDel (mFld [0] "snapshots" (mVar 0)) (mVar 1)) (sSeq (sExpr (mMeth [(0, r_Check_forget)] "forget" (mVar 0) mNil)) (sRet (mFld [1] "number" (mVar 5))))))))
noncomputable def r_Check_commits : RunM := runOf 7 m_Check_commits
noncomputable def m_Check_gives_up : MS := sSeq (sExpr (mMeth [(0, r_Check_demand_open)] "demand_open" (mVar 0) (mCons (mVar 1) (mNil)))) (sSeq (sDel (mFld [0] "snapshots" (mVar 0)) (mVar 1)) (sExpr (mMeth [(0, r_Check_forget)] "forget" (mVar 0) mNil)))
noncomputable def r_Check_gives_up : RunM := runOf 2 m_Check_gives_up
noncomputable def m_law_ready : MS := sSeq (sAsg (mMake 0 r_Check_init (mCons (mVar 1) (mNil))) (gName' 2)) (sSeq (sFor (iR1 (mCons (mC (.int 3)) (mNil))) (gName' 3) (sExpr (mMeth [(0, r_Check_opens)] "opens" (mVar 2) (mCons (mVar 1) (mNil))))) (sSeq (sExpr (mMeth [(0, r_Check_commits)] "commits" (mVar 2) (mCons (mC (.int 1)) (mCons (mTup (mCons (mC (.str "a")) (mNil))) (mCons (mTup (mNil)) (mCons (mTup (mCons (mTup (mCons (mC (.str "b")) (mCons (mC (.int 4)) (mNil)))) (mNil))) (mNil))))))) (sSeq (sExpr (mMeth [(0, r_Check_gives_up)] "gives_up" (mVar 2) (mCons (mC (.int 2)) (mNil)))) (sSeq (sExpr (mMeth [(0, r_Check_opens)] "opens" (mVar 2) (mCons (mOp (wAdd true) (mVar 1) (mC (.int 1))) (mNil)))) (sRet (mVar 2))))))
noncomputable def r_law_ready : RunM := runOf 4 m_law_ready
noncomputable def m_Check_last : MS := sRet (mFld [0] "newest" (mVar 0))
noncomputable def r_Check_last : RunM := runOf 1 m_Check_last
noncomputable def m_Check_open_entries : MS := sRet (mFn fTuple (mCons (mFn (fSortedX true) (mCons (mFld [0] "snapshots" (mVar 0)) (mNil))) (mNil)))
noncomputable def r_Check_open_entries : RunM := runOf 1 m_Check_open_entries
noncomputable def m_Check_remembered : MS := sRet (mFn fTuple (mCons (mFn (fSortedX true) (mCons (mFld [0] "dealings" (mVar 0)) (mNil))) (mNil)))
noncomputable def r_Check_remembered : RunM := runOf 1 m_Check_remembered
noncomputable def m_Check_copy : MS := sSeq (sAsg (mMake 0 r_Check_init (mCons (mFld [0] "newest" (mVar 0)) (mNil))) (gName' 1)) (sSeq (sFld' [0] "opened" (mVar 1) (mFld [0] "opened" (mVar 0))) (sSeq (sFld' [0] "snapshots" (mVar 1) (mFn fDict (mCons (mFld [0] "snapshots" (mVar 0)) (mNil)))) (sSeq (sFld' [0] "dealings" (mVar 1) (mFn fDict (mCons (mFld [0] "dealings" (mVar 0)) (mNil)))) (sSeq (sFld' [0] "ways" (mVar 1) (mLock (mFld [0] "ways" (mVar 0)) (mDcomp (iK (mFld [0] "ways" (mVar 0))) [2] (.one 2) (mYes) (mVar 2) (mFn (fList true) (mCons (mOp wIx (mFld [0] "ways" (mVar 0)) (mVar 2)) (mNil)))))) (sRet (mVar 1))))))
noncomputable def r_Check_copy : RunM := runOf 3 m_Check_copy
noncomputable def m_law_is_key : MS := sSeq (sIf (mOr (mNot (mTr (mFn (fIsi x_own) (mCons (mVar 0) (mCons (mC (.ty "str")) (mNil)))))) (mNot (mB (mChain (wCmpS (fun i j => !decide (j.cps.toList < i.cps.toList)) (fun i j => decide (i ≤ j))) (wCmpS (fun i j => !decide (j.cps.toList < i.cps.toList)) (fun i j => decide (i ≤ j))) (mC (.int 1)) (mFn fLen (mCons (mVar 0) (mNil))) (mC (.int 12)))))) (sRet (mC (.bl false))) (sNx)) (sRet (mFn fAll (mCons (mComp true (iS (mVar 0)) [1] (.one 1) (mYes) (mOp (wIn false) (mVar 1) (mC (.str "abcdefghijklmnopqrstuvwxyz")))) (mNil))))
noncomputable def r_law_is_key : RunM := runOf 2 m_law_is_key
noncomputable def m_law_are_writes : MS := sSeq (sIf (mNot (mTr (mFn (fIsi x_own) (mCons (mVar 0) (mCons (mC (.ty "tuple")) (mNil)))))) (sRet (mC (.bl false))) (sNx)) (sSeq (sFor (iT (mVar 0)) (gName' 1) (sSeq (sIf (mOr (mNot (mTr (mFn (fIsi x_own) (mCons (mVar 1) (mCons (mC (.ty "tuple")) (mNil)))))) (mOr (mB (mOp (wNe) (mFn fLen (mCons (mVar 1) (mNil))) (mC (.int 2)))) (mNot (mTr (mCall r_law_is_key (mCons (mOp wIx (mVar 1) (mC (.int 0))) (mNil))))))) (sRet (mC (.bl false))) (sNx)) (sIf (mAnd (mB (mOp (wIsNot) (mOp wIx (mVar 1) (mC (.int 1))) (mC .non))) (mNot (mTr (mCall r_law_is_int (mCons (mOp wIx (mVar 1) (mC (.int 1))) (mCons (mNeg (mOp (wPow) (mC (.int 10)) (mC (.int 18)))) (mCons (mOp (wPow) (mC (.int 10)) (mC (.int 18))) (mNil)))))))) (sRet (mC (.bl false))) (sNx)))) (sRet (mFn fAll (mCons (mComp true (iZT (mCons (mVar 0) (mCons (mSl true (mVar 0) (mPart (mC (.int 1))) (mNoPart)) (mNil)))) [1, 2] (.tup [1, 2]) (mYes) (mOp (wCmpS (fun i j => decide (i.cps.toList < j.cps.toList)) (fun i j => decide (i < j))) (mOp wIx (mVar 1) (mC (.int 0))) (mOp wIx (mVar 2) (mC (.int 0))))) (mNil)))))
noncomputable def r_law_are_writes : RunM := runOf 3 m_law_are_writes
noncomputable def m_law_are_keys : MS := sSeq (sIf (mOr (mNot (mTr (mFn (fIsi x_own) (mCons (mVar 0) (mCons (mC (.ty "tuple")) (mNil)))))) (mNot (mTr (mFn fAll (mCons (mComp true (iT (mVar 0)) [3] (.one 3) (mYes) (mCall r_law_is_key (mCons (mVar 3) (mNil)))) (mNil)))))) (sRet (mC (.bl false))) (sNx)) (sRet (mFn fAll (mCons (mComp true (iZT (mCons (mVar 0) (mCons (mSl true (mVar 0) (mPart (mC (.int 1))) (mNoPart)) (mNil)))) [1, 2] (.tup [1, 2]) (mYes) (mOp (wCmpS (fun i j => decide (i.cps.toList < j.cps.toList)) (fun i j => decide (i < j))) (mVar 1) (mVar 2))) (mNil))))
noncomputable def r_law_are_keys : RunM := runOf 4 m_law_are_keys
noncomputable def m_law_are_ranges : MS := sSeq (sIf (mNot (mTr (mFn (fIsi x_own) (mCons (mVar 0) (mCons (mC (.ty "tuple")) (mNil)))))) (sRet (mC (.bl false))) (sNx)) (sSeq (sFor (iT (mVar 0)) (gName' 1) (sSeq (sIf (mOr (mNot (mTr (mFn (fIsi x_own) (mCons (mVar 1) (mCons (mC (.ty "tuple")) (mNil)))))) (mOr (mB (mOp (wNe) (mFn fLen (mCons (mVar 1) (mNil))) (mC (.int 3)))) (mOr (mNot (mTr (mCall r_law_is_key (mCons (mOp wIx (mVar 1) (mC (.int 0))) (mNil))))) (mNot (mTr (mCall r_law_is_key (mCons (mOp wIx (mVar 1) (mC (.int 1))) (mNil)))))))) (sRet (mC (.bl false))) (sNx)) (sIf (mOr (mB (mOp (wCmpS (fun i j => decide (j.cps.toList < i.cps.toList)) (fun i j => decide (j < i))) (mOp wIx (mVar 1) (mC (.int 0))) (mOp wIx (mVar 1) (mC (.int 1))))) (mOr (mNot (mTr (mCall r_law_are_keys (mCons (mOp wIx (mVar 1) (mC (.int 2))) (mNil))))) (mNot (mTr (mFn fAll (mCons (mComp true (iT (mOp wIx (mVar 1) (mC (.int 2)))) [3] (.one 3) (mYes) (mChain (wCmpS (fun i j => !decide (j.cps.toList < i.cps.toList)) (fun i j => decide (i ≤ j))) (wCmpS (fun i j => !decide (j.cps.toList < i.cps.toList)) (fun i j => decide (i ≤ j))) (mOp wIx (mVar 1) (mC (.int 0))) (mVar 3) (mOp wIx (mVar 1) (mC (.int 1))))) (mNil))))))) (sRet (mC (.bl false))) (sNx)))) (sRet (mFn fAll (mCons (mComp true (iZT (mCons (mVar 0) (mCons (mSl true (mVar 0) (mPart (mC (.int 1))) (mNoPart)) (mNil)))) [1, 2] (.tup [1, 2]) (mYes) (mOp (wCmpS (fun i j => decide (i.cps.toList < j.cps.toList)) (fun i j => decide (i < j))) (mVar 1) (mVar 2))) (mNil)))))
noncomputable def r_law_are_ranges : RunM := runOf 4 m_law_are_ranges
noncomputable def m_Check_would_commit : MS := sSeq (sAsg (mMeth [(0, r_Check_judged)] "judged" (mVar 0) (mCons (mVar 1) (mCons (mVar 2) (mCons (mVar 3) (mCons (mVar 4) (mNil)))))) (gTup' [gName' 5, gName' 6])) (sRet (mFld [1] "number" (mVar 5)))
noncomputable def r_Check_would_commit : RunM := runOf 7 m_Check_would_commit
noncomputable def m_Check_key_into : MS := sSeq (sAsg (mOp wIx (mFld [0] "dealings" (mVar 0)) (mVar 1)) (gName' 2)) (sSeq (sIf (mTr (mFld [1] "writes" (mVar 2))) (sRet (mOp wIx (mOp wIx (mFld [1] "writes" (mVar 2)) (mC (.int 0))) (mC (.int 0)))) (sNx)) (sSeq (sStk) (sStk)))
noncomputable def r_Check_key_into : RunM := runOf 7 m_Check_key_into
noncomputable def m_Check_could_ring : MS := sSeq (sIf (mOr (mNot (mTr (mCall r_is_number (mCons (mVar 1) (mNil))))) (mB (mDin true (mVar 1) (mFld [0] "dealings" (mVar 0))))) (sRaise 9) (sNx)) (sSeq (sAsg (mMeth [(0, r_Check_least_snapshot)] "least_snapshot" (mVar 0) mNil) (gName' 2)) (sSeq (sAsg (mFn fMinL (mCons (mLock (mFld [0] "snapshots" (mVar 0)) (mComp true (iK (mFld [0] "snapshots" (mVar 0))) [8] (.one 8) (mB (mOp (wEq) (mOp wIx (mFld [0] "snapshots" (mVar 0)) (mVar 8)) (mVar 2))) (mVar 8))) (mNil))) (gName' 3)) (sSeq (sAsg (mComp true (iL (mMeth [(0, r_Check_unseen)] "unseen" (mVar 0) mNil)) [7] (.one 7) (mB (mDin false (mVar 1) (mCall r_reached_from (mCons (mLst true (mCons (mVar 7) (mNil))) (mCons (mFld [0] "ways" (mVar 0)) (mNil)))))) (mVar 7)) (gName' 4)) (sSeq (sAsg (mIf (mB (mOp (wIn false) (mVar 1) (mVar 4))) (mVar 1) (mFn fMinL (mCons (mVar 4) (mNil)))) (gName' 5)) (sSeq (sAsg (mOp wIx (mOp wIx (mFld [1] "writes" (mOp wIx (mFld [0] "dealings" (mVar 0)) (mVar 5))) (mC (.int 0))) (mC (.int 0))) (gName' 6)) (sRet (mTup (mCons (mVar 3) (mCons (mTup (mCons (mVar 6) (mNil))) (mCons (mTup (mCons (mTup (mCons (mMeth [(0, r_Check_key_into)] "key_into" (mVar 0) (mCons (mVar 1) (mNil))) (mCons (mC (.int 0)) (mNil)))) (mNil))) (mNil)))))))))))
noncomputable def r_Check_could_ring : RunM := runOf 9 m_Check_could_ring
noncomputable def m_law : MS := sSeq (sAsg (mCall r_law_hand (mCons (mVar 0) (mNil))) (gName' 1)) (sSeq (sGc [2, 3] (sSeq (sAsg (mGcS (mCall r_law_odd (mCons (mVar 1) (mCons (mC (.int 0)) (mNil))))) (gName' 2)) (sSeq (sAsg (mIf (mTr (mCall r_law_is_int (mCons (mVar 2) (mCons (mC (.int 0)) (mCons (mOp (wPow) (mC (.int 10)) (mC (.int 40))) (mNil)))))) (mC (.str "let")) (mC (.str "number"))) (gName' 3)) (sIf (mB (mOp (wNe) (mGc (mLam 0 "law.<locals>.<lambda>" (fun F cl => mL_law_word F cl) 3 (mMake 0 r_Check_init (mCons (mVar 2) (mNil))))) (mVar 3))) (sRet (mC (.bl false))) (sNx))))) (sSeq (sAsg (mOp wIx (mLst true (mCons (mC (.int 0)) (mCons (mC (.int 5)) (mCons (mOp (wPow) (mC (.int 10)) (mC (.int 17))) (mNil))))) (mCall r_law_draw (mCons (mVar 1) (mCons (mC (.int 3)) (mNil))))) (gName' 4)) (sSeq (sAsg (mCall r_law_ready (mCons (mVar 1) (mCons (mVar 4) (mNil)))) (gName' 5)) (sSeq (sAsg (mTup (mCons (mMeth [(0, r_Check_last)] "last" (mVar 5) mNil) (mCons (mMeth [(0, r_Check_open_entries)] "open_entries" (mVar 5) mNil) (mCons (mMeth [(0, r_Check_remembered)] "remembered" (mVar 5) mNil) (mNil))))) (gName' 6)) (sSeq (sIf (mB (mOp (wNe) (mVar 6) (mTup (mCons (mOp (wAdd true) (mVar 4) (mC (.int 1))) (mCons (mTup (mCons (mC (.int 0)) (mCons (mC (.int 3)) (mNil)))) (mCons (mTup (mCons (mC (.int 1)) (mNil))) (mNil))))))) (sRet (mC (.bl false))) (sNx)) (sSeq (sFor (iR1 (mCons (mC (.int 6)) (mNil))) (gName' 7) (sSeq (sGc [8, 3] (sSeq (sAsg (mGcS (mOp wIx (mLst true (mCons (mVar 4) (mCons (mOp (wAdd true) (mVar 4) (mC (.int 1))) (mCons (mOp (wSub) (mVar 4) (mC (.int 1))) (mCons (mOp (wAdd true) (mVar 4) (mC (.int 2))) (mCons (mGcS (mCall r_law_odd (mCons (mVar 1) (mCons (mVar 4) (mNil))))) (mCons (mC (.bl true)) (mCons (mC .non) (mCons (mC (.str "0")) (mNil)))))))))) (mCall r_law_draw (mCons (mVar 1) (mCons (mC (.int 8)) (mNil)))))) (gName' 8)) (sSeq (sAsg (mIf (mTr (mCall r_law_is_int (mCons (mVar 8) (mCons (mVar 4) (mCons (mOp (wAdd true) (mVar 4) (mC (.int 1))) (mNil)))))) (mC (.str "let")) (mC (.str "snapshot"))) (gName' 3)) (sIf (mB (mOp (wNe) (mGc (mLam 0 "law.<locals>.<lambda>" (fun F cl => mL_law_word F cl) 3 (mMeth [(0, r_Check_opens)] "opens" (mMeth [(0, r_Check_copy)] "copy" (mVar 5) mNil) (mCons (mVar 8) (mNil))))) (mVar 3))) (sRet (mC (.bl false))) (sNx))))) (sGc [9, 10, 11, 12, 13, 3, 14] (sSeq (sAsg (mGcS (mOp wIx (mLst true (mCons (mC (.int 0)) (mCons (mC (.int 3)) (mCons (mC (.int 1)) (mCons (mC (.int 2)) (mCons (mC (.int 4)) (mCons (mC (.bl true)) (mCons (mC (.bl false)) (mCons (mGcS (mCall r_law_odd (mCons (mVar 1) (mCons (mC (.int 0)) (mNil))))) (mNil)))))))))) (mCall r_law_draw (mCons (mVar 1) (mCons (mC (.int 8)) (mNil)))))) (gName' 9)) (sSeq (sAsg (mBl (mAnd (mB (mCall r_law_is_int (mCons (mVar 9) (mCons (mC (.int 0)) (mCons (mC (.int 3)) (mNil)))))) (mB (mOp (wIn false) (mVar 9) (mTup (mCons (mC (.int 0)) (mCons (mC (.int 3)) (mNil)))))))) (gName' 10)) (sSeq (sAsg (mTup (mCons (mGcS (mCall r_law_odd (mCons (mVar 1) (mCons (mTup (mCons (mC (.str "c")) (mNil))) (mNil))))) (mCons (mGcS (mCall r_law_odd (mCons (mVar 1) (mCons (mTup (mNil)) (mNil))))) (mCons (mGcS (mCall r_law_odd (mCons (mVar 1) (mCons (mTup (mCons (mTup (mCons (mC (.str "d")) (mCons (mC (.int 1)) (mNil)))) (mNil))) (mNil))))) (mNil))))) (gTup' [gName' 11, gName' 12, gName' 13])) (sSeq (sAsg (mIf (mTr (mCall r_law_are_writes (mCons (mVar 13) (mNil)))) (mC (.str "let")) (mC (.str "writes"))) (gName' 3)) (sSeq (sAsg (mIf (mAnd (mTr (mCall r_law_are_keys (mCons (mVar 11) (mNil)))) (mTr (mCall r_law_are_ranges (mCons (mVar 12) (mNil))))) (mVar 3) (mC (.str "seen"))) (gName' 3)) (sSeq (sAsg (mIf (mTr (mVar 10)) (mVar 3) (mC (.str "open"))) (gName' 3)) (sSeq (sAsg (mGc (mLam 0 "law.<locals>.<lambda>" (fun F cl => mL_law_word F cl) 3 (mMeth [(0, r_Check_commits)] "commits" (mMeth [(0, r_Check_copy)] "copy" (mVar 5) mNil) (mCons (mVar 9) (mCons (mVar 11) (mCons (mVar 12) (mCons (mVar 13) (mNil)))))))) (gName' 14)) (sSeq (sIf (mAnd (mB (mOp (wNe) (mVar 14) (mVar 3))) (mOr (mB (mOp (wNe) (mVar 14) (mC (.str "other")))) (mB (mOp (wNe) (mVar 3) (mC (.str "let")))))) (sRet (mC (.bl false))) (sNx)) (sSeq (sIf (mB (mOp (wNe) (mGc (mLam 0 "law.<locals>.<lambda>" (fun F cl => mL_law_word F cl) 3 (mMeth [(0, r_Check_would_commit)] "would_commit" (mVar 5) (mCons (mVar 9) (mCons (mVar 11) (mCons (mVar 12) (mCons (mVar 13) (mNil)))))))) (mVar 14))) (sRet (mC (.bl false))) (sNx)) (sSeq (sIf (mB (mOp (wNe) (mGc (mLam 0 "law.<locals>.<lambda>" (fun F cl => mL_law_word F cl) 3 (mMeth [(0, r_Check_gives_up)] "gives_up" (mMeth [(0, r_Check_copy)] "copy" (mVar 5) mNil) (mCons (mVar 9) (mNil))))) (mIf (mTr (mVar 10)) (mC (.str "let")) (mC (.str "open"))))) (sRet (mC (.bl false))) (sNx)) (sSeq (sAsg (mIf (mTr (mCall r_law_is_int (mCons (mVar 9) (mCons (mC (.int 1)) (mCons (mC (.int 1)) (mNil)))))) (mC (.str "let")) (mC (.str "known"))) (gName' 3)) (sIf (mB (mOp (wNe) (mGc (mLam 0 "law.<locals>.<lambda>" (fun F cl => mL_law_word F cl) 3 (mMeth [(0, r_Check_could_ring)] "could_ring" (mVar 5) (mCons (mVar 9) (mNil))))) (mVar 3))) (sRet (mC (.bl false))) (sNx)))))))))))))))) (sRet (mOp (wEq) (mTup (mCons (mMeth [(0, r_Check_last)] "last" (mVar 5) mNil) (mCons (mMeth [(0, r_Check_open_entries)] "open_entries" (mVar 5) mNil) (mCons (mMeth [(0, r_Check_remembered)] "remembered" (mVar 5) mNil) (mNil))))) (mVar 6)))))))))
noncomputable def r_law : RunM := runOf 15 m_law
/-! what stands where -/
structure Tx (K : PySem.W.Frag) (mg : Str → Option Value) where
  C_Check : Addr
  C_Dealing : Addr
  C_StoreError : Addr
  C_NoSnapshot : Addr
  C_NoNumber : Addr
  C_NotOpen : Addr
  C_BadSeen : Addr
  C_BadWrites : Addr
  C_Refused : Addr
  C_NotRemembered : Addr
  a_law_hand : Addr
  d_law_hand : FuncData
  F_law_hand : Fun K "_law_hand" "_law_hand" s_law_hand a_law_hand d_law_hand
  b_law_hand : Binds K d_law_hand ["script"] []
  g_law_hand : mg "_law_hand" = some (.ref a_law_hand)
  a_law_draw : Addr
  d_law_draw : FuncData
  F_law_draw : Fun K "_law_draw" "_law_draw" s_law_draw a_law_draw d_law_draw
  b_law_draw : Binds K d_law_draw ["hand", "many"] []
  g_law_draw : mg "_law_draw" = some (.ref a_law_draw)
  a_law_deep : Addr
  d_law_deep : FuncData
  F_law_deep : Fun K "_law_deep" "_law_deep" s_law_deep a_law_deep d_law_deep
  b_law_deep : Binds K d_law_deep ["hand"] []
  g_law_deep : mg "_law_deep" = some (.ref a_law_deep)
  a_law_odd : Addr
  d_law_odd : FuncData
  F_law_odd : Fun K "_law_odd" "_law_odd" s_law_odd a_law_odd d_law_odd
  b_law_odd : Binds K d_law_odd ["hand", "right"] []
  g_law_odd : mg "_law_odd" = some (.ref a_law_odd)
  a_law_is_int : Addr
  d_law_is_int : FuncData
  F_law_is_int : Fun K "_law_is_int" "_law_is_int" s_law_is_int a_law_is_int d_law_is_int
  b_law_is_int : Binds K d_law_is_int ["thing", "least", "most"] []
  g_law_is_int : mg "_law_is_int" = some (.ref a_law_is_int)
  a_law_word : Addr
  d_law_word : FuncData
  F_law_word : Fun K "_law_word" "_law_word" s_law_word a_law_word d_law_word
  b_law_word : Binds K d_law_word ["call"] []
  g_law_word : mg "_law_word" = some (.ref a_law_word)
  a_is_integer : Addr
  d_is_integer : FuncData
  F_is_integer : Fun K "is_integer" "is_integer" s_is_integer a_is_integer d_is_integer
  b_is_integer : Binds K d_is_integer ["thing"] []
  g_is_integer : mg "is_integer" = some (.ref a_is_integer)
  a_is_number : Addr
  d_is_number : FuncData
  F_is_number : Fun K "is_number" "is_number" s_is_number a_is_number d_is_number
  b_is_number : Binds K d_is_number ["thing"] []
  g_is_number : mg "is_number" = some (.ref a_is_number)
  a_Check_init : Addr
  d_Check_init : FuncData
  F_Check_init : Fun K "__init__" "Check.__init__" s_Check_init a_Check_init d_Check_init
  b_Check_init : Binds K d_Check_init ["self", "last"] []
  a_is_within : Addr
  d_is_within : FuncData
  F_is_within : Fun K "is_within" "is_within" s_is_within a_is_within d_is_within
  b_is_within : Binds K d_is_within ["low", "high", "thing"] []
  g_is_within : mg "is_within" = some (.ref a_is_within)
  a_Check_least_snapshot : Addr
  d_Check_least_snapshot : FuncData
  F_Check_least_snapshot : Fun K "least_snapshot" "Check.least_snapshot" s_Check_least_snapshot a_Check_least_snapshot d_Check_least_snapshot
  b_Check_least_snapshot : Binds K d_Check_least_snapshot ["self"] []
  a_Check_opens : Addr
  d_Check_opens : FuncData
  F_Check_opens : Fun K "opens" "Check.opens" s_Check_opens a_Check_opens d_Check_opens
  b_Check_opens : Binds K d_Check_opens ["self", "snapshot"] []
  a_Check_demand_open : Addr
  d_Check_demand_open : FuncData
  F_Check_demand_open : Fun K "demand_open" "Check.demand_open" s_Check_demand_open a_Check_demand_open d_Check_demand_open
  b_Check_demand_open : Binds K d_Check_demand_open ["self", "entry"] []
  a_is_word : Addr
  d_is_word : FuncData
  F_is_word : Fun K "is_word" "is_word" s_is_word a_is_word d_is_word
  b_is_word : Binds K d_is_word ["thing"] []
  g_is_word : mg "is_word" = some (.ref a_is_word)
  a_is_key : Addr
  d_is_key : FuncData
  F_is_key : Fun K "is_key" "is_key" s_is_key a_is_key d_is_key
  b_is_key : Binds K d_is_key ["thing"] []
  g_is_key : mg "is_key" = some (.ref a_is_key)
  a_is_tuple_of_is_key : Addr
  d_is_tuple_of_is_key : FuncData
  F_is_tuple_of_is_key : Fun K "is_tuple_of" "is_tuple_of" s_is_tuple_of_is_key a_is_tuple_of_is_key d_is_tuple_of_is_key
  b_is_tuple_of_is_key : Binds K d_is_tuple_of_is_key ["judge", "thing"] []
  g_is_tuple_of_is_key : mg "is_tuple_of" = some (.ref a_is_tuple_of_is_key)
  a_is_ascending : Addr
  d_is_ascending : FuncData
  F_is_ascending : Fun K "is_ascending" "is_ascending" s_is_ascending a_is_ascending d_is_ascending
  b_is_ascending : Binds K d_is_ascending ["row"] []
  g_is_ascending : mg "is_ascending" = some (.ref a_is_ascending)
  a_is_keys : Addr
  d_is_keys : FuncData
  F_is_keys : Fun K "is_keys" "is_keys" s_is_keys a_is_keys d_is_keys
  b_is_keys : Binds K d_is_keys ["thing"] []
  g_is_keys : mg "is_keys" = some (.ref a_is_keys)
  a_is_tuple : Addr
  d_is_tuple : FuncData
  F_is_tuple : Fun K "is_tuple" "is_tuple" s_is_tuple a_is_tuple d_is_tuple
  b_is_tuple : Binds K d_is_tuple ["many", "thing"] []
  g_is_tuple : mg "is_tuple" = some (.ref a_is_tuple)
  a_is_range : Addr
  d_is_range : FuncData
  F_is_range : Fun K "is_range" "is_range" s_is_range a_is_range d_is_range
  b_is_range : Binds K d_is_range ["thing"] []
  g_is_range : mg "is_range" = some (.ref a_is_range)
  a_is_tuple_of_is_range : Addr
  d_is_tuple_of_is_range : FuncData
  F_is_tuple_of_is_range : Fun K "is_tuple_of" "is_tuple_of" s_is_tuple_of_is_range a_is_tuple_of_is_range d_is_tuple_of_is_range
  b_is_tuple_of_is_range : Binds K d_is_tuple_of_is_range ["judge", "thing"] []
  g_is_tuple_of_is_range : mg "is_tuple_of" = some (.ref a_is_tuple_of_is_range)
  a_is_ranges : Addr
  d_is_ranges : FuncData
  F_is_ranges : Fun K "is_ranges" "is_ranges" s_is_ranges a_is_ranges d_is_ranges
  b_is_ranges : Binds K d_is_ranges ["thing"] []
  g_is_ranges : mg "is_ranges" = some (.ref a_is_ranges)
  a_is_worth : Addr
  d_is_worth : FuncData
  F_is_worth : Fun K "is_worth" "is_worth" s_is_worth a_is_worth d_is_worth
  b_is_worth : Binds K d_is_worth ["thing"] []
  g_is_worth : mg "is_worth" = some (.ref a_is_worth)
  a_is_mark : Addr
  d_is_mark : FuncData
  F_is_mark : Fun K "is_mark" "is_mark" s_is_mark a_is_mark d_is_mark
  b_is_mark : Binds K d_is_mark ["thing"] []
  g_is_mark : mg "is_mark" = some (.ref a_is_mark)
  a_is_write : Addr
  d_is_write : FuncData
  F_is_write : Fun K "is_write" "is_write" s_is_write a_is_write d_is_write
  b_is_write : Binds K d_is_write ["thing"] []
  g_is_write : mg "is_write" = some (.ref a_is_write)
  a_is_tuple_of_is_write : Addr
  d_is_tuple_of_is_write : FuncData
  F_is_tuple_of_is_write : Fun K "is_tuple_of" "is_tuple_of" s_is_tuple_of_is_write a_is_tuple_of_is_write d_is_tuple_of_is_write
  b_is_tuple_of_is_write : Binds K d_is_tuple_of_is_write ["judge", "thing"] []
  g_is_tuple_of_is_write : mg "is_tuple_of" = some (.ref a_is_tuple_of_is_write)
  a_is_writes : Addr
  d_is_writes : FuncData
  F_is_writes : Fun K "is_writes" "is_writes" s_is_writes a_is_writes d_is_writes
  b_is_writes : Binds K d_is_writes ["thing"] []
  g_is_writes : mg "is_writes" = some (.ref a_is_writes)
  a_is_number_for : Addr
  d_is_number_for : FuncData
  F_is_number_for : Fun K "is_number_for" "is_number_for" s_is_number_for a_is_number_for d_is_number_for
  b_is_number_for : Binds K d_is_number_for ["snapshot", "writes", "thing"] []
  g_is_number_for : mg "is_number_for" = some (.ref a_is_number_for)
  a_Dealing_init : Addr
  d_Dealing_init : FuncData
  F_Dealing_init : Fun K "__init__" "Dealing.__init__" s_Dealing_init a_Dealing_init d_Dealing_init
  b_Dealing_init : Binds K d_Dealing_init ["self", "snapshot", "number", "gets", "ranges", "writes"] []
  a_writes_key : Addr
  d_writes_key : FuncData
  F_writes_key : Fun K "writes_key" "writes_key" s_writes_key a_writes_key d_writes_key
  b_writes_key : Binds K d_writes_key ["dealing", "key"] []
  g_writes_key : mg "writes_key" = some (.ref a_writes_key)
  a_saw_key : Addr
  d_saw_key : FuncData
  F_saw_key : Fun K "saw_key" "saw_key" s_saw_key a_saw_key d_saw_key
  b_saw_key : Binds K d_saw_key ["dealing", "key"] []
  g_saw_key : mg "saw_key" = some (.ref a_saw_key)
  a_is_tied : Addr
  d_is_tied : FuncData
  F_is_tied : Fun K "is_tied" "is_tied" s_is_tied a_is_tied d_is_tied
  b_is_tied : Binds K d_is_tied ["one", "other"] []
  g_is_tied : mg "is_tied" = some (.ref a_is_tied)
  a_Check_ways_with : Addr
  d_Check_ways_with : FuncData
  F_Check_ways_with : Fun K "ways_with" "Check.ways_with" s_Check_ways_with a_Check_ways_with d_Check_ways_with
  b_Check_ways_with : Binds K d_Check_ways_with ["self", "entry", "dealing"] []
  a_ring_from : Addr
  d_ring_from : FuncData
  F_ring_from : Fun K "ring_from" "ring_from" s_ring_from a_ring_from d_ring_from
  b_ring_from : Binds K d_ring_from ["start", "ways"] []
  g_ring_from : mg "ring_from" = some (.ref a_ring_from)
  a_Check_judged : Addr
  d_Check_judged : FuncData
  F_Check_judged : Fun K "judged" "Check.judged" s_Check_judged a_Check_judged d_Check_judged
  b_Check_judged : Binds K d_Check_judged ["self", "entry", "keys", "ranges", "writes"] []
  a_reached_from : Addr
  d_reached_from : FuncData
  F_reached_from : Fun K "reached_from" "reached_from" s_reached_from a_reached_from d_reached_from
  b_reached_from : Binds K d_reached_from ["starts", "ways"] []
  g_reached_from : mg "reached_from" = some (.ref a_reached_from)
  a_Check_unseen : Addr
  d_Check_unseen : FuncData
  F_Check_unseen : Fun K "unseen" "Check.unseen" s_Check_unseen a_Check_unseen d_Check_unseen
  b_Check_unseen : Binds K d_Check_unseen ["self"] []
  a_Check_forget : Addr
  d_Check_forget : FuncData
  F_Check_forget : Fun K "forget" "Check.forget" s_Check_forget a_Check_forget d_Check_forget
  b_Check_forget : Binds K d_Check_forget ["self"] []
  a_Check_commits : Addr
  d_Check_commits : FuncData
  F_Check_commits : Fun K "commits" "Check.commits" s_Check_commits a_Check_commits d_Check_commits
  b_Check_commits : Binds K d_Check_commits ["self", "entry", "keys", "ranges", "writes"] []
  a_Check_gives_up : Addr
  d_Check_gives_up : FuncData
  F_Check_gives_up : Fun K "gives_up" "Check.gives_up" s_Check_gives_up a_Check_gives_up d_Check_gives_up
  b_Check_gives_up : Binds K d_Check_gives_up ["self", "entry"] []
  a_law_ready : Addr
  d_law_ready : FuncData
  F_law_ready : Fun K "_law_ready" "_law_ready" s_law_ready a_law_ready d_law_ready
  b_law_ready : Binds K d_law_ready ["hand", "last"] []
  g_law_ready : mg "_law_ready" = some (.ref a_law_ready)
  a_Check_last : Addr
  d_Check_last : FuncData
  F_Check_last : Fun K "last" "Check.last" s_Check_last a_Check_last d_Check_last
  b_Check_last : Binds K d_Check_last ["self"] []
  a_Check_open_entries : Addr
  d_Check_open_entries : FuncData
  F_Check_open_entries : Fun K "open_entries" "Check.open_entries" s_Check_open_entries a_Check_open_entries d_Check_open_entries
  b_Check_open_entries : Binds K d_Check_open_entries ["self"] []
  a_Check_remembered : Addr
  d_Check_remembered : FuncData
  F_Check_remembered : Fun K "remembered" "Check.remembered" s_Check_remembered a_Check_remembered d_Check_remembered
  b_Check_remembered : Binds K d_Check_remembered ["self"] []
  a_Check_copy : Addr
  d_Check_copy : FuncData
  F_Check_copy : Fun K "copy" "Check.copy" s_Check_copy a_Check_copy d_Check_copy
  b_Check_copy : Binds K d_Check_copy ["self"] []
  a_law_is_key : Addr
  d_law_is_key : FuncData
  F_law_is_key : Fun K "_law_is_key" "_law_is_key" s_law_is_key a_law_is_key d_law_is_key
  b_law_is_key : Binds K d_law_is_key ["thing"] []
  g_law_is_key : mg "_law_is_key" = some (.ref a_law_is_key)
  a_law_are_writes : Addr
  d_law_are_writes : FuncData
  F_law_are_writes : Fun K "_law_are_writes" "_law_are_writes" s_law_are_writes a_law_are_writes d_law_are_writes
  b_law_are_writes : Binds K d_law_are_writes ["thing"] []
  g_law_are_writes : mg "_law_are_writes" = some (.ref a_law_are_writes)
  a_law_are_keys : Addr
  d_law_are_keys : FuncData
  F_law_are_keys : Fun K "_law_are_keys" "_law_are_keys" s_law_are_keys a_law_are_keys d_law_are_keys
  b_law_are_keys : Binds K d_law_are_keys ["thing"] []
  g_law_are_keys : mg "_law_are_keys" = some (.ref a_law_are_keys)
  a_law_are_ranges : Addr
  d_law_are_ranges : FuncData
  F_law_are_ranges : Fun K "_law_are_ranges" "_law_are_ranges" s_law_are_ranges a_law_are_ranges d_law_are_ranges
  b_law_are_ranges : Binds K d_law_are_ranges ["thing"] []
  g_law_are_ranges : mg "_law_are_ranges" = some (.ref a_law_are_ranges)
  a_Check_would_commit : Addr
  d_Check_would_commit : FuncData
  F_Check_would_commit : Fun K "would_commit" "Check.would_commit" s_Check_would_commit a_Check_would_commit d_Check_would_commit
  b_Check_would_commit : Binds K d_Check_would_commit ["self", "entry", "keys", "ranges", "writes"] []
  a_Check_key_into : Addr
  d_Check_key_into : FuncData
  F_Check_key_into : Fun K "key_into" "Check.key_into" s_Check_key_into a_Check_key_into d_Check_key_into
  b_Check_key_into : Binds K d_Check_key_into ["self", "entry"] []
  a_Check_could_ring : Addr
  d_Check_could_ring : FuncData
  F_Check_could_ring : Fun K "could_ring" "Check.could_ring" s_Check_could_ring a_Check_could_ring d_Check_could_ring
  b_Check_could_ring : Binds K d_Check_could_ring ["self", "entry"] []
  a_law : Addr
  d_law : FuncData
  F_law : Fun K "law" "law" s_law a_law d_law
  b_law : Binds K d_law ["script"] []
  g_law : mg "law" = some (.ref a_law)
  c_law : Addr
  P_law : Addr
  L_law : FunL K "law" "law" s_law a_law d_law c_law
  bl : ∀ (s : Shared) (u : Value), BindsTo s d_law ⟨[u], []⟩ [("script", u)]
  cl_Check : Cls K C_Check
  cl_Dealing : Cls K C_Dealing
  io_Dealing : IsiOwn K C_Dealing
  ki_Dealing_int : PySem.W.kitOne K (.ref C_Dealing) (.type "int") = some false
  ki_Dealing_bool : PySem.W.kitOne K (.ref C_Dealing) (.type "bool") = some false
  ki_Dealing_str : PySem.W.kitOne K (.ref C_Dealing) (.type "str") = some false
  ki_Dealing_tuple : PySem.W.kitOne K (.ref C_Dealing) (.type "tuple") = some false
  e_StoreError : ExcF K mg C_StoreError "StoreError"
  xm_StoreError_StoreError : PySem.W.exmOne K (.ref C_StoreError) (.ref C_StoreError) = some true
  ec_StoreError : ExcC K C_StoreError
  kb_StoreError_ValueError : PySem.W.kitOne K (.ref C_StoreError) (.type "ValueError") = some true
  kt_StoreError_BadSeen : PySem.W.kitOne K (.ref C_StoreError) (.ref C_BadSeen) = some false
  kt_StoreError_BadWrites : PySem.W.kitOne K (.ref C_StoreError) (.ref C_BadWrites) = some false
  kt_StoreError_NoNumber : PySem.W.kitOne K (.ref C_StoreError) (.ref C_NoNumber) = some false
  kt_StoreError_NoSnapshot : PySem.W.kitOne K (.ref C_StoreError) (.ref C_NoSnapshot) = some false
  kt_StoreError_NotOpen : PySem.W.kitOne K (.ref C_StoreError) (.ref C_NotOpen) = some false
  kt_StoreError_NotRemembered : PySem.W.kitOne K (.ref C_StoreError) (.ref C_NotRemembered) = some false
  e_NoSnapshot : ExcF K mg C_NoSnapshot "NoSnapshot"
  xm_NoSnapshot_StoreError : PySem.W.exmOne K (.ref C_NoSnapshot) (.ref C_StoreError) = some true
  ec_NoSnapshot : ExcC K C_NoSnapshot
  kb_NoSnapshot_ValueError : PySem.W.kitOne K (.ref C_NoSnapshot) (.type "ValueError") = some true
  kt_NoSnapshot_BadSeen : PySem.W.kitOne K (.ref C_NoSnapshot) (.ref C_BadSeen) = some false
  kt_NoSnapshot_BadWrites : PySem.W.kitOne K (.ref C_NoSnapshot) (.ref C_BadWrites) = some false
  kt_NoSnapshot_NoNumber : PySem.W.kitOne K (.ref C_NoSnapshot) (.ref C_NoNumber) = some false
  kt_NoSnapshot_NoSnapshot : PySem.W.kitOne K (.ref C_NoSnapshot) (.ref C_NoSnapshot) = some true
  kt_NoSnapshot_NotOpen : PySem.W.kitOne K (.ref C_NoSnapshot) (.ref C_NotOpen) = some false
  kt_NoSnapshot_NotRemembered : PySem.W.kitOne K (.ref C_NoSnapshot) (.ref C_NotRemembered) = some false
  e_NoNumber : ExcF K mg C_NoNumber "NoNumber"
  xm_NoNumber_StoreError : PySem.W.exmOne K (.ref C_NoNumber) (.ref C_StoreError) = some true
  ec_NoNumber : ExcC K C_NoNumber
  kb_NoNumber_ValueError : PySem.W.kitOne K (.ref C_NoNumber) (.type "ValueError") = some true
  kt_NoNumber_BadSeen : PySem.W.kitOne K (.ref C_NoNumber) (.ref C_BadSeen) = some false
  kt_NoNumber_BadWrites : PySem.W.kitOne K (.ref C_NoNumber) (.ref C_BadWrites) = some false
  kt_NoNumber_NoNumber : PySem.W.kitOne K (.ref C_NoNumber) (.ref C_NoNumber) = some true
  kt_NoNumber_NoSnapshot : PySem.W.kitOne K (.ref C_NoNumber) (.ref C_NoSnapshot) = some false
  kt_NoNumber_NotOpen : PySem.W.kitOne K (.ref C_NoNumber) (.ref C_NotOpen) = some false
  kt_NoNumber_NotRemembered : PySem.W.kitOne K (.ref C_NoNumber) (.ref C_NotRemembered) = some false
  e_NotOpen : ExcF K mg C_NotOpen "NotOpen"
  xm_NotOpen_StoreError : PySem.W.exmOne K (.ref C_NotOpen) (.ref C_StoreError) = some true
  ec_NotOpen : ExcC K C_NotOpen
  kb_NotOpen_ValueError : PySem.W.kitOne K (.ref C_NotOpen) (.type "ValueError") = some true
  kt_NotOpen_BadSeen : PySem.W.kitOne K (.ref C_NotOpen) (.ref C_BadSeen) = some false
  kt_NotOpen_BadWrites : PySem.W.kitOne K (.ref C_NotOpen) (.ref C_BadWrites) = some false
  kt_NotOpen_NoNumber : PySem.W.kitOne K (.ref C_NotOpen) (.ref C_NoNumber) = some false
  kt_NotOpen_NoSnapshot : PySem.W.kitOne K (.ref C_NotOpen) (.ref C_NoSnapshot) = some false
  kt_NotOpen_NotOpen : PySem.W.kitOne K (.ref C_NotOpen) (.ref C_NotOpen) = some true
  kt_NotOpen_NotRemembered : PySem.W.kitOne K (.ref C_NotOpen) (.ref C_NotRemembered) = some false
  e_BadSeen : ExcF K mg C_BadSeen "BadSeen"
  xm_BadSeen_StoreError : PySem.W.exmOne K (.ref C_BadSeen) (.ref C_StoreError) = some true
  ec_BadSeen : ExcC K C_BadSeen
  kb_BadSeen_ValueError : PySem.W.kitOne K (.ref C_BadSeen) (.type "ValueError") = some true
  kt_BadSeen_BadSeen : PySem.W.kitOne K (.ref C_BadSeen) (.ref C_BadSeen) = some true
  kt_BadSeen_BadWrites : PySem.W.kitOne K (.ref C_BadSeen) (.ref C_BadWrites) = some false
  kt_BadSeen_NoNumber : PySem.W.kitOne K (.ref C_BadSeen) (.ref C_NoNumber) = some false
  kt_BadSeen_NoSnapshot : PySem.W.kitOne K (.ref C_BadSeen) (.ref C_NoSnapshot) = some false
  kt_BadSeen_NotOpen : PySem.W.kitOne K (.ref C_BadSeen) (.ref C_NotOpen) = some false
  kt_BadSeen_NotRemembered : PySem.W.kitOne K (.ref C_BadSeen) (.ref C_NotRemembered) = some false
  e_BadWrites : ExcF K mg C_BadWrites "BadWrites"
  xm_BadWrites_StoreError : PySem.W.exmOne K (.ref C_BadWrites) (.ref C_StoreError) = some true
  ec_BadWrites : ExcC K C_BadWrites
  kb_BadWrites_ValueError : PySem.W.kitOne K (.ref C_BadWrites) (.type "ValueError") = some true
  kt_BadWrites_BadSeen : PySem.W.kitOne K (.ref C_BadWrites) (.ref C_BadSeen) = some false
  kt_BadWrites_BadWrites : PySem.W.kitOne K (.ref C_BadWrites) (.ref C_BadWrites) = some true
  kt_BadWrites_NoNumber : PySem.W.kitOne K (.ref C_BadWrites) (.ref C_NoNumber) = some false
  kt_BadWrites_NoSnapshot : PySem.W.kitOne K (.ref C_BadWrites) (.ref C_NoSnapshot) = some false
  kt_BadWrites_NotOpen : PySem.W.kitOne K (.ref C_BadWrites) (.ref C_NotOpen) = some false
  kt_BadWrites_NotRemembered : PySem.W.kitOne K (.ref C_BadWrites) (.ref C_NotRemembered) = some false
  gX_Refused : mg "Refused" = some (.ref C_Refused)
  aI_Refused : Addr
  dI_Refused : FuncData
  FI_Refused : Fun K "__init__" "Refused.__init__" s_Refused_init aI_Refused dI_Refused
  bI_Refused : Binds K dI_Refused ["self", "ring"] []
  xi_Refused : PySem.W.findIn K (.ref C_Refused) "__init__" = some (some (.ref aI_Refused))
  xt_Refused : PySem.W.typeIn K (.ref aI_Refused) = some (.type "function")
  xo_Refused : OexC K C_Refused
  xf_Refused : XfC K C_Refused
  xn_Refused : PySem.W.findIn K (.ref C_Refused) "ring" = some none
  xm_Refused_StoreError : PySem.W.exmOne K (.ref C_Refused) (.ref C_StoreError) = some true
  ec_Refused : ExcC K C_Refused
  kb_Refused_ValueError : PySem.W.kitOne K (.ref C_Refused) (.type "ValueError") = some true
  kt_Refused_BadSeen : PySem.W.kitOne K (.ref C_Refused) (.ref C_BadSeen) = some false
  kt_Refused_BadWrites : PySem.W.kitOne K (.ref C_Refused) (.ref C_BadWrites) = some false
  kt_Refused_NoNumber : PySem.W.kitOne K (.ref C_Refused) (.ref C_NoNumber) = some false
  kt_Refused_NoSnapshot : PySem.W.kitOne K (.ref C_Refused) (.ref C_NoSnapshot) = some false
  kt_Refused_NotOpen : PySem.W.kitOne K (.ref C_Refused) (.ref C_NotOpen) = some false
  kt_Refused_NotRemembered : PySem.W.kitOne K (.ref C_Refused) (.ref C_NotRemembered) = some false
  e_NotRemembered : ExcF K mg C_NotRemembered "NotRemembered"
  xm_NotRemembered_StoreError : PySem.W.exmOne K (.ref C_NotRemembered) (.ref C_StoreError) = some true
  ec_NotRemembered : ExcC K C_NotRemembered
  kb_NotRemembered_ValueError : PySem.W.kitOne K (.ref C_NotRemembered) (.type "ValueError") = some true
  kt_NotRemembered_BadSeen : PySem.W.kitOne K (.ref C_NotRemembered) (.ref C_BadSeen) = some false
  kt_NotRemembered_BadWrites : PySem.W.kitOne K (.ref C_NotRemembered) (.ref C_BadWrites) = some false
  kt_NotRemembered_NoNumber : PySem.W.kitOne K (.ref C_NotRemembered) (.ref C_NoNumber) = some false
  kt_NotRemembered_NoSnapshot : PySem.W.kitOne K (.ref C_NotRemembered) (.ref C_NoSnapshot) = some false
  kt_NotRemembered_NotOpen : PySem.W.kitOne K (.ref C_NotRemembered) (.ref C_NotOpen) = some false
  kt_NotRemembered_NotRemembered : PySem.W.kitOne K (.ref C_NotRemembered) (.ref C_NotRemembered) = some true
  M_Check : Mk K C_Check a_Check_init
  gC_Check : mg "Check" = some (.ref C_Check)
  me_Check_least_snapshot : Meth K C_Check "least_snapshot" a_Check_least_snapshot
  me_Check_opens : Meth K C_Check "opens" a_Check_opens
  me_Check_demand_open : Meth K C_Check "demand_open" a_Check_demand_open
  M_Dealing : Mk K C_Dealing a_Dealing_init
  gC_Dealing : mg "Dealing" = some (.ref C_Dealing)
  me_Check_ways_with : Meth K C_Check "ways_with" a_Check_ways_with
  me_Check_judged : Meth K C_Check "judged" a_Check_judged
  me_Check_unseen : Meth K C_Check "unseen" a_Check_unseen
  me_Check_forget : Meth K C_Check "forget" a_Check_forget
  me_Check_commits : Meth K C_Check "commits" a_Check_commits
  me_Check_gives_up : Meth K C_Check "gives_up" a_Check_gives_up
  me_Check_last : Meth K C_Check "last" a_Check_last
  me_Check_open_entries : Meth K C_Check "open_entries" a_Check_open_entries
  me_Check_remembered : Meth K C_Check "remembered" a_Check_remembered
  me_Check_copy : Meth K C_Check "copy" a_Check_copy
  me_Check_would_commit : Meth K C_Check "would_commit" a_Check_would_commit
  me_Check_key_into : Meth K C_Check "key_into" a_Check_key_into
  me_Check_could_ring : Meth K C_Check "could_ring" a_Check_could_ring
  nf_dealings_Check : NoAttr K C_Check "dealings"
  nf_gets_Dealing : NoAttr K C_Dealing "gets"
  nf_newest_Check : NoAttr K C_Check "newest"
  nf_number_Dealing : NoAttr K C_Dealing "number"
  nf_opened_Check : NoAttr K C_Check "opened"
  nf_ranges_Dealing : NoAttr K C_Dealing "ranges"
  nf_snapshot_Dealing : NoAttr K C_Dealing "snapshot"
  nf_snapshots_Check : NoAttr K C_Check "snapshots"
  nf_ways_Check : NoAttr K C_Check "ways"
  nf_writes_Dealing : NoAttr K C_Dealing "writes"
  t_GREATEST : Tok
  c_GREATEST : mg "GREATEST" = some (.int 1000000000000000000 t_GREATEST)
  t_LONGEST_WORD : Tok
  c_LONGEST_WORD : mg "LONGEST_WORD" = some (.int 12 t_LONGEST_WORD)
  z_ValueError : mg "ValueError" = none
  z_abs : mg "abs" = none
  z_all : mg "all" = none
  z_any : mg "any" = none
  z_bool : mg "bool" = none
  z_dict : mg "dict" = none
  z_int : mg "int" = none
  z_isinstance : mg "isinstance" = none
  z_len : mg "len" = none
  z_list : mg "list" = none
  z_min : mg "min" = none
  z_range : mg "range" = none
  z_sorted : mg "sorted" = none
  z_str : mg "str" = none
  z_tuple : mg "tuple" = none
  z_zip : mg "zip" = none
section
variable {P : Program} {w : World} {K : PySem.W.Frag} {mg : Str → Option Value} {base : Heap}
def Tx.T (x : Tx K mg) : Nat → Addr := fun c => if c = 1000 then x.P_law else if c = 0 then x.C_Check else if c = 1 then x.C_Dealing else if c = 2 then x.C_StoreError else if c = 3 then x.C_NoSnapshot else if c = 4 then x.C_NoNumber else if c = 5 then x.C_NotOpen else if c = 6 then x.C_BadSeen else if c = 7 then x.C_BadWrites else if c = 8 then x.C_Refused else if c = 9 then x.C_NotRemembered else 0
/-- where the tables of code objects stand -/
def Tx.cs (x : Tx K mg) : List (Addr × Addr) := [(x.c_law, x.P_law)]
def st0 : Sto := [.tb 0 "law.<locals>.<lambda>"]
abbrev Tx.TB (x : Tx K mg) (base : Heap) : Prop := ∀ p ∈ x.cs, LamX.TabB base mg p.1 p.2
theorem Tx.tab_law (x : Tx K mg) {base : Heap} (tb : x.TB base) : LamX.TabB base mg x.c_law x.P_law := tb (x.c_law, x.P_law) (by simp [Tx.cs])
theorem Tx.tb_StoreError (x : Tx K mg) : ∀ p ∈ ([(2, true), (3, true), (4, true), (5, true), (6, true), (7, true), (8, true), (9, true)] : List (Nat × Bool)), PySem.W.exmOne K (.ref (x.T p.1)) (.ref x.C_StoreError) = some p.2 := fun p hp => by
  simp only [List.mem_cons, List.not_mem_nil, or_false] at hp
  rcases hp with rfl | rfl | rfl | rfl | rfl | rfl | rfl | rfl
  · exact x.xm_StoreError_StoreError
  · exact x.xm_NoSnapshot_StoreError
  · exact x.xm_NoNumber_StoreError
  · exact x.xm_NotOpen_StoreError
  · exact x.xm_BadSeen_StoreError
  · exact x.xm_BadWrites_StoreError
  · exact x.xm_Refused_StoreError
  · exact x.xm_NotRemembered_StoreError
theorem Tx.kt_BadSeen (x : Tx K mg) : ∀ p ∈ ([(2, false), (3, false), (4, false), (5, false), (6, true), (7, false), (8, false), (9, false)] : List (Nat × Bool)), PySem.W.kitOne K (.ref (x.T p.1)) (.ref x.C_BadSeen) = some p.2 := fun p hp => by
  simp only [List.mem_cons, List.not_mem_nil, or_false] at hp
  rcases hp with rfl | rfl | rfl | rfl | rfl | rfl | rfl | rfl
  · exact x.kt_StoreError_BadSeen
  · exact x.kt_NoSnapshot_BadSeen
  · exact x.kt_NoNumber_BadSeen
  · exact x.kt_NotOpen_BadSeen
  · exact x.kt_BadSeen_BadSeen
  · exact x.kt_BadWrites_BadSeen
  · exact x.kt_Refused_BadSeen
  · exact x.kt_NotRemembered_BadSeen
theorem Tx.kt_BadWrites (x : Tx K mg) : ∀ p ∈ ([(2, false), (3, false), (4, false), (5, false), (6, false), (7, true), (8, false), (9, false)] : List (Nat × Bool)), PySem.W.kitOne K (.ref (x.T p.1)) (.ref x.C_BadWrites) = some p.2 := fun p hp => by
  simp only [List.mem_cons, List.not_mem_nil, or_false] at hp
  rcases hp with rfl | rfl | rfl | rfl | rfl | rfl | rfl | rfl
  · exact x.kt_StoreError_BadWrites
  · exact x.kt_NoSnapshot_BadWrites
  · exact x.kt_NoNumber_BadWrites
  · exact x.kt_NotOpen_BadWrites
  · exact x.kt_BadSeen_BadWrites
  · exact x.kt_BadWrites_BadWrites
  · exact x.kt_Refused_BadWrites
  · exact x.kt_NotRemembered_BadWrites
theorem Tx.kt_NoNumber (x : Tx K mg) : ∀ p ∈ ([(2, false), (3, false), (4, true), (5, false), (6, false), (7, false), (8, false), (9, false)] : List (Nat × Bool)), PySem.W.kitOne K (.ref (x.T p.1)) (.ref x.C_NoNumber) = some p.2 := fun p hp => by
  simp only [List.mem_cons, List.not_mem_nil, or_false] at hp
  rcases hp with rfl | rfl | rfl | rfl | rfl | rfl | rfl | rfl
  · exact x.kt_StoreError_NoNumber
  · exact x.kt_NoSnapshot_NoNumber
  · exact x.kt_NoNumber_NoNumber
  · exact x.kt_NotOpen_NoNumber
  · exact x.kt_BadSeen_NoNumber
  · exact x.kt_BadWrites_NoNumber
  · exact x.kt_Refused_NoNumber
  · exact x.kt_NotRemembered_NoNumber
theorem Tx.kt_NoSnapshot (x : Tx K mg) : ∀ p ∈ ([(2, false), (3, true), (4, false), (5, false), (6, false), (7, false), (8, false), (9, false)] : List (Nat × Bool)), PySem.W.kitOne K (.ref (x.T p.1)) (.ref x.C_NoSnapshot) = some p.2 := fun p hp => by
  simp only [List.mem_cons, List.not_mem_nil, or_false] at hp
  rcases hp with rfl | rfl | rfl | rfl | rfl | rfl | rfl | rfl
  · exact x.kt_StoreError_NoSnapshot
  · exact x.kt_NoSnapshot_NoSnapshot
  · exact x.kt_NoNumber_NoSnapshot
  · exact x.kt_NotOpen_NoSnapshot
  · exact x.kt_BadSeen_NoSnapshot
  · exact x.kt_BadWrites_NoSnapshot
  · exact x.kt_Refused_NoSnapshot
  · exact x.kt_NotRemembered_NoSnapshot
theorem Tx.kt_NotOpen (x : Tx K mg) : ∀ p ∈ ([(2, false), (3, false), (4, false), (5, true), (6, false), (7, false), (8, false), (9, false)] : List (Nat × Bool)), PySem.W.kitOne K (.ref (x.T p.1)) (.ref x.C_NotOpen) = some p.2 := fun p hp => by
  simp only [List.mem_cons, List.not_mem_nil, or_false] at hp
  rcases hp with rfl | rfl | rfl | rfl | rfl | rfl | rfl | rfl
  · exact x.kt_StoreError_NotOpen
  · exact x.kt_NoSnapshot_NotOpen
  · exact x.kt_NoNumber_NotOpen
  · exact x.kt_NotOpen_NotOpen
  · exact x.kt_BadSeen_NotOpen
  · exact x.kt_BadWrites_NotOpen
  · exact x.kt_Refused_NotOpen
  · exact x.kt_NotRemembered_NotOpen
theorem Tx.kt_NotRemembered (x : Tx K mg) : ∀ p ∈ ([(2, false), (3, false), (4, false), (5, false), (6, false), (7, false), (8, false), (9, true)] : List (Nat × Bool)), PySem.W.kitOne K (.ref (x.T p.1)) (.ref x.C_NotRemembered) = some p.2 := fun p hp => by
  simp only [List.mem_cons, List.not_mem_nil, or_false] at hp
  rcases hp with rfl | rfl | rfl | rfl | rfl | rfl | rfl | rfl
  · exact x.kt_StoreError_NotRemembered
  · exact x.kt_NoSnapshot_NotRemembered
  · exact x.kt_NoNumber_NotRemembered
  · exact x.kt_NotOpen_NotRemembered
  · exact x.kt_BadSeen_NotRemembered
  · exact x.kt_BadWrites_NotRemembered
  · exact x.kt_Refused_NotRemembered
  · exact x.kt_NotRemembered_NotRemembered
theorem Tx.kb_ValueError (x : Tx K mg) : ∀ p ∈ ([(2, true), (3, true), (4, true), (5, true), (6, true), (7, true), (8, true), (9, true)] : List (Nat × Bool)), PySem.W.kitOne K (.ref (x.T p.1)) (.type "ValueError") = some p.2 := fun p hp => by
  simp only [List.mem_cons, List.not_mem_nil, or_false] at hp
  rcases hp with rfl | rfl | rfl | rfl | rfl | rfl | rfl | rfl
  · exact x.kb_StoreError_ValueError
  · exact x.kb_NoSnapshot_ValueError
  · exact x.kb_NoNumber_ValueError
  · exact x.kb_NotOpen_ValueError
  · exact x.kb_BadSeen_ValueError
  · exact x.kb_BadWrites_ValueError
  · exact x.kb_Refused_ValueError
  · exact x.kb_NotRemembered_ValueError
theorem Tx.ec_n (x : Tx K mg) : ∀ n ∈ ([2, 3, 4, 5, 6, 7, 8, 9] : List Nat), ExcC K (x.T n) := fun n hn => by
  simp only [List.mem_cons, List.not_mem_nil, or_false] at hn
  rcases hn with rfl | rfl | rfl | rfl | rfl | rfl | rfl | rfl
  · exact x.ec_StoreError
  · exact x.ec_NoSnapshot
  · exact x.ec_NoNumber
  · exact x.ec_NotOpen
  · exact x.ec_BadSeen
  · exact x.ec_BadWrites
  · exact x.ec_Refused
  · exact x.ec_NotRemembered
theorem Tx.ec_all (x : Tx K mg) {tb : List (Nat × Bool)} (h : ∀ q ∈ tb, q.1 ∈ ([2, 3, 4, 5, 6, 7, 8, 9] : List Nat) := by decide) : ∀ q ∈ tb, ExcC K (x.T q.1) := fun q hq => x.ec_n q.1 (h q hq)
theorem Tx.own_ok (x : Tx K mg) : ∀ c n b, x_own c n = some b → IsiOwn K (x.T c) ∧ PySem.W.kitOne K (.ref (x.T c)) (.type n) = some b := fun c n b h => by
  unfold x_own at h; split at h
  · rename_i q; cases h; obtain ⟨q1, q2⟩ := q
    subst q1
    rcases q2 with rfl | rfl | rfl | rfl
    · exact ⟨x.io_Dealing, x.ki_Dealing_int⟩
    · exact ⟨x.io_Dealing, x.ki_Dealing_bool⟩
    · exact ⟨x.io_Dealing, x.ki_Dealing_str⟩
    · exact ⟨x.io_Dealing, x.ki_Dealing_tuple⟩
  · cases h
theorem Tx.f_dealings (x : Tx K mg) : ∀ c ∈ ([0] : List Nat), Cls K (x.T c) ∧ NoAttr K (x.T c) "dealings" := fun c hc => by
  simp only [List.mem_cons, List.not_mem_nil, or_false] at hc
  rcases hc with rfl
  exact ⟨x.cl_Check, x.nf_dealings_Check⟩
theorem Tx.f_gets (x : Tx K mg) : ∀ c ∈ ([1] : List Nat), Cls K (x.T c) ∧ NoAttr K (x.T c) "gets" := fun c hc => by
  simp only [List.mem_cons, List.not_mem_nil, or_false] at hc
  rcases hc with rfl
  exact ⟨x.cl_Dealing, x.nf_gets_Dealing⟩
theorem Tx.f_newest (x : Tx K mg) : ∀ c ∈ ([0] : List Nat), Cls K (x.T c) ∧ NoAttr K (x.T c) "newest" := fun c hc => by
  simp only [List.mem_cons, List.not_mem_nil, or_false] at hc
  rcases hc with rfl
  exact ⟨x.cl_Check, x.nf_newest_Check⟩
theorem Tx.f_number (x : Tx K mg) : ∀ c ∈ ([1] : List Nat), Cls K (x.T c) ∧ NoAttr K (x.T c) "number" := fun c hc => by
  simp only [List.mem_cons, List.not_mem_nil, or_false] at hc
  rcases hc with rfl
  exact ⟨x.cl_Dealing, x.nf_number_Dealing⟩
theorem Tx.f_opened (x : Tx K mg) : ∀ c ∈ ([0] : List Nat), Cls K (x.T c) ∧ NoAttr K (x.T c) "opened" := fun c hc => by
  simp only [List.mem_cons, List.not_mem_nil, or_false] at hc
  rcases hc with rfl
  exact ⟨x.cl_Check, x.nf_opened_Check⟩
theorem Tx.f_ranges (x : Tx K mg) : ∀ c ∈ ([1] : List Nat), Cls K (x.T c) ∧ NoAttr K (x.T c) "ranges" := fun c hc => by
  simp only [List.mem_cons, List.not_mem_nil, or_false] at hc
  rcases hc with rfl
  exact ⟨x.cl_Dealing, x.nf_ranges_Dealing⟩
theorem Tx.f_snapshot (x : Tx K mg) : ∀ c ∈ ([1] : List Nat), Cls K (x.T c) ∧ NoAttr K (x.T c) "snapshot" := fun c hc => by
  simp only [List.mem_cons, List.not_mem_nil, or_false] at hc
  rcases hc with rfl
  exact ⟨x.cl_Dealing, x.nf_snapshot_Dealing⟩
theorem Tx.f_snapshots (x : Tx K mg) : ∀ c ∈ ([0] : List Nat), Cls K (x.T c) ∧ NoAttr K (x.T c) "snapshots" := fun c hc => by
  simp only [List.mem_cons, List.not_mem_nil, or_false] at hc
  rcases hc with rfl
  exact ⟨x.cl_Check, x.nf_snapshots_Check⟩
theorem Tx.f_ways (x : Tx K mg) : ∀ c ∈ ([0] : List Nat), Cls K (x.T c) ∧ NoAttr K (x.T c) "ways" := fun c hc => by
  simp only [List.mem_cons, List.not_mem_nil, or_false] at hc
  rcases hc with rfl
  exact ⟨x.cl_Check, x.nf_ways_Check⟩
theorem Tx.f_writes (x : Tx K mg) : ∀ c ∈ ([1] : List Nat), Cls K (x.T c) ∧ NoAttr K (x.T c) "writes" := fun c hc => by
  simp only [List.mem_cons, List.not_mem_nil, or_false] at hc
  rcases hc with rfl
  exact ⟨x.cl_Dealing, x.nf_writes_Dealing⟩
theorem fnI_Refused (x : Tx K mg) : FnOk P w K mg base L2.CX0 1 x.aI_Refused x.dI_Refused ["self", "ring"] (spXi K "ring") := xinit_ok x.FI_Refused sc_Refused_init rfl (by first | exact Or.inl rfl | exact Or.inr (Or.inl rfl) | exact Or.inr (Or.inr rfl)) (by first | exact Or.inl rfl | exact Or.inr (Or.inl rfl) | exact Or.inr (Or.inr rfl)) (by decide) (by decide)
theorem fn_law_hand (x : Tx K mg) (tb : x.TB base) : FnM P w K mg base x.T 1 x.a_law_hand x.d_law_hand ["script"] r_law_hand := fn_ok x.F_law_hand sc_law_hand fun cdv A outer s H E hr => sss_cons (ss_comp (fz := true) (i := 1) (own := [("cell", 2)]) (t := (.one 2)) rfl sc_law_hand.nd (by rfl) (by rfl) (sw_true rfl rfl rfl (by decide +kernel)) (si_list (se_sl (fz := true) (se_var (by rfl) (by first | exact Or.inl rfl | exact Or.inr (Or.inl rfl) | exact Or.inr (Or.inr rfl))) (sp_none) (sp_some (se_int)))) (blkOk_by (own := [("cell", 2)]) (N := N_law_hand) (sc := (defScope s_law_hand)) (by decide +kernel)) (by decide) (fun _ _ _ _ _ => pg_name (i := 2) sc_law_hand.nd (by rfl) (Or.inl (by rfl))) (.inl ⟨rfl, rfl⟩) (fun _ _ _ _ _ => se_blt call_abs okc_abs (by rfl) x.z_abs (by decide +kernel) (SAn.run (san_cons (se_bty call_int1 okc_int (by rfl) x.z_int (by decide +kernel) (SAn.run (san_cons (se_var (by rfl) (by first | exact Or.inl rfl | exact Or.inr (Or.inl rfl) | exact Or.inr (Or.inr rfl))) (san_nil)))) (san_nil))))) (sss_one (ss_ret (se_lstA (fz := false) (n := 5) (san_cons (se_var (by rfl) (by first | exact Or.inl rfl | exact Or.inr (Or.inl rfl) | exact Or.inr (Or.inr rfl))) (san_cons (se_int) (san_cons (se_int) (san_cons (se_op (opr_or op_add (opr_or op_add_str (opr_or op_catA op_cat))) (ok_add (fz := true)) (se_int) (se_blt (CallR.or call_len call_lenD) okc_len (by rfl) x.z_len (by decide +kernel) (SAn.run (san_cons (se_var (by rfl) (by first | exact Or.inl rfl | exact Or.inr (Or.inl rfl) | exact Or.inr (Or.inr rfl))) (san_nil))))) (san_cons (se_int) (san_nil)))))))))
theorem fn_law_draw (x : Tx K mg) (tb : x.TB base) : FnM P w K mg base x.T 1 x.a_law_draw x.d_law_draw ["hand", "many"] r_law_draw := fn_ok x.F_law_draw sc_law_draw fun cdv A outer s H E hr => sss_cons (ss_if (st_w (sw_and (st_cmp (opr_or op_eq (op_eqD hr.units)) ok_eq (se_ix (by first | exact hu_of hr | (have zz := hu_of hr; exact zz)) (se_var (by rfl) (by first | exact Or.inl rfl | exact Or.inr (Or.inl rfl) | exact Or.inr (Or.inr rfl))) (se_int)) (se_int) (by rfl)) (sw_and1 (st_cmp (opr_or op_lt op_lt_str) ok_cmpS (se_ix (by first | exact hu_of hr | (have zz := hu_of hr; exact zz)) (se_var (by rfl) (by first | exact Or.inl rfl | exact Or.inr (Or.inl rfl) | exact Or.inr (Or.inr rfl))) (se_int)) (se_blt (CallR.or call_len call_lenD) okc_len (by rfl) x.z_len (by decide +kernel) (SAn.run (san_cons (se_ix (by first | exact hu_of hr | (have zz := hu_of hr; exact zz)) (se_var (by rfl) (by first | exact Or.inl rfl | exact Or.inr (Or.inl rfl) | exact Or.inr (Or.inr rfl))) (se_int)) (san_nil)))) (by rfl))))) (sss_cons (ss_set (i := 2) sc_law_draw.nd (by rfl) (by first | exact Or.inl rfl | exact Or.inr rfl) (se_ix (by first | exact hu_of hr | (have zz := hu_of hr; exact zz)) (se_ix (by first | exact hu_of hr | (have zz := hu_of hr; exact zz)) (se_var (by rfl) (by first | exact Or.inl rfl | exact Or.inr (Or.inl rfl) | exact Or.inr (Or.inr rfl))) (se_int)) (se_ix (by first | exact hu_of hr | (have zz := hu_of hr; exact zz)) (se_var (by rfl) (by first | exact Or.inl rfl | exact Or.inr (Or.inl rfl) | exact Or.inr (Or.inr rfl))) (se_int)))) (sss_cons (ss_asg (se_op (opr_or op_add (opr_or op_add_str (opr_or op_catA op_cat))) (ok_add (fz := true)) (se_ix (by first | exact hu_of hr | (have zz := hu_of hr; exact zz)) (se_var (by rfl) (by first | exact Or.inl rfl | exact Or.inr (Or.inl rfl) | exact Or.inr (Or.inr rfl))) (se_int)) (se_int)) (sg_sub (by first | exact hu_of hr | (have zz := hu_of hr; exact zz)) (se_var (by rfl) (by first | exact Or.inl rfl | exact Or.inr (Or.inl rfl) | exact Or.inr (Or.inr rfl))) (se_int))) (sss_cons (ss_asg (se_op op_modN ok_mod (se_bty call_int1 okc_int (by rfl) x.z_int (by decide +kernel) (SAn.run (san_cons (se_op (opr_or op_add (opr_or op_add_str (opr_or op_catA op_cat))) (ok_add (fz := true)) (se_op (opr_or op_add (opr_or op_add_str (opr_or op_catA op_cat))) (ok_add (fz := true)) (se_op (opr_or op_mul op_rep) (ok_mul (fz := true)) (se_ix (by first | exact hu_of hr | (have zz := hu_of hr; exact zz)) (se_var (by rfl) (by first | exact Or.inl rfl | exact Or.inr (Or.inl rfl) | exact Or.inr (Or.inr rfl))) (se_int)) (se_int)) (se_var (by rfl) (by first | exact Or.inl rfl | exact Or.inr (Or.inl rfl) | exact Or.inr (Or.inr rfl)))) (se_int)) (san_nil)))) (se_int)) (sg_sub (by first | exact hu_of hr | (have zz := hu_of hr; exact zz)) (se_var (by rfl) (by first | exact Or.inl rfl | exact Or.inr (Or.inl rfl) | exact Or.inr (Or.inr rfl))) (se_int))) (sss_one (ss_if (st_cmp (opr_or op_ge op_ge_str) ok_cmpS (se_var (by rfl) (by first | exact Or.inl rfl | exact Or.inr (Or.inl rfl) | exact Or.inr (Or.inr rfl))) (se_op op_pow ok_pow (se_int) (se_int)) (by rfl)) (sss_one (ss_asg (se_var (by rfl) (by first | exact Or.inl rfl | exact Or.inr (Or.inl rfl) | exact Or.inr (Or.inr rfl))) (sg_sub (by first | exact hu_of hr | (have zz := hu_of hr; exact zz)) (se_var (by rfl) (by first | exact Or.inl rfl | exact Or.inr (Or.inl rfl) | exact Or.inr (Or.inr rfl))) (se_int)))) (sss_nil)))))) (sss_nil)) (sss_cons (ss_if (st_cmp (opr_or op_gt op_gt_str) ok_cmpS (se_ix (by first | exact hu_of hr | (have zz := hu_of hr; exact zz)) (se_var (by rfl) (by first | exact Or.inl rfl | exact Or.inr (Or.inl rfl) | exact Or.inr (Or.inr rfl))) (se_int)) (se_int) (by rfl)) (sss_cons (ss_set (i := 3) sc_law_draw.nd (by rfl) (by first | exact Or.inl rfl | exact Or.inr rfl) (se_op op_modN ok_mod (se_bty call_int1 okc_int (by rfl) x.z_int (by decide +kernel) (SAn.run (san_cons (se_ix (by first | exact hu_of hr | (have zz := hu_of hr; exact zz)) (se_var (by rfl) (by first | exact Or.inl rfl | exact Or.inr (Or.inl rfl) | exact Or.inr (Or.inr rfl))) (se_int)) (san_nil)))) (se_var (by rfl) (by first | exact Or.inl rfl | exact Or.inr (Or.inl rfl) | exact Or.inr (Or.inr rfl))))) (sss_cons (ss_asg (se_op op_fdivN ok_div (se_ix (by first | exact hu_of hr | (have zz := hu_of hr; exact zz)) (se_var (by rfl) (by first | exact Or.inl rfl | exact Or.inr (Or.inl rfl) | exact Or.inr (Or.inr rfl))) (se_int)) (se_var (by rfl) (by first | exact Or.inl rfl | exact Or.inr (Or.inl rfl) | exact Or.inr (Or.inr rfl)))) (sg_sub (by first | exact hu_of hr | (have zz := hu_of hr; exact zz)) (se_var (by rfl) (by first | exact Or.inl rfl | exact Or.inr (Or.inl rfl) | exact Or.inr (Or.inr rfl))) (se_int))) (sss_one (ss_ret (se_var (by rfl) (by first | exact Or.inl rfl | exact Or.inr (Or.inl rfl) | exact Or.inr (Or.inr rfl))))))) (sss_nil)) (sss_cons (ss_asg (se_op (opr_or op_add (opr_or op_add_str (opr_or op_catA op_cat))) (ok_add (fz := true)) (se_ix (by first | exact hu_of hr | (have zz := hu_of hr; exact zz)) (se_var (by rfl) (by first | exact Or.inl rfl | exact Or.inr (Or.inl rfl) | exact Or.inr (Or.inr rfl))) (se_int)) (se_int)) (sg_sub (by first | exact hu_of hr | (have zz := hu_of hr; exact zz)) (se_var (by rfl) (by first | exact Or.inl rfl | exact Or.inr (Or.inl rfl) | exact Or.inr (Or.inr rfl))) (se_int))) (sss_cons (ss_set (i := 4) sc_law_draw.nd (by rfl) (by first | exact Or.inl rfl | exact Or.inr rfl) (se_op op_modN ok_mod (se_bty call_int1 okc_int (by rfl) x.z_int (by decide +kernel) (SAn.run (san_cons (se_op (opr_or op_mul op_rep) (ok_mul (fz := true)) (se_bty call_int1 okc_int (by rfl) x.z_int (by decide +kernel) (SAn.run (san_cons (se_op (opr_or op_add (opr_or op_add_str (opr_or op_catA op_cat))) (ok_add (fz := true)) (se_ix (by first | exact hu_of hr | (have zz := hu_of hr; exact zz)) (se_var (by rfl) (by first | exact Or.inl rfl | exact Or.inr (Or.inl rfl) | exact Or.inr (Or.inr rfl))) (se_int)) (se_op (opr_or op_mul op_rep) (ok_mul (fz := true)) (se_int) (se_ix (by first | exact hu_of hr | (have zz := hu_of hr; exact zz)) (se_var (by rfl) (by first | exact Or.inl rfl | exact Or.inr (Or.inl rfl) | exact Or.inr (Or.inr rfl))) (se_int)))) (san_nil)))) (se_int)) (san_nil)))) (se_int))) (sss_cons (ss_set (i := 4) sc_law_draw.nd (by rfl) (by first | exact Or.inl rfl | exact Or.inr rfl) (se_op op_modN ok_mod (se_bty call_int1 okc_int (by rfl) x.z_int (by decide +kernel) (SAn.run (san_cons (se_op (opr_or op_mul op_rep) (ok_mul (fz := true)) (se_var (by rfl) (by first | exact Or.inl rfl | exact Or.inr (Or.inl rfl) | exact Or.inr (Or.inr rfl))) (se_op (opr_or op_add (opr_or op_add_str (opr_or op_catA op_cat))) (ok_add (fz := true)) (se_op op_fdivN ok_div (se_var (by rfl) (by first | exact Or.inl rfl | exact Or.inr (Or.inl rfl) | exact Or.inr (Or.inr rfl))) (se_int)) (se_int))) (san_nil)))) (se_int))) (sss_cons (ss_set (i := 4) sc_law_draw.nd (by rfl) (by first | exact Or.inl rfl | exact Or.inr rfl) (se_op op_modN ok_mod (se_bty call_int1 okc_int (by rfl) x.z_int (by decide +kernel) (SAn.run (san_cons (se_op (opr_or op_mul op_rep) (ok_mul (fz := true)) (se_var (by rfl) (by first | exact Or.inl rfl | exact Or.inr (Or.inl rfl) | exact Or.inr (Or.inr rfl))) (se_op (opr_or op_add (opr_or op_add_str (opr_or op_catA op_cat))) (ok_add (fz := true)) (se_op op_fdivN ok_div (se_var (by rfl) (by first | exact Or.inl rfl | exact Or.inr (Or.inl rfl) | exact Or.inr (Or.inr rfl))) (se_int)) (se_int))) (san_nil)))) (se_int))) (sss_one (ss_ret (se_op op_modN ok_mod (se_bty call_int1 okc_int (by rfl) x.z_int (by decide +kernel) (SAn.run (san_cons (se_op op_fdivN ok_div (se_var (by rfl) (by first | exact Or.inl rfl | exact Or.inr (Or.inl rfl) | exact Or.inr (Or.inr rfl))) (se_int)) (san_nil)))) (se_var (by rfl) (by first | exact Or.inl rfl | exact Or.inr (Or.inl rfl) | exact Or.inr (Or.inr rfl)))))))))))
theorem fn_law_deep (x : Tx K mg) (tb : x.TB base) : FnM P w K mg base x.T 2 x.a_law_deep x.d_law_deep ["hand"] r_law_deep := fn_ok x.F_law_deep sc_law_deep fun cdv A outer s H E hr => sss_cons (ss_set (i := 1) sc_law_deep.nd (by rfl) (by first | exact Or.inl rfl | exact Or.inr rfl) (se_ix (by first | exact hu_of hr | (have zz := hu_of hr; exact zz)) (se_lstA (fz := true) (n := 4) (san_cons (se_non) (san_cons (se_tupA (n := 0) (san_nil)) (san_cons (se_str) (san_cons (se_int) (san_nil)))))) (se_call ((fn_law_draw x tb).mono (by decide)) hr (takes_of rfl rfl rfl rfl) (by rfl) x.g_law_draw x.F_law_draw.kp x.b_law_draw (san_cons (se_var (by rfl) (by first | exact Or.inl rfl | exact Or.inr (Or.inl rfl) | exact Or.inr (Or.inr rfl))) (san_cons (se_int) (san_nil)))))) (sss_cons (ss_for (passes_of rfl) rfl (si_range1 (by rfl) x.z_range (SAn.run (san_cons (se_int) (san_nil)))) (sg_name (i := 2) sc_law_deep.nd (by rfl) (by first | exact Or.inl rfl | exact Or.inr rfl)) (sss_one (ss_set (i := 1) sc_law_deep.nd (by rfl) (by first | exact Or.inl rfl | exact Or.inr rfl) (se_ix (by first | exact hu_of hr | (have zz := hu_of hr; exact zz)) (se_lstA (fz := true) (n := 2) (san_cons (se_tupA (n := 1) (san_cons (se_var (by rfl) (by first | exact Or.inl rfl | exact Or.inr (Or.inl rfl) | exact Or.inr (Or.inr rfl))) (san_nil))) (san_cons (se_lstA (fz := true) (n := 1) (san_cons (se_var (by rfl) (by first | exact Or.inl rfl | exact Or.inr (Or.inl rfl) | exact Or.inr (Or.inr rfl))) (san_nil))) (san_nil)))) (se_call ((fn_law_draw x tb).mono (by decide)) hr (takes_of rfl rfl rfl rfl) (by rfl) x.g_law_draw x.F_law_draw.kp x.b_law_draw (san_cons (se_var (by rfl) (by first | exact Or.inl rfl | exact Or.inr (Or.inl rfl) | exact Or.inr (Or.inr rfl))) (san_cons (se_int) (san_nil)))))))) (sss_one (ss_ret (se_var (by rfl) (by first | exact Or.inl rfl | exact Or.inr (Or.inl rfl) | exact Or.inr (Or.inr rfl))))))
theorem fn_law_odd (x : Tx K mg) (tb : x.TB base) : FnM P w K mg base x.T 3 x.a_law_odd x.d_law_odd ["hand", "right"] r_law_odd := fn_ok x.F_law_odd sc_law_odd fun cdv A outer s H E hr => sss_cons (ss_if (st_cmp (opr_or op_eq (op_eqD hr.units)) ok_eq (se_call ((fn_law_draw x tb).mono (by decide)) hr (takes_of rfl rfl rfl rfl) (by rfl) x.g_law_draw x.F_law_draw.kp x.b_law_draw (san_cons (se_var (by rfl) (by first | exact Or.inl rfl | exact Or.inr (Or.inl rfl) | exact Or.inr (Or.inr rfl))) (san_cons (se_int) (san_nil)))) (se_int) (by rfl)) (sss_one (ss_ret (se_var (by rfl) (by first | exact Or.inl rfl | exact Or.inr (Or.inl rfl) | exact Or.inr (Or.inr rfl))))) (sss_nil)) (sss_cons (ss_set (i := 2) sc_law_odd.nd (by rfl) (by first | exact Or.inl rfl | exact Or.inr rfl) (se_lstA (fz := true) (n := 15) (san_cons (se_non) (san_cons (se_bl) (san_cons (se_neg (se_int)) (san_cons (se_int) (san_cons (se_int) (san_cons (se_op op_pow ok_pow (se_int) (se_int)) (san_cons (se_str) (san_cons (se_str) (san_cons (se_tupA (n := 0) (san_nil)) (san_cons (se_lstA (fz := true) (n := 0) (san_nil)) (san_cons (se_dict0) (san_cons (se_tupA (n := 1) (san_cons (se_str) (san_nil))) (san_cons (se_lstA (fz := true) (n := 1) (san_cons (se_str) (san_nil))) (san_cons (se_tupA (n := 1) (san_cons (se_tupA (n := 2) (san_cons (se_str) (san_cons (se_int) (san_nil)))) (san_nil))) (san_cons (se_tupA (n := 1) (san_cons (se_tupA (n := 3) (san_cons (se_str) (san_cons (se_str) (san_cons (se_tupA (n := 0) (san_nil)) (san_nil))))) (san_nil))) (san_nil)))))))))))))))))) (sss_cons (ss_set (i := 2) sc_law_odd.nd (by rfl) (by first | exact Or.inl rfl | exact Or.inr rfl) (se_op (opr_or op_add (opr_or op_add_str (opr_or op_catA op_cat))) (ok_add (fz := true)) (se_var (by rfl) (by first | exact Or.inl rfl | exact Or.inr (Or.inl rfl) | exact Or.inr (Or.inr rfl))) (se_lstA (fz := true) (n := 6) (san_cons (se_tupA (n := 2) (san_cons (se_str) (san_cons (se_str) (san_nil)))) (san_cons (se_tupA (n := 2) (san_cons (se_str) (san_cons (se_str) (san_nil)))) (san_cons (se_tupA (n := 1) (san_cons (se_str) (san_nil))) (san_cons (se_tupA (n := 1) (san_cons (se_str) (san_nil))) (san_cons (se_tupA (n := 1) (san_cons (se_tupA (n := 3) (san_cons (se_str) (san_cons (se_str) (san_cons (se_tupA (n := 0) (san_nil)) (san_nil))))) (san_nil))) (san_cons (se_tupA (n := 1) (san_cons (se_tupA (n := 3) (san_cons (se_str) (san_cons (se_str) (san_cons (se_tupA (n := 1) (san_cons (se_str) (san_nil))) (san_nil))))) (san_nil))) (san_nil)))))))))) (sss_cons (ss_set (i := 2) sc_law_odd.nd (by rfl) (by first | exact Or.inl rfl | exact Or.inr rfl) (se_op (opr_or op_add (opr_or op_add_str (opr_or op_catA op_cat))) (ok_add (fz := true)) (se_var (by rfl) (by first | exact Or.inl rfl | exact Or.inr (Or.inl rfl) | exact Or.inr (Or.inr rfl))) (se_lstA (fz := true) (n := 4) (san_cons (se_tupA (n := 1) (san_cons (se_tupA (n := 3) (san_cons (se_str) (san_cons (se_str) (san_cons (se_lstA (fz := true) (n := 1) (san_cons (se_str) (san_nil))) (san_nil))))) (san_nil))) (san_cons (se_tupA (n := 1) (san_cons (se_tupA (n := 3) (san_cons (se_str) (san_cons (se_str) (san_cons (se_tupA (n := 1) (san_cons (se_str) (san_nil))) (san_nil))))) (san_nil))) (san_cons (se_tupA (n := 2) (san_cons (se_tupA (n := 2) (san_cons (se_str) (san_cons (se_int) (san_nil)))) (san_cons (se_tupA (n := 2) (san_cons (se_str) (san_cons (se_int) (san_nil)))) (san_nil)))) (san_cons (se_tupA (n := 2) (san_cons (se_tupA (n := 2) (san_cons (se_str) (san_cons (se_int) (san_nil)))) (san_cons (se_tupA (n := 2) (san_cons (se_str) (san_cons (se_int) (san_nil)))) (san_nil)))) (san_nil)))))))) (sss_cons (ss_set (i := 2) sc_law_odd.nd (by rfl) (by first | exact Or.inl rfl | exact Or.inr rfl) (se_op (opr_or op_add (opr_or op_add_str (opr_or op_catA op_cat))) (ok_add (fz := true)) (se_var (by rfl) (by first | exact Or.inl rfl | exact Or.inr (Or.inl rfl) | exact Or.inr (Or.inr rfl))) (se_lstA (fz := true) (n := 4) (san_cons (se_tupA (n := 1) (san_cons (se_tupA (n := 2) (san_cons (se_str) (san_cons (se_op (opr_or op_add (opr_or op_add_str (opr_or op_catA op_cat))) (ok_add (fz := true)) (se_op op_pow ok_pow (se_int) (se_int)) (se_int)) (san_nil)))) (san_nil))) (san_cons (se_tupA (n := 1) (san_cons (se_tupA (n := 2) (san_cons (se_str) (san_cons (se_bl) (san_nil)))) (san_nil))) (san_cons (se_tupA (n := 1) (san_cons (se_tupA (n := 2) (san_cons (se_str) (san_cons (se_non) (san_nil)))) (san_nil))) (san_cons (se_tupA (n := 1) (san_cons (se_tupA (n := 1) (san_cons (se_str) (san_nil))) (san_nil))) (san_nil)))))))) (sss_cons (ss_set (i := 2) sc_law_odd.nd (by rfl) (by first | exact Or.inl rfl | exact Or.inr rfl) (se_op (opr_or op_add (opr_or op_add_str (opr_or op_catA op_cat))) (ok_add (fz := true)) (se_var (by rfl) (by first | exact Or.inl rfl | exact Or.inr (Or.inl rfl) | exact Or.inr (Or.inr rfl))) (se_lstA (fz := true) (n := 2) (san_cons (se_call ((fn_law_deep x tb).mono (by decide)) hr (takes_of rfl rfl rfl rfl) (by rfl) x.g_law_deep x.F_law_deep.kp x.b_law_deep (san_cons (se_var (by rfl) (by first | exact Or.inl rfl | exact Or.inr (Or.inl rfl) | exact Or.inr (Or.inr rfl))) (san_nil))) (san_cons (se_tupA (n := 1) (san_cons (se_call ((fn_law_deep x tb).mono (by decide)) hr (takes_of rfl rfl rfl rfl) (by rfl) x.g_law_deep x.F_law_deep.kp x.b_law_deep (san_cons (se_var (by rfl) (by first | exact Or.inl rfl | exact Or.inr (Or.inl rfl) | exact Or.inr (Or.inr rfl))) (san_nil))) (san_nil))) (san_nil)))))) (sss_one (ss_ret (se_ix (by first | exact hu_of hr | (have zz := hu_of hr; exact zz)) (se_var (by rfl) (by first | exact Or.inl rfl | exact Or.inr (Or.inl rfl) | exact Or.inr (Or.inr rfl))) (se_call ((fn_law_draw x tb).mono (by decide)) hr (takes_of rfl rfl rfl rfl) (by rfl) x.g_law_draw x.F_law_draw.kp x.b_law_draw (san_cons (se_var (by rfl) (by first | exact Or.inl rfl | exact Or.inr (Or.inl rfl) | exact Or.inr (Or.inr rfl))) (san_cons (se_blt (CallR.or call_len call_lenD) okc_len (by rfl) x.z_len (by decide +kernel) (SAn.run (san_cons (se_var (by rfl) (by first | exact Or.inl rfl | exact Or.inr (Or.inl rfl) | exact Or.inr (Or.inr rfl))) (san_nil)))) (san_nil))))))))))))
theorem fn_law_is_int (x : Tx K mg) (tb : x.TB base) : FnM P w K mg base x.T 1 x.a_law_is_int x.d_law_is_int ["thing", "least", "most"] r_law_is_int := fn_ok x.F_law_is_int sc_law_is_int fun cdv A outer s H E hr => sss_one (ss_ret (se_and (se_bB (se_blt call_isi (okc_isi x.own_ok) (by rfl) x.z_isinstance (by decide +kernel) (SAn.run (san_cons (se_var (by rfl) (by first | exact Or.inl rfl | exact Or.inr (Or.inl rfl) | exact Or.inr (Or.inr rfl))) (san_cons (se_c (pe_bltn (v := .ty "int") (by rfl) x.z_int (by decide +kernel) rfl) (fun _ _ _ => by simp only [VR])) (san_nil)))))) (se_and (se_not (se_bB (se_blt call_isi (okc_isi x.own_ok) (by rfl) x.z_isinstance (by decide +kernel) (SAn.run (san_cons (se_var (by rfl) (by first | exact Or.inl rfl | exact Or.inr (Or.inl rfl) | exact Or.inr (Or.inr rfl))) (san_cons (se_c (pe_bltn (v := .ty "bool") (by rfl) x.z_bool (by decide +kernel) rfl) (fun _ _ _ => by simp only [VR])) (san_nil))))))) (se_and1 (se_bB (se_chain (opr_or op_le op_le_str) ok_cmpS (opr_or op_le op_le_str) ok_cmpS (se_var (by rfl) (by first | exact Or.inl rfl | exact Or.inr (Or.inl rfl) | exact Or.inr (Or.inr rfl))) (se_var (by rfl) (by first | exact Or.inl rfl | exact Or.inr (Or.inl rfl) | exact Or.inr (Or.inr rfl))) (se_var (by rfl) (by first | exact Or.inl rfl | exact Or.inr (Or.inl rfl) | exact Or.inr (Or.inr rfl)))))))))
theorem gv_law_word (x : Tx K mg) (tb : x.TB base) {A : Around} {stk : List Env} (cdv : Value) (s : Shared) (G : Hp) (hr : Room 0 (A.deeper (envOfC "_law_word" (defScope s_law_word) s.heap.objs.size x.a_law_word cdv))) (F : W) (cl : Sto → Rs W) (hc : CallP (cxOf C8.CX0 P w K mg base N_law_word "_law_word" (defScope s_law_word) x.a_law_word cdv A stk s G C8.E0) x.T F 0 "call" cl) : SSs (cxOf C8.CX0 P w K mg base N_law_word "_law_word" (defScope s_law_word) x.a_law_word cdv A stk s G C8.E0).nox x.T W0 (defBody s_law_word) (mL_law_word F cl) := sss_cons (ss_set (i := 1) sc_law_word.nd (by rfl) (by first | exact Or.inl rfl | exact Or.inr rfl) (se_str)) (sss_cons (ss_tryX (i := 2) (tb := [(2, true), (3, true), (4, true), (5, true), (6, true), (7, true), (8, true), (9, true)]) (by rfl) (by rfl) sc_law_word.nd (by rfl) (by rfl) ⟨(by rfl), (by decide), Or.inl x.e_StoreError.mg⟩ takes0 x.tb_StoreError (fun Wy pn xe tk1 pw1 => sss_one (ss_forget tk1 (by rfl) (fun E0 tk0 => ss_expr (hc E0 pn xe _ _ tk0)))) (fun n a oe pn hn hz hf => sss_cons (ss_set (i := 3) sc_law_word.nd (by rfl) (by first | exact Or.inl rfl | exact Or.inr rfl) (se_lstA (fz := true) (n := 4) (san_cons (se_exis (tb := [(2, false), (3, false), (4, true), (5, false), (6, false), (7, false), (8, false), (9, false)]) x.ec_all hz hf x.kt_NoNumber (by rfl) x.z_isinstance (by rfl) (by first | exact Or.inl rfl | exact Or.inr (Or.inl rfl) | exact Or.inr (Or.inr rfl)) (by rfl) x.e_NoNumber.mg) (san_cons (se_exis (tb := [(2, false), (3, true), (4, false), (5, false), (6, false), (7, false), (8, false), (9, false)]) x.ec_all hz hf x.kt_NoSnapshot (by rfl) x.z_isinstance (by rfl) (by first | exact Or.inl rfl | exact Or.inr (Or.inl rfl) | exact Or.inr (Or.inr rfl)) (by rfl) x.e_NoSnapshot.mg) (san_cons (se_exis (tb := [(2, false), (3, false), (4, false), (5, true), (6, false), (7, false), (8, false), (9, false)]) x.ec_all hz hf x.kt_NotOpen (by rfl) x.z_isinstance (by rfl) (by first | exact Or.inl rfl | exact Or.inr (Or.inl rfl) | exact Or.inr (Or.inr rfl)) (by rfl) x.e_NotOpen.mg) (san_cons (se_exis (tb := [(2, false), (3, false), (4, false), (5, false), (6, true), (7, false), (8, false), (9, false)]) x.ec_all hz hf x.kt_BadSeen (by rfl) x.z_isinstance (by rfl) (by first | exact Or.inl rfl | exact Or.inr (Or.inl rfl) | exact Or.inr (Or.inr rfl)) (by rfl) x.e_BadSeen.mg) (san_nil))))))) (sss_cons (ss_set (i := 3) sc_law_word.nd (by rfl) (by first | exact Or.inl rfl | exact Or.inr rfl) (se_op (opr_or op_add (opr_or op_add_str (opr_or op_catA op_cat))) (ok_add (fz := true)) (se_var (by rfl) (by first | exact Or.inl rfl | exact Or.inr (Or.inl rfl) | exact Or.inr (Or.inr rfl))) (se_lstA (fz := true) (n := 2) (san_cons (se_exis (tb := [(2, false), (3, false), (4, false), (5, false), (6, false), (7, true), (8, false), (9, false)]) x.ec_all hz hf x.kt_BadWrites (by rfl) x.z_isinstance (by rfl) (by first | exact Or.inl rfl | exact Or.inr (Or.inl rfl) | exact Or.inr (Or.inr rfl)) (by rfl) x.e_BadWrites.mg) (san_cons (se_exis (tb := [(2, false), (3, false), (4, false), (5, false), (6, false), (7, false), (8, false), (9, true)]) x.ec_all hz hf x.kt_NotRemembered (by rfl) x.z_isinstance (by rfl) (by first | exact Or.inl rfl | exact Or.inr (Or.inl rfl) | exact Or.inr (Or.inr rfl)) (by rfl) x.e_NotRemembered.mg) (san_nil)))))) (sss_cons (ss_set (i := 1) sc_law_word.nd (by rfl) (by first | exact Or.inl rfl | exact Or.inr rfl) (se_str)) (sss_one (ss_if (st_w (sw_and (st_cmp (opr_or op_eq (op_eqD hr.units)) ok_eq (se_lm PySem.F.slot_list_count PySem.F.type_list_count mt_countB okm_countB (se_var (by rfl) (by first | exact Or.inl rfl | exact Or.inr (Or.inl rfl) | exact Or.inr (Or.inr rfl))) (SAn.run (san_cons (se_bl) (san_nil)))) (se_int) (by rfl)) (sw_and1 (st_tr (se_exisB (tb := [(2, true), (3, true), (4, true), (5, true), (6, true), (7, true), (8, true), (9, true)]) (t := "ValueError") x.ec_all hz hf x.kb_ValueError (by rfl) x.z_isinstance (by rfl) (by first | exact Or.inl rfl | exact Or.inr (Or.inl rfl) | exact Or.inr (Or.inr rfl)) (by rfl) x.z_ValueError (by decide +kernel)))))) (sss_one (ss_set (i := 1) sc_law_word.nd (by rfl) (by first | exact Or.inl rfl | exact Or.inr rfl) (se_ix (by first | exact hu_of hr | (have zz := hu_of hr; exact zz)) (se_lstA (fz := true) (n := 6) (san_cons (se_str) (san_cons (se_str) (san_cons (se_str) (san_cons (se_str) (san_cons (se_str) (san_cons (se_str) (san_nil)))))))) (se_lm PySem.F.slot_list_index PySem.F.type_list_index mt_index okm_indexB (se_var (by rfl) (by first | exact Or.inl rfl | exact Or.inr (Or.inl rfl) | exact Or.inr (Or.inr rfl))) (SAn.run (san_cons (se_bl) (san_nil))))))) (sss_nil)))))) (fun n a dd oe pn hn hz hf => sss_cons (ss_set (i := 3) sc_law_word.nd (by rfl) (by first | exact Or.inl rfl | exact Or.inr rfl) (se_lstA (fz := true) (n := 4) (san_cons (se_exisX (tb := [(2, false), (3, false), (4, true), (5, false), (6, false), (7, false), (8, false), (9, false)]) x.ec_all hz hf x.kt_NoNumber (by rfl) x.z_isinstance (by rfl) (by first | exact Or.inl rfl | exact Or.inr (Or.inl rfl) | exact Or.inr (Or.inr rfl)) (by rfl) x.e_NoNumber.mg) (san_cons (se_exisX (tb := [(2, false), (3, true), (4, false), (5, false), (6, false), (7, false), (8, false), (9, false)]) x.ec_all hz hf x.kt_NoSnapshot (by rfl) x.z_isinstance (by rfl) (by first | exact Or.inl rfl | exact Or.inr (Or.inl rfl) | exact Or.inr (Or.inr rfl)) (by rfl) x.e_NoSnapshot.mg) (san_cons (se_exisX (tb := [(2, false), (3, false), (4, false), (5, true), (6, false), (7, false), (8, false), (9, false)]) x.ec_all hz hf x.kt_NotOpen (by rfl) x.z_isinstance (by rfl) (by first | exact Or.inl rfl | exact Or.inr (Or.inl rfl) | exact Or.inr (Or.inr rfl)) (by rfl) x.e_NotOpen.mg) (san_cons (se_exisX (tb := [(2, false), (3, false), (4, false), (5, false), (6, true), (7, false), (8, false), (9, false)]) x.ec_all hz hf x.kt_BadSeen (by rfl) x.z_isinstance (by rfl) (by first | exact Or.inl rfl | exact Or.inr (Or.inl rfl) | exact Or.inr (Or.inr rfl)) (by rfl) x.e_BadSeen.mg) (san_nil))))))) (sss_cons (ss_set (i := 3) sc_law_word.nd (by rfl) (by first | exact Or.inl rfl | exact Or.inr rfl) (se_op (opr_or op_add (opr_or op_add_str (opr_or op_catA op_cat))) (ok_add (fz := true)) (se_var (by rfl) (by first | exact Or.inl rfl | exact Or.inr (Or.inl rfl) | exact Or.inr (Or.inr rfl))) (se_lstA (fz := true) (n := 2) (san_cons (se_exisX (tb := [(2, false), (3, false), (4, false), (5, false), (6, false), (7, true), (8, false), (9, false)]) x.ec_all hz hf x.kt_BadWrites (by rfl) x.z_isinstance (by rfl) (by first | exact Or.inl rfl | exact Or.inr (Or.inl rfl) | exact Or.inr (Or.inr rfl)) (by rfl) x.e_BadWrites.mg) (san_cons (se_exisX (tb := [(2, false), (3, false), (4, false), (5, false), (6, false), (7, false), (8, false), (9, true)]) x.ec_all hz hf x.kt_NotRemembered (by rfl) x.z_isinstance (by rfl) (by first | exact Or.inl rfl | exact Or.inr (Or.inl rfl) | exact Or.inr (Or.inr rfl)) (by rfl) x.e_NotRemembered.mg) (san_nil)))))) (sss_cons (ss_set (i := 1) sc_law_word.nd (by rfl) (by first | exact Or.inl rfl | exact Or.inr rfl) (se_str)) (sss_one (ss_if (st_w (sw_and (st_cmp (opr_or op_eq (op_eqD hr.units)) ok_eq (se_lm PySem.F.slot_list_count PySem.F.type_list_count mt_countB okm_countB (se_var (by rfl) (by first | exact Or.inl rfl | exact Or.inr (Or.inl rfl) | exact Or.inr (Or.inr rfl))) (SAn.run (san_cons (se_bl) (san_nil)))) (se_int) (by rfl)) (sw_and1 (st_tr (se_exisXB (tb := [(2, true), (3, true), (4, true), (5, true), (6, true), (7, true), (8, true), (9, true)]) (t := "ValueError") x.ec_all hz hf x.kb_ValueError (by rfl) x.z_isinstance (by rfl) (by first | exact Or.inl rfl | exact Or.inr (Or.inl rfl) | exact Or.inr (Or.inr rfl)) (by rfl) x.z_ValueError (by decide +kernel)))))) (sss_one (ss_set (i := 1) sc_law_word.nd (by rfl) (by first | exact Or.inl rfl | exact Or.inr rfl) (se_ix (by first | exact hu_of hr | (have zz := hu_of hr; exact zz)) (se_lstA (fz := true) (n := 6) (san_cons (se_str) (san_cons (se_str) (san_cons (se_str) (san_cons (se_str) (san_cons (se_str) (san_cons (se_str) (san_nil)))))))) (se_lm PySem.F.slot_list_index PySem.F.type_list_index mt_index okm_indexB (se_var (by rfl) (by first | exact Or.inl rfl | exact Or.inr (Or.inl rfl) | exact Or.inr (Or.inr rfl))) (SAn.run (san_cons (se_bl) (san_nil))))))) (sss_nil))))))) (sss_one (ss_ret (se_var (by rfl) (by first | exact Or.inl rfl | exact Or.inr (Or.inl rfl) | exact Or.inr (Or.inr rfl))))))
theorem pr_law_word (F : W) (cl : Sto → Rs W) (st : Sto) : outOf (mL_law_word F cl (some F :: List.replicate 3 none) st) = outOf (mL_law_word .non cl (some .non :: List.replicate 3 none) st) := by
  rcases h : cl st with ⟨a, s⟩ | ⟨⟨k⟩, s⟩ | _ <;> simp [mL_law_word, sSeq, sAsg, gName', gDo, mCallP, sForget, sTry, sTryM, sTryAs, sTryX, catchA, sExpr, sRet, sNx, mVar, mC, calmS, outOf, Rs.to, List.lookup, h]
theorem fn_is_integer (x : Tx K mg) (tb : x.TB base) : FnM P w K mg base x.T 1 x.a_is_integer x.d_is_integer ["thing"] r_is_integer := fn_ok x.F_is_integer sc_is_integer fun cdv A outer s H E hr => sss_one (ss_ret (se_and (se_bB (se_blt call_isi (okc_isi x.own_ok) (by rfl) x.z_isinstance (by decide +kernel) (SAn.run (san_cons (se_var (by rfl) (by first | exact Or.inl rfl | exact Or.inr (Or.inl rfl) | exact Or.inr (Or.inr rfl))) (san_cons (se_c (pe_bltn (v := .ty "int") (by rfl) x.z_int (by decide +kernel) rfl) (fun _ _ _ => by simp only [VR])) (san_nil)))))) (se_and1 (se_not (se_bB (se_blt call_isi (okc_isi x.own_ok) (by rfl) x.z_isinstance (by decide +kernel) (SAn.run (san_cons (se_var (by rfl) (by first | exact Or.inl rfl | exact Or.inr (Or.inl rfl) | exact Or.inr (Or.inr rfl))) (san_cons (se_c (pe_bltn (v := .ty "bool") (by rfl) x.z_bool (by decide +kernel) rfl) (fun _ _ _ => by simp only [VR])) (san_nil))))))))))
theorem fn_is_number (x : Tx K mg) (tb : x.TB base) : FnM P w K mg base x.T 2 x.a_is_number x.d_is_number ["thing"] r_is_number := fn_ok x.F_is_number sc_is_number fun cdv A outer s H E hr => sss_one (ss_ret (se_and (se_bB (se_call ((fn_is_integer x tb).mono (by decide)) hr (takes_of rfl rfl rfl rfl) (by rfl) x.g_is_integer x.F_is_integer.kp x.b_is_integer (san_cons (se_var (by rfl) (by first | exact Or.inl rfl | exact Or.inr (Or.inl rfl) | exact Or.inr (Or.inr rfl))) (san_nil)))) (se_and1 (se_bB (se_cmp (opr_or op_ge op_ge_str) ok_cmpS (se_var (by rfl) (by first | exact Or.inl rfl | exact Or.inr (Or.inl rfl) | exact Or.inr (Or.inr rfl))) (se_int) (by rfl))))))
theorem fn_Check_init (x : Tx K mg) (tb : x.TB base) : FnM P w K mg base x.T 3 x.a_Check_init x.d_Check_init ["self", "last"] r_Check_init := fn_ok x.F_Check_init sc_Check_init fun cdv A outer s H E hr => sss_cons (ss_if (st_not (st_tr (se_call ((fn_is_number x tb).mono (by decide)) hr (takes_of rfl rfl rfl rfl) (by rfl) x.g_is_number x.F_is_number.kp x.b_is_number (san_cons (se_var (by rfl) (by first | exact Or.inl rfl | exact Or.inr (Or.inl rfl) | exact Or.inr (Or.inr rfl))) (san_nil))))) (sss_one (ss_raise0 (c := 4) rfl (takes_of rfl rfl rfl rfl) (ExcF.ok (X := _) x.e_NoNumber) (by rfl))) (sss_nil)) (sss_cons (ss_fld (cs := [0]) (se_var (by rfl) (by first | exact Or.inl rfl | exact Or.inr (Or.inl rfl) | exact Or.inr (Or.inr rfl))) (se_var (by rfl) (by first | exact Or.inl rfl | exact Or.inr (Or.inl rfl) | exact Or.inr (Or.inr rfl))) x.f_newest) (sss_cons (ss_fld (cs := [0]) (se_var (by rfl) (by first | exact Or.inl rfl | exact Or.inr (Or.inl rfl) | exact Or.inr (Or.inr rfl))) (se_int) x.f_opened) (sss_cons (ss_fld (cs := [0]) (se_var (by rfl) (by first | exact Or.inl rfl | exact Or.inr (Or.inl rfl) | exact Or.inr (Or.inr rfl))) (se_dict0) x.f_snapshots) (sss_cons (ss_fld (cs := [0]) (se_var (by rfl) (by first | exact Or.inl rfl | exact Or.inr (Or.inl rfl) | exact Or.inr (Or.inr rfl))) (se_dict0) x.f_dealings) (sss_one (ss_fld (cs := [0]) (se_var (by rfl) (by first | exact Or.inl rfl | exact Or.inr (Or.inl rfl) | exact Or.inr (Or.inr rfl))) (se_dict0) x.f_ways))))))
theorem fn_is_within (x : Tx K mg) (tb : x.TB base) : FnM P w K mg base x.T 2 x.a_is_within x.d_is_within ["low", "high", "thing"] r_is_within := fn_ok x.F_is_within sc_is_within fun cdv A outer s H E hr => sss_one (ss_ret (se_and (se_bB (se_call ((fn_is_integer x tb).mono (by decide)) hr (takes_of rfl rfl rfl rfl) (by rfl) x.g_is_integer x.F_is_integer.kp x.b_is_integer (san_cons (se_var (by rfl) (by first | exact Or.inl rfl | exact Or.inr (Or.inl rfl) | exact Or.inr (Or.inr rfl))) (san_nil)))) (se_and1 (se_bB (se_chain (opr_or op_le op_le_str) ok_cmpS (opr_or op_le op_le_str) ok_cmpS (se_var (by rfl) (by first | exact Or.inl rfl | exact Or.inr (Or.inl rfl) | exact Or.inr (Or.inr rfl))) (se_var (by rfl) (by first | exact Or.inl rfl | exact Or.inr (Or.inl rfl) | exact Or.inr (Or.inr rfl))) (se_var (by rfl) (by first | exact Or.inl rfl | exact Or.inr (Or.inl rfl) | exact Or.inr (Or.inr rfl))))))))
theorem fn_Check_least_snapshot (x : Tx K mg) (tb : x.TB base) : FnM P w K mg base x.T 1 x.a_Check_least_snapshot x.d_Check_least_snapshot ["self"] r_Check_least_snapshot := fn_ok x.F_Check_least_snapshot sc_Check_least_snapshot fun cdv A outer s H E hr => sss_one (ss_ret (se_minV rfl (by rfl) x.z_min (se_fld (cs := [0]) (se_var (by rfl) (by first | exact Or.inl rfl | exact Or.inr (Or.inl rfl) | exact Or.inr (Or.inr rfl))) x.f_snapshots) (se_fld (cs := [0]) (se_var (by rfl) (by first | exact Or.inl rfl | exact Or.inr (Or.inl rfl) | exact Or.inr (Or.inr rfl))) x.f_newest)))
theorem fn_Check_opens (x : Tx K mg) (tb : x.TB base) : FnM P w K mg base x.T 3 x.a_Check_opens x.d_Check_opens ["self", "snapshot"] r_Check_opens := fn_ok x.F_Check_opens sc_Check_opens fun cdv A outer s H E hr => sss_cons (ss_if (st_not (st_tr (se_call ((fn_is_within x tb).mono (by decide)) hr (takes_of rfl rfl rfl rfl) (by rfl) x.g_is_within x.F_is_within.kp x.b_is_within (san_cons (se_meth0 (tb := [(0, r_Check_least_snapshot)]) (se_var (by rfl) (by first | exact Or.inl rfl | exact Or.inr (Or.inl rfl) | exact Or.inr (Or.inr rfl))) (fun p hp => by
      simp only [List.mem_cons, List.not_mem_nil, or_false] at hp
      rcases hp with rfl
      exact ⟨x.cl_Check, x.a_Check_least_snapshot, x.d_Check_least_snapshot, _, x.me_Check_least_snapshot, (fn_Check_least_snapshot x tb).mono (by decide), x.b_Check_least_snapshot, rfl⟩) hr (takes_of rfl rfl rfl rfl)) (san_cons (se_fld (cs := [0]) (se_var (by rfl) (by first | exact Or.inl rfl | exact Or.inr (Or.inl rfl) | exact Or.inr (Or.inr rfl))) x.f_newest) (san_cons (se_var (by rfl) (by first | exact Or.inl rfl | exact Or.inr (Or.inl rfl) | exact Or.inr (Or.inr rfl))) (san_nil))))))) (sss_one (ss_raise0 (c := 3) rfl (takes_of rfl rfl rfl rfl) (ExcF.ok (X := _) x.e_NoSnapshot) (by rfl))) (sss_nil)) (sss_cons (ss_set (i := 2) sc_Check_opens.nd (by rfl) (by first | exact Or.inl rfl | exact Or.inr rfl) (se_fld (cs := [0]) (se_var (by rfl) (by first | exact Or.inl rfl | exact Or.inr (Or.inl rfl) | exact Or.inr (Or.inr rfl))) x.f_opened)) (sss_cons (ss_asg (se_var (by rfl) (by first | exact Or.inl rfl | exact Or.inr (Or.inl rfl) | exact Or.inr (Or.inr rfl))) (sg_sub (by first | exact hu_of hr | (have zz := hu_of hr; exact zz)) (se_fld (cs := [0]) (se_var (by rfl) (by first | exact Or.inl rfl | exact Or.inr (Or.inl rfl) | exact Or.inr (Or.inr rfl))) x.f_snapshots) (se_var (by rfl) (by first | exact Or.inl rfl | exact Or.inr (Or.inl rfl) | exact Or.inr (Or.inr rfl))))) (sss_cons (ss_faug (cs := [0]) (se_var (by rfl) (by first | exact Or.inl rfl | exact Or.inr (Or.inl rfl) | exact Or.inr (Or.inr rfl))) (se_int) in_add (fun _ _ _ _ h => ⟨_, _, rfl, rfl, h⟩) x.f_opened) (sss_one (ss_ret (se_var (by rfl) (by first | exact Or.inl rfl | exact Or.inr (Or.inl rfl) | exact Or.inr (Or.inr rfl))))))))
theorem fn_Check_demand_open (x : Tx K mg) (tb : x.TB base) : FnM P w K mg base x.T 3 x.a_Check_demand_open x.d_Check_demand_open ["self", "entry"] r_Check_demand_open := fn_ok x.F_Check_demand_open sc_Check_demand_open fun cdv A outer s H E hr => sss_one (ss_if (st_w (sw_or (st_not (st_tr (se_call ((fn_is_number x tb).mono (by decide)) hr (takes_of rfl rfl rfl rfl) (by rfl) x.g_is_number x.F_is_number.kp x.b_is_number (san_cons (se_var (by rfl) (by first | exact Or.inl rfl | exact Or.inr (Or.inl rfl) | exact Or.inr (Or.inr rfl))) (san_nil))))) (sw_or1 (st_dnin (by first | exact hu_of hr | (have zz := hu_of hr; exact zz)) (se_var (by rfl) (by first | exact Or.inl rfl | exact Or.inr (Or.inl rfl) | exact Or.inr (Or.inr rfl))) (se_fld (cs := [0]) (se_var (by rfl) (by first | exact Or.inl rfl | exact Or.inr (Or.inl rfl) | exact Or.inr (Or.inr rfl))) x.f_snapshots))))) (sss_one (ss_raise0 (c := 5) rfl (takes_of rfl rfl rfl rfl) (ExcF.ok (X := _) x.e_NotOpen) (by rfl))) (sss_nil))
theorem fn_is_word (x : Tx K mg) (tb : x.TB base) : FnM P w K mg base x.T 1 x.a_is_word x.d_is_word ["thing"] r_is_word := fn_ok x.F_is_word sc_is_word fun cdv A outer s H E hr => sss_cons (ss_if (st_w (sw_or (st_not (st_tr (se_blt call_isi (okc_isi x.own_ok) (by rfl) x.z_isinstance (by decide +kernel) (SAn.run (san_cons (se_var (by rfl) (by first | exact Or.inl rfl | exact Or.inr (Or.inl rfl) | exact Or.inr (Or.inr rfl))) (san_cons (se_c (pe_bltn (v := .ty "str") (by rfl) x.z_str (by decide +kernel) rfl) (fun _ _ _ => by simp only [VR])) (san_nil))))))) (sw_or1 (st_cmp (opr_or op_gt op_gt_str) ok_cmpS (se_blt (CallR.or call_len call_lenD) okc_len (by rfl) x.z_len (by decide +kernel) (SAn.run (san_cons (se_var (by rfl) (by first | exact Or.inl rfl | exact Or.inr (Or.inl rfl) | exact Or.inr (Or.inr rfl))) (san_nil)))) (se_globI (by rfl) x.c_LONGEST_WORD ⟨_, rfl⟩) (by rfl))))) (sss_one (ss_ret (se_bl))) (sss_nil)) (sss_one (ss_ret (se_blt (cr_all rfl) okc_all (by rfl) x.z_all (by decide +kernel) (SAn.run (san_cons (se_comp (fz := true) (own := [("sign", 1)]) (t := (.one 1)) rfl sc_is_word.nd (si_str (se_var (by rfl) (by first | exact Or.inl rfl | exact Or.inr (Or.inl rfl) | exact Or.inr (Or.inr rfl)))) (blkOk_by (own := [("sign", 1)]) (N := N_is_word) (sc := (defScope s_is_word)) (by decide +kernel)) (by decide) (fun _ _ _ _ _ => pg_name (i := 1) sc_is_word.nd (by rfl) (Or.inl (by rfl))) (.inl ⟨rfl, rfl⟩) (fun _ _ _ _ _ => se_chain (opr_or op_le op_le_str) ok_cmpS (opr_or op_le op_le_str) ok_cmpS (se_str) (se_var (by rfl) (by first | exact Or.inl rfl | exact Or.inr (Or.inl rfl) | exact Or.inr (Or.inr rfl))) (se_str))) (san_nil))))))
theorem fn_is_key (x : Tx K mg) (tb : x.TB base) : FnM P w K mg base x.T 2 x.a_is_key x.d_is_key ["thing"] r_is_key := fn_ok x.F_is_key sc_is_key fun cdv A outer s H E hr => sss_one (ss_ret (se_and (se_bB (se_call ((fn_is_word x tb).mono (by decide)) hr (takes_of rfl rfl rfl rfl) (by rfl) x.g_is_word x.F_is_word.kp x.b_is_word (san_cons (se_var (by rfl) (by first | exact Or.inl rfl | exact Or.inr (Or.inl rfl) | exact Or.inr (Or.inr rfl))) (san_nil)))) (se_and1 (se_bB (se_cmp (opr_or op_ne (op_neD hr.units)) ok_ne (se_var (by rfl) (by first | exact Or.inl rfl | exact Or.inr (Or.inl rfl) | exact Or.inr (Or.inr rfl))) (se_str) (by rfl))))))
theorem par_is_tuple_of_is_key (g : Addr) (w : W) (st : Sto) : runOf 3 (m_is_tuple_of_is_key g) [.at_ g, w] st = r_is_tuple_of_is_key [w] st := by
  have h := fun s n i acc st => compS_V (s := s) (r := r_is_key) (w := w) (g := g) n i acc st
  simp [r_is_tuple_of_is_key, runOf, m_is_tuple_of_is_key, sRet, mBl, mAnd, mB, mFn, mCons, mNil, mC, mComp, wipeW, iT, iL, iA, mVar, h]
  exact outOf_to
theorem fn_is_tuple_of_is_key (x : Tx K mg) (tb : x.TB base) : FnM P w K mg base x.T 3 x.a_is_tuple_of_is_key x.d_is_tuple_of_is_key ["judge", "thing"] (runOf 3 (m_is_tuple_of_is_key x.a_is_key)) := fn_ok x.F_is_tuple_of_is_key sc_is_tuple_of_is_key fun cdv A outer s H E hr => sss_one (ss_ret (se_and (se_bB (se_blt call_isi (okc_isi x.own_ok) (by rfl) x.z_isinstance (by decide +kernel) (SAn.run (san_cons (se_var (by rfl) (by first | exact Or.inl rfl | exact Or.inr (Or.inl rfl) | exact Or.inr (Or.inr rfl))) (san_cons (se_c (pe_bltn (v := .ty "tuple") (by rfl) x.z_tuple (by decide +kernel) rfl) (fun _ _ _ => by simp only [VR])) (san_nil)))))) (se_and1 (se_bB (se_blt (cr_all rfl) okc_all (by rfl) x.z_all (by decide +kernel) (SAn.run (san_cons (se_comp (fz := true) (own := [("item", 2)]) (t := (.one 2)) rfl sc_is_tuple_of_is_key.nd (si_tup (se_var (by rfl) (by first | exact Or.inl rfl | exact Or.inr (Or.inl rfl) | exact Or.inr (Or.inr rfl)))) (blkOk_by (own := [("item", 2)]) (N := N_is_tuple_of_is_key) (sc := (defScope s_is_tuple_of_is_key)) (by decide +kernel)) (by decide) (fun _ _ _ _ _ => pg_name (i := 2) sc_is_tuple_of_is_key.nd (by rfl) (Or.inl (by rfl))) (.inl ⟨rfl, rfl⟩) (fun _ _ _ _ _ => se_callV ((fn_is_key x tb).mono (by decide)) hr takes0 (by rfl) (by first | exact Or.inl rfl | exact Or.inr (Or.inl rfl) | exact Or.inr (Or.inr rfl)) x.F_is_key.kp x.b_is_key (san_cons (se_var (by rfl) (by first | exact Or.inl rfl | exact Or.inr (Or.inl rfl) | exact Or.inr (Or.inr rfl))) (san_nil)))) (san_nil))))))))
theorem fn_is_ascending (x : Tx K mg) (tb : x.TB base) : FnM P w K mg base x.T 1 x.a_is_ascending x.d_is_ascending ["row"] r_is_ascending := fn_ok x.F_is_ascending sc_is_ascending fun cdv A outer s H E hr => sss_one (ss_ret (se_blt (cr_all rfl) okc_all (by rfl) x.z_all (by decide +kernel) (SAn.run (san_cons (se_comp (fz := true) (own := [("at", 1)]) (t := (.one 1)) rfl sc_is_ascending.nd (si_range1 (by rfl) x.z_range (SAn.run (san_cons (se_op op_sub ok_sub (se_blt (CallR.or call_len call_lenD) okc_len (by rfl) x.z_len (by decide +kernel) (SAn.run (san_cons (se_var (by rfl) (by first | exact Or.inl rfl | exact Or.inr (Or.inl rfl) | exact Or.inr (Or.inr rfl))) (san_nil)))) (se_int)) (san_nil)))) (blkOk_by (own := [("at", 1)]) (N := N_is_ascending) (sc := (defScope s_is_ascending)) (by decide +kernel)) (by decide) (fun _ _ _ _ _ => pg_name (i := 1) sc_is_ascending.nd (by rfl) (Or.inl (by rfl))) (.inl ⟨rfl, rfl⟩) (fun _ _ _ _ _ => se_cmp (opr_or op_lt op_lt_str) ok_cmpS (se_ix (by first | exact hu_of hr | (have zz := hu_of hr; exact zz)) (se_var (by rfl) (by first | exact Or.inl rfl | exact Or.inr (Or.inl rfl) | exact Or.inr (Or.inr rfl))) (se_var (by rfl) (by first | exact Or.inl rfl | exact Or.inr (Or.inl rfl) | exact Or.inr (Or.inr rfl)))) (se_ix (by first | exact hu_of hr | (have zz := hu_of hr; exact zz)) (se_var (by rfl) (by first | exact Or.inl rfl | exact Or.inr (Or.inl rfl) | exact Or.inr (Or.inr rfl))) (se_op (opr_or op_add (opr_or op_add_str (opr_or op_catA op_cat))) (ok_add (fz := true)) (se_var (by rfl) (by first | exact Or.inl rfl | exact Or.inr (Or.inl rfl) | exact Or.inr (Or.inr rfl))) (se_int))) (by rfl))) (san_nil)))))
theorem fn_is_keys (x : Tx K mg) (tb : x.TB base) : FnM P w K mg base x.T 4 x.a_is_keys x.d_is_keys ["thing"] r_is_keys := fn_ok x.F_is_keys sc_is_keys fun cdv A outer s H E hr => sss_one (ss_ret (se_and (se_bB (se_callF ((fn_is_tuple_of_is_key x tb).mono (by decide)) hr (takes_of rfl rfl rfl rfl) (by rfl) x.g_is_tuple_of_is_key x.F_is_tuple_of_is_key.kp x.b_is_tuple_of_is_key (by rfl) x.g_is_key (par_is_tuple_of_is_key _) (se_var (by rfl) (by first | exact Or.inl rfl | exact Or.inr (Or.inl rfl) | exact Or.inr (Or.inr rfl))) rfl)) (se_and1 (se_bB (se_call ((fn_is_ascending x tb).mono (by decide)) hr (takes_of rfl rfl rfl rfl) (by rfl) x.g_is_ascending x.F_is_ascending.kp x.b_is_ascending (san_cons (se_var (by rfl) (by first | exact Or.inl rfl | exact Or.inr (Or.inl rfl) | exact Or.inr (Or.inr rfl))) (san_nil)))))))
theorem fn_is_tuple (x : Tx K mg) (tb : x.TB base) : FnM P w K mg base x.T 1 x.a_is_tuple x.d_is_tuple ["many", "thing"] r_is_tuple := fn_ok x.F_is_tuple sc_is_tuple fun cdv A outer s H E hr => sss_one (ss_ret (se_and (se_bB (se_blt call_isi (okc_isi x.own_ok) (by rfl) x.z_isinstance (by decide +kernel) (SAn.run (san_cons (se_var (by rfl) (by first | exact Or.inl rfl | exact Or.inr (Or.inl rfl) | exact Or.inr (Or.inr rfl))) (san_cons (se_c (pe_bltn (v := .ty "tuple") (by rfl) x.z_tuple (by decide +kernel) rfl) (fun _ _ _ => by simp only [VR])) (san_nil)))))) (se_and1 (se_bB (se_cmp (opr_or op_eq (op_eqD hr.units)) ok_eq (se_blt (CallR.or call_len call_lenD) okc_len (by rfl) x.z_len (by decide +kernel) (SAn.run (san_cons (se_var (by rfl) (by first | exact Or.inl rfl | exact Or.inr (Or.inl rfl) | exact Or.inr (Or.inr rfl))) (san_nil)))) (se_var (by rfl) (by first | exact Or.inl rfl | exact Or.inr (Or.inl rfl) | exact Or.inr (Or.inr rfl))) (by rfl))))))
theorem fn_is_range (x : Tx K mg) (tb : x.TB base) : FnM P w K mg base x.T 5 x.a_is_range x.d_is_range ["thing"] r_is_range := fn_ok x.F_is_range sc_is_range fun cdv A outer s H E hr => sss_cons (ss_if (st_not (st_tr (se_call ((fn_is_tuple x tb).mono (by decide)) hr (takes_of rfl rfl rfl rfl) (by rfl) x.g_is_tuple x.F_is_tuple.kp x.b_is_tuple (san_cons (se_int) (san_cons (se_var (by rfl) (by first | exact Or.inl rfl | exact Or.inr (Or.inl rfl) | exact Or.inr (Or.inr rfl))) (san_nil)))))) (sss_one (ss_ret (se_bl))) (sss_nil)) (sss_cons (ss_asg (se_var (by rfl) (by first | exact Or.inl rfl | exact Or.inr (Or.inl rfl) | exact Or.inr (Or.inr rfl))) (sg_tup rfl (sgs_cons (sg_name (i := 1) sc_is_range.nd (by rfl) (by first | exact Or.inl rfl | exact Or.inr rfl)) (sgs_cons (sg_name (i := 2) sc_is_range.nd (by rfl) (by first | exact Or.inl rfl | exact Or.inr rfl)) (sgs_cons (sg_name (i := 3) sc_is_range.nd (by rfl) (by first | exact Or.inl rfl | exact Or.inr rfl)) (sgs_nil)))))) (sss_cons (ss_if (st_w (sw_or (st_not (st_tr (se_call ((fn_is_key x tb).mono (by decide)) hr (takes_of rfl rfl rfl rfl) (by rfl) x.g_is_key x.F_is_key.kp x.b_is_key (san_cons (se_var (by rfl) (by first | exact Or.inl rfl | exact Or.inr (Or.inl rfl) | exact Or.inr (Or.inr rfl))) (san_nil))))) (sw_or (st_not (st_tr (se_call ((fn_is_key x tb).mono (by decide)) hr (takes_of rfl rfl rfl rfl) (by rfl) x.g_is_key x.F_is_key.kp x.b_is_key (san_cons (se_var (by rfl) (by first | exact Or.inl rfl | exact Or.inr (Or.inl rfl) | exact Or.inr (Or.inr rfl))) (san_nil))))) (sw_or1 (st_cmp (opr_or op_gt op_gt_str) ok_cmpS (se_var (by rfl) (by first | exact Or.inl rfl | exact Or.inr (Or.inl rfl) | exact Or.inr (Or.inr rfl))) (se_var (by rfl) (by first | exact Or.inl rfl | exact Or.inr (Or.inl rfl) | exact Or.inr (Or.inr rfl))) (by rfl)))))) (sss_one (ss_ret (se_bl))) (sss_nil)) (sss_one (ss_ret (se_and (se_bB (se_call ((fn_is_keys x tb).mono (by decide)) hr (takes_of rfl rfl rfl rfl) (by rfl) x.g_is_keys x.F_is_keys.kp x.b_is_keys (san_cons (se_var (by rfl) (by first | exact Or.inl rfl | exact Or.inr (Or.inl rfl) | exact Or.inr (Or.inr rfl))) (san_nil)))) (se_and1 (se_bB (se_blt (cr_all rfl) okc_all (by rfl) x.z_all (by decide +kernel) (SAn.run (san_cons (se_comp (fz := true) (own := [("key", 4)]) (t := (.one 4)) rfl sc_is_range.nd (si_tup (se_var (by rfl) (by first | exact Or.inl rfl | exact Or.inr (Or.inl rfl) | exact Or.inr (Or.inr rfl)))) (blkOk_by (own := [("key", 4)]) (N := N_is_range) (sc := (defScope s_is_range)) (by decide +kernel)) (by decide) (fun _ _ _ _ _ => pg_name (i := 4) sc_is_range.nd (by rfl) (Or.inl (by rfl))) (.inl ⟨rfl, rfl⟩) (fun _ _ _ _ _ => se_chain (opr_or op_le op_le_str) ok_cmpS (opr_or op_le op_le_str) ok_cmpS (se_var (by rfl) (by first | exact Or.inl rfl | exact Or.inr (Or.inl rfl) | exact Or.inr (Or.inr rfl))) (se_var (by rfl) (by first | exact Or.inl rfl | exact Or.inr (Or.inl rfl) | exact Or.inr (Or.inr rfl))) (se_var (by rfl) (by first | exact Or.inl rfl | exact Or.inr (Or.inl rfl) | exact Or.inr (Or.inr rfl))))) (san_nil)))))))))))
theorem par_is_tuple_of_is_range (g : Addr) (w : W) (st : Sto) : runOf 3 (m_is_tuple_of_is_range g) [.at_ g, w] st = r_is_tuple_of_is_range [w] st := by
  have h := fun s n i acc st => compS_V (s := s) (r := r_is_range) (w := w) (g := g) n i acc st
  simp [r_is_tuple_of_is_range, runOf, m_is_tuple_of_is_range, sRet, mBl, mAnd, mB, mFn, mCons, mNil, mC, mComp, wipeW, iT, iL, iA, mVar, h]
  exact outOf_to
theorem fn_is_tuple_of_is_range (x : Tx K mg) (tb : x.TB base) : FnM P w K mg base x.T 6 x.a_is_tuple_of_is_range x.d_is_tuple_of_is_range ["judge", "thing"] (runOf 3 (m_is_tuple_of_is_range x.a_is_range)) := fn_ok x.F_is_tuple_of_is_range sc_is_tuple_of_is_range fun cdv A outer s H E hr => sss_one (ss_ret (se_and (se_bB (se_blt call_isi (okc_isi x.own_ok) (by rfl) x.z_isinstance (by decide +kernel) (SAn.run (san_cons (se_var (by rfl) (by first | exact Or.inl rfl | exact Or.inr (Or.inl rfl) | exact Or.inr (Or.inr rfl))) (san_cons (se_c (pe_bltn (v := .ty "tuple") (by rfl) x.z_tuple (by decide +kernel) rfl) (fun _ _ _ => by simp only [VR])) (san_nil)))))) (se_and1 (se_bB (se_blt (cr_all rfl) okc_all (by rfl) x.z_all (by decide +kernel) (SAn.run (san_cons (se_comp (fz := true) (own := [("item", 2)]) (t := (.one 2)) rfl sc_is_tuple_of_is_range.nd (si_tup (se_var (by rfl) (by first | exact Or.inl rfl | exact Or.inr (Or.inl rfl) | exact Or.inr (Or.inr rfl)))) (blkOk_by (own := [("item", 2)]) (N := N_is_tuple_of_is_range) (sc := (defScope s_is_tuple_of_is_range)) (by decide +kernel)) (by decide) (fun _ _ _ _ _ => pg_name (i := 2) sc_is_tuple_of_is_range.nd (by rfl) (Or.inl (by rfl))) (.inl ⟨rfl, rfl⟩) (fun _ _ _ _ _ => se_callV ((fn_is_range x tb).mono (by decide)) hr takes0 (by rfl) (by first | exact Or.inl rfl | exact Or.inr (Or.inl rfl) | exact Or.inr (Or.inr rfl)) x.F_is_range.kp x.b_is_range (san_cons (se_var (by rfl) (by first | exact Or.inl rfl | exact Or.inr (Or.inl rfl) | exact Or.inr (Or.inr rfl))) (san_nil)))) (san_nil))))))))
theorem fn_is_ranges (x : Tx K mg) (tb : x.TB base) : FnM P w K mg base x.T 7 x.a_is_ranges x.d_is_ranges ["thing"] r_is_ranges := fn_ok x.F_is_ranges sc_is_ranges fun cdv A outer s H E hr => sss_one (ss_ret (se_and (se_bB (se_callF ((fn_is_tuple_of_is_range x tb).mono (by decide)) hr (takes_of rfl rfl rfl rfl) (by rfl) x.g_is_tuple_of_is_range x.F_is_tuple_of_is_range.kp x.b_is_tuple_of_is_range (by rfl) x.g_is_range (par_is_tuple_of_is_range _) (se_var (by rfl) (by first | exact Or.inl rfl | exact Or.inr (Or.inl rfl) | exact Or.inr (Or.inr rfl))) rfl)) (se_and1 (se_bB (se_call ((fn_is_ascending x tb).mono (by decide)) hr (takes_of rfl rfl rfl rfl) (by rfl) x.g_is_ascending x.F_is_ascending.kp x.b_is_ascending (san_cons (se_var (by rfl) (by first | exact Or.inl rfl | exact Or.inr (Or.inl rfl) | exact Or.inr (Or.inr rfl))) (san_nil)))))))
theorem fn_is_worth (x : Tx K mg) (tb : x.TB base) : FnM P w K mg base x.T 3 x.a_is_worth x.d_is_worth ["thing"] r_is_worth := fn_ok x.F_is_worth sc_is_worth fun cdv A outer s H E hr => sss_one (ss_ret (se_call ((fn_is_within x tb).mono (by decide)) hr (takes_of rfl rfl rfl rfl) (by rfl) x.g_is_within x.F_is_within.kp x.b_is_within (san_cons (se_neg (se_globI (by rfl) x.c_GREATEST ⟨_, rfl⟩)) (san_cons (se_globI (by rfl) x.c_GREATEST ⟨_, rfl⟩) (san_cons (se_var (by rfl) (by first | exact Or.inl rfl | exact Or.inr (Or.inl rfl) | exact Or.inr (Or.inr rfl))) (san_nil))))))
theorem fn_is_mark (x : Tx K mg) (tb : x.TB base) : FnM P w K mg base x.T 4 x.a_is_mark x.d_is_mark ["thing"] r_is_mark := fn_ok x.F_is_mark sc_is_mark fun cdv A outer s H E hr => sss_one (ss_ret (se_or (se_bB (se_cmp (opr_or op_isN op_isF) ok_is (se_var (by rfl) (by first | exact Or.inl rfl | exact Or.inr (Or.inl rfl) | exact Or.inr (Or.inr rfl))) (se_non) (by rfl))) (se_and1 (se_bB (se_call ((fn_is_worth x tb).mono (by decide)) hr (takes_of rfl rfl rfl rfl) (by rfl) x.g_is_worth x.F_is_worth.kp x.b_is_worth (san_cons (se_var (by rfl) (by first | exact Or.inl rfl | exact Or.inr (Or.inl rfl) | exact Or.inr (Or.inr rfl))) (san_nil)))))))
theorem fn_is_write (x : Tx K mg) (tb : x.TB base) : FnM P w K mg base x.T 5 x.a_is_write x.d_is_write ["thing"] r_is_write := fn_ok x.F_is_write sc_is_write fun cdv A outer s H E hr => sss_one (ss_ret (se_and (se_bB (se_call ((fn_is_tuple x tb).mono (by decide)) hr (takes_of rfl rfl rfl rfl) (by rfl) x.g_is_tuple x.F_is_tuple.kp x.b_is_tuple (san_cons (se_int) (san_cons (se_var (by rfl) (by first | exact Or.inl rfl | exact Or.inr (Or.inl rfl) | exact Or.inr (Or.inr rfl))) (san_nil))))) (se_and (se_bB (se_call ((fn_is_key x tb).mono (by decide)) hr (takes_of rfl rfl rfl rfl) (by rfl) x.g_is_key x.F_is_key.kp x.b_is_key (san_cons (se_ix (by first | exact hu_of hr | (have zz := hu_of hr; exact zz)) (se_var (by rfl) (by first | exact Or.inl rfl | exact Or.inr (Or.inl rfl) | exact Or.inr (Or.inr rfl))) (se_int)) (san_nil)))) (se_and1 (se_bB (se_call ((fn_is_mark x tb).mono (by decide)) hr (takes_of rfl rfl rfl rfl) (by rfl) x.g_is_mark x.F_is_mark.kp x.b_is_mark (san_cons (se_ix (by first | exact hu_of hr | (have zz := hu_of hr; exact zz)) (se_var (by rfl) (by first | exact Or.inl rfl | exact Or.inr (Or.inl rfl) | exact Or.inr (Or.inr rfl))) (se_int)) (san_nil))))))))
theorem par_is_tuple_of_is_write (g : Addr) (w : W) (st : Sto) : runOf 3 (m_is_tuple_of_is_write g) [.at_ g, w] st = r_is_tuple_of_is_write [w] st := by
  have h := fun s n i acc st => compS_V (s := s) (r := r_is_write) (w := w) (g := g) n i acc st
  simp [r_is_tuple_of_is_write, runOf, m_is_tuple_of_is_write, sRet, mBl, mAnd, mB, mFn, mCons, mNil, mC, mComp, wipeW, iT, iL, iA, mVar, h]
  exact outOf_to
theorem fn_is_tuple_of_is_write (x : Tx K mg) (tb : x.TB base) : FnM P w K mg base x.T 6 x.a_is_tuple_of_is_write x.d_is_tuple_of_is_write ["judge", "thing"] (runOf 3 (m_is_tuple_of_is_write x.a_is_write)) := fn_ok x.F_is_tuple_of_is_write sc_is_tuple_of_is_write fun cdv A outer s H E hr => sss_one (ss_ret (se_and (se_bB (se_blt call_isi (okc_isi x.own_ok) (by rfl) x.z_isinstance (by decide +kernel) (SAn.run (san_cons (se_var (by rfl) (by first | exact Or.inl rfl | exact Or.inr (Or.inl rfl) | exact Or.inr (Or.inr rfl))) (san_cons (se_c (pe_bltn (v := .ty "tuple") (by rfl) x.z_tuple (by decide +kernel) rfl) (fun _ _ _ => by simp only [VR])) (san_nil)))))) (se_and1 (se_bB (se_blt (cr_all rfl) okc_all (by rfl) x.z_all (by decide +kernel) (SAn.run (san_cons (se_comp (fz := true) (own := [("item", 2)]) (t := (.one 2)) rfl sc_is_tuple_of_is_write.nd (si_tup (se_var (by rfl) (by first | exact Or.inl rfl | exact Or.inr (Or.inl rfl) | exact Or.inr (Or.inr rfl)))) (blkOk_by (own := [("item", 2)]) (N := N_is_tuple_of_is_write) (sc := (defScope s_is_tuple_of_is_write)) (by decide +kernel)) (by decide) (fun _ _ _ _ _ => pg_name (i := 2) sc_is_tuple_of_is_write.nd (by rfl) (Or.inl (by rfl))) (.inl ⟨rfl, rfl⟩) (fun _ _ _ _ _ => se_callV ((fn_is_write x tb).mono (by decide)) hr takes0 (by rfl) (by first | exact Or.inl rfl | exact Or.inr (Or.inl rfl) | exact Or.inr (Or.inr rfl)) x.F_is_write.kp x.b_is_write (san_cons (se_var (by rfl) (by first | exact Or.inl rfl | exact Or.inr (Or.inl rfl) | exact Or.inr (Or.inr rfl))) (san_nil)))) (san_nil))))))))
theorem fn_is_writes (x : Tx K mg) (tb : x.TB base) : FnM P w K mg base x.T 7 x.a_is_writes x.d_is_writes ["thing"] r_is_writes := fn_ok x.F_is_writes sc_is_writes fun cdv A outer s H E hr => sss_one (ss_ret (se_and (se_bB (se_callF ((fn_is_tuple_of_is_write x tb).mono (by decide)) hr (takes_of rfl rfl rfl rfl) (by rfl) x.g_is_tuple_of_is_write x.F_is_tuple_of_is_write.kp x.b_is_tuple_of_is_write (by rfl) x.g_is_write (par_is_tuple_of_is_write _) (se_var (by rfl) (by first | exact Or.inl rfl | exact Or.inr (Or.inl rfl) | exact Or.inr (Or.inr rfl))) rfl)) (se_and1 (se_bB (se_call ((fn_is_ascending x tb).mono (by decide)) hr (takes_of rfl rfl rfl rfl) (by rfl) x.g_is_ascending x.F_is_ascending.kp x.b_is_ascending (san_cons (se_comp (fz := true) (own := [("row", 1)]) (t := (.one 1)) rfl sc_is_writes.nd (si_tup (se_var (by rfl) (by first | exact Or.inl rfl | exact Or.inr (Or.inl rfl) | exact Or.inr (Or.inr rfl)))) (blkOk_by (own := [("row", 1)]) (N := N_is_writes) (sc := (defScope s_is_writes)) (by decide +kernel)) (by decide) (fun _ _ _ _ _ => pg_name (i := 1) sc_is_writes.nd (by rfl) (Or.inl (by rfl))) (.inl ⟨rfl, rfl⟩) (fun _ _ _ _ _ => se_ix (by first | exact hu_of hr | (have zz := hu_of hr; exact zz)) (se_var (by rfl) (by first | exact Or.inl rfl | exact Or.inr (Or.inl rfl) | exact Or.inr (Or.inr rfl))) (se_int))) (san_nil)))))))
theorem fn_is_number_for (x : Tx K mg) (tb : x.TB base) : FnM P w K mg base x.T 2 x.a_is_number_for x.d_is_number_for ["snapshot", "writes", "thing"] r_is_number_for := fn_ok x.F_is_number_for sc_is_number_for fun cdv A outer s H E hr => sss_cons (ss_if (st_cmp (opr_or op_isN op_isF) ok_is (se_var (by rfl) (by first | exact Or.inl rfl | exact Or.inr (Or.inl rfl) | exact Or.inr (Or.inr rfl))) (se_non) (by rfl)) (sss_one (ss_ret (se_or (se_not (se_bB (se_blt call_isi (okc_isi x.own_ok) (by rfl) x.z_isinstance (by decide +kernel) (SAn.run (san_cons (se_var (by rfl) (by first | exact Or.inl rfl | exact Or.inr (Or.inl rfl) | exact Or.inr (Or.inr rfl))) (san_cons (se_c (pe_bltn (v := .ty "tuple") (by rfl) x.z_tuple (by decide +kernel) rfl) (fun _ _ _ => by simp only [VR])) (san_nil))))))) (se_and1 (se_bB (se_cmp (opr_or op_eq (op_eqD hr.units)) ok_eq (se_var (by rfl) (by first | exact Or.inl rfl | exact Or.inr (Or.inl rfl) | exact Or.inr (Or.inr rfl))) (se_tupA (n := 0) (san_nil)) (by rfl))))))) (sss_nil)) (sss_one (ss_ret (se_and (se_bB (se_call ((fn_is_integer x tb).mono (by decide)) hr (takes_of rfl rfl rfl rfl) (by rfl) x.g_is_integer x.F_is_integer.kp x.b_is_integer (san_cons (se_var (by rfl) (by first | exact Or.inl rfl | exact Or.inr (Or.inl rfl) | exact Or.inr (Or.inr rfl))) (san_nil)))) (se_and (se_bB (se_cmp (opr_or op_gt op_gt_str) ok_cmpS (se_var (by rfl) (by first | exact Or.inl rfl | exact Or.inr (Or.inl rfl) | exact Or.inr (Or.inr rfl))) (se_var (by rfl) (by first | exact Or.inl rfl | exact Or.inr (Or.inl rfl) | exact Or.inr (Or.inr rfl))) (by rfl))) (se_and1 (se_bB (se_cmp (opr_or op_ne (op_neD hr.units)) ok_ne (se_var (by rfl) (by first | exact Or.inl rfl | exact Or.inr (Or.inl rfl) | exact Or.inr (Or.inr rfl))) (se_tupA (n := 0) (san_nil)) (by rfl))))))))
theorem fn_Dealing_init (x : Tx K mg) (tb : x.TB base) : FnM P w K mg base x.T 8 x.a_Dealing_init x.d_Dealing_init ["self", "snapshot", "number", "gets", "ranges", "writes"] r_Dealing_init := fn_ok x.F_Dealing_init sc_Dealing_init fun cdv A outer s H E hr => sss_cons (ss_if (st_not (st_tr (se_call ((fn_is_number x tb).mono (by decide)) hr (takes_of rfl rfl rfl rfl) (by rfl) x.g_is_number x.F_is_number.kp x.b_is_number (san_cons (se_var (by rfl) (by first | exact Or.inl rfl | exact Or.inr (Or.inl rfl) | exact Or.inr (Or.inr rfl))) (san_nil))))) (sss_one (ss_stk)) (sss_nil)) (sss_cons (ss_if (st_not (st_tr (se_call ((fn_is_number_for x tb).mono (by decide)) hr (takes_of rfl rfl rfl rfl) (by rfl) x.g_is_number_for x.F_is_number_for.kp x.b_is_number_for (san_cons (se_var (by rfl) (by first | exact Or.inl rfl | exact Or.inr (Or.inl rfl) | exact Or.inr (Or.inr rfl))) (san_cons (se_var (by rfl) (by first | exact Or.inl rfl | exact Or.inr (Or.inl rfl) | exact Or.inr (Or.inr rfl))) (san_cons (se_var (by rfl) (by first | exact Or.inl rfl | exact Or.inr (Or.inl rfl) | exact Or.inr (Or.inr rfl))) (san_nil))))))) (sss_one (ss_stk)) (sss_nil)) (sss_cons (ss_if (st_not (st_tr (se_call ((fn_is_keys x tb).mono (by decide)) hr (takes_of rfl rfl rfl rfl) (by rfl) x.g_is_keys x.F_is_keys.kp x.b_is_keys (san_cons (se_var (by rfl) (by first | exact Or.inl rfl | exact Or.inr (Or.inl rfl) | exact Or.inr (Or.inr rfl))) (san_nil))))) (sss_one (ss_stk)) (sss_nil)) (sss_cons (ss_if (st_not (st_tr (se_call ((fn_is_ranges x tb).mono (by decide)) hr (takes_of rfl rfl rfl rfl) (by rfl) x.g_is_ranges x.F_is_ranges.kp x.b_is_ranges (san_cons (se_var (by rfl) (by first | exact Or.inl rfl | exact Or.inr (Or.inl rfl) | exact Or.inr (Or.inr rfl))) (san_nil))))) (sss_one (ss_stk)) (sss_nil)) (sss_cons (ss_if (st_not (st_tr (se_call ((fn_is_writes x tb).mono (by decide)) hr (takes_of rfl rfl rfl rfl) (by rfl) x.g_is_writes x.F_is_writes.kp x.b_is_writes (san_cons (se_var (by rfl) (by first | exact Or.inl rfl | exact Or.inr (Or.inl rfl) | exact Or.inr (Or.inr rfl))) (san_nil))))) (sss_one (ss_stk)) (sss_nil)) (sss_cons (ss_fld (cs := [1]) (se_var (by rfl) (by first | exact Or.inl rfl | exact Or.inr (Or.inl rfl) | exact Or.inr (Or.inr rfl))) (se_var (by rfl) (by first | exact Or.inl rfl | exact Or.inr (Or.inl rfl) | exact Or.inr (Or.inr rfl))) x.f_snapshot) (sss_cons (ss_fld (cs := [1]) (se_var (by rfl) (by first | exact Or.inl rfl | exact Or.inr (Or.inl rfl) | exact Or.inr (Or.inr rfl))) (se_var (by rfl) (by first | exact Or.inl rfl | exact Or.inr (Or.inl rfl) | exact Or.inr (Or.inr rfl))) x.f_number) (sss_cons (ss_fld (cs := [1]) (se_var (by rfl) (by first | exact Or.inl rfl | exact Or.inr (Or.inl rfl) | exact Or.inr (Or.inr rfl))) (se_var (by rfl) (by first | exact Or.inl rfl | exact Or.inr (Or.inl rfl) | exact Or.inr (Or.inr rfl))) x.f_gets) (sss_cons (ss_fld (cs := [1]) (se_var (by rfl) (by first | exact Or.inl rfl | exact Or.inr (Or.inl rfl) | exact Or.inr (Or.inr rfl))) (se_var (by rfl) (by first | exact Or.inl rfl | exact Or.inr (Or.inl rfl) | exact Or.inr (Or.inr rfl))) x.f_ranges) (sss_one (ss_fld (cs := [1]) (se_var (by rfl) (by first | exact Or.inl rfl | exact Or.inr (Or.inl rfl) | exact Or.inr (Or.inr rfl))) (se_var (by rfl) (by first | exact Or.inl rfl | exact Or.inr (Or.inl rfl) | exact Or.inr (Or.inr rfl))) x.f_writes))))))))))
theorem fn_writes_key (x : Tx K mg) (tb : x.TB base) : FnM P w K mg base x.T 1 x.a_writes_key x.d_writes_key ["dealing", "key"] r_writes_key := fn_ok x.F_writes_key sc_writes_key fun cdv A outer s H E hr => sss_one (ss_ret (se_blt (cr_any rfl) okc_any (by rfl) x.z_any (by decide +kernel) (SAn.run (san_cons (se_comp (fz := true) (own := [("row", 2)]) (t := (.one 2)) rfl sc_writes_key.nd (si_tup (se_fld (cs := [1]) (se_var (by rfl) (by first | exact Or.inl rfl | exact Or.inr (Or.inl rfl) | exact Or.inr (Or.inr rfl))) x.f_writes)) (blkOk_by (own := [("row", 2)]) (N := N_writes_key) (sc := (defScope s_writes_key)) (by decide +kernel)) (by decide) (fun _ _ _ _ _ => pg_name (i := 2) sc_writes_key.nd (by rfl) (Or.inl (by rfl))) (.inl ⟨rfl, rfl⟩) (fun _ _ _ _ _ => se_cmp (opr_or op_eq (op_eqD hr.units)) ok_eq (se_ix (by first | exact hu_of hr | (have zz := hu_of hr; exact zz)) (se_var (by rfl) (by first | exact Or.inl rfl | exact Or.inr (Or.inl rfl) | exact Or.inr (Or.inr rfl))) (se_int)) (se_var (by rfl) (by first | exact Or.inl rfl | exact Or.inr (Or.inl rfl) | exact Or.inr (Or.inr rfl))) (by rfl))) (san_nil)))))
theorem fn_saw_key (x : Tx K mg) (tb : x.TB base) : FnM P w K mg base x.T 1 x.a_saw_key x.d_saw_key ["dealing", "key"] r_saw_key := fn_ok x.F_saw_key sc_saw_key fun cdv A outer s H E hr => sss_cons (ss_if (st_cmp (opr_or op_in_seq op_in_sign) (ok_in (neg := false)) (se_var (by rfl) (by first | exact Or.inl rfl | exact Or.inr (Or.inl rfl) | exact Or.inr (Or.inr rfl))) (se_fld (cs := [1]) (se_var (by rfl) (by first | exact Or.inl rfl | exact Or.inr (Or.inl rfl) | exact Or.inr (Or.inr rfl))) x.f_gets) (by rfl)) (sss_one (ss_ret (se_bl))) (sss_nil)) (sss_one (ss_ret (se_blt (cr_any rfl) okc_any (by rfl) x.z_any (by decide +kernel) (SAn.run (san_cons (se_comp (fz := true) (own := [("low", 2), ("high", 3), ("own", 4)]) (t := (.tup [2, 3, 4])) rfl sc_saw_key.nd (si_tup (se_fld (cs := [1]) (se_var (by rfl) (by first | exact Or.inl rfl | exact Or.inr (Or.inl rfl) | exact Or.inr (Or.inr rfl))) x.f_ranges)) (blkOk_by (own := [("low", 2), ("high", 3), ("own", 4)]) (N := N_saw_key) (sc := (defScope s_saw_key)) (by decide +kernel)) (by decide) (fun _ _ _ _ _ => pg_tup rfl (pgs_cons (pg_name (i := 2) sc_saw_key.nd (by rfl) (Or.inl (by rfl))) (pgs_cons (pg_name (i := 3) sc_saw_key.nd (by rfl) (Or.inl (by rfl))) (pgs_cons (pg_name (i := 4) sc_saw_key.nd (by rfl) (Or.inl (by rfl))) (pgs_nil))))) (.inl ⟨rfl, rfl⟩) (fun _ _ _ _ _ => se_and (se_bB (se_chain (opr_or op_le op_le_str) ok_cmpS (opr_or op_le op_le_str) ok_cmpS (se_var (by rfl) (by first | exact Or.inl rfl | exact Or.inr (Or.inl rfl) | exact Or.inr (Or.inr rfl))) (se_var (by rfl) (by first | exact Or.inl rfl | exact Or.inr (Or.inl rfl) | exact Or.inr (Or.inr rfl))) (se_var (by rfl) (by first | exact Or.inl rfl | exact Or.inr (Or.inl rfl) | exact Or.inr (Or.inr rfl))))) (se_and1 (se_bB (se_cmp (opr_or op_notIn_seq op_notIn_sign) (ok_in (neg := true)) (se_var (by rfl) (by first | exact Or.inl rfl | exact Or.inr (Or.inl rfl) | exact Or.inr (Or.inr rfl))) (se_var (by rfl) (by first | exact Or.inl rfl | exact Or.inr (Or.inl rfl) | exact Or.inr (Or.inr rfl))) (by rfl)))))) (san_nil))))))
theorem fn_is_tied (x : Tx K mg) (tb : x.TB base) : FnM P w K mg base x.T 2 x.a_is_tied x.d_is_tied ["one", "other"] r_is_tied := fn_ok x.F_is_tied sc_is_tied fun cdv A outer s H E hr => sss_cons (ss_for (passes_of rfl) rfl (si_tup (se_fld (cs := [1]) (se_var (by rfl) (by first | exact Or.inl rfl | exact Or.inr (Or.inl rfl) | exact Or.inr (Or.inr rfl))) x.f_writes)) (sg_tup rfl (sgs_cons (sg_name (i := 2) sc_is_tied.nd (by rfl) (by first | exact Or.inl rfl | exact Or.inr rfl)) (sgs_cons (sg_name (i := 3) sc_is_tied.nd (by rfl) (by first | exact Or.inl rfl | exact Or.inr rfl)) (sgs_nil)))) (sss_cons (ss_if (st_w (sw_and (st_tr (se_call ((fn_writes_key x tb).mono (by decide)) hr (takes_of rfl rfl rfl rfl) (by rfl) x.g_writes_key x.F_writes_key.kp x.b_writes_key (san_cons (se_var (by rfl) (by first | exact Or.inl rfl | exact Or.inr (Or.inl rfl) | exact Or.inr (Or.inr rfl))) (san_cons (se_var (by rfl) (by first | exact Or.inl rfl | exact Or.inr (Or.inl rfl) | exact Or.inr (Or.inr rfl))) (san_nil))))) (sw_and1 (st_cmp (opr_or op_lt op_lt_str) ok_cmpS (se_fld (cs := [1]) (se_var (by rfl) (by first | exact Or.inl rfl | exact Or.inr (Or.inl rfl) | exact Or.inr (Or.inr rfl))) x.f_number) (se_fld (cs := [1]) (se_var (by rfl) (by first | exact Or.inl rfl | exact Or.inr (Or.inl rfl) | exact Or.inr (Or.inr rfl))) x.f_number) (by rfl))))) (sss_one (ss_ret (se_bl))) (sss_nil)) (sss_one (ss_if (st_w (sw_and (st_cmp (opr_or op_le op_le_str) ok_cmpS (se_fld (cs := [1]) (se_var (by rfl) (by first | exact Or.inl rfl | exact Or.inr (Or.inl rfl) | exact Or.inr (Or.inr rfl))) x.f_number) (se_fld (cs := [1]) (se_var (by rfl) (by first | exact Or.inl rfl | exact Or.inr (Or.inl rfl) | exact Or.inr (Or.inr rfl))) x.f_snapshot) (by rfl)) (sw_and1 (st_tr (se_call ((fn_saw_key x tb).mono (by decide)) hr (takes_of rfl rfl rfl rfl) (by rfl) x.g_saw_key x.F_saw_key.kp x.b_saw_key (san_cons (se_var (by rfl) (by first | exact Or.inl rfl | exact Or.inr (Or.inl rfl) | exact Or.inr (Or.inr rfl))) (san_cons (se_var (by rfl) (by first | exact Or.inl rfl | exact Or.inr (Or.inl rfl) | exact Or.inr (Or.inr rfl))) (san_nil)))))))) (sss_one (ss_ret (se_bl))) (sss_nil))))) (sss_one (ss_ret (se_blt (cr_any rfl) okc_any (by rfl) x.z_any (by decide +kernel) (SAn.run (san_cons (se_comp (fz := true) (own := [("key", 2), ("_", 3)]) (t := (.tup [2, 3])) rfl sc_is_tied.nd (si_tup (se_fld (cs := [1]) (se_var (by rfl) (by first | exact Or.inl rfl | exact Or.inr (Or.inl rfl) | exact Or.inr (Or.inr rfl))) x.f_writes)) (blkOk_by (own := [("key", 2), ("_", 3)]) (N := N_is_tied) (sc := (defScope s_is_tied)) (by decide +kernel)) (by decide) (fun _ _ _ _ _ => pg_tup rfl (pgs_cons (pg_name (i := 2) sc_is_tied.nd (by rfl) (Or.inl (by rfl))) (pgs_cons (pg_name (i := 3) sc_is_tied.nd (by rfl) (Or.inl (by rfl))) (pgs_nil)))) (.inl ⟨rfl, rfl⟩) (fun _ _ _ _ _ => se_and (se_bB (se_cmp (opr_or op_gt op_gt_str) ok_cmpS (se_fld (cs := [1]) (se_var (by rfl) (by first | exact Or.inl rfl | exact Or.inr (Or.inl rfl) | exact Or.inr (Or.inr rfl))) x.f_number) (se_fld (cs := [1]) (se_var (by rfl) (by first | exact Or.inl rfl | exact Or.inr (Or.inl rfl) | exact Or.inr (Or.inr rfl))) x.f_snapshot) (by rfl))) (se_and1 (se_bB (se_call ((fn_saw_key x tb).mono (by decide)) hr takes0 (by rfl) x.g_saw_key x.F_saw_key.kp x.b_saw_key (san_cons (se_var (by rfl) (by first | exact Or.inl rfl | exact Or.inr (Or.inl rfl) | exact Or.inr (Or.inr rfl))) (san_cons (se_var (by rfl) (by first | exact Or.inl rfl | exact Or.inr (Or.inl rfl) | exact Or.inr (Or.inr rfl))) (san_nil)))))))) (san_nil))))))
theorem fn_Check_ways_with (x : Tx K mg) (tb : x.TB base) : FnM P w K mg base x.T 3 x.a_Check_ways_with x.d_Check_ways_with ["self", "entry", "dealing"] r_Check_ways_with := fn_ok x.F_Check_ways_with sc_Check_ways_with fun cdv A outer s H E hr => sss_cons (ss_set (i := 3) sc_Check_ways_with.nd (by rfl) (by first | exact Or.inl rfl | exact Or.inr rfl) (se_disp (sd_cons (se_var (by rfl) (by first | exact Or.inl rfl | exact Or.inr (Or.inl rfl) | exact Or.inr (Or.inr rfl))) (se_lstA (fz := false) (n := 0) (san_nil)) (sd_nil)))) (sss_cons (ss_lock (ss_for (passes_of rfl) rfl (si_keys (se_fld (cs := [0]) (se_var (by rfl) (by first | exact Or.inl rfl | exact Or.inr (Or.inl rfl) | exact Or.inr (Or.inr rfl))) x.f_dealings)) (sg_name (i := 4) sc_Check_ways_with.nd (by rfl) (by first | exact Or.inl rfl | exact Or.inr rfl)) (sss_cons (ss_asg (se_bty call_list_of (okc_list (fz := false)) (by rfl) x.z_list (by decide +kernel) (SAn.run (san_cons (se_ix (by first | exact hu_of hr | (have zz := hu_of hr; exact zz)) (se_fld (cs := [0]) (se_var (by rfl) (by first | exact Or.inl rfl | exact Or.inr (Or.inl rfl) | exact Or.inr (Or.inr rfl))) x.f_ways) (se_var (by rfl) (by first | exact Or.inl rfl | exact Or.inr (Or.inl rfl) | exact Or.inr (Or.inr rfl)))) (san_nil)))) (sg_sub (by first | exact hu_of hr | (have zz := hu_of hr; exact zz)) (se_var (by rfl) (by first | exact Or.inl rfl | exact Or.inr (Or.inl rfl) | exact Or.inr (Or.inr rfl))) (se_var (by rfl) (by first | exact Or.inl rfl | exact Or.inr (Or.inl rfl) | exact Or.inr (Or.inr rfl))))) (sss_cons (ss_if (st_tr (se_call ((fn_is_tied x tb).mono (by decide)) hr (takes_of rfl rfl rfl rfl) (by rfl) x.g_is_tied x.F_is_tied.kp x.b_is_tied (san_cons (se_ix (by first | exact hu_of hr | (have zz := hu_of hr; exact zz)) (se_fld (cs := [0]) (se_var (by rfl) (by first | exact Or.inl rfl | exact Or.inr (Or.inl rfl) | exact Or.inr (Or.inr rfl))) x.f_dealings) (se_var (by rfl) (by first | exact Or.inl rfl | exact Or.inr (Or.inl rfl) | exact Or.inr (Or.inr rfl)))) (san_cons (se_var (by rfl) (by first | exact Or.inl rfl | exact Or.inr (Or.inl rfl) | exact Or.inr (Or.inr rfl))) (san_nil))))) (sss_one (ss_expr (se_lm PySem.F.slot_list_append PySem.F.type_list_append mt_append okm_append (se_ix (by first | exact hu_of hr | (have zz := hu_of hr; exact zz)) (se_var (by rfl) (by first | exact Or.inl rfl | exact Or.inr (Or.inl rfl) | exact Or.inr (Or.inr rfl))) (se_var (by rfl) (by first | exact Or.inl rfl | exact Or.inr (Or.inl rfl) | exact Or.inr (Or.inr rfl)))) (SAn.run (san_cons (se_var (by rfl) (by first | exact Or.inl rfl | exact Or.inr (Or.inl rfl) | exact Or.inr (Or.inr rfl))) (san_nil)))))) (sss_nil)) (sss_one (ss_if (st_tr (se_call ((fn_is_tied x tb).mono (by decide)) hr (takes_of rfl rfl rfl rfl) (by rfl) x.g_is_tied x.F_is_tied.kp x.b_is_tied (san_cons (se_var (by rfl) (by first | exact Or.inl rfl | exact Or.inr (Or.inl rfl) | exact Or.inr (Or.inr rfl))) (san_cons (se_ix (by first | exact hu_of hr | (have zz := hu_of hr; exact zz)) (se_fld (cs := [0]) (se_var (by rfl) (by first | exact Or.inl rfl | exact Or.inr (Or.inl rfl) | exact Or.inr (Or.inr rfl))) x.f_dealings) (se_var (by rfl) (by first | exact Or.inl rfl | exact Or.inr (Or.inl rfl) | exact Or.inr (Or.inr rfl)))) (san_nil))))) (sss_one (ss_expr (se_lm PySem.F.slot_list_append PySem.F.type_list_append mt_append okm_append (se_ix (by first | exact hu_of hr | (have zz := hu_of hr; exact zz)) (se_var (by rfl) (by first | exact Or.inl rfl | exact Or.inr (Or.inl rfl) | exact Or.inr (Or.inr rfl))) (se_var (by rfl) (by first | exact Or.inl rfl | exact Or.inr (Or.inl rfl) | exact Or.inr (Or.inr rfl)))) (SAn.run (san_cons (se_var (by rfl) (by first | exact Or.inl rfl | exact Or.inr (Or.inl rfl) | exact Or.inr (Or.inr rfl))) (san_nil)))))) (sss_nil))))))) (sss_one (ss_ret (se_var (by rfl) (by first | exact Or.inl rfl | exact Or.inr (Or.inl rfl) | exact Or.inr (Or.inr rfl))))))
theorem fn_ring_from (x : Tx K mg) (tb : x.TB base) : FnM P w K mg base x.T 1 x.a_ring_from x.d_ring_from ["start", "ways"] r_ring_from := fn_ok x.F_ring_from sc_ring_from fun cdv A outer s H E hr => sss_cons (ss_set (i := 2) sc_ring_from.nd (by rfl) (by first | exact Or.inl rfl | exact Or.inr rfl) (se_disp (sd_cons (se_var (by rfl) (by first | exact Or.inl rfl | exact Or.inr (Or.inl rfl) | exact Or.inr (Or.inr rfl))) (se_bl) (sd_nil)))) (sss_cons (ss_set (i := 3) sc_ring_from.nd (by rfl) (by first | exact Or.inl rfl | exact Or.inr rfl) (se_lstA (fz := true) (n := 1) (san_cons (se_tupA (n := 1) (san_cons (se_var (by rfl) (by first | exact Or.inl rfl | exact Or.inr (Or.inl rfl) | exact Or.inr (Or.inr rfl))) (san_nil))) (san_nil)))) (sss_cons (ss_while (fuel := 1000000) (passes_of rfl) (st_tr (se_var (by rfl) (by first | exact Or.inl rfl | exact Or.inr (Or.inl rfl) | exact Or.inr (Or.inr rfl)))) (sss_cons (ss_set (i := 4) sc_ring_from.nd (by rfl) (by first | exact Or.inl rfl | exact Or.inr rfl) (se_lstA (fz := false) (n := 0) (san_nil))) (sss_cons (ss_for (passes_of rfl) rfl (si_list (se_var (by rfl) (by first | exact Or.inl rfl | exact Or.inr (Or.inl rfl) | exact Or.inr (Or.inr rfl)))) (sg_name (i := 5) sc_ring_from.nd (by rfl) (by first | exact Or.inl rfl | exact Or.inr rfl)) (sss_one (ss_for (passes_of rfl) rfl (si_list (se_blt (CallR.or (CallR.or cr_sortedI (call_sortedDI rfl)) cr_sortedS) (okc_sortedX (fz := true)) (by rfl) x.z_sorted (by decide +kernel) (SAn.run (san_cons (se_ix (by first | exact hu_of hr | (have zz := hu_of hr; exact zz)) (se_var (by rfl) (by first | exact Or.inl rfl | exact Or.inr (Or.inl rfl) | exact Or.inr (Or.inr rfl))) (se_ix (by first | exact hu_of hr | (have zz := hu_of hr; exact zz)) (se_var (by rfl) (by first | exact Or.inl rfl | exact Or.inr (Or.inl rfl) | exact Or.inr (Or.inr rfl))) (se_neg (se_int)))) (san_nil))))) (sg_name (i := 6) sc_ring_from.nd (by rfl) (by first | exact Or.inl rfl | exact Or.inr rfl)) (sss_cons (ss_if (st_cmp (opr_or op_eq (op_eqD hr.units)) ok_eq (se_var (by rfl) (by first | exact Or.inl rfl | exact Or.inr (Or.inl rfl) | exact Or.inr (Or.inr rfl))) (se_var (by rfl) (by first | exact Or.inl rfl | exact Or.inr (Or.inl rfl) | exact Or.inr (Or.inr rfl))) (by rfl)) (sss_one (ss_ret (se_var (by rfl) (by first | exact Or.inl rfl | exact Or.inr (Or.inl rfl) | exact Or.inr (Or.inr rfl))))) (sss_nil)) (sss_one (ss_if (st_dnin (by first | exact hu_of hr | (have zz := hu_of hr; exact zz)) (se_var (by rfl) (by first | exact Or.inl rfl | exact Or.inr (Or.inl rfl) | exact Or.inr (Or.inr rfl))) (se_var (by rfl) (by first | exact Or.inl rfl | exact Or.inr (Or.inl rfl) | exact Or.inr (Or.inr rfl)))) (sss_cons (ss_asg (se_bl) (sg_sub (by first | exact hu_of hr | (have zz := hu_of hr; exact zz)) (se_var (by rfl) (by first | exact Or.inl rfl | exact Or.inr (Or.inl rfl) | exact Or.inr (Or.inr rfl))) (se_var (by rfl) (by first | exact Or.inl rfl | exact Or.inr (Or.inl rfl) | exact Or.inr (Or.inr rfl))))) (sss_one (ss_expr (se_lm PySem.F.slot_list_append PySem.F.type_list_append mt_append okm_append (se_var (by rfl) (by first | exact Or.inl rfl | exact Or.inr (Or.inl rfl) | exact Or.inr (Or.inr rfl))) (SAn.run (san_cons (se_tupS (sa_star (se_var (by rfl) (by first | exact Or.inl rfl | exact Or.inr (Or.inl rfl) | exact Or.inr (Or.inr rfl))) (sa_cons (se_var (by rfl) (by first | exact Or.inl rfl | exact Or.inr (Or.inl rfl) | exact Or.inr (Or.inr rfl))) (sa_nil)))) (san_nil))))))) (sss_nil))))))) (sss_one (ss_set (i := 3) sc_ring_from.nd (by rfl) (by first | exact Or.inl rfl | exact Or.inr rfl) (se_var (by rfl) (by first | exact Or.inl rfl | exact Or.inr (Or.inl rfl) | exact Or.inr (Or.inr rfl)))))))) (sss_one (ss_ret (se_non)))))
theorem fn_Check_judged (x : Tx K mg) (tb : x.TB base) : FnM P w K mg base x.T 10 x.a_Check_judged x.d_Check_judged ["self", "entry", "keys", "ranges", "writes"] r_Check_judged := fn_ok x.F_Check_judged sc_Check_judged fun cdv A outer s H E hr => sss_cons (ss_expr (se_meth (n := 1) (tb := [(0, r_Check_demand_open)]) (se_var (by rfl) (by first | exact Or.inl rfl | exact Or.inr (Or.inl rfl) | exact Or.inr (Or.inr rfl))) (fun p hp => by
      simp only [List.mem_cons, List.not_mem_nil, or_false] at hp
      rcases hp with rfl
      exact ⟨x.cl_Check, x.a_Check_demand_open, x.d_Check_demand_open, _, x.me_Check_demand_open, (fn_Check_demand_open x tb).mono (by decide), x.b_Check_demand_open, rfl⟩) hr (takes_of rfl rfl rfl rfl) (san_cons (se_var (by rfl) (by first | exact Or.inl rfl | exact Or.inr (Or.inl rfl) | exact Or.inr (Or.inr rfl))) (san_nil)))) (sss_cons (ss_if (st_w (sw_or (st_not (st_tr (se_call ((fn_is_keys x tb).mono (by decide)) hr (takes_of rfl rfl rfl rfl) (by rfl) x.g_is_keys x.F_is_keys.kp x.b_is_keys (san_cons (se_var (by rfl) (by first | exact Or.inl rfl | exact Or.inr (Or.inl rfl) | exact Or.inr (Or.inr rfl))) (san_nil))))) (sw_or1 (st_not (st_tr (se_call ((fn_is_ranges x tb).mono (by decide)) hr (takes_of rfl rfl rfl rfl) (by rfl) x.g_is_ranges x.F_is_ranges.kp x.b_is_ranges (san_cons (se_var (by rfl) (by first | exact Or.inl rfl | exact Or.inr (Or.inl rfl) | exact Or.inr (Or.inr rfl))) (san_nil)))))))) (sss_one (ss_raise0 (c := 6) rfl (takes_of rfl rfl rfl rfl) (ExcF.ok (X := _) x.e_BadSeen) (by rfl))) (sss_nil)) (sss_cons (ss_if (st_not (st_tr (se_call ((fn_is_writes x tb).mono (by decide)) hr (takes_of rfl rfl rfl rfl) (by rfl) x.g_is_writes x.F_is_writes.kp x.b_is_writes (san_cons (se_var (by rfl) (by first | exact Or.inl rfl | exact Or.inr (Or.inl rfl) | exact Or.inr (Or.inr rfl))) (san_nil))))) (sss_one (ss_raise0 (c := 7) rfl (takes_of rfl rfl rfl rfl) (ExcF.ok (X := _) x.e_BadWrites) (by rfl))) (sss_nil)) (sss_cons (ss_set (i := 5) sc_Check_judged.nd (by rfl) (by first | exact Or.inl rfl | exact Or.inr rfl) (se_ifx (st_tr (se_var (by rfl) (by first | exact Or.inl rfl | exact Or.inr (Or.inl rfl) | exact Or.inr (Or.inr rfl)))) (se_op (opr_or op_add (opr_or op_add_str (opr_or op_catA op_cat))) (ok_add (fz := true)) (se_fld (cs := [0]) (se_var (by rfl) (by first | exact Or.inl rfl | exact Or.inr (Or.inl rfl) | exact Or.inr (Or.inr rfl))) x.f_newest) (se_int)) (se_non))) (sss_cons (ss_set (i := 6) sc_Check_judged.nd (by rfl) (by first | exact Or.inl rfl | exact Or.inr rfl) (se_make (c := 1) x.M_Dealing ((fn_Dealing_init x tb).mono (by decide)) hr (takes_of rfl rfl rfl rfl) (by rfl) x.gC_Dealing x.b_Dealing_init (n := 5) rfl (san_cons (se_ix (by first | exact hu_of hr | (have zz := hu_of hr; exact zz)) (se_fld (cs := [0]) (se_var (by rfl) (by first | exact Or.inl rfl | exact Or.inr (Or.inl rfl) | exact Or.inr (Or.inr rfl))) x.f_snapshots) (se_var (by rfl) (by first | exact Or.inl rfl | exact Or.inr (Or.inl rfl) | exact Or.inr (Or.inr rfl)))) (san_cons (se_var (by rfl) (by first | exact Or.inl rfl | exact Or.inr (Or.inl rfl) | exact Or.inr (Or.inr rfl))) (san_cons (se_var (by rfl) (by first | exact Or.inl rfl | exact Or.inr (Or.inl rfl) | exact Or.inr (Or.inr rfl))) (san_cons (se_var (by rfl) (by first | exact Or.inl rfl | exact Or.inr (Or.inl rfl) | exact Or.inr (Or.inr rfl))) (san_cons (se_var (by rfl) (by first | exact Or.inl rfl | exact Or.inr (Or.inl rfl) | exact Or.inr (Or.inr rfl))) (san_nil)))))))) (sss_cons (ss_set (i := 7) sc_Check_judged.nd (by rfl) (by first | exact Or.inl rfl | exact Or.inr rfl) (se_meth (n := 2) (tb := [(0, r_Check_ways_with)]) (se_var (by rfl) (by first | exact Or.inl rfl | exact Or.inr (Or.inl rfl) | exact Or.inr (Or.inr rfl))) (fun p hp => by
      simp only [List.mem_cons, List.not_mem_nil, or_false] at hp
      rcases hp with rfl
      exact ⟨x.cl_Check, x.a_Check_ways_with, x.d_Check_ways_with, _, x.me_Check_ways_with, (fn_Check_ways_with x tb).mono (by decide), x.b_Check_ways_with, rfl⟩) hr (takes_of rfl rfl rfl rfl) (san_cons (se_var (by rfl) (by first | exact Or.inl rfl | exact Or.inr (Or.inl rfl) | exact Or.inr (Or.inr rfl))) (san_cons (se_var (by rfl) (by first | exact Or.inl rfl | exact Or.inr (Or.inl rfl) | exact Or.inr (Or.inr rfl))) (san_nil))))) (sss_cons (ss_set (i := 8) sc_Check_judged.nd (by rfl) (by first | exact Or.inl rfl | exact Or.inr rfl) (se_call ((fn_ring_from x tb).mono (by decide)) hr (takes_of rfl rfl rfl rfl) (by rfl) x.g_ring_from x.F_ring_from.kp x.b_ring_from (san_cons (se_var (by rfl) (by first | exact Or.inl rfl | exact Or.inr (Or.inl rfl) | exact Or.inr (Or.inr rfl))) (san_cons (se_var (by rfl) (by first | exact Or.inl rfl | exact Or.inr (Or.inl rfl) | exact Or.inr (Or.inr rfl))) (san_nil))))) (sss_cons (ss_if (st_cmp (opr_or op_notN op_isNotF) ok_isnot (se_var (by rfl) (by first | exact Or.inl rfl | exact Or.inr (Or.inl rfl) | exact Or.inr (Or.inr rfl))) (se_non) (by rfl)) (sss_one (ss_raise1 (c := 8) (f := "ring") rfl (takes_of rfl rfl rfl rfl) x.xo_Refused x.xn_Refused x.xi_Refused x.xt_Refused (fnI_Refused x) (Room.mono hr (by decide)) x.bI_Refused (by rfl) x.gX_Refused (san_cons (se_var (by rfl) (by first | exact Or.inl rfl | exact Or.inr (Or.inl rfl) | exact Or.inr (Or.inr rfl))) (san_nil)))) (sss_nil)) (sss_one (ss_ret (se_tupA (n := 2) (san_cons (se_var (by rfl) (by first | exact Or.inl rfl | exact Or.inr (Or.inl rfl) | exact Or.inr (Or.inr rfl))) (san_cons (se_var (by rfl) (by first | exact Or.inl rfl | exact Or.inr (Or.inl rfl) | exact Or.inr (Or.inr rfl))) (san_nil)))))))))))))
theorem fn_reached_from (x : Tx K mg) (tb : x.TB base) : FnM P w K mg base x.T 1 x.a_reached_from x.d_reached_from ["starts", "ways"] r_reached_from := fn_ok x.F_reached_from sc_reached_from fun cdv A outer s H E hr => sss_cons (ss_set (i := 2) sc_reached_from.nd (by rfl) (by first | exact Or.inl rfl | exact Or.inr rfl) (se_dict0)) (sss_cons (ss_set (i := 3) sc_reached_from.nd (by rfl) (by first | exact Or.inl rfl | exact Or.inr rfl) (se_bty call_list_of (okc_list (fz := false)) (by rfl) x.z_list (by decide +kernel) (SAn.run (san_cons (se_var (by rfl) (by first | exact Or.inl rfl | exact Or.inr (Or.inl rfl) | exact Or.inr (Or.inr rfl))) (san_nil))))) (sss_cons (ss_while (fuel := 1000000) (passes_of rfl) (st_tr (se_var (by rfl) (by first | exact Or.inl rfl | exact Or.inr (Or.inl rfl) | exact Or.inr (Or.inr rfl)))) (sss_cons (ss_set (i := 4) sc_reached_from.nd (by rfl) (by first | exact Or.inl rfl | exact Or.inr rfl) (se_lm0 PySem.F.slot_list_pop PySem.F.type_list_pop mt_pop okm_pop (se_var (by rfl) (by first | exact Or.inl rfl | exact Or.inr (Or.inl rfl) | exact Or.inr (Or.inr rfl))))) (sss_one (ss_if (st_dnin (by first | exact hu_of hr | (have zz := hu_of hr; exact zz)) (se_var (by rfl) (by first | exact Or.inl rfl | exact Or.inr (Or.inl rfl) | exact Or.inr (Or.inr rfl))) (se_var (by rfl) (by first | exact Or.inl rfl | exact Or.inr (Or.inl rfl) | exact Or.inr (Or.inr rfl)))) (sss_cons (ss_asg (se_bl) (sg_sub (by first | exact hu_of hr | (have zz := hu_of hr; exact zz)) (se_var (by rfl) (by first | exact Or.inl rfl | exact Or.inr (Or.inl rfl) | exact Or.inr (Or.inr rfl))) (se_var (by rfl) (by first | exact Or.inl rfl | exact Or.inr (Or.inl rfl) | exact Or.inr (Or.inr rfl))))) (sss_one (ss_expr (se_lm PySem.F.slot_list_extend PySem.F.type_list_extend mt_extend okm_extX (se_var (by rfl) (by first | exact Or.inl rfl | exact Or.inr (Or.inl rfl) | exact Or.inr (Or.inr rfl))) (SAn.run (san_cons (se_ix (by first | exact hu_of hr | (have zz := hu_of hr; exact zz)) (se_var (by rfl) (by first | exact Or.inl rfl | exact Or.inr (Or.inl rfl) | exact Or.inr (Or.inr rfl))) (se_var (by rfl) (by first | exact Or.inl rfl | exact Or.inr (Or.inl rfl) | exact Or.inr (Or.inr rfl)))) (san_nil))))))) (sss_nil))))) (sss_one (ss_ret (se_var (by rfl) (by first | exact Or.inl rfl | exact Or.inr (Or.inl rfl) | exact Or.inr (Or.inr rfl)))))))
theorem fn_Check_unseen (x : Tx K mg) (tb : x.TB base) : FnM P w K mg base x.T 2 x.a_Check_unseen x.d_Check_unseen ["self"] r_Check_unseen := fn_ok x.F_Check_unseen sc_Check_unseen fun cdv A outer s H E hr => sss_cons (ss_set (i := 1) sc_Check_unseen.nd (by rfl) (by first | exact Or.inl rfl | exact Or.inr rfl) (se_meth0 (tb := [(0, r_Check_least_snapshot)]) (se_var (by rfl) (by first | exact Or.inl rfl | exact Or.inr (Or.inl rfl) | exact Or.inr (Or.inr rfl))) (fun p hp => by
      simp only [List.mem_cons, List.not_mem_nil, or_false] at hp
      rcases hp with rfl
      exact ⟨x.cl_Check, x.a_Check_least_snapshot, x.d_Check_least_snapshot, _, x.me_Check_least_snapshot, (fn_Check_least_snapshot x tb).mono (by decide), x.b_Check_least_snapshot, rfl⟩) hr (takes_of rfl rfl rfl rfl))) (sss_cons (ss_set (i := 2) sc_Check_unseen.nd (by rfl) (by first | exact Or.inl rfl | exact Or.inr rfl) (se_lock (se_dcomp (own := [("entry", 3)]) (t := (.one 3)) rfl sc_Check_unseen.nd (si_keys (se_fld (cs := [0]) (se_var (by rfl) (by first | exact Or.inl rfl | exact Or.inr (Or.inl rfl) | exact Or.inr (Or.inr rfl))) x.f_dealings)) (blkOk_by (own := [("entry", 3)]) (N := N_Check_unseen) (sc := (defScope s_Check_unseen)) (by decide +kernel)) (by decide) (fun _ _ _ _ _ => pg_name (i := 3) sc_Check_unseen.nd (by rfl) (Or.inl (by rfl))) (.inl ⟨rfl, rfl⟩) (fun _ _ _ _ _ => se_var (by rfl) (by first | exact Or.inl rfl | exact Or.inr (Or.inl rfl) | exact Or.inr (Or.inr rfl))) (fun _ _ _ _ _ => se_fld (cs := [1]) (se_ix (by first | exact hu_of hr | (have zz := hu_of hr; exact zz)) (se_fld (cs := [0]) (se_var (by rfl) (by first | exact Or.inl rfl | exact Or.inr (Or.inl rfl) | exact Or.inr (Or.inr rfl))) x.f_dealings) (se_var (by rfl) (by first | exact Or.inl rfl | exact Or.inr (Or.inl rfl) | exact Or.inr (Or.inr rfl)))) x.f_number)))) (sss_one (ss_ret (se_lock (se_comp (fz := true) (own := [("entry", 3)]) (t := (.one 3)) rfl sc_Check_unseen.nd (si_keys (se_var (by rfl) (by first | exact Or.inl rfl | exact Or.inr (Or.inl rfl) | exact Or.inr (Or.inr rfl)))) (blkOk_by (own := [("entry", 3)]) (N := N_Check_unseen) (sc := (defScope s_Check_unseen)) (by decide +kernel)) (by decide) (fun _ _ _ _ _ => pg_name (i := 3) sc_Check_unseen.nd (by rfl) (Or.inl (by rfl))) (.inr ⟨_, rfl, fun _ _ _ _ _ => st_w (sw_and (st_cmp (opr_or op_notN op_isNotF) ok_isnot (se_ix (by first | exact hu_of hr | (have zz := hu_of hr; exact zz)) (se_var (by rfl) (by first | exact Or.inl rfl | exact Or.inr (Or.inl rfl) | exact Or.inr (Or.inr rfl))) (se_var (by rfl) (by first | exact Or.inl rfl | exact Or.inr (Or.inl rfl) | exact Or.inr (Or.inr rfl)))) (se_non) (by rfl)) (sw_and1 (st_cmp (opr_or op_gt op_gt_str) ok_cmpS (se_ix (by first | exact hu_of hr | (have zz := hu_of hr; exact zz)) (se_var (by rfl) (by first | exact Or.inl rfl | exact Or.inr (Or.inl rfl) | exact Or.inr (Or.inr rfl))) (se_var (by rfl) (by first | exact Or.inl rfl | exact Or.inr (Or.inl rfl) | exact Or.inr (Or.inr rfl)))) (se_var (by rfl) (by first | exact Or.inl rfl | exact Or.inr (Or.inl rfl) | exact Or.inr (Or.inr rfl))) (by rfl))))⟩) (fun _ _ _ _ _ => se_var (by rfl) (by first | exact Or.inl rfl | exact Or.inr (Or.inl rfl) | exact Or.inr (Or.inr rfl))))))))
theorem fn_Check_forget (x : Tx K mg) (tb : x.TB base) : FnM P w K mg base x.T 3 x.a_Check_forget x.d_Check_forget ["self"] r_Check_forget := fn_ok x.F_Check_forget sc_Check_forget fun cdv A outer s H E hr => sss_cons (ss_set (i := 1) sc_Check_forget.nd (by rfl) (by first | exact Or.inl rfl | exact Or.inr rfl) (se_call ((fn_reached_from x tb).mono (by decide)) hr (takes_of rfl rfl rfl rfl) (by rfl) x.g_reached_from x.F_reached_from.kp x.b_reached_from (san_cons (se_meth0 (tb := [(0, r_Check_unseen)]) (se_var (by rfl) (by first | exact Or.inl rfl | exact Or.inr (Or.inl rfl) | exact Or.inr (Or.inr rfl))) (fun p hp => by
      simp only [List.mem_cons, List.not_mem_nil, or_false] at hp
      rcases hp with rfl
      exact ⟨x.cl_Check, x.a_Check_unseen, x.d_Check_unseen, _, x.me_Check_unseen, (fn_Check_unseen x tb).mono (by decide), x.b_Check_unseen, rfl⟩) hr (takes_of rfl rfl rfl rfl)) (san_cons (se_fld (cs := [0]) (se_var (by rfl) (by first | exact Or.inl rfl | exact Or.inr (Or.inl rfl) | exact Or.inr (Or.inr rfl))) x.f_ways) (san_nil))))) (sss_cons (ss_fld (cs := [0]) (se_var (by rfl) (by first | exact Or.inl rfl | exact Or.inr (Or.inl rfl) | exact Or.inr (Or.inr rfl))) (se_lock (se_dcomp (own := [("entry", 2)]) (t := (.one 2)) rfl sc_Check_forget.nd (si_keys (se_fld (cs := [0]) (se_var (by rfl) (by first | exact Or.inl rfl | exact Or.inr (Or.inl rfl) | exact Or.inr (Or.inr rfl))) x.f_dealings)) (blkOk_by (own := [("entry", 2)]) (N := N_Check_forget) (sc := (defScope s_Check_forget)) (by decide +kernel)) (by decide) (fun _ _ _ _ _ => pg_name (i := 2) sc_Check_forget.nd (by rfl) (Or.inl (by rfl))) (.inr ⟨_, rfl, fun _ _ _ _ _ => st_din (by first | exact hu_of hr | (have zz := hu_of hr; exact zz)) (se_var (by rfl) (by first | exact Or.inl rfl | exact Or.inr (Or.inl rfl) | exact Or.inr (Or.inr rfl))) (se_var (by rfl) (by first | exact Or.inl rfl | exact Or.inr (Or.inl rfl) | exact Or.inr (Or.inr rfl)))⟩) (fun _ _ _ _ _ => se_var (by rfl) (by first | exact Or.inl rfl | exact Or.inr (Or.inl rfl) | exact Or.inr (Or.inr rfl))) (fun _ _ _ _ _ => se_ix (by first | exact hu_of hr | (have zz := hu_of hr; exact zz)) (se_fld (cs := [0]) (se_var (by rfl) (by first | exact Or.inl rfl | exact Or.inr (Or.inl rfl) | exact Or.inr (Or.inr rfl))) x.f_dealings) (se_var (by rfl) (by first | exact Or.inl rfl | exact Or.inr (Or.inl rfl) | exact Or.inr (Or.inr rfl)))))) x.f_dealings) (sss_one (ss_fld (cs := [0]) (se_var (by rfl) (by first | exact Or.inl rfl | exact Or.inr (Or.inl rfl) | exact Or.inr (Or.inr rfl))) (se_lock (se_dcomp (own := [("entry", 2)]) (t := (.one 2)) rfl sc_Check_forget.nd (si_keys (se_fld (cs := [0]) (se_var (by rfl) (by first | exact Or.inl rfl | exact Or.inr (Or.inl rfl) | exact Or.inr (Or.inr rfl))) x.f_ways)) (blkOk_by (own := [("entry", 2)]) (N := N_Check_forget) (sc := (defScope s_Check_forget)) (by decide +kernel)) (by decide) (fun _ _ _ _ _ => pg_name (i := 2) sc_Check_forget.nd (by rfl) (Or.inl (by rfl))) (.inr ⟨_, rfl, fun _ _ _ _ _ => st_din (by first | exact hu_of hr | (have zz := hu_of hr; exact zz)) (se_var (by rfl) (by first | exact Or.inl rfl | exact Or.inr (Or.inl rfl) | exact Or.inr (Or.inr rfl))) (se_var (by rfl) (by first | exact Or.inl rfl | exact Or.inr (Or.inl rfl) | exact Or.inr (Or.inr rfl)))⟩) (fun _ _ _ _ _ => se_var (by rfl) (by first | exact Or.inl rfl | exact Or.inr (Or.inl rfl) | exact Or.inr (Or.inr rfl))) (fun _ _ _ _ _ => se_ix (by first | exact hu_of hr | (have zz := hu_of hr; exact zz)) (se_fld (cs := [0]) (se_var (by rfl) (by first | exact Or.inl rfl | exact Or.inr (Or.inl rfl) | exact Or.inr (Or.inr rfl))) x.f_ways) (se_var (by rfl) (by first | exact Or.inl rfl | exact Or.inr (Or.inl rfl) | exact Or.inr (Or.inr rfl)))))) x.f_ways)))
theorem fn_Check_commits (x : Tx K mg) (tb : x.TB base) : FnM P w K mg base x.T 11 x.a_Check_commits x.d_Check_commits ["self", "entry", "keys", "ranges", "writes"] r_Check_commits := fn_ok x.F_Check_commits sc_Check_commits fun cdv A outer s H E hr => sss_cons (ss_asg (se_meth (n := 4) (tb := [(0, r_Check_judged)]) (se_var (by rfl) (by first | exact Or.inl rfl | exact Or.inr (Or.inl rfl) | exact Or.inr (Or.inr rfl))) (fun p hp => by
      simp only [List.mem_cons, List.not_mem_nil, or_false] at hp
      rcases hp with rfl
      exact ⟨x.cl_Check, x.a_Check_judged, x.d_Check_judged, _, x.me_Check_judged, (fn_Check_judged x tb).mono (by decide), x.b_Check_judged, rfl⟩) hr (takes_of rfl rfl rfl rfl) (san_cons (se_var (by rfl) (by first | exact Or.inl rfl | exact Or.inr (Or.inl rfl) | exact Or.inr (Or.inr rfl))) (san_cons (se_var (by rfl) (by first | exact Or.inl rfl | exact Or.inr (Or.inl rfl) | exact Or.inr (Or.inr rfl))) (san_cons (se_var (by rfl) (by first | exact Or.inl rfl | exact Or.inr (Or.inl rfl) | exact Or.inr (Or.inr rfl))) (san_cons (se_var (by rfl) (by first | exact Or.inl rfl | exact Or.inr (Or.inl rfl) | exact Or.inr (Or.inr rfl))) (san_nil)))))) (sg_tup rfl (sgs_cons (sg_name (i := 5) sc_Check_commits.nd (by rfl) (by first | exact Or.inl rfl | exact Or.inr rfl)) (sgs_cons (sg_name (i := 6) sc_Check_commits.nd (by rfl) (by first | exact Or.inl rfl | exact Or.inr rfl)) (sgs_nil))))) (sss_cons (ss_asg (se_var (by rfl) (by first | exact Or.inl rfl | exact Or.inr (Or.inl rfl) | exact Or.inr (Or.inr rfl))) (sg_sub (by first | exact hu_of hr | (have zz := hu_of hr; exact zz)) (se_fld (cs := [0]) (se_var (by rfl) (by first | exact Or.inl rfl | exact Or.inr (Or.inl rfl) | exact Or.inr (Or.inr rfl))) x.f_dealings) (se_var (by rfl) (by first | exact Or.inl rfl | exact Or.inr (Or.inl rfl) | exact Or.inr (Or.inr rfl))))) (sss_cons (ss_fld (cs := [0]) (se_var (by rfl) (by first | exact Or.inl rfl | exact Or.inr (Or.inl rfl) | exact Or.inr (Or.inr rfl))) (se_var (by rfl) (by first | exact Or.inl rfl | exact Or.inr (Or.inl rfl) | exact Or.inr (Or.inr rfl))) x.f_ways) (sss_cons (ss_if (st_cmp (opr_or op_notN op_isNotF) ok_isnot (se_fld (cs := [1]) (se_var (by rfl) (by first | exact Or.inl rfl | exact Or.inr (Or.inl rfl) | exact Or.inr (Or.inr rfl))) x.f_number) (se_non) (by rfl)) (sss_one (ss_fld (cs := [0]) (se_var (by rfl) (by first | exact Or.inl rfl | exact Or.inr (Or.inl rfl) | exact Or.inr (Or.inr rfl))) (se_fld (cs := [1]) (se_var (by rfl) (by first | exact Or.inl rfl | exact Or.inr (Or.inl rfl) | exact Or.inr (Or.inr rfl))) x.f_number) x.f_newest)) (sss_nil)) (sss_cons (ss_del (se_fld (cs := [0]) (se_var (by rfl) (by first | exact Or.inl rfl | exact Or.inr (Or.inl rfl) | exact Or.inr (Or.inr rfl))) x.f_snapshots) (se_var (by rfl) (by first | exact Or.inl rfl | exact Or.inr (Or.inl rfl) | exact Or.inr (Or.inr rfl)))) (sss_cons (ss_expr (se_meth0 (tb := [(0, r_Check_forget)]) (se_var (by rfl) (by first | exact Or.inl rfl | exact Or.inr (Or.inl rfl) | exact Or.inr (Or.inr rfl))) (fun p hp => by
      simp only [List.mem_cons, List.not_mem_nil, or_false] at hp
      rcases hp with rfl
      exact ⟨x.cl_Check, x.a_Check_forget, x.d_Check_forget, _, x.me_Check_forget, (fn_Check_forget x tb).mono (by decide), x.b_Check_forget, rfl⟩) hr (takes_of rfl rfl rfl rfl))) (sss_one (ss_ret (se_fld (cs := [1]) (se_var (by rfl) (by first | exact Or.inl rfl | exact Or.inr (Or.inl rfl) | exact Or.inr (Or.inr rfl))) x.f_number))))))))
theorem fn_Check_gives_up (x : Tx K mg) (tb : x.TB base) : FnM P w K mg base x.T 4 x.a_Check_gives_up x.d_Check_gives_up ["self", "entry"] r_Check_gives_up := fn_ok x.F_Check_gives_up sc_Check_gives_up fun cdv A outer s H E hr => sss_cons (ss_expr (se_meth (n := 1) (tb := [(0, r_Check_demand_open)]) (se_var (by rfl) (by first | exact Or.inl rfl | exact Or.inr (Or.inl rfl) | exact Or.inr (Or.inr rfl))) (fun p hp => by
      simp only [List.mem_cons, List.not_mem_nil, or_false] at hp
      rcases hp with rfl
      exact ⟨x.cl_Check, x.a_Check_demand_open, x.d_Check_demand_open, _, x.me_Check_demand_open, (fn_Check_demand_open x tb).mono (by decide), x.b_Check_demand_open, rfl⟩) hr (takes_of rfl rfl rfl rfl) (san_cons (se_var (by rfl) (by first | exact Or.inl rfl | exact Or.inr (Or.inl rfl) | exact Or.inr (Or.inr rfl))) (san_nil)))) (sss_cons (ss_del (se_fld (cs := [0]) (se_var (by rfl) (by first | exact Or.inl rfl | exact Or.inr (Or.inl rfl) | exact Or.inr (Or.inr rfl))) x.f_snapshots) (se_var (by rfl) (by first | exact Or.inl rfl | exact Or.inr (Or.inl rfl) | exact Or.inr (Or.inr rfl)))) (sss_one (ss_expr (se_meth0 (tb := [(0, r_Check_forget)]) (se_var (by rfl) (by first | exact Or.inl rfl | exact Or.inr (Or.inl rfl) | exact Or.inr (Or.inr rfl))) (fun p hp => by
      simp only [List.mem_cons, List.not_mem_nil, or_false] at hp
      rcases hp with rfl
      exact ⟨x.cl_Check, x.a_Check_forget, x.d_Check_forget, _, x.me_Check_forget, (fn_Check_forget x tb).mono (by decide), x.b_Check_forget, rfl⟩) hr (takes_of rfl rfl rfl rfl)))))
theorem fn_law_ready (x : Tx K mg) (tb : x.TB base) : FnM P w K mg base x.T 12 x.a_law_ready x.d_law_ready ["hand", "last"] r_law_ready := fn_ok x.F_law_ready sc_law_ready fun cdv A outer s H E hr => sss_cons (ss_set (i := 2) sc_law_ready.nd (by rfl) (by first | exact Or.inl rfl | exact Or.inr rfl) (se_make (c := 0) x.M_Check ((fn_Check_init x tb).mono (by decide)) hr (takes_of rfl rfl rfl rfl) (by rfl) x.gC_Check x.b_Check_init (n := 1) rfl (san_cons (se_var (by rfl) (by first | exact Or.inl rfl | exact Or.inr (Or.inl rfl) | exact Or.inr (Or.inr rfl))) (san_nil)))) (sss_cons (ss_for (passes_of rfl) rfl (si_range1 (by rfl) x.z_range (SAn.run (san_cons (se_int) (san_nil)))) (sg_name (i := 3) sc_law_ready.nd (by rfl) (by first | exact Or.inl rfl | exact Or.inr rfl)) (sss_one (ss_expr (se_meth (n := 1) (tb := [(0, r_Check_opens)]) (se_var (by rfl) (by first | exact Or.inl rfl | exact Or.inr (Or.inl rfl) | exact Or.inr (Or.inr rfl))) (fun p hp => by
      simp only [List.mem_cons, List.not_mem_nil, or_false] at hp
      rcases hp with rfl
      exact ⟨x.cl_Check, x.a_Check_opens, x.d_Check_opens, _, x.me_Check_opens, (fn_Check_opens x tb).mono (by decide), x.b_Check_opens, rfl⟩) hr (takes_of rfl rfl rfl rfl) (san_cons (se_var (by rfl) (by first | exact Or.inl rfl | exact Or.inr (Or.inl rfl) | exact Or.inr (Or.inr rfl))) (san_nil)))))) (sss_cons (ss_expr (se_meth (n := 4) (tb := [(0, r_Check_commits)]) (se_var (by rfl) (by first | exact Or.inl rfl | exact Or.inr (Or.inl rfl) | exact Or.inr (Or.inr rfl))) (fun p hp => by
      simp only [List.mem_cons, List.not_mem_nil, or_false] at hp
      rcases hp with rfl
      exact ⟨x.cl_Check, x.a_Check_commits, x.d_Check_commits, _, x.me_Check_commits, (fn_Check_commits x tb).mono (by decide), x.b_Check_commits, rfl⟩) hr (takes_of rfl rfl rfl rfl) (san_cons (se_int) (san_cons (se_tupA (n := 1) (san_cons (se_str) (san_nil))) (san_cons (se_tupA (n := 0) (san_nil)) (san_cons (se_tupA (n := 1) (san_cons (se_tupA (n := 2) (san_cons (se_str) (san_cons (se_int) (san_nil)))) (san_nil))) (san_nil))))))) (sss_cons (ss_expr (se_meth (n := 1) (tb := [(0, r_Check_gives_up)]) (se_var (by rfl) (by first | exact Or.inl rfl | exact Or.inr (Or.inl rfl) | exact Or.inr (Or.inr rfl))) (fun p hp => by
      simp only [List.mem_cons, List.not_mem_nil, or_false] at hp
      rcases hp with rfl
      exact ⟨x.cl_Check, x.a_Check_gives_up, x.d_Check_gives_up, _, x.me_Check_gives_up, (fn_Check_gives_up x tb).mono (by decide), x.b_Check_gives_up, rfl⟩) hr (takes_of rfl rfl rfl rfl) (san_cons (se_int) (san_nil)))) (sss_cons (ss_expr (se_meth (n := 1) (tb := [(0, r_Check_opens)]) (se_var (by rfl) (by first | exact Or.inl rfl | exact Or.inr (Or.inl rfl) | exact Or.inr (Or.inr rfl))) (fun p hp => by
      simp only [List.mem_cons, List.not_mem_nil, or_false] at hp
      rcases hp with rfl
      exact ⟨x.cl_Check, x.a_Check_opens, x.d_Check_opens, _, x.me_Check_opens, (fn_Check_opens x tb).mono (by decide), x.b_Check_opens, rfl⟩) hr (takes_of rfl rfl rfl rfl) (san_cons (se_op (opr_or op_add (opr_or op_add_str (opr_or op_catA op_cat))) (ok_add (fz := true)) (se_var (by rfl) (by first | exact Or.inl rfl | exact Or.inr (Or.inl rfl) | exact Or.inr (Or.inr rfl))) (se_int)) (san_nil)))) (sss_one (ss_ret (se_var (by rfl) (by first | exact Or.inl rfl | exact Or.inr (Or.inl rfl) | exact Or.inr (Or.inr rfl)))))))))
theorem fn_Check_last (x : Tx K mg) (tb : x.TB base) : FnM P w K mg base x.T 1 x.a_Check_last x.d_Check_last ["self"] r_Check_last := fn_ok x.F_Check_last sc_Check_last fun cdv A outer s H E hr => sss_one (ss_ret (se_fld (cs := [0]) (se_var (by rfl) (by first | exact Or.inl rfl | exact Or.inr (Or.inl rfl) | exact Or.inr (Or.inr rfl))) x.f_newest))
theorem fn_Check_open_entries (x : Tx K mg) (tb : x.TB base) : FnM P w K mg base x.T 1 x.a_Check_open_entries x.d_Check_open_entries ["self"] r_Check_open_entries := fn_ok x.F_Check_open_entries sc_Check_open_entries fun cdv A outer s H E hr => sss_one (ss_ret (se_bty call_tuple_of okc_tuple (by rfl) x.z_tuple (by decide +kernel) (SAn.run (san_cons (se_blt (CallR.or (CallR.or cr_sortedI (call_sortedDI rfl)) cr_sortedS) (okc_sortedX (fz := true)) (by rfl) x.z_sorted (by decide +kernel) (SAn.run (san_cons (se_fld (cs := [0]) (se_var (by rfl) (by first | exact Or.inl rfl | exact Or.inr (Or.inl rfl) | exact Or.inr (Or.inr rfl))) x.f_snapshots) (san_nil)))) (san_nil)))))
theorem fn_Check_remembered (x : Tx K mg) (tb : x.TB base) : FnM P w K mg base x.T 1 x.a_Check_remembered x.d_Check_remembered ["self"] r_Check_remembered := fn_ok x.F_Check_remembered sc_Check_remembered fun cdv A outer s H E hr => sss_one (ss_ret (se_bty call_tuple_of okc_tuple (by rfl) x.z_tuple (by decide +kernel) (SAn.run (san_cons (se_blt (CallR.or (CallR.or cr_sortedI (call_sortedDI rfl)) cr_sortedS) (okc_sortedX (fz := true)) (by rfl) x.z_sorted (by decide +kernel) (SAn.run (san_cons (se_fld (cs := [0]) (se_var (by rfl) (by first | exact Or.inl rfl | exact Or.inr (Or.inl rfl) | exact Or.inr (Or.inr rfl))) x.f_dealings) (san_nil)))) (san_nil)))))
theorem fn_Check_copy (x : Tx K mg) (tb : x.TB base) : FnM P w K mg base x.T 5 x.a_Check_copy x.d_Check_copy ["self"] r_Check_copy := fn_ok x.F_Check_copy sc_Check_copy fun cdv A outer s H E hr => sss_cons (ss_set (i := 1) sc_Check_copy.nd (by rfl) (by first | exact Or.inl rfl | exact Or.inr rfl) (se_make (c := 0) x.M_Check ((fn_Check_init x tb).mono (by decide)) hr (takes_of rfl rfl rfl rfl) (by rfl) x.gC_Check x.b_Check_init (n := 1) rfl (san_cons (se_fld (cs := [0]) (se_var (by rfl) (by first | exact Or.inl rfl | exact Or.inr (Or.inl rfl) | exact Or.inr (Or.inr rfl))) x.f_newest) (san_nil)))) (sss_cons (ss_fld (cs := [0]) (se_var (by rfl) (by first | exact Or.inl rfl | exact Or.inr (Or.inl rfl) | exact Or.inr (Or.inr rfl))) (se_fld (cs := [0]) (se_var (by rfl) (by first | exact Or.inl rfl | exact Or.inr (Or.inl rfl) | exact Or.inr (Or.inr rfl))) x.f_opened) x.f_opened) (sss_cons (ss_fld (cs := [0]) (se_var (by rfl) (by first | exact Or.inl rfl | exact Or.inr (Or.inl rfl) | exact Or.inr (Or.inr rfl))) (se_bty (CallR.or (call_dictP rfl) call_dictD) okc_dict (by rfl) x.z_dict (by decide +kernel) (SAn.run (san_cons (se_fld (cs := [0]) (se_var (by rfl) (by first | exact Or.inl rfl | exact Or.inr (Or.inl rfl) | exact Or.inr (Or.inr rfl))) x.f_snapshots) (san_nil)))) x.f_snapshots) (sss_cons (ss_fld (cs := [0]) (se_var (by rfl) (by first | exact Or.inl rfl | exact Or.inr (Or.inl rfl) | exact Or.inr (Or.inr rfl))) (se_bty (CallR.or (call_dictP rfl) call_dictD) okc_dict (by rfl) x.z_dict (by decide +kernel) (SAn.run (san_cons (se_fld (cs := [0]) (se_var (by rfl) (by first | exact Or.inl rfl | exact Or.inr (Or.inl rfl) | exact Or.inr (Or.inr rfl))) x.f_dealings) (san_nil)))) x.f_dealings) (sss_cons (ss_fld (cs := [0]) (se_var (by rfl) (by first | exact Or.inl rfl | exact Or.inr (Or.inl rfl) | exact Or.inr (Or.inr rfl))) (se_lock (se_dcomp (own := [("entry", 2)]) (t := (.one 2)) rfl sc_Check_copy.nd (si_keys (se_fld (cs := [0]) (se_var (by rfl) (by first | exact Or.inl rfl | exact Or.inr (Or.inl rfl) | exact Or.inr (Or.inr rfl))) x.f_ways)) (blkOk_by (own := [("entry", 2)]) (N := N_Check_copy) (sc := (defScope s_Check_copy)) (by decide +kernel)) (by decide) (fun _ _ _ _ _ => pg_name (i := 2) sc_Check_copy.nd (by rfl) (Or.inl (by rfl))) (.inl ⟨rfl, rfl⟩) (fun _ _ _ _ _ => se_var (by rfl) (by first | exact Or.inl rfl | exact Or.inr (Or.inl rfl) | exact Or.inr (Or.inr rfl))) (fun _ _ _ _ _ => se_bty call_list_of (okc_list (fz := true)) (by rfl) x.z_list (by decide +kernel) (SAn.run (san_cons (se_ix (by first | exact hu_of hr | (have zz := hu_of hr; exact zz)) (se_fld (cs := [0]) (se_var (by rfl) (by first | exact Or.inl rfl | exact Or.inr (Or.inl rfl) | exact Or.inr (Or.inr rfl))) x.f_ways) (se_var (by rfl) (by first | exact Or.inl rfl | exact Or.inr (Or.inl rfl) | exact Or.inr (Or.inr rfl)))) (san_nil)))))) x.f_ways) (sss_one (ss_ret (se_var (by rfl) (by first | exact Or.inl rfl | exact Or.inr (Or.inl rfl) | exact Or.inr (Or.inr rfl)))))))))
theorem fn_law_is_key (x : Tx K mg) (tb : x.TB base) : FnM P w K mg base x.T 1 x.a_law_is_key x.d_law_is_key ["thing"] r_law_is_key := fn_ok x.F_law_is_key sc_law_is_key fun cdv A outer s H E hr => sss_cons (ss_if (st_w (sw_or (st_not (st_tr (se_blt call_isi (okc_isi x.own_ok) (by rfl) x.z_isinstance (by decide +kernel) (SAn.run (san_cons (se_var (by rfl) (by first | exact Or.inl rfl | exact Or.inr (Or.inl rfl) | exact Or.inr (Or.inr rfl))) (san_cons (se_c (pe_bltn (v := .ty "str") (by rfl) x.z_str (by decide +kernel) rfl) (fun _ _ _ => by simp only [VR])) (san_nil))))))) (sw_or1 (st_not (st_chain (opr_or op_le op_le_str) ok_cmpS (opr_or op_le op_le_str) ok_cmpS (se_int) (se_blt (CallR.or call_len call_lenD) okc_len (by rfl) x.z_len (by decide +kernel) (SAn.run (san_cons (se_var (by rfl) (by first | exact Or.inl rfl | exact Or.inr (Or.inl rfl) | exact Or.inr (Or.inr rfl))) (san_nil)))) (se_int)))))) (sss_one (ss_ret (se_bl))) (sss_nil)) (sss_one (ss_ret (se_blt (cr_all rfl) okc_all (by rfl) x.z_all (by decide +kernel) (SAn.run (san_cons (se_comp (fz := true) (own := [("sign", 1)]) (t := (.one 1)) rfl sc_law_is_key.nd (si_str (se_var (by rfl) (by first | exact Or.inl rfl | exact Or.inr (Or.inl rfl) | exact Or.inr (Or.inr rfl)))) (blkOk_by (own := [("sign", 1)]) (N := N_law_is_key) (sc := (defScope s_law_is_key)) (by decide +kernel)) (by decide) (fun _ _ _ _ _ => pg_name (i := 1) sc_law_is_key.nd (by rfl) (Or.inl (by rfl))) (.inl ⟨rfl, rfl⟩) (fun _ _ _ _ _ => se_cmp (opr_or op_in_seq op_in_sign) (ok_in (neg := false)) (se_var (by rfl) (by first | exact Or.inl rfl | exact Or.inr (Or.inl rfl) | exact Or.inr (Or.inr rfl))) (se_str) (by rfl))) (san_nil))))))
theorem fn_law_are_writes (x : Tx K mg) (tb : x.TB base) : FnM P w K mg base x.T 2 x.a_law_are_writes x.d_law_are_writes ["thing"] r_law_are_writes := fn_ok x.F_law_are_writes sc_law_are_writes fun cdv A outer s H E hr => sss_cons (ss_if (st_not (st_tr (se_blt call_isi (okc_isi x.own_ok) (by rfl) x.z_isinstance (by decide +kernel) (SAn.run (san_cons (se_var (by rfl) (by first | exact Or.inl rfl | exact Or.inr (Or.inl rfl) | exact Or.inr (Or.inr rfl))) (san_cons (se_c (pe_bltn (v := .ty "tuple") (by rfl) x.z_tuple (by decide +kernel) rfl) (fun _ _ _ => by simp only [VR])) (san_nil))))))) (sss_one (ss_ret (se_bl))) (sss_nil)) (sss_cons (ss_for (passes_of rfl) rfl (si_tup (se_var (by rfl) (by first | exact Or.inl rfl | exact Or.inr (Or.inl rfl) | exact Or.inr (Or.inr rfl)))) (sg_name (i := 1) sc_law_are_writes.nd (by rfl) (by first | exact Or.inl rfl | exact Or.inr rfl)) (sss_cons (ss_if (st_w (sw_or (st_not (st_tr (se_blt call_isi (okc_isi x.own_ok) (by rfl) x.z_isinstance (by decide +kernel) (SAn.run (san_cons (se_var (by rfl) (by first | exact Or.inl rfl | exact Or.inr (Or.inl rfl) | exact Or.inr (Or.inr rfl))) (san_cons (se_c (pe_bltn (v := .ty "tuple") (by rfl) x.z_tuple (by decide +kernel) rfl) (fun _ _ _ => by simp only [VR])) (san_nil))))))) (sw_or (st_cmp (opr_or op_ne (op_neD hr.units)) ok_ne (se_blt (CallR.or call_len call_lenD) okc_len (by rfl) x.z_len (by decide +kernel) (SAn.run (san_cons (se_var (by rfl) (by first | exact Or.inl rfl | exact Or.inr (Or.inl rfl) | exact Or.inr (Or.inr rfl))) (san_nil)))) (se_int) (by rfl)) (sw_or1 (st_not (st_tr (se_call ((fn_law_is_key x tb).mono (by decide)) hr (takes_of rfl rfl rfl rfl) (by rfl) x.g_law_is_key x.F_law_is_key.kp x.b_law_is_key (san_cons (se_ix (by first | exact hu_of hr | (have zz := hu_of hr; exact zz)) (se_var (by rfl) (by first | exact Or.inl rfl | exact Or.inr (Or.inl rfl) | exact Or.inr (Or.inr rfl))) (se_int)) (san_nil))))))))) (sss_one (ss_ret (se_bl))) (sss_nil)) (sss_one (ss_if (st_w (sw_and (st_cmp (opr_or op_notN op_isNotF) ok_isnot (se_ix (by first | exact hu_of hr | (have zz := hu_of hr; exact zz)) (se_var (by rfl) (by first | exact Or.inl rfl | exact Or.inr (Or.inl rfl) | exact Or.inr (Or.inr rfl))) (se_int)) (se_non) (by rfl)) (sw_and1 (st_not (st_tr (se_call ((fn_law_is_int x tb).mono (by decide)) hr (takes_of rfl rfl rfl rfl) (by rfl) x.g_law_is_int x.F_law_is_int.kp x.b_law_is_int (san_cons (se_ix (by first | exact hu_of hr | (have zz := hu_of hr; exact zz)) (se_var (by rfl) (by first | exact Or.inl rfl | exact Or.inr (Or.inl rfl) | exact Or.inr (Or.inr rfl))) (se_int)) (san_cons (se_neg (se_op op_pow ok_pow (se_int) (se_int))) (san_cons (se_op op_pow ok_pow (se_int) (se_int)) (san_nil)))))))))) (sss_one (ss_ret (se_bl))) (sss_nil))))) (sss_one (ss_ret (se_blt (cr_all rfl) okc_all (by rfl) x.z_all (by decide +kernel) (SAn.run (san_cons (se_comp (fz := true) (own := [("one", 1), ("other", 2)]) (t := (.tup [1, 2])) rfl sc_law_are_writes.nd (si_zipT (by rfl) x.z_zip (SAn.run (san_cons (se_var (by rfl) (by first | exact Or.inl rfl | exact Or.inr (Or.inl rfl) | exact Or.inr (Or.inr rfl))) (san_cons (se_sl (fz := true) (se_var (by rfl) (by first | exact Or.inl rfl | exact Or.inr (Or.inl rfl) | exact Or.inr (Or.inr rfl))) (sp_some (se_int)) (sp_none)) (san_nil))))) (blkOk_by (own := [("one", 1), ("other", 2)]) (N := N_law_are_writes) (sc := (defScope s_law_are_writes)) (by decide +kernel)) (by decide) (fun _ _ _ _ _ => pg_tup rfl (pgs_cons (pg_name (i := 1) sc_law_are_writes.nd (by rfl) (Or.inl (by rfl))) (pgs_cons (pg_name (i := 2) sc_law_are_writes.nd (by rfl) (Or.inl (by rfl))) (pgs_nil)))) (.inl ⟨rfl, rfl⟩) (fun _ _ _ _ _ => se_cmp (opr_or op_lt op_lt_str) ok_cmpS (se_ix (by first | exact hu_of hr | (have zz := hu_of hr; exact zz)) (se_var (by rfl) (by first | exact Or.inl rfl | exact Or.inr (Or.inl rfl) | exact Or.inr (Or.inr rfl))) (se_int)) (se_ix (by first | exact hu_of hr | (have zz := hu_of hr; exact zz)) (se_var (by rfl) (by first | exact Or.inl rfl | exact Or.inr (Or.inl rfl) | exact Or.inr (Or.inr rfl))) (se_int)) (by rfl))) (san_nil)))))))
theorem fn_law_are_keys (x : Tx K mg) (tb : x.TB base) : FnM P w K mg base x.T 2 x.a_law_are_keys x.d_law_are_keys ["thing"] r_law_are_keys := fn_ok x.F_law_are_keys sc_law_are_keys fun cdv A outer s H E hr => sss_cons (ss_if (st_w (sw_or (st_not (st_tr (se_blt call_isi (okc_isi x.own_ok) (by rfl) x.z_isinstance (by decide +kernel) (SAn.run (san_cons (se_var (by rfl) (by first | exact Or.inl rfl | exact Or.inr (Or.inl rfl) | exact Or.inr (Or.inr rfl))) (san_cons (se_c (pe_bltn (v := .ty "tuple") (by rfl) x.z_tuple (by decide +kernel) rfl) (fun _ _ _ => by simp only [VR])) (san_nil))))))) (sw_or1 (st_not (st_tr (se_blt (cr_all rfl) okc_all (by rfl) x.z_all (by decide +kernel) (SAn.run (san_cons (se_comp (fz := true) (own := [("key", 3)]) (t := (.one 3)) rfl sc_law_are_keys.nd (si_tup (se_var (by rfl) (by first | exact Or.inl rfl | exact Or.inr (Or.inl rfl) | exact Or.inr (Or.inr rfl)))) (blkOk_by (own := [("key", 3)]) (N := N_law_are_keys) (sc := (defScope s_law_are_keys)) (by decide +kernel)) (by decide) (fun _ _ _ _ _ => pg_name (i := 3) sc_law_are_keys.nd (by rfl) (Or.inl (by rfl))) (.inl ⟨rfl, rfl⟩) (fun _ _ _ _ _ => se_call ((fn_law_is_key x tb).mono (by decide)) hr takes0 (by rfl) x.g_law_is_key x.F_law_is_key.kp x.b_law_is_key (san_cons (se_var (by rfl) (by first | exact Or.inl rfl | exact Or.inr (Or.inl rfl) | exact Or.inr (Or.inr rfl))) (san_nil)))) (san_nil))))))))) (sss_one (ss_ret (se_bl))) (sss_nil)) (sss_one (ss_ret (se_blt (cr_all rfl) okc_all (by rfl) x.z_all (by decide +kernel) (SAn.run (san_cons (se_comp (fz := true) (own := [("one", 1), ("other", 2)]) (t := (.tup [1, 2])) rfl sc_law_are_keys.nd (si_zipT (by rfl) x.z_zip (SAn.run (san_cons (se_var (by rfl) (by first | exact Or.inl rfl | exact Or.inr (Or.inl rfl) | exact Or.inr (Or.inr rfl))) (san_cons (se_sl (fz := true) (se_var (by rfl) (by first | exact Or.inl rfl | exact Or.inr (Or.inl rfl) | exact Or.inr (Or.inr rfl))) (sp_some (se_int)) (sp_none)) (san_nil))))) (blkOk_by (own := [("one", 1), ("other", 2)]) (N := N_law_are_keys) (sc := (defScope s_law_are_keys)) (by decide +kernel)) (by decide) (fun _ _ _ _ _ => pg_tup rfl (pgs_cons (pg_name (i := 1) sc_law_are_keys.nd (by rfl) (Or.inl (by rfl))) (pgs_cons (pg_name (i := 2) sc_law_are_keys.nd (by rfl) (Or.inl (by rfl))) (pgs_nil)))) (.inl ⟨rfl, rfl⟩) (fun _ _ _ _ _ => se_cmp (opr_or op_lt op_lt_str) ok_cmpS (se_var (by rfl) (by first | exact Or.inl rfl | exact Or.inr (Or.inl rfl) | exact Or.inr (Or.inr rfl))) (se_var (by rfl) (by first | exact Or.inl rfl | exact Or.inr (Or.inl rfl) | exact Or.inr (Or.inr rfl))) (by rfl))) (san_nil))))))
theorem fn_law_are_ranges (x : Tx K mg) (tb : x.TB base) : FnM P w K mg base x.T 3 x.a_law_are_ranges x.d_law_are_ranges ["thing"] r_law_are_ranges := fn_ok x.F_law_are_ranges sc_law_are_ranges fun cdv A outer s H E hr => sss_cons (ss_if (st_not (st_tr (se_blt call_isi (okc_isi x.own_ok) (by rfl) x.z_isinstance (by decide +kernel) (SAn.run (san_cons (se_var (by rfl) (by first | exact Or.inl rfl | exact Or.inr (Or.inl rfl) | exact Or.inr (Or.inr rfl))) (san_cons (se_c (pe_bltn (v := .ty "tuple") (by rfl) x.z_tuple (by decide +kernel) rfl) (fun _ _ _ => by simp only [VR])) (san_nil))))))) (sss_one (ss_ret (se_bl))) (sss_nil)) (sss_cons (ss_for (passes_of rfl) rfl (si_tup (se_var (by rfl) (by first | exact Or.inl rfl | exact Or.inr (Or.inl rfl) | exact Or.inr (Or.inr rfl)))) (sg_name (i := 1) sc_law_are_ranges.nd (by rfl) (by first | exact Or.inl rfl | exact Or.inr rfl)) (sss_cons (ss_if (st_w (sw_or (st_not (st_tr (se_blt call_isi (okc_isi x.own_ok) (by rfl) x.z_isinstance (by decide +kernel) (SAn.run (san_cons (se_var (by rfl) (by first | exact Or.inl rfl | exact Or.inr (Or.inl rfl) | exact Or.inr (Or.inr rfl))) (san_cons (se_c (pe_bltn (v := .ty "tuple") (by rfl) x.z_tuple (by decide +kernel) rfl) (fun _ _ _ => by simp only [VR])) (san_nil))))))) (sw_or (st_cmp (opr_or op_ne (op_neD hr.units)) ok_ne (se_blt (CallR.or call_len call_lenD) okc_len (by rfl) x.z_len (by decide +kernel) (SAn.run (san_cons (se_var (by rfl) (by first | exact Or.inl rfl | exact Or.inr (Or.inl rfl) | exact Or.inr (Or.inr rfl))) (san_nil)))) (se_int) (by rfl)) (sw_or (st_not (st_tr (se_call ((fn_law_is_key x tb).mono (by decide)) hr (takes_of rfl rfl rfl rfl) (by rfl) x.g_law_is_key x.F_law_is_key.kp x.b_law_is_key (san_cons (se_ix (by first | exact hu_of hr | (have zz := hu_of hr; exact zz)) (se_var (by rfl) (by first | exact Or.inl rfl | exact Or.inr (Or.inl rfl) | exact Or.inr (Or.inr rfl))) (se_int)) (san_nil))))) (sw_or1 (st_not (st_tr (se_call ((fn_law_is_key x tb).mono (by decide)) hr (takes_of rfl rfl rfl rfl) (by rfl) x.g_law_is_key x.F_law_is_key.kp x.b_law_is_key (san_cons (se_ix (by first | exact hu_of hr | (have zz := hu_of hr; exact zz)) (se_var (by rfl) (by first | exact Or.inl rfl | exact Or.inr (Or.inl rfl) | exact Or.inr (Or.inr rfl))) (se_int)) (san_nil)))))))))) (sss_one (ss_ret (se_bl))) (sss_nil)) (sss_one (ss_if (st_w (sw_or (st_cmp (opr_or op_gt op_gt_str) ok_cmpS (se_ix (by first | exact hu_of hr | (have zz := hu_of hr; exact zz)) (se_var (by rfl) (by first | exact Or.inl rfl | exact Or.inr (Or.inl rfl) | exact Or.inr (Or.inr rfl))) (se_int)) (se_ix (by first | exact hu_of hr | (have zz := hu_of hr; exact zz)) (se_var (by rfl) (by first | exact Or.inl rfl | exact Or.inr (Or.inl rfl) | exact Or.inr (Or.inr rfl))) (se_int)) (by rfl)) (sw_or (st_not (st_tr (se_call ((fn_law_are_keys x tb).mono (by decide)) hr (takes_of rfl rfl rfl rfl) (by rfl) x.g_law_are_keys x.F_law_are_keys.kp x.b_law_are_keys (san_cons (se_ix (by first | exact hu_of hr | (have zz := hu_of hr; exact zz)) (se_var (by rfl) (by first | exact Or.inl rfl | exact Or.inr (Or.inl rfl) | exact Or.inr (Or.inr rfl))) (se_int)) (san_nil))))) (sw_or1 (st_not (st_tr (se_blt (cr_all rfl) okc_all (by rfl) x.z_all (by decide +kernel) (SAn.run (san_cons (se_comp (fz := true) (own := [("key", 3)]) (t := (.one 3)) rfl sc_law_are_ranges.nd (si_tup (se_ix (by first | exact hu_of hr | (have zz := hu_of hr; exact zz)) (se_var (by rfl) (by first | exact Or.inl rfl | exact Or.inr (Or.inl rfl) | exact Or.inr (Or.inr rfl))) (se_int))) (blkOk_by (own := [("key", 3)]) (N := N_law_are_ranges) (sc := (defScope s_law_are_ranges)) (by decide +kernel)) (by decide) (fun _ _ _ _ _ => pg_name (i := 3) sc_law_are_ranges.nd (by rfl) (Or.inl (by rfl))) (.inl ⟨rfl, rfl⟩) (fun _ _ _ _ _ => se_chain (opr_or op_le op_le_str) ok_cmpS (opr_or op_le op_le_str) ok_cmpS (se_ix (by first | exact hu_of hr | (have zz := hu_of hr; exact zz)) (se_var (by rfl) (by first | exact Or.inl rfl | exact Or.inr (Or.inl rfl) | exact Or.inr (Or.inr rfl))) (se_int)) (se_var (by rfl) (by first | exact Or.inl rfl | exact Or.inr (Or.inl rfl) | exact Or.inr (Or.inr rfl))) (se_ix (by first | exact hu_of hr | (have zz := hu_of hr; exact zz)) (se_var (by rfl) (by first | exact Or.inl rfl | exact Or.inr (Or.inl rfl) | exact Or.inr (Or.inr rfl))) (se_int)))) (san_nil)))))))))) (sss_one (ss_ret (se_bl))) (sss_nil))))) (sss_one (ss_ret (se_blt (cr_all rfl) okc_all (by rfl) x.z_all (by decide +kernel) (SAn.run (san_cons (se_comp (fz := true) (own := [("one", 1), ("other", 2)]) (t := (.tup [1, 2])) rfl sc_law_are_ranges.nd (si_zipT (by rfl) x.z_zip (SAn.run (san_cons (se_var (by rfl) (by first | exact Or.inl rfl | exact Or.inr (Or.inl rfl) | exact Or.inr (Or.inr rfl))) (san_cons (se_sl (fz := true) (se_var (by rfl) (by first | exact Or.inl rfl | exact Or.inr (Or.inl rfl) | exact Or.inr (Or.inr rfl))) (sp_some (se_int)) (sp_none)) (san_nil))))) (blkOk_by (own := [("one", 1), ("other", 2)]) (N := N_law_are_ranges) (sc := (defScope s_law_are_ranges)) (by decide +kernel)) (by decide) (fun _ _ _ _ _ => pg_tup rfl (pgs_cons (pg_name (i := 1) sc_law_are_ranges.nd (by rfl) (Or.inl (by rfl))) (pgs_cons (pg_name (i := 2) sc_law_are_ranges.nd (by rfl) (Or.inl (by rfl))) (pgs_nil)))) (.inl ⟨rfl, rfl⟩) (fun _ _ _ _ _ => se_cmp (opr_or op_lt op_lt_str) ok_cmpS (se_var (by rfl) (by first | exact Or.inl rfl | exact Or.inr (Or.inl rfl) | exact Or.inr (Or.inr rfl))) (se_var (by rfl) (by first | exact Or.inl rfl | exact Or.inr (Or.inl rfl) | exact Or.inr (Or.inr rfl))) (by rfl))) (san_nil)))))))
theorem fn_Check_would_commit (x : Tx K mg) (tb : x.TB base) : FnM P w K mg base x.T 11 x.a_Check_would_commit x.d_Check_would_commit ["self", "entry", "keys", "ranges", "writes"] r_Check_would_commit := fn_ok x.F_Check_would_commit sc_Check_would_commit fun cdv A outer s H E hr => sss_cons (ss_asg (se_meth (n := 4) (tb := [(0, r_Check_judged)]) (se_var (by rfl) (by first | exact Or.inl rfl | exact Or.inr (Or.inl rfl) | exact Or.inr (Or.inr rfl))) (fun p hp => by
      simp only [List.mem_cons, List.not_mem_nil, or_false] at hp
      rcases hp with rfl
      exact ⟨x.cl_Check, x.a_Check_judged, x.d_Check_judged, _, x.me_Check_judged, (fn_Check_judged x tb).mono (by decide), x.b_Check_judged, rfl⟩) hr (takes_of rfl rfl rfl rfl) (san_cons (se_var (by rfl) (by first | exact Or.inl rfl | exact Or.inr (Or.inl rfl) | exact Or.inr (Or.inr rfl))) (san_cons (se_var (by rfl) (by first | exact Or.inl rfl | exact Or.inr (Or.inl rfl) | exact Or.inr (Or.inr rfl))) (san_cons (se_var (by rfl) (by first | exact Or.inl rfl | exact Or.inr (Or.inl rfl) | exact Or.inr (Or.inr rfl))) (san_cons (se_var (by rfl) (by first | exact Or.inl rfl | exact Or.inr (Or.inl rfl) | exact Or.inr (Or.inr rfl))) (san_nil)))))) (sg_tup rfl (sgs_cons (sg_name (i := 5) sc_Check_would_commit.nd (by rfl) (by first | exact Or.inl rfl | exact Or.inr rfl)) (sgs_cons (sg_name (i := 6) sc_Check_would_commit.nd (by rfl) (by first | exact Or.inl rfl | exact Or.inr rfl)) (sgs_nil))))) (sss_one (ss_ret (se_fld (cs := [1]) (se_var (by rfl) (by first | exact Or.inl rfl | exact Or.inr (Or.inl rfl) | exact Or.inr (Or.inr rfl))) x.f_number)))
theorem fn_Check_key_into (x : Tx K mg) (tb : x.TB base) : FnM P w K mg base x.T 1 x.a_Check_key_into x.d_Check_key_into ["self", "entry"] r_Check_key_into := fn_ok x.F_Check_key_into sc_Check_key_into fun cdv A outer s H E hr => sss_cons (ss_set (i := 2) sc_Check_key_into.nd (by rfl) (by first | exact Or.inl rfl | exact Or.inr rfl) (se_ix (by first | exact hu_of hr | (have zz := hu_of hr; exact zz)) (se_fld (cs := [0]) (se_var (by rfl) (by first | exact Or.inl rfl | exact Or.inr (Or.inl rfl) | exact Or.inr (Or.inr rfl))) x.f_dealings) (se_var (by rfl) (by first | exact Or.inl rfl | exact Or.inr (Or.inl rfl) | exact Or.inr (Or.inr rfl))))) (sss_cons (ss_if (st_tr (se_fld (cs := [1]) (se_var (by rfl) (by first | exact Or.inl rfl | exact Or.inr (Or.inl rfl) | exact Or.inr (Or.inr rfl))) x.f_writes)) (sss_one (ss_ret (se_ix (by first | exact hu_of hr | (have zz := hu_of hr; exact zz)) (se_ix (by first | exact hu_of hr | (have zz := hu_of hr; exact zz)) (se_fld (cs := [1]) (se_var (by rfl) (by first | exact Or.inl rfl | exact Or.inr (Or.inl rfl) | exact Or.inr (Or.inr rfl))) x.f_writes) (se_int)) (se_int)))) (sss_nil)) (sss_cons (ss_stk) (sss_one (ss_stk))))
theorem fn_Check_could_ring (x : Tx K mg) (tb : x.TB base) : FnM P w K mg base x.T 3 x.a_Check_could_ring x.d_Check_could_ring ["self", "entry"] r_Check_could_ring := fn_ok x.F_Check_could_ring sc_Check_could_ring fun cdv A outer s H E hr => sss_cons (ss_if (st_w (sw_or (st_not (st_tr (se_call ((fn_is_number x tb).mono (by decide)) hr (takes_of rfl rfl rfl rfl) (by rfl) x.g_is_number x.F_is_number.kp x.b_is_number (san_cons (se_var (by rfl) (by first | exact Or.inl rfl | exact Or.inr (Or.inl rfl) | exact Or.inr (Or.inr rfl))) (san_nil))))) (sw_or1 (st_dnin (by first | exact hu_of hr | (have zz := hu_of hr; exact zz)) (se_var (by rfl) (by first | exact Or.inl rfl | exact Or.inr (Or.inl rfl) | exact Or.inr (Or.inr rfl))) (se_fld (cs := [0]) (se_var (by rfl) (by first | exact Or.inl rfl | exact Or.inr (Or.inl rfl) | exact Or.inr (Or.inr rfl))) x.f_dealings))))) (sss_one (ss_raise0 (c := 9) rfl (takes_of rfl rfl rfl rfl) (ExcF.ok (X := _) x.e_NotRemembered) (by rfl))) (sss_nil)) (sss_cons (ss_set (i := 2) sc_Check_could_ring.nd (by rfl) (by first | exact Or.inl rfl | exact Or.inr rfl) (se_meth0 (tb := [(0, r_Check_least_snapshot)]) (se_var (by rfl) (by first | exact Or.inl rfl | exact Or.inr (Or.inl rfl) | exact Or.inr (Or.inr rfl))) (fun p hp => by
      simp only [List.mem_cons, List.not_mem_nil, or_false] at hp
      rcases hp with rfl
      exact ⟨x.cl_Check, x.a_Check_least_snapshot, x.d_Check_least_snapshot, _, x.me_Check_least_snapshot, (fn_Check_least_snapshot x tb).mono (by decide), x.b_Check_least_snapshot, rfl⟩) hr (takes_of rfl rfl rfl rfl))) (sss_cons (ss_set (i := 3) sc_Check_could_ring.nd (by rfl) (by first | exact Or.inl rfl | exact Or.inr rfl) (se_blt (cr_min rfl) okc_minL (by rfl) x.z_min (by decide +kernel) (SAn.run (san_cons (se_lock (se_comp (fz := true) (own := [("other", 8)]) (t := (.one 8)) rfl sc_Check_could_ring.nd (si_keys (se_fld (cs := [0]) (se_var (by rfl) (by first | exact Or.inl rfl | exact Or.inr (Or.inl rfl) | exact Or.inr (Or.inr rfl))) x.f_snapshots)) (blkOk_by (own := [("other", 8)]) (N := N_Check_could_ring) (sc := (defScope s_Check_could_ring)) (by decide +kernel)) (by decide) (fun _ _ _ _ _ => pg_name (i := 8) sc_Check_could_ring.nd (by rfl) (Or.inl (by rfl))) (.inr ⟨_, rfl, fun _ _ _ _ _ => st_cmp (opr_or op_eq (op_eqD hr.units)) ok_eq (se_ix (by first | exact hu_of hr | (have zz := hu_of hr; exact zz)) (se_fld (cs := [0]) (se_var (by rfl) (by first | exact Or.inl rfl | exact Or.inr (Or.inl rfl) | exact Or.inr (Or.inr rfl))) x.f_snapshots) (se_var (by rfl) (by first | exact Or.inl rfl | exact Or.inr (Or.inl rfl) | exact Or.inr (Or.inr rfl)))) (se_var (by rfl) (by first | exact Or.inl rfl | exact Or.inr (Or.inl rfl) | exact Or.inr (Or.inr rfl))) (by rfl)⟩) (fun _ _ _ _ _ => se_var (by rfl) (by first | exact Or.inl rfl | exact Or.inr (Or.inl rfl) | exact Or.inr (Or.inr rfl))))) (san_nil))))) (sss_cons (ss_comp (fz := true) (i := 4) (own := [("start", 7)]) (t := (.one 7)) rfl sc_Check_could_ring.nd (by rfl) (by rfl) (sw_true rfl rfl rfl (by decide +kernel)) (si_list (se_meth0 (tb := [(0, r_Check_unseen)]) (se_var (by rfl) (by first | exact Or.inl rfl | exact Or.inr (Or.inl rfl) | exact Or.inr (Or.inr rfl))) (fun p hp => by
      simp only [List.mem_cons, List.not_mem_nil, or_false] at hp
      rcases hp with rfl
      exact ⟨x.cl_Check, x.a_Check_unseen, x.d_Check_unseen, _, x.me_Check_unseen, (fn_Check_unseen x tb).mono (by decide), x.b_Check_unseen, rfl⟩) hr (takes_of rfl rfl rfl rfl))) (blkOk_by (own := [("start", 7)]) (N := N_Check_could_ring) (sc := (defScope s_Check_could_ring)) (by decide +kernel)) (by decide) (fun _ _ _ _ _ => pg_name (i := 7) sc_Check_could_ring.nd (by rfl) (Or.inl (by rfl))) (.inr ⟨_, rfl, fun _ _ _ _ _ => st_din (by first | exact hu_of hr | (have zz := hu_of hr; exact zz)) (se_var (by rfl) (by first | exact Or.inl rfl | exact Or.inr (Or.inl rfl) | exact Or.inr (Or.inr rfl))) (se_call ((fn_reached_from x tb).mono (by decide)) hr takes0 (by rfl) x.g_reached_from x.F_reached_from.kp x.b_reached_from (san_cons (se_lstA (fz := true) (n := 1) (san_cons (se_var (by rfl) (by first | exact Or.inl rfl | exact Or.inr (Or.inl rfl) | exact Or.inr (Or.inr rfl))) (san_nil))) (san_cons (se_fld (cs := [0]) (se_var (by rfl) (by first | exact Or.inl rfl | exact Or.inr (Or.inl rfl) | exact Or.inr (Or.inr rfl))) x.f_ways) (san_nil))))⟩) (fun _ _ _ _ _ => se_var (by rfl) (by first | exact Or.inl rfl | exact Or.inr (Or.inl rfl) | exact Or.inr (Or.inr rfl)))) (sss_cons (ss_set (i := 5) sc_Check_could_ring.nd (by rfl) (by first | exact Or.inl rfl | exact Or.inr rfl) (se_ifx (st_cmp (opr_or op_in_seq op_in_sign) (ok_in (neg := false)) (se_var (by rfl) (by first | exact Or.inl rfl | exact Or.inr (Or.inl rfl) | exact Or.inr (Or.inr rfl))) (se_var (by rfl) (by first | exact Or.inl rfl | exact Or.inr (Or.inl rfl) | exact Or.inr (Or.inr rfl))) (by rfl)) (se_var (by rfl) (by first | exact Or.inl rfl | exact Or.inr (Or.inl rfl) | exact Or.inr (Or.inr rfl))) (se_blt (cr_min rfl) okc_minL (by rfl) x.z_min (by decide +kernel) (SAn.run (san_cons (se_var (by rfl) (by first | exact Or.inl rfl | exact Or.inr (Or.inl rfl) | exact Or.inr (Or.inr rfl))) (san_nil)))))) (sss_cons (ss_set (i := 6) sc_Check_could_ring.nd (by rfl) (by first | exact Or.inl rfl | exact Or.inr rfl) (se_ix (by first | exact hu_of hr | (have zz := hu_of hr; exact zz)) (se_ix (by first | exact hu_of hr | (have zz := hu_of hr; exact zz)) (se_fld (cs := [1]) (se_ix (by first | exact hu_of hr | (have zz := hu_of hr; exact zz)) (se_fld (cs := [0]) (se_var (by rfl) (by first | exact Or.inl rfl | exact Or.inr (Or.inl rfl) | exact Or.inr (Or.inr rfl))) x.f_dealings) (se_var (by rfl) (by first | exact Or.inl rfl | exact Or.inr (Or.inl rfl) | exact Or.inr (Or.inr rfl)))) x.f_writes) (se_int)) (se_int))) (sss_one (ss_ret (se_tupA (n := 3) (san_cons (se_var (by rfl) (by first | exact Or.inl rfl | exact Or.inr (Or.inl rfl) | exact Or.inr (Or.inr rfl))) (san_cons (se_tupA (n := 1) (san_cons (se_var (by rfl) (by first | exact Or.inl rfl | exact Or.inr (Or.inl rfl) | exact Or.inr (Or.inr rfl))) (san_nil))) (san_cons (se_tupA (n := 1) (san_cons (se_tupA (n := 2) (san_cons (se_meth (n := 1) (tb := [(0, r_Check_key_into)]) (se_var (by rfl) (by first | exact Or.inl rfl | exact Or.inr (Or.inl rfl) | exact Or.inr (Or.inr rfl))) (fun p hp => by
      simp only [List.mem_cons, List.not_mem_nil, or_false] at hp
      rcases hp with rfl
      exact ⟨x.cl_Check, x.a_Check_key_into, x.d_Check_key_into, _, x.me_Check_key_into, (fn_Check_key_into x tb).mono (by decide), x.b_Check_key_into, rfl⟩) hr (takes_of rfl rfl rfl rfl) (san_cons (se_var (by rfl) (by first | exact Or.inl rfl | exact Or.inr (Or.inl rfl) | exact Or.inr (Or.inr rfl))) (san_nil))) (san_cons (se_int) (san_nil)))) (san_nil))) (san_nil))))))))))))
theorem fn_law (x : Tx K mg) (tb : x.TB base) : FnM P w K mg base x.T 14 x.a_law x.d_law ["script"] r_law := fn_okL x.L_law sc_law fun A outer s H E hr => sss_cons (ss_set (i := 1) sc_law.nd (by rfl) (by first | exact Or.inl rfl | exact Or.inr rfl) (se_call ((fn_law_hand x tb).mono (by decide)) hr (takes_of rfl rfl rfl rfl) (by rfl) x.g_law_hand x.F_law_hand.kp x.b_law_hand (san_cons (se_var (by rfl) (by first | exact Or.inl rfl | exact Or.inr (Or.inl rfl) | exact Or.inr (Or.inr rfl))) (san_nil)))) (sss_bothN 3 (sss_gc (is := [2, 3]) (sss_cons (ss_set (i := 2) sc_law.nd (by rfl) (by first | exact Or.inl rfl | exact Or.inr rfl) (se_gcS (se_call ((fn_law_odd x tb).mono (by decide)) hr (takes_of rfl rfl rfl rfl) (by rfl) x.g_law_odd x.F_law_odd.kp x.b_law_odd (san_cons (se_var (by rfl) (by first | exact Or.inl rfl | exact Or.inr (Or.inl rfl) | exact Or.inr (Or.inr rfl))) (san_cons (se_int) (san_nil)))))) (sss_cons (ss_set (i := 3) sc_law.nd (by rfl) (by first | exact Or.inl rfl | exact Or.inr rfl) (se_ifx (st_tr (se_call ((fn_law_is_int x tb).mono (by decide)) hr (takes_of rfl rfl rfl rfl) (by rfl) x.g_law_is_int x.F_law_is_int.kp x.b_law_is_int (san_cons (se_var (by rfl) (by first | exact Or.inl rfl | exact Or.inr (Or.inl rfl) | exact Or.inr (Or.inr rfl))) (san_cons (se_int) (san_cons (se_op op_pow ok_pow (se_int) (se_int)) (san_nil)))))) (se_str) (se_str))) (sss_one (ss_if (st_cmp (opr_or op_ne (op_neD hr.units)) ok_ne (se_gc (se_lamcall (k := 4) (j := 0) (n := 3) (Ng := N_law_word) x.F_law_word (by rfl) x.g_law_word x.b_law_word sc_law_word (by rfl) (by rfl) (by first | exact Or.inl rfl | exact Or.inr (Or.inl rfl)) (x.tab_law tb) rfl rfl (by rfl) (Room.mono hr (by decide)) (LamX.lamS_by (by show LamX.lamSB (defScope s_law) _ = true; decide +kernel)) (by rfl) (fun _ _ _ _ _ => rfl) (fun A outer s G E f c' hr => se_make (c := 0) x.M_Check ((fn_Check_init x tb).mono (by decide)) hr (takes_of rfl rfl rfl rfl) (by rfl) x.gC_Check x.b_Check_init (n := 1) rfl (san_cons (se_var (by rfl) (by first | exact Or.inl rfl | exact Or.inr (Or.inl rfl) | exact Or.inr (Or.inr rfl))) (san_nil))) (fun cdv s G hr F cl hc => gv_law_word x tb cdv s G (Room.mono hr (by decide)) F cl hc) pr_law_word)) (se_var (by rfl) (by first | exact Or.inl rfl | exact Or.inr (Or.inl rfl) | exact Or.inr (Or.inr rfl))) (by rfl)) (sss_one (ss_ret (se_bl))) (sss_nil)))))) (sss_cons (ss_set (i := 4) sc_law.nd (by rfl) (by first | exact Or.inl rfl | exact Or.inr rfl) (se_ix (by first | exact hu_of hr | (have zz := hu_of hr; exact zz)) (se_lstA (fz := true) (n := 3) (san_cons (se_int) (san_cons (se_int) (san_cons (se_op op_pow ok_pow (se_int) (se_int)) (san_nil))))) (se_call ((fn_law_draw x tb).mono (by decide)) hr (takes_of rfl rfl rfl rfl) (by rfl) x.g_law_draw x.F_law_draw.kp x.b_law_draw (san_cons (se_var (by rfl) (by first | exact Or.inl rfl | exact Or.inr (Or.inl rfl) | exact Or.inr (Or.inr rfl))) (san_cons (se_int) (san_nil)))))) (sss_cons (ss_set (i := 5) sc_law.nd (by rfl) (by first | exact Or.inl rfl | exact Or.inr rfl) (se_call ((fn_law_ready x tb).mono (by decide)) hr (takes_of rfl rfl rfl rfl) (by rfl) x.g_law_ready x.F_law_ready.kp x.b_law_ready (san_cons (se_var (by rfl) (by first | exact Or.inl rfl | exact Or.inr (Or.inl rfl) | exact Or.inr (Or.inr rfl))) (san_cons (se_var (by rfl) (by first | exact Or.inl rfl | exact Or.inr (Or.inl rfl) | exact Or.inr (Or.inr rfl))) (san_nil))))) (sss_cons (ss_set (i := 6) sc_law.nd (by rfl) (by first | exact Or.inl rfl | exact Or.inr rfl) (se_tupA (n := 3) (san_cons (se_meth0 (tb := [(0, r_Check_last)]) (se_var (by rfl) (by first | exact Or.inl rfl | exact Or.inr (Or.inl rfl) | exact Or.inr (Or.inr rfl))) (fun p hp => by
      simp only [List.mem_cons, List.not_mem_nil, or_false] at hp
      rcases hp with rfl
      exact ⟨x.cl_Check, x.a_Check_last, x.d_Check_last, _, x.me_Check_last, (fn_Check_last x tb).mono (by decide), x.b_Check_last, rfl⟩) hr (takes_of rfl rfl rfl rfl)) (san_cons (se_meth0 (tb := [(0, r_Check_open_entries)]) (se_var (by rfl) (by first | exact Or.inl rfl | exact Or.inr (Or.inl rfl) | exact Or.inr (Or.inr rfl))) (fun p hp => by
      simp only [List.mem_cons, List.not_mem_nil, or_false] at hp
      rcases hp with rfl
      exact ⟨x.cl_Check, x.a_Check_open_entries, x.d_Check_open_entries, _, x.me_Check_open_entries, (fn_Check_open_entries x tb).mono (by decide), x.b_Check_open_entries, rfl⟩) hr (takes_of rfl rfl rfl rfl)) (san_cons (se_meth0 (tb := [(0, r_Check_remembered)]) (se_var (by rfl) (by first | exact Or.inl rfl | exact Or.inr (Or.inl rfl) | exact Or.inr (Or.inr rfl))) (fun p hp => by
      simp only [List.mem_cons, List.not_mem_nil, or_false] at hp
      rcases hp with rfl
      exact ⟨x.cl_Check, x.a_Check_remembered, x.d_Check_remembered, _, x.me_Check_remembered, (fn_Check_remembered x tb).mono (by decide), x.b_Check_remembered, rfl⟩) hr (takes_of rfl rfl rfl rfl)) (san_nil)))))) (sss_cons (ss_if (st_cmp (opr_or op_ne (op_neD hr.units)) ok_ne (se_var (by rfl) (by first | exact Or.inl rfl | exact Or.inr (Or.inl rfl) | exact Or.inr (Or.inr rfl))) (se_tupA (n := 3) (san_cons (se_op (opr_or op_add (opr_or op_add_str (opr_or op_catA op_cat))) (ok_add (fz := true)) (se_var (by rfl) (by first | exact Or.inl rfl | exact Or.inr (Or.inl rfl) | exact Or.inr (Or.inr rfl))) (se_int)) (san_cons (se_tupA (n := 2) (san_cons (se_int) (san_cons (se_int) (san_nil)))) (san_cons (se_tupA (n := 1) (san_cons (se_int) (san_nil))) (san_nil))))) (by rfl)) (sss_one (ss_ret (se_bl))) (sss_nil)) (sss_cons (ss_for (passes_of rfl) rfl (si_range1 (by rfl) x.z_range (SAn.run (san_cons (se_int) (san_nil)))) (sg_name (i := 7) sc_law.nd (by rfl) (by first | exact Or.inl rfl | exact Or.inr rfl)) (sss_bothN 3 (sss_gc (is := [8, 3]) (sss_cons (ss_set (i := 8) sc_law.nd (by rfl) (by first | exact Or.inl rfl | exact Or.inr rfl) (se_gcS (se_ix (by first | exact hu_of hr | (have zz := hu_of hr; exact zz)) (se_lstA (fz := true) (n := 8) (san_cons (se_var (by rfl) (by first | exact Or.inl rfl | exact Or.inr (Or.inl rfl) | exact Or.inr (Or.inr rfl))) (san_cons (se_op (opr_or op_add (opr_or op_add_str (opr_or op_catA op_cat))) (ok_add (fz := true)) (se_var (by rfl) (by first | exact Or.inl rfl | exact Or.inr (Or.inl rfl) | exact Or.inr (Or.inr rfl))) (se_int)) (san_cons (se_op op_sub ok_sub (se_var (by rfl) (by first | exact Or.inl rfl | exact Or.inr (Or.inl rfl) | exact Or.inr (Or.inr rfl))) (se_int)) (san_cons (se_op (opr_or op_add (opr_or op_add_str (opr_or op_catA op_cat))) (ok_add (fz := true)) (se_var (by rfl) (by first | exact Or.inl rfl | exact Or.inr (Or.inl rfl) | exact Or.inr (Or.inr rfl))) (se_int)) (san_cons (se_gcS (se_call ((fn_law_odd x tb).mono (by decide)) hr (takes_of rfl rfl rfl rfl) (by rfl) x.g_law_odd x.F_law_odd.kp x.b_law_odd (san_cons (se_var (by rfl) (by first | exact Or.inl rfl | exact Or.inr (Or.inl rfl) | exact Or.inr (Or.inr rfl))) (san_cons (se_var (by rfl) (by first | exact Or.inl rfl | exact Or.inr (Or.inl rfl) | exact Or.inr (Or.inr rfl))) (san_nil))))) (san_cons (se_bl) (san_cons (se_non) (san_cons (se_str) (san_nil)))))))))) (se_call ((fn_law_draw x tb).mono (by decide)) hr (takes_of rfl rfl rfl rfl) (by rfl) x.g_law_draw x.F_law_draw.kp x.b_law_draw (san_cons (se_var (by rfl) (by first | exact Or.inl rfl | exact Or.inr (Or.inl rfl) | exact Or.inr (Or.inr rfl))) (san_cons (se_int) (san_nil))))))) (sss_cons (ss_set (i := 3) sc_law.nd (by rfl) (by first | exact Or.inl rfl | exact Or.inr rfl) (se_ifx (st_tr (se_call ((fn_law_is_int x tb).mono (by decide)) hr (takes_of rfl rfl rfl rfl) (by rfl) x.g_law_is_int x.F_law_is_int.kp x.b_law_is_int (san_cons (se_var (by rfl) (by first | exact Or.inl rfl | exact Or.inr (Or.inl rfl) | exact Or.inr (Or.inr rfl))) (san_cons (se_var (by rfl) (by first | exact Or.inl rfl | exact Or.inr (Or.inl rfl) | exact Or.inr (Or.inr rfl))) (san_cons (se_op (opr_or op_add (opr_or op_add_str (opr_or op_catA op_cat))) (ok_add (fz := true)) (se_var (by rfl) (by first | exact Or.inl rfl | exact Or.inr (Or.inl rfl) | exact Or.inr (Or.inr rfl))) (se_int)) (san_nil)))))) (se_str) (se_str))) (sss_one (ss_if (st_cmp (opr_or op_ne (op_neD hr.units)) ok_ne (se_gc (se_lamcall (k := 5) (j := 0) (n := 3) (Ng := N_law_word) x.F_law_word (by rfl) x.g_law_word x.b_law_word sc_law_word (by rfl) (by rfl) (by first | exact Or.inl rfl | exact Or.inr (Or.inl rfl)) (x.tab_law tb) rfl rfl (by rfl) (Room.mono hr (by decide)) (LamX.lamS_by (by show LamX.lamSB (defScope s_law) _ = true; decide +kernel)) (by rfl) (fun _ _ _ _ _ => rfl) (fun A outer s G E f c' hr => se_meth (n := 1) (tb := [(0, r_Check_opens)]) (se_meth0 (tb := [(0, r_Check_copy)]) (se_var (by rfl) (by first | exact Or.inl rfl | exact Or.inr (Or.inl rfl) | exact Or.inr (Or.inr rfl))) (fun p hp => by
      simp only [List.mem_cons, List.not_mem_nil, or_false] at hp
      rcases hp with rfl
      exact ⟨x.cl_Check, x.a_Check_copy, x.d_Check_copy, _, x.me_Check_copy, (fn_Check_copy x tb).mono (by decide), x.b_Check_copy, rfl⟩) hr (takes_of rfl rfl rfl rfl)) (fun p hp => by
      simp only [List.mem_cons, List.not_mem_nil, or_false] at hp
      rcases hp with rfl
      exact ⟨x.cl_Check, x.a_Check_opens, x.d_Check_opens, _, x.me_Check_opens, (fn_Check_opens x tb).mono (by decide), x.b_Check_opens, rfl⟩) hr (takes_of rfl rfl rfl rfl) (san_cons (se_var (by rfl) (by first | exact Or.inl rfl | exact Or.inr (Or.inl rfl) | exact Or.inr (Or.inr rfl))) (san_nil))) (fun cdv s G hr F cl hc => gv_law_word x tb cdv s G (Room.mono hr (by decide)) F cl hc) pr_law_word)) (se_var (by rfl) (by first | exact Or.inl rfl | exact Or.inr (Or.inl rfl) | exact Or.inr (Or.inr rfl))) (by rfl)) (sss_one (ss_ret (se_bl))) (sss_nil)))))) (sss_gc (is := [9, 10, 11, 12, 13, 3, 14]) (sss_cons (ss_set (i := 9) sc_law.nd (by rfl) (by first | exact Or.inl rfl | exact Or.inr rfl) (se_gcS (se_ix (by first | exact hu_of hr | (have zz := hu_of hr; exact zz)) (se_lstA (fz := true) (n := 8) (san_cons (se_int) (san_cons (se_int) (san_cons (se_int) (san_cons (se_int) (san_cons (se_int) (san_cons (se_bl) (san_cons (se_bl) (san_cons (se_gcS (se_call ((fn_law_odd x tb).mono (by decide)) hr (takes_of rfl rfl rfl rfl) (by rfl) x.g_law_odd x.F_law_odd.kp x.b_law_odd (san_cons (se_var (by rfl) (by first | exact Or.inl rfl | exact Or.inr (Or.inl rfl) | exact Or.inr (Or.inr rfl))) (san_cons (se_int) (san_nil))))) (san_nil)))))))))) (se_call ((fn_law_draw x tb).mono (by decide)) hr (takes_of rfl rfl rfl rfl) (by rfl) x.g_law_draw x.F_law_draw.kp x.b_law_draw (san_cons (se_var (by rfl) (by first | exact Or.inl rfl | exact Or.inr (Or.inl rfl) | exact Or.inr (Or.inr rfl))) (san_cons (se_int) (san_nil))))))) (sss_cons (ss_set (i := 10) sc_law.nd (by rfl) (by first | exact Or.inl rfl | exact Or.inr rfl) (se_and (se_bB (se_call ((fn_law_is_int x tb).mono (by decide)) hr (takes_of rfl rfl rfl rfl) (by rfl) x.g_law_is_int x.F_law_is_int.kp x.b_law_is_int (san_cons (se_var (by rfl) (by first | exact Or.inl rfl | exact Or.inr (Or.inl rfl) | exact Or.inr (Or.inr rfl))) (san_cons (se_int) (san_cons (se_int) (san_nil)))))) (se_and1 (se_bB (se_cmp (opr_or op_in_seq op_in_sign) (ok_in (neg := false)) (se_var (by rfl) (by first | exact Or.inl rfl | exact Or.inr (Or.inl rfl) | exact Or.inr (Or.inr rfl))) (se_tupA (n := 2) (san_cons (se_int) (san_cons (se_int) (san_nil)))) (by rfl)))))) (sss_cons (ss_asg (se_tupA (n := 3) (san_cons (se_gcS (se_call ((fn_law_odd x tb).mono (by decide)) hr (takes_of rfl rfl rfl rfl) (by rfl) x.g_law_odd x.F_law_odd.kp x.b_law_odd (san_cons (se_var (by rfl) (by first | exact Or.inl rfl | exact Or.inr (Or.inl rfl) | exact Or.inr (Or.inr rfl))) (san_cons (se_tupA (n := 1) (san_cons (se_str) (san_nil))) (san_nil))))) (san_cons (se_gcS (se_call ((fn_law_odd x tb).mono (by decide)) hr (takes_of rfl rfl rfl rfl) (by rfl) x.g_law_odd x.F_law_odd.kp x.b_law_odd (san_cons (se_var (by rfl) (by first | exact Or.inl rfl | exact Or.inr (Or.inl rfl) | exact Or.inr (Or.inr rfl))) (san_cons (se_tupA (n := 0) (san_nil)) (san_nil))))) (san_cons (se_gcS (se_call ((fn_law_odd x tb).mono (by decide)) hr (takes_of rfl rfl rfl rfl) (by rfl) x.g_law_odd x.F_law_odd.kp x.b_law_odd (san_cons (se_var (by rfl) (by first | exact Or.inl rfl | exact Or.inr (Or.inl rfl) | exact Or.inr (Or.inr rfl))) (san_cons (se_tupA (n := 1) (san_cons (se_tupA (n := 2) (san_cons (se_str) (san_cons (se_int) (san_nil)))) (san_nil))) (san_nil))))) (san_nil))))) (sg_tup rfl (sgs_cons (sg_name (i := 11) sc_law.nd (by rfl) (by first | exact Or.inl rfl | exact Or.inr rfl)) (sgs_cons (sg_name (i := 12) sc_law.nd (by rfl) (by first | exact Or.inl rfl | exact Or.inr rfl)) (sgs_cons (sg_name (i := 13) sc_law.nd (by rfl) (by first | exact Or.inl rfl | exact Or.inr rfl)) (sgs_nil)))))) (sss_cons (ss_set (i := 3) sc_law.nd (by rfl) (by first | exact Or.inl rfl | exact Or.inr rfl) (se_ifx (st_tr (se_call ((fn_law_are_writes x tb).mono (by decide)) hr (takes_of rfl rfl rfl rfl) (by rfl) x.g_law_are_writes x.F_law_are_writes.kp x.b_law_are_writes (san_cons (se_var (by rfl) (by first | exact Or.inl rfl | exact Or.inr (Or.inl rfl) | exact Or.inr (Or.inr rfl))) (san_nil)))) (se_str) (se_str))) (sss_cons (ss_set (i := 3) sc_law.nd (by rfl) (by first | exact Or.inl rfl | exact Or.inr rfl) (se_ifx (st_w (sw_and (st_tr (se_call ((fn_law_are_keys x tb).mono (by decide)) hr (takes_of rfl rfl rfl rfl) (by rfl) x.g_law_are_keys x.F_law_are_keys.kp x.b_law_are_keys (san_cons (se_var (by rfl) (by first | exact Or.inl rfl | exact Or.inr (Or.inl rfl) | exact Or.inr (Or.inr rfl))) (san_nil)))) (sw_and1 (st_tr (se_call ((fn_law_are_ranges x tb).mono (by decide)) hr (takes_of rfl rfl rfl rfl) (by rfl) x.g_law_are_ranges x.F_law_are_ranges.kp x.b_law_are_ranges (san_cons (se_var (by rfl) (by first | exact Or.inl rfl | exact Or.inr (Or.inl rfl) | exact Or.inr (Or.inr rfl))) (san_nil))))))) (se_var (by rfl) (by first | exact Or.inl rfl | exact Or.inr (Or.inl rfl) | exact Or.inr (Or.inr rfl))) (se_str))) (sss_cons (ss_set (i := 3) sc_law.nd (by rfl) (by first | exact Or.inl rfl | exact Or.inr rfl) (se_ifx (st_tr (se_var (by rfl) (by first | exact Or.inl rfl | exact Or.inr (Or.inl rfl) | exact Or.inr (Or.inr rfl)))) (se_var (by rfl) (by first | exact Or.inl rfl | exact Or.inr (Or.inl rfl) | exact Or.inr (Or.inr rfl))) (se_str))) (sss_cons (ss_set (i := 14) sc_law.nd (by rfl) (by first | exact Or.inl rfl | exact Or.inr rfl) (se_gc (se_lamcall (k := 11) (j := 0) (n := 3) (Ng := N_law_word) x.F_law_word (by rfl) x.g_law_word x.b_law_word sc_law_word (by rfl) (by rfl) (by first | exact Or.inl rfl | exact Or.inr (Or.inl rfl)) (x.tab_law tb) rfl rfl (by rfl) (Room.mono hr (by decide)) (LamX.lamS_by (by show LamX.lamSB (defScope s_law) _ = true; decide +kernel)) (by rfl) (fun _ _ _ _ _ => rfl) (fun A outer s G E f c' hr => se_meth (n := 4) (tb := [(0, r_Check_commits)]) (se_meth0 (tb := [(0, r_Check_copy)]) (se_var (by rfl) (by first | exact Or.inl rfl | exact Or.inr (Or.inl rfl) | exact Or.inr (Or.inr rfl))) (fun p hp => by
      simp only [List.mem_cons, List.not_mem_nil, or_false] at hp
      rcases hp with rfl
      exact ⟨x.cl_Check, x.a_Check_copy, x.d_Check_copy, _, x.me_Check_copy, (fn_Check_copy x tb).mono (by decide), x.b_Check_copy, rfl⟩) hr (takes_of rfl rfl rfl rfl)) (fun p hp => by
      simp only [List.mem_cons, List.not_mem_nil, or_false] at hp
      rcases hp with rfl
      exact ⟨x.cl_Check, x.a_Check_commits, x.d_Check_commits, _, x.me_Check_commits, (fn_Check_commits x tb).mono (by decide), x.b_Check_commits, rfl⟩) hr (takes_of rfl rfl rfl rfl) (san_cons (se_var (by rfl) (by first | exact Or.inl rfl | exact Or.inr (Or.inl rfl) | exact Or.inr (Or.inr rfl))) (san_cons (se_var (by rfl) (by first | exact Or.inl rfl | exact Or.inr (Or.inl rfl) | exact Or.inr (Or.inr rfl))) (san_cons (se_var (by rfl) (by first | exact Or.inl rfl | exact Or.inr (Or.inl rfl) | exact Or.inr (Or.inr rfl))) (san_cons (se_var (by rfl) (by first | exact Or.inl rfl | exact Or.inr (Or.inl rfl) | exact Or.inr (Or.inr rfl))) (san_nil)))))) (fun cdv s G hr F cl hc => gv_law_word x tb cdv s G (Room.mono hr (by decide)) F cl hc) pr_law_word))) (sss_cons (ss_if (st_w (sw_and (st_cmp (opr_or op_ne (op_neD hr.units)) ok_ne (se_var (by rfl) (by first | exact Or.inl rfl | exact Or.inr (Or.inl rfl) | exact Or.inr (Or.inr rfl))) (se_var (by rfl) (by first | exact Or.inl rfl | exact Or.inr (Or.inl rfl) | exact Or.inr (Or.inr rfl))) (by rfl)) (sw_and1 (st_w (sw_or (st_cmp (opr_or op_ne (op_neD hr.units)) ok_ne (se_var (by rfl) (by first | exact Or.inl rfl | exact Or.inr (Or.inl rfl) | exact Or.inr (Or.inr rfl))) (se_str) (by rfl)) (sw_or1 (st_cmp (opr_or op_ne (op_neD hr.units)) ok_ne (se_var (by rfl) (by first | exact Or.inl rfl | exact Or.inr (Or.inl rfl) | exact Or.inr (Or.inr rfl))) (se_str) (by rfl)))))))) (sss_one (ss_ret (se_bl))) (sss_nil)) (sss_cons (ss_if (st_cmp (opr_or op_ne (op_neD hr.units)) ok_ne (se_gc (se_lamcall (k := 11) (j := 0) (n := 3) (Ng := N_law_word) x.F_law_word (by rfl) x.g_law_word x.b_law_word sc_law_word (by rfl) (by rfl) (by first | exact Or.inl rfl | exact Or.inr (Or.inl rfl)) (x.tab_law tb) rfl rfl (by rfl) (Room.mono hr (by decide)) (LamX.lamS_by (by show LamX.lamSB (defScope s_law) _ = true; decide +kernel)) (by rfl) (fun _ _ _ _ _ => rfl) (fun A outer s G E f c' hr => se_meth (n := 4) (tb := [(0, r_Check_would_commit)]) (se_var (by rfl) (by first | exact Or.inl rfl | exact Or.inr (Or.inl rfl) | exact Or.inr (Or.inr rfl))) (fun p hp => by
      simp only [List.mem_cons, List.not_mem_nil, or_false] at hp
      rcases hp with rfl
      exact ⟨x.cl_Check, x.a_Check_would_commit, x.d_Check_would_commit, _, x.me_Check_would_commit, (fn_Check_would_commit x tb).mono (by decide), x.b_Check_would_commit, rfl⟩) hr (takes_of rfl rfl rfl rfl) (san_cons (se_var (by rfl) (by first | exact Or.inl rfl | exact Or.inr (Or.inl rfl) | exact Or.inr (Or.inr rfl))) (san_cons (se_var (by rfl) (by first | exact Or.inl rfl | exact Or.inr (Or.inl rfl) | exact Or.inr (Or.inr rfl))) (san_cons (se_var (by rfl) (by first | exact Or.inl rfl | exact Or.inr (Or.inl rfl) | exact Or.inr (Or.inr rfl))) (san_cons (se_var (by rfl) (by first | exact Or.inl rfl | exact Or.inr (Or.inl rfl) | exact Or.inr (Or.inr rfl))) (san_nil)))))) (fun cdv s G hr F cl hc => gv_law_word x tb cdv s G (Room.mono hr (by decide)) F cl hc) pr_law_word)) (se_var (by rfl) (by first | exact Or.inl rfl | exact Or.inr (Or.inl rfl) | exact Or.inr (Or.inr rfl))) (by rfl)) (sss_one (ss_ret (se_bl))) (sss_nil)) (sss_cons (ss_if (st_cmp (opr_or op_ne (op_neD hr.units)) ok_ne (se_gc (se_lamcall (k := 5) (j := 0) (n := 3) (Ng := N_law_word) x.F_law_word (by rfl) x.g_law_word x.b_law_word sc_law_word (by rfl) (by rfl) (by first | exact Or.inl rfl | exact Or.inr (Or.inl rfl)) (x.tab_law tb) rfl rfl (by rfl) (Room.mono hr (by decide)) (LamX.lamS_by (by show LamX.lamSB (defScope s_law) _ = true; decide +kernel)) (by rfl) (fun _ _ _ _ _ => rfl) (fun A outer s G E f c' hr => se_meth (n := 1) (tb := [(0, r_Check_gives_up)]) (se_meth0 (tb := [(0, r_Check_copy)]) (se_var (by rfl) (by first | exact Or.inl rfl | exact Or.inr (Or.inl rfl) | exact Or.inr (Or.inr rfl))) (fun p hp => by
      simp only [List.mem_cons, List.not_mem_nil, or_false] at hp
      rcases hp with rfl
      exact ⟨x.cl_Check, x.a_Check_copy, x.d_Check_copy, _, x.me_Check_copy, (fn_Check_copy x tb).mono (by decide), x.b_Check_copy, rfl⟩) hr (takes_of rfl rfl rfl rfl)) (fun p hp => by
      simp only [List.mem_cons, List.not_mem_nil, or_false] at hp
      rcases hp with rfl
      exact ⟨x.cl_Check, x.a_Check_gives_up, x.d_Check_gives_up, _, x.me_Check_gives_up, (fn_Check_gives_up x tb).mono (by decide), x.b_Check_gives_up, rfl⟩) hr (takes_of rfl rfl rfl rfl) (san_cons (se_var (by rfl) (by first | exact Or.inl rfl | exact Or.inr (Or.inl rfl) | exact Or.inr (Or.inr rfl))) (san_nil))) (fun cdv s G hr F cl hc => gv_law_word x tb cdv s G (Room.mono hr (by decide)) F cl hc) pr_law_word)) (se_ifx (st_tr (se_var (by rfl) (by first | exact Or.inl rfl | exact Or.inr (Or.inl rfl) | exact Or.inr (Or.inr rfl)))) (se_str) (se_str)) (by rfl)) (sss_one (ss_ret (se_bl))) (sss_nil)) (sss_cons (ss_set (i := 3) sc_law.nd (by rfl) (by first | exact Or.inl rfl | exact Or.inr rfl) (se_ifx (st_tr (se_call ((fn_law_is_int x tb).mono (by decide)) hr (takes_of rfl rfl rfl rfl) (by rfl) x.g_law_is_int x.F_law_is_int.kp x.b_law_is_int (san_cons (se_var (by rfl) (by first | exact Or.inl rfl | exact Or.inr (Or.inl rfl) | exact Or.inr (Or.inr rfl))) (san_cons (se_int) (san_cons (se_int) (san_nil)))))) (se_str) (se_str))) (sss_one (ss_if (st_cmp (opr_or op_ne (op_neD hr.units)) ok_ne (se_gc (se_lamcall (k := 3) (j := 0) (n := 3) (Ng := N_law_word) x.F_law_word (by rfl) x.g_law_word x.b_law_word sc_law_word (by rfl) (by rfl) (by first | exact Or.inl rfl | exact Or.inr (Or.inl rfl)) (x.tab_law tb) rfl rfl (by rfl) (Room.mono hr (by decide)) (LamX.lamS_by (by show LamX.lamSB (defScope s_law) _ = true; decide +kernel)) (by rfl) (fun _ _ _ _ _ => rfl) (fun A outer s G E f c' hr => se_meth (n := 1) (tb := [(0, r_Check_could_ring)]) (se_var (by rfl) (by first | exact Or.inl rfl | exact Or.inr (Or.inl rfl) | exact Or.inr (Or.inr rfl))) (fun p hp => by
      simp only [List.mem_cons, List.not_mem_nil, or_false] at hp
      rcases hp with rfl
      exact ⟨x.cl_Check, x.a_Check_could_ring, x.d_Check_could_ring, _, x.me_Check_could_ring, (fn_Check_could_ring x tb).mono (by decide), x.b_Check_could_ring, rfl⟩) hr (takes_of rfl rfl rfl rfl) (san_cons (se_var (by rfl) (by first | exact Or.inl rfl | exact Or.inr (Or.inl rfl) | exact Or.inr (Or.inr rfl))) (san_nil))) (fun cdv s G hr F cl hc => gv_law_word x tb cdv s G (Room.mono hr (by decide)) F cl hc) pr_law_word)) (se_var (by rfl) (by first | exact Or.inl rfl | exact Or.inr (Or.inl rfl) | exact Or.inr (Or.inr rfl))) (by rfl)) (sss_one (ss_ret (se_bl))) (sss_nil))))))))))))))))) (sss_one (ss_ret (se_cmp (opr_or op_eq (op_eqD hr.units)) ok_eq (se_tupA (n := 3) (san_cons (se_meth0 (tb := [(0, r_Check_last)]) (se_var (by rfl) (by first | exact Or.inl rfl | exact Or.inr (Or.inl rfl) | exact Or.inr (Or.inr rfl))) (fun p hp => by
      simp only [List.mem_cons, List.not_mem_nil, or_false] at hp
      rcases hp with rfl
      exact ⟨x.cl_Check, x.a_Check_last, x.d_Check_last, _, x.me_Check_last, (fn_Check_last x tb).mono (by decide), x.b_Check_last, rfl⟩) hr (takes_of rfl rfl rfl rfl)) (san_cons (se_meth0 (tb := [(0, r_Check_open_entries)]) (se_var (by rfl) (by first | exact Or.inl rfl | exact Or.inr (Or.inl rfl) | exact Or.inr (Or.inr rfl))) (fun p hp => by
      simp only [List.mem_cons, List.not_mem_nil, or_false] at hp
      rcases hp with rfl
      exact ⟨x.cl_Check, x.a_Check_open_entries, x.d_Check_open_entries, _, x.me_Check_open_entries, (fn_Check_open_entries x tb).mono (by decide), x.b_Check_open_entries, rfl⟩) hr (takes_of rfl rfl rfl rfl)) (san_cons (se_meth0 (tb := [(0, r_Check_remembered)]) (se_var (by rfl) (by first | exact Or.inl rfl | exact Or.inr (Or.inl rfl) | exact Or.inr (Or.inr rfl))) (fun p hp => by
      simp only [List.mem_cons, List.not_mem_nil, or_false] at hp
      rcases hp with rfl
      exact ⟨x.cl_Check, x.a_Check_remembered, x.d_Check_remembered, _, x.me_Check_remembered, (fn_Check_remembered x tb).mono (by decide), x.b_Check_remembered, rfl⟩) hr (takes_of rfl rfl rfl rfl)) (san_nil))))) (se_var (by rfl) (by first | exact Or.inl rfl | exact Or.inr (Or.inl rfl) | exact Or.inr (Or.inr rfl))) (by rfl))))))))))
end
/-! the end -/
theorem all_mk {w : World} {K : PySem.W.Frag} {h : Heap} {mg : Str → Option Value} {fa : Addr} {ts : List Addr} (X : K.In h) (G : h.Ns mainGlobals mg) (hfa : mg "law" = some (.ref fa))
    {C_Check : Addr}
    {C_Dealing : Addr}
    {C_StoreError : Addr}
    {C_NoSnapshot : Addr}
    {C_NoNumber : Addr}
    {C_NotOpen : Addr}
    {C_BadSeen : Addr}
    {C_BadWrites : Addr}
    {C_Refused : Addr}
    {C_NotRemembered : Addr}
    {f0 : Addr} {od0 an0 : Option Addr} {sl0 : Array (Option Value)} {oc0 kV0 dc0 pm0 cd0 ct0 : Value}
    {f1 : Addr} {od1 an1 : Option Addr} {sl1 : Array (Option Value)} {oc1 kV1 dc1 pm1 cd1 ct1 : Value}
    {f2 : Addr} {od2 an2 : Option Addr} {sl2 : Array (Option Value)} {oc2 kV2 dc2 pm2 cd2 ct2 : Value}
    {f3 : Addr} {od3 an3 : Option Addr} {sl3 : Array (Option Value)} {oc3 kV3 dc3 pm3 cd3 ct3 : Value}
    {f4 : Addr} {od4 an4 : Option Addr} {sl4 : Array (Option Value)} {oc4 kV4 dc4 pm4 cd4 ct4 : Value}
    {f5 : Addr} {od5 an5 : Option Addr} {sl5 : Array (Option Value)} {oc5 kV5 dc5 pm5 cd5 ct5 : Value}
    {f6 : Addr} {od6 an6 : Option Addr} {sl6 : Array (Option Value)} {oc6 kV6 dc6 pm6 cd6 ct6 : Value}
    {f7 : Addr} {od7 an7 : Option Addr} {sl7 : Array (Option Value)} {oc7 kV7 dc7 pm7 cd7 ct7 : Value}
    {f8 : Addr} {od8 an8 : Option Addr} {sl8 : Array (Option Value)} {oc8 kV8 dc8 pm8 cd8 ct8 : Value}
    {f9 : Addr} {od9 an9 : Option Addr} {sl9 : Array (Option Value)} {oc9 kV9 dc9 pm9 cd9 ct9 : Value}
    {f10 : Addr} {od10 an10 : Option Addr} {sl10 : Array (Option Value)} {oc10 kV10 dc10 pm10 cd10 ct10 : Value}
    {f11 : Addr} {od11 an11 : Option Addr} {sl11 : Array (Option Value)} {oc11 kV11 dc11 pm11 cd11 ct11 : Value}
    {f12 : Addr} {od12 an12 : Option Addr} {sl12 : Array (Option Value)} {oc12 kV12 dc12 pm12 cd12 ct12 : Value}
    {f13 : Addr} {od13 an13 : Option Addr} {sl13 : Array (Option Value)} {oc13 kV13 dc13 pm13 cd13 ct13 : Value}
    {f14 : Addr} {od14 an14 : Option Addr} {sl14 : Array (Option Value)} {oc14 kV14 dc14 pm14 cd14 ct14 : Value}
    {f15 : Addr} {od15 an15 : Option Addr} {sl15 : Array (Option Value)} {oc15 kV15 dc15 pm15 cd15 ct15 : Value}
    {f16 : Addr} {od16 an16 : Option Addr} {sl16 : Array (Option Value)} {oc16 kV16 dc16 pm16 cd16 ct16 : Value}
    {f17 : Addr} {od17 an17 : Option Addr} {sl17 : Array (Option Value)} {oc17 kV17 dc17 pm17 cd17 ct17 : Value}
    {f18 : Addr} {od18 an18 : Option Addr} {sl18 : Array (Option Value)} {oc18 kV18 dc18 pm18 cd18 ct18 : Value}
    {f19 : Addr} {od19 an19 : Option Addr} {sl19 : Array (Option Value)} {oc19 kV19 dc19 pm19 cd19 ct19 : Value}
    {f20 : Addr} {od20 an20 : Option Addr} {sl20 : Array (Option Value)} {oc20 kV20 dc20 pm20 cd20 ct20 : Value}
    {f21 : Addr} {od21 an21 : Option Addr} {sl21 : Array (Option Value)} {oc21 kV21 dc21 pm21 cd21 ct21 : Value}
    {f22 : Addr} {od22 an22 : Option Addr} {sl22 : Array (Option Value)} {oc22 kV22 dc22 pm22 cd22 ct22 : Value}
    {f23 : Addr} {od23 an23 : Option Addr} {sl23 : Array (Option Value)} {oc23 kV23 dc23 pm23 cd23 ct23 : Value}
    {f24 : Addr} {od24 an24 : Option Addr} {sl24 : Array (Option Value)} {oc24 kV24 dc24 pm24 cd24 ct24 : Value}
    {f25 : Addr} {od25 an25 : Option Addr} {sl25 : Array (Option Value)} {oc25 kV25 dc25 pm25 cd25 ct25 : Value}
    {f26 : Addr} {od26 an26 : Option Addr} {sl26 : Array (Option Value)} {oc26 kV26 dc26 pm26 cd26 ct26 : Value}
    {f27 : Addr} {od27 an27 : Option Addr} {sl27 : Array (Option Value)} {oc27 kV27 dc27 pm27 cd27 ct27 : Value}
    {f28 : Addr} {od28 an28 : Option Addr} {sl28 : Array (Option Value)} {oc28 kV28 dc28 pm28 cd28 ct28 : Value}
    {f29 : Addr} {od29 an29 : Option Addr} {sl29 : Array (Option Value)} {oc29 kV29 dc29 pm29 cd29 ct29 : Value}
    {f30 : Addr} {od30 an30 : Option Addr} {sl30 : Array (Option Value)} {oc30 kV30 dc30 pm30 cd30 ct30 : Value}
    {f31 : Addr} {od31 an31 : Option Addr} {sl31 : Array (Option Value)} {oc31 kV31 dc31 pm31 cd31 ct31 : Value}
    {f32 : Addr} {od32 an32 : Option Addr} {sl32 : Array (Option Value)} {oc32 kV32 dc32 pm32 cd32 ct32 : Value}
    {f33 : Addr} {od33 an33 : Option Addr} {sl33 : Array (Option Value)} {oc33 kV33 dc33 pm33 cd33 ct33 : Value}
    {f34 : Addr} {od34 an34 : Option Addr} {sl34 : Array (Option Value)} {oc34 kV34 dc34 pm34 cd34 ct34 : Value}
    {f35 : Addr} {od35 an35 : Option Addr} {sl35 : Array (Option Value)} {oc35 kV35 dc35 pm35 cd35 ct35 : Value}
    {f36 : Addr} {od36 an36 : Option Addr} {sl36 : Array (Option Value)} {oc36 kV36 dc36 pm36 cd36 ct36 : Value}
    {f37 : Addr} {od37 an37 : Option Addr} {sl37 : Array (Option Value)} {oc37 kV37 dc37 pm37 cd37 ct37 : Value}
    {f38 : Addr} {od38 an38 : Option Addr} {sl38 : Array (Option Value)} {oc38 kV38 dc38 pm38 cd38 ct38 : Value}
    {f39 : Addr} {od39 an39 : Option Addr} {sl39 : Array (Option Value)} {oc39 kV39 dc39 pm39 cd39 ct39 : Value}
    {f40 : Addr} {od40 an40 : Option Addr} {sl40 : Array (Option Value)} {oc40 kV40 dc40 pm40 cd40 ct40 : Value}
    {f41 : Addr} {od41 an41 : Option Addr} {sl41 : Array (Option Value)} {oc41 kV41 dc41 pm41 cd41 ct41 : Value}
    {f42 : Addr} {od42 an42 : Option Addr} {sl42 : Array (Option Value)} {oc42 kV42 dc42 pm42 cd42 ct42 : Value}
    {f43 : Addr} {od43 an43 : Option Addr} {sl43 : Array (Option Value)} {oc43 kV43 dc43 pm43 cd43 ct43 : Value}
    {f44 : Addr} {od44 an44 : Option Addr} {sl44 : Array (Option Value)} {oc44 kV44 dc44 pm44 cd44 ct44 : Value}
    {f45 : Addr} {od45 an45 : Option Addr} {sl45 : Array (Option Value)} {oc45 kV45 dc45 pm45 cd45 ct45 : Value}
    {f46 : Addr} {od46 an46 : Option Addr} {sl46 : Array (Option Value)} {oc46 kV46 dc46 pm46 cd46 ct46 : Value}
    {f47 : Addr} {od47 an47 : Option Addr} {sl47 : Array (Option Value)} {oc47 kV47 dc47 pm47 cd47 ct47 : Value}
    {f48 : Addr} {od48 an48 : Option Addr} {sl48 : Array (Option Value)} {oc48 kV48 dc48 pm48 cd48 ct48 : Value}
    {f49 : Addr} {od49 an49 : Option Addr} {sl49 : Array (Option Value)} {oc49 kV49 dc49 pm49 cd49 ct49 : Value}
    {f50 : Addr} {od50 an50 : Option Addr} {sl50 : Array (Option Value)} {oc50 kV50 dc50 pm50 cd50 ct50 : Value}
    {f51 : Addr} {od51 an51 : Option Addr} {sl51 : Array (Option Value)} {oc51 kV51 dc51 pm51 cd51 ct51 : Value}
    {f52 : Addr} {od52 an52 : Option Addr} {sl52 : Array (Option Value)} {oc52 kV52 dc52 pm52 ct52 : Value} {cc52 : Addr}
    {fI_Refused : Addr} {odI_Refused anI_Refused : Option Addr} {slI_Refused : Array (Option Value)} {ocI_Refused kVI_Refused dcI_Refused pmI_Refused cdI_Refused ctI_Refused : Value}
    {t_GREATEST : Tok}
    {t_LONGEST_WORD : Tok}
    (aC_Check : PySem.W.nsIn K mainGlobals "Check" = some (some (.ref C_Check)))
    (aC_Dealing : PySem.W.nsIn K mainGlobals "Dealing" = some (some (.ref C_Dealing)))
    (aC_StoreError : PySem.W.nsIn K mainGlobals "StoreError" = some (some (.ref C_StoreError)))
    (aC_NoSnapshot : PySem.W.nsIn K mainGlobals "NoSnapshot" = some (some (.ref C_NoSnapshot)))
    (aC_NoNumber : PySem.W.nsIn K mainGlobals "NoNumber" = some (some (.ref C_NoNumber)))
    (aC_NotOpen : PySem.W.nsIn K mainGlobals "NotOpen" = some (some (.ref C_NotOpen)))
    (aC_BadSeen : PySem.W.nsIn K mainGlobals "BadSeen" = some (some (.ref C_BadSeen)))
    (aC_BadWrites : PySem.W.nsIn K mainGlobals "BadWrites" = some (some (.ref C_BadWrites)))
    (aC_Refused : PySem.W.nsIn K mainGlobals "Refused" = some (some (.ref C_Refused)))
    (aC_NotRemembered : PySem.W.nsIn K mainGlobals "NotRemembered" = some (some (.ref C_NotRemembered)))
    (a0 : PySem.W.nsIn K mainGlobals "_law_hand" = some (some (.ref f0)))
    (l0 : K.lookup f0 = some ⟨oc0, od0, .func (PySem.W.fnOf "_law_hand" "_law_hand" (defArgs s_law_hand) (defBody s_law_hand) (defScope s_law_hand) .none kV0 dc0 pm0 an0 cd0 ct0), sl0⟩)
    (c0 : PySem.W.codeIn K cd0 "_law_hand" = true)
    (k0 : PySem.W.keepIn K (.ref f0) = true)
    (a1 : PySem.W.nsIn K mainGlobals "_law_draw" = some (some (.ref f1)))
    (l1 : K.lookup f1 = some ⟨oc1, od1, .func (PySem.W.fnOf "_law_draw" "_law_draw" (defArgs s_law_draw) (defBody s_law_draw) (defScope s_law_draw) .none kV1 dc1 pm1 an1 cd1 ct1), sl1⟩)
    (c1 : PySem.W.codeIn K cd1 "_law_draw" = true)
    (k1 : PySem.W.keepIn K (.ref f1) = true)
    (a2 : PySem.W.nsIn K mainGlobals "_law_deep" = some (some (.ref f2)))
    (l2 : K.lookup f2 = some ⟨oc2, od2, .func (PySem.W.fnOf "_law_deep" "_law_deep" (defArgs s_law_deep) (defBody s_law_deep) (defScope s_law_deep) .none kV2 dc2 pm2 an2 cd2 ct2), sl2⟩)
    (c2 : PySem.W.codeIn K cd2 "_law_deep" = true)
    (k2 : PySem.W.keepIn K (.ref f2) = true)
    (a3 : PySem.W.nsIn K mainGlobals "_law_odd" = some (some (.ref f3)))
    (l3 : K.lookup f3 = some ⟨oc3, od3, .func (PySem.W.fnOf "_law_odd" "_law_odd" (defArgs s_law_odd) (defBody s_law_odd) (defScope s_law_odd) .none kV3 dc3 pm3 an3 cd3 ct3), sl3⟩)
    (c3 : PySem.W.codeIn K cd3 "_law_odd" = true)
    (k3 : PySem.W.keepIn K (.ref f3) = true)
    (a4 : PySem.W.nsIn K mainGlobals "_law_is_int" = some (some (.ref f4)))
    (l4 : K.lookup f4 = some ⟨oc4, od4, .func (PySem.W.fnOf "_law_is_int" "_law_is_int" (defArgs s_law_is_int) (defBody s_law_is_int) (defScope s_law_is_int) .none kV4 dc4 pm4 an4 cd4 ct4), sl4⟩)
    (c4 : PySem.W.codeIn K cd4 "_law_is_int" = true)
    (k4 : PySem.W.keepIn K (.ref f4) = true)
    (a5 : PySem.W.nsIn K mainGlobals "_law_word" = some (some (.ref f5)))
    (l5 : K.lookup f5 = some ⟨oc5, od5, .func (PySem.W.fnOf "_law_word" "_law_word" (defArgs s_law_word) (defBody s_law_word) (defScope s_law_word) .none kV5 dc5 pm5 an5 cd5 ct5), sl5⟩)
    (c5 : PySem.W.codeIn K cd5 "_law_word" = true)
    (k5 : PySem.W.keepIn K (.ref f5) = true)
    (a6 : PySem.W.nsIn K mainGlobals "is_integer" = some (some (.ref f6)))
    (l6 : K.lookup f6 = some ⟨oc6, od6, .func (PySem.W.fnOf "is_integer" "is_integer" (defArgs s_is_integer) (defBody s_is_integer) (defScope s_is_integer) .none kV6 dc6 pm6 an6 cd6 ct6), sl6⟩)
    (c6 : PySem.W.codeIn K cd6 "is_integer" = true)
    (k6 : PySem.W.keepIn K (.ref f6) = true)
    (a7 : PySem.W.nsIn K mainGlobals "is_number" = some (some (.ref f7)))
    (l7 : K.lookup f7 = some ⟨oc7, od7, .func (PySem.W.fnOf "is_number" "is_number" (defArgs s_is_number) (defBody s_is_number) (defScope s_is_number) .none kV7 dc7 pm7 an7 cd7 ct7), sl7⟩)
    (c7 : PySem.W.codeIn K cd7 "is_number" = true)
    (k7 : PySem.W.keepIn K (.ref f7) = true)
    (a8 : PySem.W.findIn K (.ref C_Check) "__init__" = some (some (.ref f8)))
    (i8 : PySem.W.isFn K (.ref f8) = true)
    (l8 : K.lookup f8 = some ⟨oc8, od8, .func (PySem.W.fnOf "__init__" "Check.__init__" (defArgs s_Check_init) (defBody s_Check_init) (defScope s_Check_init) .none kV8 dc8 pm8 an8 cd8 ct8), sl8⟩)
    (c8 : PySem.W.codeIn K cd8 "Check.__init__" = true)
    (k8 : PySem.W.keepIn K (.ref f8) = true)
    (a9 : PySem.W.nsIn K mainGlobals "is_within" = some (some (.ref f9)))
    (l9 : K.lookup f9 = some ⟨oc9, od9, .func (PySem.W.fnOf "is_within" "is_within" (defArgs s_is_within) (defBody s_is_within) (defScope s_is_within) .none kV9 dc9 pm9 an9 cd9 ct9), sl9⟩)
    (c9 : PySem.W.codeIn K cd9 "is_within" = true)
    (k9 : PySem.W.keepIn K (.ref f9) = true)
    (a10 : PySem.W.findIn K (.ref C_Check) "least_snapshot" = some (some (.ref f10)))
    (i10 : PySem.W.isFn K (.ref f10) = true)
    (l10 : K.lookup f10 = some ⟨oc10, od10, .func (PySem.W.fnOf "least_snapshot" "Check.least_snapshot" (defArgs s_Check_least_snapshot) (defBody s_Check_least_snapshot) (defScope s_Check_least_snapshot) .none kV10 dc10 pm10 an10 cd10 ct10), sl10⟩)
    (c10 : PySem.W.codeIn K cd10 "Check.least_snapshot" = true)
    (k10 : PySem.W.keepIn K (.ref f10) = true)
    (a11 : PySem.W.findIn K (.ref C_Check) "opens" = some (some (.ref f11)))
    (i11 : PySem.W.isFn K (.ref f11) = true)
    (l11 : K.lookup f11 = some ⟨oc11, od11, .func (PySem.W.fnOf "opens" "Check.opens" (defArgs s_Check_opens) (defBody s_Check_opens) (defScope s_Check_opens) .none kV11 dc11 pm11 an11 cd11 ct11), sl11⟩)
    (c11 : PySem.W.codeIn K cd11 "Check.opens" = true)
    (k11 : PySem.W.keepIn K (.ref f11) = true)
    (a12 : PySem.W.findIn K (.ref C_Check) "demand_open" = some (some (.ref f12)))
    (i12 : PySem.W.isFn K (.ref f12) = true)
    (l12 : K.lookup f12 = some ⟨oc12, od12, .func (PySem.W.fnOf "demand_open" "Check.demand_open" (defArgs s_Check_demand_open) (defBody s_Check_demand_open) (defScope s_Check_demand_open) .none kV12 dc12 pm12 an12 cd12 ct12), sl12⟩)
    (c12 : PySem.W.codeIn K cd12 "Check.demand_open" = true)
    (k12 : PySem.W.keepIn K (.ref f12) = true)
    (a13 : PySem.W.nsIn K mainGlobals "is_word" = some (some (.ref f13)))
    (l13 : K.lookup f13 = some ⟨oc13, od13, .func (PySem.W.fnOf "is_word" "is_word" (defArgs s_is_word) (defBody s_is_word) (defScope s_is_word) .none kV13 dc13 pm13 an13 cd13 ct13), sl13⟩)
    (c13 : PySem.W.codeIn K cd13 "is_word" = true)
    (k13 : PySem.W.keepIn K (.ref f13) = true)
    (a14 : PySem.W.nsIn K mainGlobals "is_key" = some (some (.ref f14)))
    (l14 : K.lookup f14 = some ⟨oc14, od14, .func (PySem.W.fnOf "is_key" "is_key" (defArgs s_is_key) (defBody s_is_key) (defScope s_is_key) .none kV14 dc14 pm14 an14 cd14 ct14), sl14⟩)
    (c14 : PySem.W.codeIn K cd14 "is_key" = true)
    (k14 : PySem.W.keepIn K (.ref f14) = true)
    (a15 : PySem.W.nsIn K mainGlobals "is_tuple_of" = some (some (.ref f15)))
    (l15 : K.lookup f15 = some ⟨oc15, od15, .func (PySem.W.fnOf "is_tuple_of" "is_tuple_of" (defArgs s_is_tuple_of_is_key) (defBody s_is_tuple_of_is_key) (defScope s_is_tuple_of_is_key) .none kV15 dc15 pm15 an15 cd15 ct15), sl15⟩)
    (c15 : PySem.W.codeIn K cd15 "is_tuple_of" = true)
    (k15 : PySem.W.keepIn K (.ref f15) = true)
    (a16 : PySem.W.nsIn K mainGlobals "is_ascending" = some (some (.ref f16)))
    (l16 : K.lookup f16 = some ⟨oc16, od16, .func (PySem.W.fnOf "is_ascending" "is_ascending" (defArgs s_is_ascending) (defBody s_is_ascending) (defScope s_is_ascending) .none kV16 dc16 pm16 an16 cd16 ct16), sl16⟩)
    (c16 : PySem.W.codeIn K cd16 "is_ascending" = true)
    (k16 : PySem.W.keepIn K (.ref f16) = true)
    (a17 : PySem.W.nsIn K mainGlobals "is_keys" = some (some (.ref f17)))
    (l17 : K.lookup f17 = some ⟨oc17, od17, .func (PySem.W.fnOf "is_keys" "is_keys" (defArgs s_is_keys) (defBody s_is_keys) (defScope s_is_keys) .none kV17 dc17 pm17 an17 cd17 ct17), sl17⟩)
    (c17 : PySem.W.codeIn K cd17 "is_keys" = true)
    (k17 : PySem.W.keepIn K (.ref f17) = true)
    (a18 : PySem.W.nsIn K mainGlobals "is_tuple" = some (some (.ref f18)))
    (l18 : K.lookup f18 = some ⟨oc18, od18, .func (PySem.W.fnOf "is_tuple" "is_tuple" (defArgs s_is_tuple) (defBody s_is_tuple) (defScope s_is_tuple) .none kV18 dc18 pm18 an18 cd18 ct18), sl18⟩)
    (c18 : PySem.W.codeIn K cd18 "is_tuple" = true)
    (k18 : PySem.W.keepIn K (.ref f18) = true)
    (a19 : PySem.W.nsIn K mainGlobals "is_range" = some (some (.ref f19)))
    (l19 : K.lookup f19 = some ⟨oc19, od19, .func (PySem.W.fnOf "is_range" "is_range" (defArgs s_is_range) (defBody s_is_range) (defScope s_is_range) .none kV19 dc19 pm19 an19 cd19 ct19), sl19⟩)
    (c19 : PySem.W.codeIn K cd19 "is_range" = true)
    (k19 : PySem.W.keepIn K (.ref f19) = true)
    (a20 : PySem.W.nsIn K mainGlobals "is_tuple_of" = some (some (.ref f20)))
    (l20 : K.lookup f20 = some ⟨oc20, od20, .func (PySem.W.fnOf "is_tuple_of" "is_tuple_of" (defArgs s_is_tuple_of_is_range) (defBody s_is_tuple_of_is_range) (defScope s_is_tuple_of_is_range) .none kV20 dc20 pm20 an20 cd20 ct20), sl20⟩)
    (c20 : PySem.W.codeIn K cd20 "is_tuple_of" = true)
    (k20 : PySem.W.keepIn K (.ref f20) = true)
    (a21 : PySem.W.nsIn K mainGlobals "is_ranges" = some (some (.ref f21)))
    (l21 : K.lookup f21 = some ⟨oc21, od21, .func (PySem.W.fnOf "is_ranges" "is_ranges" (defArgs s_is_ranges) (defBody s_is_ranges) (defScope s_is_ranges) .none kV21 dc21 pm21 an21 cd21 ct21), sl21⟩)
    (c21 : PySem.W.codeIn K cd21 "is_ranges" = true)
    (k21 : PySem.W.keepIn K (.ref f21) = true)
    (a22 : PySem.W.nsIn K mainGlobals "is_worth" = some (some (.ref f22)))
    (l22 : K.lookup f22 = some ⟨oc22, od22, .func (PySem.W.fnOf "is_worth" "is_worth" (defArgs s_is_worth) (defBody s_is_worth) (defScope s_is_worth) .none kV22 dc22 pm22 an22 cd22 ct22), sl22⟩)
    (c22 : PySem.W.codeIn K cd22 "is_worth" = true)
    (k22 : PySem.W.keepIn K (.ref f22) = true)
    (a23 : PySem.W.nsIn K mainGlobals "is_mark" = some (some (.ref f23)))
    (l23 : K.lookup f23 = some ⟨oc23, od23, .func (PySem.W.fnOf "is_mark" "is_mark" (defArgs s_is_mark) (defBody s_is_mark) (defScope s_is_mark) .none kV23 dc23 pm23 an23 cd23 ct23), sl23⟩)
    (c23 : PySem.W.codeIn K cd23 "is_mark" = true)
    (k23 : PySem.W.keepIn K (.ref f23) = true)
    (a24 : PySem.W.nsIn K mainGlobals "is_write" = some (some (.ref f24)))
    (l24 : K.lookup f24 = some ⟨oc24, od24, .func (PySem.W.fnOf "is_write" "is_write" (defArgs s_is_write) (defBody s_is_write) (defScope s_is_write) .none kV24 dc24 pm24 an24 cd24 ct24), sl24⟩)
    (c24 : PySem.W.codeIn K cd24 "is_write" = true)
    (k24 : PySem.W.keepIn K (.ref f24) = true)
    (a25 : PySem.W.nsIn K mainGlobals "is_tuple_of" = some (some (.ref f25)))
    (l25 : K.lookup f25 = some ⟨oc25, od25, .func (PySem.W.fnOf "is_tuple_of" "is_tuple_of" (defArgs s_is_tuple_of_is_write) (defBody s_is_tuple_of_is_write) (defScope s_is_tuple_of_is_write) .none kV25 dc25 pm25 an25 cd25 ct25), sl25⟩)
    (c25 : PySem.W.codeIn K cd25 "is_tuple_of" = true)
    (k25 : PySem.W.keepIn K (.ref f25) = true)
    (a26 : PySem.W.nsIn K mainGlobals "is_writes" = some (some (.ref f26)))
    (l26 : K.lookup f26 = some ⟨oc26, od26, .func (PySem.W.fnOf "is_writes" "is_writes" (defArgs s_is_writes) (defBody s_is_writes) (defScope s_is_writes) .none kV26 dc26 pm26 an26 cd26 ct26), sl26⟩)
    (c26 : PySem.W.codeIn K cd26 "is_writes" = true)
    (k26 : PySem.W.keepIn K (.ref f26) = true)
    (a27 : PySem.W.nsIn K mainGlobals "is_number_for" = some (some (.ref f27)))
    (l27 : K.lookup f27 = some ⟨oc27, od27, .func (PySem.W.fnOf "is_number_for" "is_number_for" (defArgs s_is_number_for) (defBody s_is_number_for) (defScope s_is_number_for) .none kV27 dc27 pm27 an27 cd27 ct27), sl27⟩)
    (c27 : PySem.W.codeIn K cd27 "is_number_for" = true)
    (k27 : PySem.W.keepIn K (.ref f27) = true)
    (a28 : PySem.W.findIn K (.ref C_Dealing) "__init__" = some (some (.ref f28)))
    (i28 : PySem.W.isFn K (.ref f28) = true)
    (l28 : K.lookup f28 = some ⟨oc28, od28, .func (PySem.W.fnOf "__init__" "Dealing.__init__" (defArgs s_Dealing_init) (defBody s_Dealing_init) (defScope s_Dealing_init) .none kV28 dc28 pm28 an28 cd28 ct28), sl28⟩)
    (c28 : PySem.W.codeIn K cd28 "Dealing.__init__" = true)
    (k28 : PySem.W.keepIn K (.ref f28) = true)
    (a29 : PySem.W.nsIn K mainGlobals "writes_key" = some (some (.ref f29)))
    (l29 : K.lookup f29 = some ⟨oc29, od29, .func (PySem.W.fnOf "writes_key" "writes_key" (defArgs s_writes_key) (defBody s_writes_key) (defScope s_writes_key) .none kV29 dc29 pm29 an29 cd29 ct29), sl29⟩)
    (c29 : PySem.W.codeIn K cd29 "writes_key" = true)
    (k29 : PySem.W.keepIn K (.ref f29) = true)
    (a30 : PySem.W.nsIn K mainGlobals "saw_key" = some (some (.ref f30)))
    (l30 : K.lookup f30 = some ⟨oc30, od30, .func (PySem.W.fnOf "saw_key" "saw_key" (defArgs s_saw_key) (defBody s_saw_key) (defScope s_saw_key) .none kV30 dc30 pm30 an30 cd30 ct30), sl30⟩)
    (c30 : PySem.W.codeIn K cd30 "saw_key" = true)
    (k30 : PySem.W.keepIn K (.ref f30) = true)
    (a31 : PySem.W.nsIn K mainGlobals "is_tied" = some (some (.ref f31)))
    (l31 : K.lookup f31 = some ⟨oc31, od31, .func (PySem.W.fnOf "is_tied" "is_tied" (defArgs s_is_tied) (defBody s_is_tied) (defScope s_is_tied) .none kV31 dc31 pm31 an31 cd31 ct31), sl31⟩)
    (c31 : PySem.W.codeIn K cd31 "is_tied" = true)
    (k31 : PySem.W.keepIn K (.ref f31) = true)
    (a32 : PySem.W.findIn K (.ref C_Check) "ways_with" = some (some (.ref f32)))
    (i32 : PySem.W.isFn K (.ref f32) = true)
    (l32 : K.lookup f32 = some ⟨oc32, od32, .func (PySem.W.fnOf "ways_with" "Check.ways_with" (defArgs s_Check_ways_with) (defBody s_Check_ways_with) (defScope s_Check_ways_with) .none kV32 dc32 pm32 an32 cd32 ct32), sl32⟩)
    (c32 : PySem.W.codeIn K cd32 "Check.ways_with" = true)
    (k32 : PySem.W.keepIn K (.ref f32) = true)
    (a33 : PySem.W.nsIn K mainGlobals "ring_from" = some (some (.ref f33)))
    (l33 : K.lookup f33 = some ⟨oc33, od33, .func (PySem.W.fnOf "ring_from" "ring_from" (defArgs s_ring_from) (defBody s_ring_from) (defScope s_ring_from) .none kV33 dc33 pm33 an33 cd33 ct33), sl33⟩)
    (c33 : PySem.W.codeIn K cd33 "ring_from" = true)
    (k33 : PySem.W.keepIn K (.ref f33) = true)
    (a34 : PySem.W.findIn K (.ref C_Check) "judged" = some (some (.ref f34)))
    (i34 : PySem.W.isFn K (.ref f34) = true)
    (l34 : K.lookup f34 = some ⟨oc34, od34, .func (PySem.W.fnOf "judged" "Check.judged" (defArgs s_Check_judged) (defBody s_Check_judged) (defScope s_Check_judged) .none kV34 dc34 pm34 an34 cd34 ct34), sl34⟩)
    (c34 : PySem.W.codeIn K cd34 "Check.judged" = true)
    (k34 : PySem.W.keepIn K (.ref f34) = true)
    (a35 : PySem.W.nsIn K mainGlobals "reached_from" = some (some (.ref f35)))
    (l35 : K.lookup f35 = some ⟨oc35, od35, .func (PySem.W.fnOf "reached_from" "reached_from" (defArgs s_reached_from) (defBody s_reached_from) (defScope s_reached_from) .none kV35 dc35 pm35 an35 cd35 ct35), sl35⟩)
    (c35 : PySem.W.codeIn K cd35 "reached_from" = true)
    (k35 : PySem.W.keepIn K (.ref f35) = true)
    (a36 : PySem.W.findIn K (.ref C_Check) "unseen" = some (some (.ref f36)))
    (i36 : PySem.W.isFn K (.ref f36) = true)
    (l36 : K.lookup f36 = some ⟨oc36, od36, .func (PySem.W.fnOf "unseen" "Check.unseen" (defArgs s_Check_unseen) (defBody s_Check_unseen) (defScope s_Check_unseen) .none kV36 dc36 pm36 an36 cd36 ct36), sl36⟩)
    (c36 : PySem.W.codeIn K cd36 "Check.unseen" = true)
    (k36 : PySem.W.keepIn K (.ref f36) = true)
    (a37 : PySem.W.findIn K (.ref C_Check) "forget" = some (some (.ref f37)))
    (i37 : PySem.W.isFn K (.ref f37) = true)
    (l37 : K.lookup f37 = some ⟨oc37, od37, .func (PySem.W.fnOf "forget" "Check.forget" (defArgs s_Check_forget) (defBody s_Check_forget) (defScope s_Check_forget) .none kV37 dc37 pm37 an37 cd37 ct37), sl37⟩)
    (c37 : PySem.W.codeIn K cd37 "Check.forget" = true)
    (k37 : PySem.W.keepIn K (.ref f37) = true)
    (a38 : PySem.W.findIn K (.ref C_Check) "commits" = some (some (.ref f38)))
    (i38 : PySem.W.isFn K (.ref f38) = true)
    (l38 : K.lookup f38 = some ⟨oc38, od38, .func (PySem.W.fnOf "commits" "Check.commits" (defArgs s_Check_commits) (defBody s_Check_commits) (defScope s_Check_commits) .none kV38 dc38 pm38 an38 cd38 ct38), sl38⟩)
    (c38 : PySem.W.codeIn K cd38 "Check.commits" = true)
    (k38 : PySem.W.keepIn K (.ref f38) = true)
    (a39 : PySem.W.findIn K (.ref C_Check) "gives_up" = some (some (.ref f39)))
    (i39 : PySem.W.isFn K (.ref f39) = true)
    (l39 : K.lookup f39 = some ⟨oc39, od39, .func (PySem.W.fnOf "gives_up" "Check.gives_up" (defArgs s_Check_gives_up) (defBody s_Check_gives_up) (defScope s_Check_gives_up) .none kV39 dc39 pm39 an39 cd39 ct39), sl39⟩)
    (c39 : PySem.W.codeIn K cd39 "Check.gives_up" = true)
    (k39 : PySem.W.keepIn K (.ref f39) = true)
    (a40 : PySem.W.nsIn K mainGlobals "_law_ready" = some (some (.ref f40)))
    (l40 : K.lookup f40 = some ⟨oc40, od40, .func (PySem.W.fnOf "_law_ready" "_law_ready" (defArgs s_law_ready) (defBody s_law_ready) (defScope s_law_ready) .none kV40 dc40 pm40 an40 cd40 ct40), sl40⟩)
    (c40 : PySem.W.codeIn K cd40 "_law_ready" = true)
    (k40 : PySem.W.keepIn K (.ref f40) = true)
    (a41 : PySem.W.findIn K (.ref C_Check) "last" = some (some (.ref f41)))
    (i41 : PySem.W.isFn K (.ref f41) = true)
    (l41 : K.lookup f41 = some ⟨oc41, od41, .func (PySem.W.fnOf "last" "Check.last" (defArgs s_Check_last) (defBody s_Check_last) (defScope s_Check_last) .none kV41 dc41 pm41 an41 cd41 ct41), sl41⟩)
    (c41 : PySem.W.codeIn K cd41 "Check.last" = true)
    (k41 : PySem.W.keepIn K (.ref f41) = true)
    (a42 : PySem.W.findIn K (.ref C_Check) "open_entries" = some (some (.ref f42)))
    (i42 : PySem.W.isFn K (.ref f42) = true)
    (l42 : K.lookup f42 = some ⟨oc42, od42, .func (PySem.W.fnOf "open_entries" "Check.open_entries" (defArgs s_Check_open_entries) (defBody s_Check_open_entries) (defScope s_Check_open_entries) .none kV42 dc42 pm42 an42 cd42 ct42), sl42⟩)
    (c42 : PySem.W.codeIn K cd42 "Check.open_entries" = true)
    (k42 : PySem.W.keepIn K (.ref f42) = true)
    (a43 : PySem.W.findIn K (.ref C_Check) "remembered" = some (some (.ref f43)))
    (i43 : PySem.W.isFn K (.ref f43) = true)
    (l43 : K.lookup f43 = some ⟨oc43, od43, .func (PySem.W.fnOf "remembered" "Check.remembered" (defArgs s_Check_remembered) (defBody s_Check_remembered) (defScope s_Check_remembered) .none kV43 dc43 pm43 an43 cd43 ct43), sl43⟩)
    (c43 : PySem.W.codeIn K cd43 "Check.remembered" = true)
    (k43 : PySem.W.keepIn K (.ref f43) = true)
    (a44 : PySem.W.findIn K (.ref C_Check) "copy" = some (some (.ref f44)))
    (i44 : PySem.W.isFn K (.ref f44) = true)
    (l44 : K.lookup f44 = some ⟨oc44, od44, .func (PySem.W.fnOf "copy" "Check.copy" (defArgs s_Check_copy) (defBody s_Check_copy) (defScope s_Check_copy) .none kV44 dc44 pm44 an44 cd44 ct44), sl44⟩)
    (c44 : PySem.W.codeIn K cd44 "Check.copy" = true)
    (k44 : PySem.W.keepIn K (.ref f44) = true)
    (a45 : PySem.W.nsIn K mainGlobals "_law_is_key" = some (some (.ref f45)))
    (l45 : K.lookup f45 = some ⟨oc45, od45, .func (PySem.W.fnOf "_law_is_key" "_law_is_key" (defArgs s_law_is_key) (defBody s_law_is_key) (defScope s_law_is_key) .none kV45 dc45 pm45 an45 cd45 ct45), sl45⟩)
    (c45 : PySem.W.codeIn K cd45 "_law_is_key" = true)
    (k45 : PySem.W.keepIn K (.ref f45) = true)
    (a46 : PySem.W.nsIn K mainGlobals "_law_are_writes" = some (some (.ref f46)))
    (l46 : K.lookup f46 = some ⟨oc46, od46, .func (PySem.W.fnOf "_law_are_writes" "_law_are_writes" (defArgs s_law_are_writes) (defBody s_law_are_writes) (defScope s_law_are_writes) .none kV46 dc46 pm46 an46 cd46 ct46), sl46⟩)
    (c46 : PySem.W.codeIn K cd46 "_law_are_writes" = true)
    (k46 : PySem.W.keepIn K (.ref f46) = true)
    (a47 : PySem.W.nsIn K mainGlobals "_law_are_keys" = some (some (.ref f47)))
    (l47 : K.lookup f47 = some ⟨oc47, od47, .func (PySem.W.fnOf "_law_are_keys" "_law_are_keys" (defArgs s_law_are_keys) (defBody s_law_are_keys) (defScope s_law_are_keys) .none kV47 dc47 pm47 an47 cd47 ct47), sl47⟩)
    (c47 : PySem.W.codeIn K cd47 "_law_are_keys" = true)
    (k47 : PySem.W.keepIn K (.ref f47) = true)
    (a48 : PySem.W.nsIn K mainGlobals "_law_are_ranges" = some (some (.ref f48)))
    (l48 : K.lookup f48 = some ⟨oc48, od48, .func (PySem.W.fnOf "_law_are_ranges" "_law_are_ranges" (defArgs s_law_are_ranges) (defBody s_law_are_ranges) (defScope s_law_are_ranges) .none kV48 dc48 pm48 an48 cd48 ct48), sl48⟩)
    (c48 : PySem.W.codeIn K cd48 "_law_are_ranges" = true)
    (k48 : PySem.W.keepIn K (.ref f48) = true)
    (a49 : PySem.W.findIn K (.ref C_Check) "would_commit" = some (some (.ref f49)))
    (i49 : PySem.W.isFn K (.ref f49) = true)
    (l49 : K.lookup f49 = some ⟨oc49, od49, .func (PySem.W.fnOf "would_commit" "Check.would_commit" (defArgs s_Check_would_commit) (defBody s_Check_would_commit) (defScope s_Check_would_commit) .none kV49 dc49 pm49 an49 cd49 ct49), sl49⟩)
    (c49 : PySem.W.codeIn K cd49 "Check.would_commit" = true)
    (k49 : PySem.W.keepIn K (.ref f49) = true)
    (a50 : PySem.W.findIn K (.ref C_Check) "key_into" = some (some (.ref f50)))
    (i50 : PySem.W.isFn K (.ref f50) = true)
    (l50 : K.lookup f50 = some ⟨oc50, od50, .func (PySem.W.fnOf "key_into" "Check.key_into" (defArgs s_Check_key_into) (defBody s_Check_key_into) (defScope s_Check_key_into) .none kV50 dc50 pm50 an50 cd50 ct50), sl50⟩)
    (c50 : PySem.W.codeIn K cd50 "Check.key_into" = true)
    (k50 : PySem.W.keepIn K (.ref f50) = true)
    (a51 : PySem.W.findIn K (.ref C_Check) "could_ring" = some (some (.ref f51)))
    (i51 : PySem.W.isFn K (.ref f51) = true)
    (l51 : K.lookup f51 = some ⟨oc51, od51, .func (PySem.W.fnOf "could_ring" "Check.could_ring" (defArgs s_Check_could_ring) (defBody s_Check_could_ring) (defScope s_Check_could_ring) .none kV51 dc51 pm51 an51 cd51 ct51), sl51⟩)
    (c51 : PySem.W.codeIn K cd51 "Check.could_ring" = true)
    (k51 : PySem.W.keepIn K (.ref f51) = true)
    (a52 : PySem.W.nsIn K mainGlobals "law" = some (some (.ref f52)))
    (l52 : K.lookup f52 = some ⟨oc52, od52, .func (PySem.W.fnOf "law" "law" (defArgs s_law) (defBody s_law) (defScope s_law) .none kV52 dc52 pm52 an52 (.ref cc52) ct52), sl52⟩)
    (tc52 : PySem.W.codeHdIn K cc52 (He.tabOf K cc52) = true)
    (tn52 : K.lookup (He.tabOf K cc52) = none)
    (tm52 : ts.contains (He.tabOf K cc52) = true)
    (c52 : PySem.W.codeIn K (.ref cc52) "law" = true)
    (k52 : PySem.W.keepIn K (.ref f52) = true)
    (pg_Check : PySem.W.plainGet K C_Check Str.empty = true)
    (hd_Check : PySem.W.hasDictIn K C_Check = true)
    (po_Check : PySem.W.plainOver K C_Check = true)
    (sa_Check : PySem.W.findIn K (.ref C_Check) "__setattr__" = some (some (.builtin "object.__setattr__")))
    (pg_Dealing : PySem.W.plainGet K C_Dealing Str.empty = true)
    (hd_Dealing : PySem.W.hasDictIn K C_Dealing = true)
    (po_Dealing : PySem.W.plainOver K C_Dealing = true)
    (sa_Dealing : PySem.W.findIn K (.ref C_Dealing) "__setattr__" = some (some (.builtin "object.__setattr__")))
    (xa_Dealing : PySem.W.findIn K (.ref C_Dealing) "__class__" = some (some (.builtin "object.__class__")))
    (xo_Dealing : PySem.W.mroIn K C_Dealing (.type "object") = some true)
    (xn_all : PySem.W.specialIn K (.builtin "object.__class__") "__get__" = some (some (.builtin "getset_descriptor.__get__")))
    (xt_all : PySem.W.takesIn K (.builtin "object.__class__") = some true)
    (ki_Dealing_int : PySem.W.kitOne K (.ref C_Dealing) (.type "int") = some false)
    (ki_Dealing_bool : PySem.W.kitOne K (.ref C_Dealing) (.type "bool") = some false)
    (ki_Dealing_str : PySem.W.kitOne K (.ref C_Dealing) (.type "str") = some false)
    (ki_Dealing_tuple : PySem.W.kitOne K (.ref C_Dealing) (.type "tuple") = some false)
    (ex_StoreError : PySem.W.excIn K C_StoreError [.type "ValueError", .type "Exception", .type "BaseException", .type "object"] "ValueError.__new__" = true)
    (ek_StoreError : PySem.W.keepIn K (.ref C_StoreError) = true)
    (es_StoreError : PySem.W.subIn K (.ref C_StoreError) (.type "BaseException") = some true)
    (et_StoreError : PySem.W.typeIn K (.ref C_StoreError) = some (.type "type"))
    (ei_StoreError : PySem.W.isClsIn K C_StoreError = true)
    (kb_StoreError_ValueError : PySem.W.kitOne K (.ref C_StoreError) (.type "ValueError") = some true)
    (xg_StoreError : PySem.W.findIn K (.ref C_StoreError) "__getattribute__" = some (some (.builtin "BaseException.__getattribute__")))
    (xk_StoreError : PySem.W.findIn K (.ref C_StoreError) "__getattr__" = some none)
    (xd_StoreError : PySem.W.hasDictIn K C_StoreError = true)
    (xa_StoreError : PySem.W.findIn K (.ref C_StoreError) "__class__" = some (some (.builtin "object.__class__")))
    (xo_StoreError : PySem.W.mroIn K C_StoreError (.type "object") = some true)
    (kt_StoreError_BadSeen : PySem.W.kitOne K (.ref C_StoreError) (.ref C_BadSeen) = some false)
    (kt_StoreError_BadWrites : PySem.W.kitOne K (.ref C_StoreError) (.ref C_BadWrites) = some false)
    (kt_StoreError_NoNumber : PySem.W.kitOne K (.ref C_StoreError) (.ref C_NoNumber) = some false)
    (kt_StoreError_NoSnapshot : PySem.W.kitOne K (.ref C_StoreError) (.ref C_NoSnapshot) = some false)
    (kt_StoreError_NotOpen : PySem.W.kitOne K (.ref C_StoreError) (.ref C_NotOpen) = some false)
    (kt_StoreError_NotRemembered : PySem.W.kitOne K (.ref C_StoreError) (.ref C_NotRemembered) = some false)
    (su_StoreError_StoreError : PySem.W.subIn K (.ref C_StoreError) (.ref C_StoreError) = some true)
    (ex_NoSnapshot : PySem.W.excIn K C_NoSnapshot [.type "ValueError", .type "Exception", .type "BaseException", .type "object"] "ValueError.__new__" = true)
    (ek_NoSnapshot : PySem.W.keepIn K (.ref C_NoSnapshot) = true)
    (es_NoSnapshot : PySem.W.subIn K (.ref C_NoSnapshot) (.type "BaseException") = some true)
    (et_NoSnapshot : PySem.W.typeIn K (.ref C_NoSnapshot) = some (.type "type"))
    (ei_NoSnapshot : PySem.W.isClsIn K C_NoSnapshot = true)
    (kb_NoSnapshot_ValueError : PySem.W.kitOne K (.ref C_NoSnapshot) (.type "ValueError") = some true)
    (xg_NoSnapshot : PySem.W.findIn K (.ref C_NoSnapshot) "__getattribute__" = some (some (.builtin "BaseException.__getattribute__")))
    (xk_NoSnapshot : PySem.W.findIn K (.ref C_NoSnapshot) "__getattr__" = some none)
    (xd_NoSnapshot : PySem.W.hasDictIn K C_NoSnapshot = true)
    (xa_NoSnapshot : PySem.W.findIn K (.ref C_NoSnapshot) "__class__" = some (some (.builtin "object.__class__")))
    (xo_NoSnapshot : PySem.W.mroIn K C_NoSnapshot (.type "object") = some true)
    (kt_NoSnapshot_BadSeen : PySem.W.kitOne K (.ref C_NoSnapshot) (.ref C_BadSeen) = some false)
    (kt_NoSnapshot_BadWrites : PySem.W.kitOne K (.ref C_NoSnapshot) (.ref C_BadWrites) = some false)
    (kt_NoSnapshot_NoNumber : PySem.W.kitOne K (.ref C_NoSnapshot) (.ref C_NoNumber) = some false)
    (kt_NoSnapshot_NoSnapshot : PySem.W.kitOne K (.ref C_NoSnapshot) (.ref C_NoSnapshot) = some true)
    (kt_NoSnapshot_NotOpen : PySem.W.kitOne K (.ref C_NoSnapshot) (.ref C_NotOpen) = some false)
    (kt_NoSnapshot_NotRemembered : PySem.W.kitOne K (.ref C_NoSnapshot) (.ref C_NotRemembered) = some false)
    (su_NoSnapshot_StoreError : PySem.W.subIn K (.ref C_NoSnapshot) (.ref C_StoreError) = some true)
    (ex_NoNumber : PySem.W.excIn K C_NoNumber [.type "ValueError", .type "Exception", .type "BaseException", .type "object"] "ValueError.__new__" = true)
    (ek_NoNumber : PySem.W.keepIn K (.ref C_NoNumber) = true)
    (es_NoNumber : PySem.W.subIn K (.ref C_NoNumber) (.type "BaseException") = some true)
    (et_NoNumber : PySem.W.typeIn K (.ref C_NoNumber) = some (.type "type"))
    (ei_NoNumber : PySem.W.isClsIn K C_NoNumber = true)
    (kb_NoNumber_ValueError : PySem.W.kitOne K (.ref C_NoNumber) (.type "ValueError") = some true)
    (xg_NoNumber : PySem.W.findIn K (.ref C_NoNumber) "__getattribute__" = some (some (.builtin "BaseException.__getattribute__")))
    (xk_NoNumber : PySem.W.findIn K (.ref C_NoNumber) "__getattr__" = some none)
    (xd_NoNumber : PySem.W.hasDictIn K C_NoNumber = true)
    (xa_NoNumber : PySem.W.findIn K (.ref C_NoNumber) "__class__" = some (some (.builtin "object.__class__")))
    (xo_NoNumber : PySem.W.mroIn K C_NoNumber (.type "object") = some true)
    (kt_NoNumber_BadSeen : PySem.W.kitOne K (.ref C_NoNumber) (.ref C_BadSeen) = some false)
    (kt_NoNumber_BadWrites : PySem.W.kitOne K (.ref C_NoNumber) (.ref C_BadWrites) = some false)
    (kt_NoNumber_NoNumber : PySem.W.kitOne K (.ref C_NoNumber) (.ref C_NoNumber) = some true)
    (kt_NoNumber_NoSnapshot : PySem.W.kitOne K (.ref C_NoNumber) (.ref C_NoSnapshot) = some false)
    (kt_NoNumber_NotOpen : PySem.W.kitOne K (.ref C_NoNumber) (.ref C_NotOpen) = some false)
    (kt_NoNumber_NotRemembered : PySem.W.kitOne K (.ref C_NoNumber) (.ref C_NotRemembered) = some false)
    (su_NoNumber_StoreError : PySem.W.subIn K (.ref C_NoNumber) (.ref C_StoreError) = some true)
    (ex_NotOpen : PySem.W.excIn K C_NotOpen [.type "ValueError", .type "Exception", .type "BaseException", .type "object"] "ValueError.__new__" = true)
    (ek_NotOpen : PySem.W.keepIn K (.ref C_NotOpen) = true)
    (es_NotOpen : PySem.W.subIn K (.ref C_NotOpen) (.type "BaseException") = some true)
    (et_NotOpen : PySem.W.typeIn K (.ref C_NotOpen) = some (.type "type"))
    (ei_NotOpen : PySem.W.isClsIn K C_NotOpen = true)
    (kb_NotOpen_ValueError : PySem.W.kitOne K (.ref C_NotOpen) (.type "ValueError") = some true)
    (xg_NotOpen : PySem.W.findIn K (.ref C_NotOpen) "__getattribute__" = some (some (.builtin "BaseException.__getattribute__")))
    (xk_NotOpen : PySem.W.findIn K (.ref C_NotOpen) "__getattr__" = some none)
    (xd_NotOpen : PySem.W.hasDictIn K C_NotOpen = true)
    (xa_NotOpen : PySem.W.findIn K (.ref C_NotOpen) "__class__" = some (some (.builtin "object.__class__")))
    (xo_NotOpen : PySem.W.mroIn K C_NotOpen (.type "object") = some true)
    (kt_NotOpen_BadSeen : PySem.W.kitOne K (.ref C_NotOpen) (.ref C_BadSeen) = some false)
    (kt_NotOpen_BadWrites : PySem.W.kitOne K (.ref C_NotOpen) (.ref C_BadWrites) = some false)
    (kt_NotOpen_NoNumber : PySem.W.kitOne K (.ref C_NotOpen) (.ref C_NoNumber) = some false)
    (kt_NotOpen_NoSnapshot : PySem.W.kitOne K (.ref C_NotOpen) (.ref C_NoSnapshot) = some false)
    (kt_NotOpen_NotOpen : PySem.W.kitOne K (.ref C_NotOpen) (.ref C_NotOpen) = some true)
    (kt_NotOpen_NotRemembered : PySem.W.kitOne K (.ref C_NotOpen) (.ref C_NotRemembered) = some false)
    (su_NotOpen_StoreError : PySem.W.subIn K (.ref C_NotOpen) (.ref C_StoreError) = some true)
    (ex_BadSeen : PySem.W.excIn K C_BadSeen [.type "ValueError", .type "Exception", .type "BaseException", .type "object"] "ValueError.__new__" = true)
    (ek_BadSeen : PySem.W.keepIn K (.ref C_BadSeen) = true)
    (es_BadSeen : PySem.W.subIn K (.ref C_BadSeen) (.type "BaseException") = some true)
    (et_BadSeen : PySem.W.typeIn K (.ref C_BadSeen) = some (.type "type"))
    (ei_BadSeen : PySem.W.isClsIn K C_BadSeen = true)
    (kb_BadSeen_ValueError : PySem.W.kitOne K (.ref C_BadSeen) (.type "ValueError") = some true)
    (xg_BadSeen : PySem.W.findIn K (.ref C_BadSeen) "__getattribute__" = some (some (.builtin "BaseException.__getattribute__")))
    (xk_BadSeen : PySem.W.findIn K (.ref C_BadSeen) "__getattr__" = some none)
    (xd_BadSeen : PySem.W.hasDictIn K C_BadSeen = true)
    (xa_BadSeen : PySem.W.findIn K (.ref C_BadSeen) "__class__" = some (some (.builtin "object.__class__")))
    (xo_BadSeen : PySem.W.mroIn K C_BadSeen (.type "object") = some true)
    (kt_BadSeen_BadSeen : PySem.W.kitOne K (.ref C_BadSeen) (.ref C_BadSeen) = some true)
    (kt_BadSeen_BadWrites : PySem.W.kitOne K (.ref C_BadSeen) (.ref C_BadWrites) = some false)
    (kt_BadSeen_NoNumber : PySem.W.kitOne K (.ref C_BadSeen) (.ref C_NoNumber) = some false)
    (kt_BadSeen_NoSnapshot : PySem.W.kitOne K (.ref C_BadSeen) (.ref C_NoSnapshot) = some false)
    (kt_BadSeen_NotOpen : PySem.W.kitOne K (.ref C_BadSeen) (.ref C_NotOpen) = some false)
    (kt_BadSeen_NotRemembered : PySem.W.kitOne K (.ref C_BadSeen) (.ref C_NotRemembered) = some false)
    (su_BadSeen_StoreError : PySem.W.subIn K (.ref C_BadSeen) (.ref C_StoreError) = some true)
    (ex_BadWrites : PySem.W.excIn K C_BadWrites [.type "ValueError", .type "Exception", .type "BaseException", .type "object"] "ValueError.__new__" = true)
    (ek_BadWrites : PySem.W.keepIn K (.ref C_BadWrites) = true)
    (es_BadWrites : PySem.W.subIn K (.ref C_BadWrites) (.type "BaseException") = some true)
    (et_BadWrites : PySem.W.typeIn K (.ref C_BadWrites) = some (.type "type"))
    (ei_BadWrites : PySem.W.isClsIn K C_BadWrites = true)
    (kb_BadWrites_ValueError : PySem.W.kitOne K (.ref C_BadWrites) (.type "ValueError") = some true)
    (xg_BadWrites : PySem.W.findIn K (.ref C_BadWrites) "__getattribute__" = some (some (.builtin "BaseException.__getattribute__")))
    (xk_BadWrites : PySem.W.findIn K (.ref C_BadWrites) "__getattr__" = some none)
    (xd_BadWrites : PySem.W.hasDictIn K C_BadWrites = true)
    (xa_BadWrites : PySem.W.findIn K (.ref C_BadWrites) "__class__" = some (some (.builtin "object.__class__")))
    (xo_BadWrites : PySem.W.mroIn K C_BadWrites (.type "object") = some true)
    (kt_BadWrites_BadSeen : PySem.W.kitOne K (.ref C_BadWrites) (.ref C_BadSeen) = some false)
    (kt_BadWrites_BadWrites : PySem.W.kitOne K (.ref C_BadWrites) (.ref C_BadWrites) = some true)
    (kt_BadWrites_NoNumber : PySem.W.kitOne K (.ref C_BadWrites) (.ref C_NoNumber) = some false)
    (kt_BadWrites_NoSnapshot : PySem.W.kitOne K (.ref C_BadWrites) (.ref C_NoSnapshot) = some false)
    (kt_BadWrites_NotOpen : PySem.W.kitOne K (.ref C_BadWrites) (.ref C_NotOpen) = some false)
    (kt_BadWrites_NotRemembered : PySem.W.kitOne K (.ref C_BadWrites) (.ref C_NotRemembered) = some false)
    (su_BadWrites_StoreError : PySem.W.subIn K (.ref C_BadWrites) (.ref C_StoreError) = some true)
    (qi_Refused : PySem.W.findIn K (.ref C_Refused) "__init__" = some (some (.ref fI_Refused)))
    (qt_Refused : PySem.W.typeIn K (.ref fI_Refused) = some (.type "function"))
    (ql_Refused : K.lookup fI_Refused = some ⟨ocI_Refused, odI_Refused, .func (PySem.W.fnOf "__init__" "Refused.__init__" (defArgs s_Refused_init) (defBody s_Refused_init) (defScope s_Refused_init) .none kVI_Refused dcI_Refused pmI_Refused anI_Refused cdI_Refused ctI_Refused), slI_Refused⟩)
    (qc_Refused : PySem.W.codeIn K cdI_Refused "Refused.__init__" = true)
    (qk_Refused : PySem.W.keepIn K (.ref fI_Refused) = true)
    (qo_Refused : oexB K C_Refused = true)
    (qs_Refused : PySem.W.findIn K (.ref C_Refused) "__setattr__" = some (some (.builtin "object.__setattr__")))
    (qn_Refused : PySem.W.findIn K (.ref C_Refused) "ring" = some none)
    (qg_Refused : PySem.W.findIn K (.ref C_Refused) "__getattribute__" = some (some (.builtin "BaseException.__getattribute__")))
    (qa_Refused : PySem.W.findIn K (.ref C_Refused) "__getattr__" = some none)
    (qh_Refused : PySem.W.hasDictIn K C_Refused = true)
    (ek_Refused : PySem.W.keepIn K (.ref C_Refused) = true)
    (es_Refused : PySem.W.subIn K (.ref C_Refused) (.type "BaseException") = some true)
    (et_Refused : PySem.W.typeIn K (.ref C_Refused) = some (.type "type"))
    (ei_Refused : PySem.W.isClsIn K C_Refused = true)
    (kb_Refused_ValueError : PySem.W.kitOne K (.ref C_Refused) (.type "ValueError") = some true)
    (xg_Refused : PySem.W.findIn K (.ref C_Refused) "__getattribute__" = some (some (.builtin "BaseException.__getattribute__")))
    (xk_Refused : PySem.W.findIn K (.ref C_Refused) "__getattr__" = some none)
    (xd_Refused : PySem.W.hasDictIn K C_Refused = true)
    (xa_Refused : PySem.W.findIn K (.ref C_Refused) "__class__" = some (some (.builtin "object.__class__")))
    (xo_Refused : PySem.W.mroIn K C_Refused (.type "object") = some true)
    (kt_Refused_BadSeen : PySem.W.kitOne K (.ref C_Refused) (.ref C_BadSeen) = some false)
    (kt_Refused_BadWrites : PySem.W.kitOne K (.ref C_Refused) (.ref C_BadWrites) = some false)
    (kt_Refused_NoNumber : PySem.W.kitOne K (.ref C_Refused) (.ref C_NoNumber) = some false)
    (kt_Refused_NoSnapshot : PySem.W.kitOne K (.ref C_Refused) (.ref C_NoSnapshot) = some false)
    (kt_Refused_NotOpen : PySem.W.kitOne K (.ref C_Refused) (.ref C_NotOpen) = some false)
    (kt_Refused_NotRemembered : PySem.W.kitOne K (.ref C_Refused) (.ref C_NotRemembered) = some false)
    (su_Refused_StoreError : PySem.W.subIn K (.ref C_Refused) (.ref C_StoreError) = some true)
    (ex_NotRemembered : PySem.W.excIn K C_NotRemembered [.type "ValueError", .type "Exception", .type "BaseException", .type "object"] "ValueError.__new__" = true)
    (ek_NotRemembered : PySem.W.keepIn K (.ref C_NotRemembered) = true)
    (es_NotRemembered : PySem.W.subIn K (.ref C_NotRemembered) (.type "BaseException") = some true)
    (et_NotRemembered : PySem.W.typeIn K (.ref C_NotRemembered) = some (.type "type"))
    (ei_NotRemembered : PySem.W.isClsIn K C_NotRemembered = true)
    (kb_NotRemembered_ValueError : PySem.W.kitOne K (.ref C_NotRemembered) (.type "ValueError") = some true)
    (xg_NotRemembered : PySem.W.findIn K (.ref C_NotRemembered) "__getattribute__" = some (some (.builtin "BaseException.__getattribute__")))
    (xk_NotRemembered : PySem.W.findIn K (.ref C_NotRemembered) "__getattr__" = some none)
    (xd_NotRemembered : PySem.W.hasDictIn K C_NotRemembered = true)
    (xa_NotRemembered : PySem.W.findIn K (.ref C_NotRemembered) "__class__" = some (some (.builtin "object.__class__")))
    (xo_NotRemembered : PySem.W.mroIn K C_NotRemembered (.type "object") = some true)
    (kt_NotRemembered_BadSeen : PySem.W.kitOne K (.ref C_NotRemembered) (.ref C_BadSeen) = some false)
    (kt_NotRemembered_BadWrites : PySem.W.kitOne K (.ref C_NotRemembered) (.ref C_BadWrites) = some false)
    (kt_NotRemembered_NoNumber : PySem.W.kitOne K (.ref C_NotRemembered) (.ref C_NoNumber) = some false)
    (kt_NotRemembered_NoSnapshot : PySem.W.kitOne K (.ref C_NotRemembered) (.ref C_NoSnapshot) = some false)
    (kt_NotRemembered_NotOpen : PySem.W.kitOne K (.ref C_NotRemembered) (.ref C_NotOpen) = some false)
    (kt_NotRemembered_NotRemembered : PySem.W.kitOne K (.ref C_NotRemembered) (.ref C_NotRemembered) = some true)
    (su_NotRemembered_StoreError : PySem.W.subIn K (.ref C_NotRemembered) (.ref C_StoreError) = some true)
    (mk_Check : PySem.W.makesIn K C_Check = true)
    (kc_Check : PySem.W.keepIn K (.ref C_Check) = true)
    (mk_Dealing : PySem.W.makesIn K C_Dealing = true)
    (kc_Dealing : PySem.W.keepIn K (.ref C_Dealing) = true)
    (nf_dealings_Check : PySem.W.findIn K (.ref C_Check) "dealings" = some none)
    (nf_gets_Dealing : PySem.W.findIn K (.ref C_Dealing) "gets" = some none)
    (nf_newest_Check : PySem.W.findIn K (.ref C_Check) "newest" = some none)
    (nf_number_Dealing : PySem.W.findIn K (.ref C_Dealing) "number" = some none)
    (nf_opened_Check : PySem.W.findIn K (.ref C_Check) "opened" = some none)
    (nf_ranges_Dealing : PySem.W.findIn K (.ref C_Dealing) "ranges" = some none)
    (nf_snapshot_Dealing : PySem.W.findIn K (.ref C_Dealing) "snapshot" = some none)
    (nf_snapshots_Check : PySem.W.findIn K (.ref C_Check) "snapshots" = some none)
    (nf_ways_Check : PySem.W.findIn K (.ref C_Check) "ways" = some none)
    (nf_writes_Dealing : PySem.W.findIn K (.ref C_Dealing) "writes" = some none)
    (co_GREATEST : PySem.W.nsIn K mainGlobals "GREATEST" = some (some (.int 1000000000000000000 t_GREATEST)))
    (co_LONGEST_WORD : PySem.W.nsIn K mainGlobals "LONGEST_WORD" = some (some (.int 12 t_LONGEST_WORD)))
    (zb_ValueError : PySem.W.nsIn K mainGlobals "ValueError" = some none)
    (zb_abs : PySem.W.nsIn K mainGlobals "abs" = some none)
    (zb_all : PySem.W.nsIn K mainGlobals "all" = some none)
    (zb_any : PySem.W.nsIn K mainGlobals "any" = some none)
    (zb_bool : PySem.W.nsIn K mainGlobals "bool" = some none)
    (zb_dict : PySem.W.nsIn K mainGlobals "dict" = some none)
    (zb_int : PySem.W.nsIn K mainGlobals "int" = some none)
    (zb_isinstance : PySem.W.nsIn K mainGlobals "isinstance" = some none)
    (zb_len : PySem.W.nsIn K mainGlobals "len" = some none)
    (zb_list : PySem.W.nsIn K mainGlobals "list" = some none)
    (zb_min : PySem.W.nsIn K mainGlobals "min" = some none)
    (zb_range : PySem.W.nsIn K mainGlobals "range" = some none)
    (zb_sorted : PySem.W.nsIn K mainGlobals "sorted" = some none)
    (zb_str : PySem.W.nsIn K mainGlobals "str" = some none)
    (zb_tuple : PySem.W.nsIn K mainGlobals "tuple" = some none)
    (zb_zip : PySem.W.nsIn K mainGlobals "zip" = some none)
    : ∃ x : Tx K mg, x.a_law = fa ∧ (∀ p ∈ x.cs, PySem.W.codeHdIn K p.1 p.2 = true) ∧ (∀ p ∈ x.cs, K.lookup p.2 = none) ∧ (∀ p ∈ x.cs, p.2 ∈ ts) := by
  have e := hfa.symm.trans (PySem.W.mg_of X G a52)
  cases e
  exact ⟨{
    C_Check := C_Check,
    C_Dealing := C_Dealing,
    C_StoreError := C_StoreError,
    C_NoSnapshot := C_NoSnapshot,
    C_NoNumber := C_NoNumber,
    C_NotOpen := C_NotOpen,
    C_BadSeen := C_BadSeen,
    C_BadWrites := C_BadWrites,
    C_Refused := C_Refused,
    C_NotRemembered := C_NotRemembered,
    a_law_hand := f0,
    d_law_hand := _,
    F_law_hand := fun_mk (st := s_law_hand) l0 c0 k0,
    b_law_hand := (fun_mk (st := s_law_hand) l0 c0 k0).binds (ps := ["script"]) (fun _ _ _ _ _ _ us hl => match us, hl with | [_], _ => rfl),
    g_law_hand := PySem.W.mg_of X G a0,
    a_law_draw := f1,
    d_law_draw := _,
    F_law_draw := fun_mk (st := s_law_draw) l1 c1 k1,
    b_law_draw := (fun_mk (st := s_law_draw) l1 c1 k1).binds (ps := ["hand", "many"]) (fun _ _ _ _ _ _ us hl => match us, hl with | [_, _], _ => rfl),
    g_law_draw := PySem.W.mg_of X G a1,
    a_law_deep := f2,
    d_law_deep := _,
    F_law_deep := fun_mk (st := s_law_deep) l2 c2 k2,
    b_law_deep := (fun_mk (st := s_law_deep) l2 c2 k2).binds (ps := ["hand"]) (fun _ _ _ _ _ _ us hl => match us, hl with | [_], _ => rfl),
    g_law_deep := PySem.W.mg_of X G a2,
    a_law_odd := f3,
    d_law_odd := _,
    F_law_odd := fun_mk (st := s_law_odd) l3 c3 k3,
    b_law_odd := (fun_mk (st := s_law_odd) l3 c3 k3).binds (ps := ["hand", "right"]) (fun _ _ _ _ _ _ us hl => match us, hl with | [_, _], _ => rfl),
    g_law_odd := PySem.W.mg_of X G a3,
    a_law_is_int := f4,
    d_law_is_int := _,
    F_law_is_int := fun_mk (st := s_law_is_int) l4 c4 k4,
    b_law_is_int := (fun_mk (st := s_law_is_int) l4 c4 k4).binds (ps := ["thing", "least", "most"]) (fun _ _ _ _ _ _ us hl => match us, hl with | [_, _, _], _ => rfl),
    g_law_is_int := PySem.W.mg_of X G a4,
    a_law_word := f5,
    d_law_word := _,
    F_law_word := fun_mk (st := s_law_word) l5 c5 k5,
    b_law_word := (fun_mk (st := s_law_word) l5 c5 k5).binds (ps := ["call"]) (fun _ _ _ _ _ _ us hl => match us, hl with | [_], _ => rfl),
    g_law_word := PySem.W.mg_of X G a5,
    a_is_integer := f6,
    d_is_integer := _,
    F_is_integer := fun_mk (st := s_is_integer) l6 c6 k6,
    b_is_integer := (fun_mk (st := s_is_integer) l6 c6 k6).binds (ps := ["thing"]) (fun _ _ _ _ _ _ us hl => match us, hl with | [_], _ => rfl),
    g_is_integer := PySem.W.mg_of X G a6,
    a_is_number := f7,
    d_is_number := _,
    F_is_number := fun_mk (st := s_is_number) l7 c7 k7,
    b_is_number := (fun_mk (st := s_is_number) l7 c7 k7).binds (ps := ["thing"]) (fun _ _ _ _ _ _ us hl => match us, hl with | [_], _ => rfl),
    g_is_number := PySem.W.mg_of X G a7,
    a_Check_init := f8,
    d_Check_init := _,
    F_Check_init := fun_mk (st := s_Check_init) l8 c8 k8,
    b_Check_init := (fun_mk (st := s_Check_init) l8 c8 k8).binds (ps := ["self", "last"]) (fun _ _ _ _ _ _ us hl => match us, hl with | [_, _], _ => rfl),
    a_is_within := f9,
    d_is_within := _,
    F_is_within := fun_mk (st := s_is_within) l9 c9 k9,
    b_is_within := (fun_mk (st := s_is_within) l9 c9 k9).binds (ps := ["low", "high", "thing"]) (fun _ _ _ _ _ _ us hl => match us, hl with | [_, _, _], _ => rfl),
    g_is_within := PySem.W.mg_of X G a9,
    a_Check_least_snapshot := f10,
    d_Check_least_snapshot := _,
    F_Check_least_snapshot := fun_mk (st := s_Check_least_snapshot) l10 c10 k10,
    b_Check_least_snapshot := (fun_mk (st := s_Check_least_snapshot) l10 c10 k10).binds (ps := ["self"]) (fun _ _ _ _ _ _ us hl => match us, hl with | [_], _ => rfl),
    a_Check_opens := f11,
    d_Check_opens := _,
    F_Check_opens := fun_mk (st := s_Check_opens) l11 c11 k11,
    b_Check_opens := (fun_mk (st := s_Check_opens) l11 c11 k11).binds (ps := ["self", "snapshot"]) (fun _ _ _ _ _ _ us hl => match us, hl with | [_, _], _ => rfl),
    a_Check_demand_open := f12,
    d_Check_demand_open := _,
    F_Check_demand_open := fun_mk (st := s_Check_demand_open) l12 c12 k12,
    b_Check_demand_open := (fun_mk (st := s_Check_demand_open) l12 c12 k12).binds (ps := ["self", "entry"]) (fun _ _ _ _ _ _ us hl => match us, hl with | [_, _], _ => rfl),
    a_is_word := f13,
    d_is_word := _,
    F_is_word := fun_mk (st := s_is_word) l13 c13 k13,
    b_is_word := (fun_mk (st := s_is_word) l13 c13 k13).binds (ps := ["thing"]) (fun _ _ _ _ _ _ us hl => match us, hl with | [_], _ => rfl),
    g_is_word := PySem.W.mg_of X G a13,
    a_is_key := f14,
    d_is_key := _,
    F_is_key := fun_mk (st := s_is_key) l14 c14 k14,
    b_is_key := (fun_mk (st := s_is_key) l14 c14 k14).binds (ps := ["thing"]) (fun _ _ _ _ _ _ us hl => match us, hl with | [_], _ => rfl),
    g_is_key := PySem.W.mg_of X G a14,
    a_is_tuple_of_is_key := f15,
    d_is_tuple_of_is_key := _,
    F_is_tuple_of_is_key := fun_mk (st := s_is_tuple_of_is_key) l15 c15 k15,
    b_is_tuple_of_is_key := (fun_mk (st := s_is_tuple_of_is_key) l15 c15 k15).binds (ps := ["judge", "thing"]) (fun _ _ _ _ _ _ us hl => match us, hl with | [_, _], _ => rfl),
    g_is_tuple_of_is_key := PySem.W.mg_of X G a15,
    a_is_ascending := f16,
    d_is_ascending := _,
    F_is_ascending := fun_mk (st := s_is_ascending) l16 c16 k16,
    b_is_ascending := (fun_mk (st := s_is_ascending) l16 c16 k16).binds (ps := ["row"]) (fun _ _ _ _ _ _ us hl => match us, hl with | [_], _ => rfl),
    g_is_ascending := PySem.W.mg_of X G a16,
    a_is_keys := f17,
    d_is_keys := _,
    F_is_keys := fun_mk (st := s_is_keys) l17 c17 k17,
    b_is_keys := (fun_mk (st := s_is_keys) l17 c17 k17).binds (ps := ["thing"]) (fun _ _ _ _ _ _ us hl => match us, hl with | [_], _ => rfl),
    g_is_keys := PySem.W.mg_of X G a17,
    a_is_tuple := f18,
    d_is_tuple := _,
    F_is_tuple := fun_mk (st := s_is_tuple) l18 c18 k18,
    b_is_tuple := (fun_mk (st := s_is_tuple) l18 c18 k18).binds (ps := ["many", "thing"]) (fun _ _ _ _ _ _ us hl => match us, hl with | [_, _], _ => rfl),
    g_is_tuple := PySem.W.mg_of X G a18,
    a_is_range := f19,
    d_is_range := _,
    F_is_range := fun_mk (st := s_is_range) l19 c19 k19,
    b_is_range := (fun_mk (st := s_is_range) l19 c19 k19).binds (ps := ["thing"]) (fun _ _ _ _ _ _ us hl => match us, hl with | [_], _ => rfl),
    g_is_range := PySem.W.mg_of X G a19,
    a_is_tuple_of_is_range := f20,
    d_is_tuple_of_is_range := _,
    F_is_tuple_of_is_range := fun_mk (st := s_is_tuple_of_is_range) l20 c20 k20,
    b_is_tuple_of_is_range := (fun_mk (st := s_is_tuple_of_is_range) l20 c20 k20).binds (ps := ["judge", "thing"]) (fun _ _ _ _ _ _ us hl => match us, hl with | [_, _], _ => rfl),
    g_is_tuple_of_is_range := PySem.W.mg_of X G a20,
    a_is_ranges := f21,
    d_is_ranges := _,
    F_is_ranges := fun_mk (st := s_is_ranges) l21 c21 k21,
    b_is_ranges := (fun_mk (st := s_is_ranges) l21 c21 k21).binds (ps := ["thing"]) (fun _ _ _ _ _ _ us hl => match us, hl with | [_], _ => rfl),
    g_is_ranges := PySem.W.mg_of X G a21,
    a_is_worth := f22,
    d_is_worth := _,
    F_is_worth := fun_mk (st := s_is_worth) l22 c22 k22,
    b_is_worth := (fun_mk (st := s_is_worth) l22 c22 k22).binds (ps := ["thing"]) (fun _ _ _ _ _ _ us hl => match us, hl with | [_], _ => rfl),
    g_is_worth := PySem.W.mg_of X G a22,
    a_is_mark := f23,
    d_is_mark := _,
    F_is_mark := fun_mk (st := s_is_mark) l23 c23 k23,
    b_is_mark := (fun_mk (st := s_is_mark) l23 c23 k23).binds (ps := ["thing"]) (fun _ _ _ _ _ _ us hl => match us, hl with | [_], _ => rfl),
    g_is_mark := PySem.W.mg_of X G a23,
    a_is_write := f24,
    d_is_write := _,
    F_is_write := fun_mk (st := s_is_write) l24 c24 k24,
    b_is_write := (fun_mk (st := s_is_write) l24 c24 k24).binds (ps := ["thing"]) (fun _ _ _ _ _ _ us hl => match us, hl with | [_], _ => rfl),
    g_is_write := PySem.W.mg_of X G a24,
    a_is_tuple_of_is_write := f25,
    d_is_tuple_of_is_write := _,
    F_is_tuple_of_is_write := fun_mk (st := s_is_tuple_of_is_write) l25 c25 k25,
    b_is_tuple_of_is_write := (fun_mk (st := s_is_tuple_of_is_write) l25 c25 k25).binds (ps := ["judge", "thing"]) (fun _ _ _ _ _ _ us hl => match us, hl with | [_, _], _ => rfl),
    g_is_tuple_of_is_write := PySem.W.mg_of X G a25,
    a_is_writes := f26,
    d_is_writes := _,
    F_is_writes := fun_mk (st := s_is_writes) l26 c26 k26,
    b_is_writes := (fun_mk (st := s_is_writes) l26 c26 k26).binds (ps := ["thing"]) (fun _ _ _ _ _ _ us hl => match us, hl with | [_], _ => rfl),
    g_is_writes := PySem.W.mg_of X G a26,
    a_is_number_for := f27,
    d_is_number_for := _,
    F_is_number_for := fun_mk (st := s_is_number_for) l27 c27 k27,
    b_is_number_for := (fun_mk (st := s_is_number_for) l27 c27 k27).binds (ps := ["snapshot", "writes", "thing"]) (fun _ _ _ _ _ _ us hl => match us, hl with | [_, _, _], _ => rfl),
    g_is_number_for := PySem.W.mg_of X G a27,
    a_Dealing_init := f28,
    d_Dealing_init := _,
    F_Dealing_init := fun_mk (st := s_Dealing_init) l28 c28 k28,
    b_Dealing_init := (fun_mk (st := s_Dealing_init) l28 c28 k28).binds (ps := ["self", "snapshot", "number", "gets", "ranges", "writes"]) (fun _ _ _ _ _ _ us hl => match us, hl with | [_, _, _, _, _, _], _ => rfl),
    a_writes_key := f29,
    d_writes_key := _,
    F_writes_key := fun_mk (st := s_writes_key) l29 c29 k29,
    b_writes_key := (fun_mk (st := s_writes_key) l29 c29 k29).binds (ps := ["dealing", "key"]) (fun _ _ _ _ _ _ us hl => match us, hl with | [_, _], _ => rfl),
    g_writes_key := PySem.W.mg_of X G a29,
    a_saw_key := f30,
    d_saw_key := _,
    F_saw_key := fun_mk (st := s_saw_key) l30 c30 k30,
    b_saw_key := (fun_mk (st := s_saw_key) l30 c30 k30).binds (ps := ["dealing", "key"]) (fun _ _ _ _ _ _ us hl => match us, hl with | [_, _], _ => rfl),
    g_saw_key := PySem.W.mg_of X G a30,
    a_is_tied := f31,
    d_is_tied := _,
    F_is_tied := fun_mk (st := s_is_tied) l31 c31 k31,
    b_is_tied := (fun_mk (st := s_is_tied) l31 c31 k31).binds (ps := ["one", "other"]) (fun _ _ _ _ _ _ us hl => match us, hl with | [_, _], _ => rfl),
    g_is_tied := PySem.W.mg_of X G a31,
    a_Check_ways_with := f32,
    d_Check_ways_with := _,
    F_Check_ways_with := fun_mk (st := s_Check_ways_with) l32 c32 k32,
    b_Check_ways_with := (fun_mk (st := s_Check_ways_with) l32 c32 k32).binds (ps := ["self", "entry", "dealing"]) (fun _ _ _ _ _ _ us hl => match us, hl with | [_, _, _], _ => rfl),
    a_ring_from := f33,
    d_ring_from := _,
    F_ring_from := fun_mk (st := s_ring_from) l33 c33 k33,
    b_ring_from := (fun_mk (st := s_ring_from) l33 c33 k33).binds (ps := ["start", "ways"]) (fun _ _ _ _ _ _ us hl => match us, hl with | [_, _], _ => rfl),
    g_ring_from := PySem.W.mg_of X G a33,
    a_Check_judged := f34,
    d_Check_judged := _,
    F_Check_judged := fun_mk (st := s_Check_judged) l34 c34 k34,
    b_Check_judged := (fun_mk (st := s_Check_judged) l34 c34 k34).binds (ps := ["self", "entry", "keys", "ranges", "writes"]) (fun _ _ _ _ _ _ us hl => match us, hl with | [_, _, _, _, _], _ => rfl),
    a_reached_from := f35,
    d_reached_from := _,
    F_reached_from := fun_mk (st := s_reached_from) l35 c35 k35,
    b_reached_from := (fun_mk (st := s_reached_from) l35 c35 k35).binds (ps := ["starts", "ways"]) (fun _ _ _ _ _ _ us hl => match us, hl with | [_, _], _ => rfl),
    g_reached_from := PySem.W.mg_of X G a35,
    a_Check_unseen := f36,
    d_Check_unseen := _,
    F_Check_unseen := fun_mk (st := s_Check_unseen) l36 c36 k36,
    b_Check_unseen := (fun_mk (st := s_Check_unseen) l36 c36 k36).binds (ps := ["self"]) (fun _ _ _ _ _ _ us hl => match us, hl with | [_], _ => rfl),
    a_Check_forget := f37,
    d_Check_forget := _,
    F_Check_forget := fun_mk (st := s_Check_forget) l37 c37 k37,
    b_Check_forget := (fun_mk (st := s_Check_forget) l37 c37 k37).binds (ps := ["self"]) (fun _ _ _ _ _ _ us hl => match us, hl with | [_], _ => rfl),
    a_Check_commits := f38,
    d_Check_commits := _,
    F_Check_commits := fun_mk (st := s_Check_commits) l38 c38 k38,
    b_Check_commits := (fun_mk (st := s_Check_commits) l38 c38 k38).binds (ps := ["self", "entry", "keys", "ranges", "writes"]) (fun _ _ _ _ _ _ us hl => match us, hl with | [_, _, _, _, _], _ => rfl),
    a_Check_gives_up := f39,
    d_Check_gives_up := _,
    F_Check_gives_up := fun_mk (st := s_Check_gives_up) l39 c39 k39,
    b_Check_gives_up := (fun_mk (st := s_Check_gives_up) l39 c39 k39).binds (ps := ["self", "entry"]) (fun _ _ _ _ _ _ us hl => match us, hl with | [_, _], _ => rfl),
    a_law_ready := f40,
    d_law_ready := _,
    F_law_ready := fun_mk (st := s_law_ready) l40 c40 k40,
    b_law_ready := (fun_mk (st := s_law_ready) l40 c40 k40).binds (ps := ["hand", "last"]) (fun _ _ _ _ _ _ us hl => match us, hl with | [_, _], _ => rfl),
    g_law_ready := PySem.W.mg_of X G a40,
    a_Check_last := f41,
    d_Check_last := _,
    F_Check_last := fun_mk (st := s_Check_last) l41 c41 k41,
    b_Check_last := (fun_mk (st := s_Check_last) l41 c41 k41).binds (ps := ["self"]) (fun _ _ _ _ _ _ us hl => match us, hl with | [_], _ => rfl),
    a_Check_open_entries := f42,
    d_Check_open_entries := _,
    F_Check_open_entries := fun_mk (st := s_Check_open_entries) l42 c42 k42,
    b_Check_open_entries := (fun_mk (st := s_Check_open_entries) l42 c42 k42).binds (ps := ["self"]) (fun _ _ _ _ _ _ us hl => match us, hl with | [_], _ => rfl),
    a_Check_remembered := f43,
    d_Check_remembered := _,
    F_Check_remembered := fun_mk (st := s_Check_remembered) l43 c43 k43,
    b_Check_remembered := (fun_mk (st := s_Check_remembered) l43 c43 k43).binds (ps := ["self"]) (fun _ _ _ _ _ _ us hl => match us, hl with | [_], _ => rfl),
    a_Check_copy := f44,
    d_Check_copy := _,
    F_Check_copy := fun_mk (st := s_Check_copy) l44 c44 k44,
    b_Check_copy := (fun_mk (st := s_Check_copy) l44 c44 k44).binds (ps := ["self"]) (fun _ _ _ _ _ _ us hl => match us, hl with | [_], _ => rfl),
    a_law_is_key := f45,
    d_law_is_key := _,
    F_law_is_key := fun_mk (st := s_law_is_key) l45 c45 k45,
    b_law_is_key := (fun_mk (st := s_law_is_key) l45 c45 k45).binds (ps := ["thing"]) (fun _ _ _ _ _ _ us hl => match us, hl with | [_], _ => rfl),
    g_law_is_key := PySem.W.mg_of X G a45,
    a_law_are_writes := f46,
    d_law_are_writes := _,
    F_law_are_writes := fun_mk (st := s_law_are_writes) l46 c46 k46,
    b_law_are_writes := (fun_mk (st := s_law_are_writes) l46 c46 k46).binds (ps := ["thing"]) (fun _ _ _ _ _ _ us hl => match us, hl with | [_], _ => rfl),
    g_law_are_writes := PySem.W.mg_of X G a46,
    a_law_are_keys := f47,
    d_law_are_keys := _,
    F_law_are_keys := fun_mk (st := s_law_are_keys) l47 c47 k47,
    b_law_are_keys := (fun_mk (st := s_law_are_keys) l47 c47 k47).binds (ps := ["thing"]) (fun _ _ _ _ _ _ us hl => match us, hl with | [_], _ => rfl),
    g_law_are_keys := PySem.W.mg_of X G a47,
    a_law_are_ranges := f48,
    d_law_are_ranges := _,
    F_law_are_ranges := fun_mk (st := s_law_are_ranges) l48 c48 k48,
    b_law_are_ranges := (fun_mk (st := s_law_are_ranges) l48 c48 k48).binds (ps := ["thing"]) (fun _ _ _ _ _ _ us hl => match us, hl with | [_], _ => rfl),
    g_law_are_ranges := PySem.W.mg_of X G a48,
    a_Check_would_commit := f49,
    d_Check_would_commit := _,
    F_Check_would_commit := fun_mk (st := s_Check_would_commit) l49 c49 k49,
    b_Check_would_commit := (fun_mk (st := s_Check_would_commit) l49 c49 k49).binds (ps := ["self", "entry", "keys", "ranges", "writes"]) (fun _ _ _ _ _ _ us hl => match us, hl with | [_, _, _, _, _], _ => rfl),
    a_Check_key_into := f50,
    d_Check_key_into := _,
    F_Check_key_into := fun_mk (st := s_Check_key_into) l50 c50 k50,
    b_Check_key_into := (fun_mk (st := s_Check_key_into) l50 c50 k50).binds (ps := ["self", "entry"]) (fun _ _ _ _ _ _ us hl => match us, hl with | [_, _], _ => rfl),
    a_Check_could_ring := f51,
    d_Check_could_ring := _,
    F_Check_could_ring := fun_mk (st := s_Check_could_ring) l51 c51 k51,
    b_Check_could_ring := (fun_mk (st := s_Check_could_ring) l51 c51 k51).binds (ps := ["self", "entry"]) (fun _ _ _ _ _ _ us hl => match us, hl with | [_, _], _ => rfl),
    c_law := cc52,
    P_law := He.tabOf K cc52,
    L_law := ⟨_, _, _, _, _, _, _, _, rfl, l52, c52⟩,
    a_law := fa,
    d_law := _,
    F_law := fun_mk (st := s_law) l52 c52 k52,
    b_law := (fun_mk (st := s_law) l52 c52 k52).binds (ps := ["script"]) (fun _ _ _ _ _ _ us hl => match us, hl with | [_], _ => rfl),
    g_law := PySem.W.mg_of X G a52,
    bl := fun s u => .of_eq rfl,
    cl_Check := ⟨pg_Check, hd_Check, po_Check, sa_Check⟩,
    cl_Dealing := ⟨pg_Dealing, hd_Dealing, po_Dealing, sa_Dealing⟩,
    io_Dealing := ⟨⟨pg_Dealing, hd_Dealing, po_Dealing, sa_Dealing⟩, xa_Dealing, xn_all, xt_all, xo_Dealing⟩,
    ki_Dealing_int := ki_Dealing_int,
    ki_Dealing_bool := ki_Dealing_bool,
    ki_Dealing_str := ki_Dealing_str,
    ki_Dealing_tuple := ki_Dealing_tuple,
    e_StoreError := ⟨ex_StoreError, PySem.W.mg_of X G aC_StoreError, ek_StoreError, es_StoreError, et_StoreError⟩,
    kb_StoreError_ValueError := kb_StoreError_ValueError,
    ec_StoreError := ⟨xg_StoreError, xk_StoreError, es_StoreError, xd_StoreError, xa_StoreError, xn_all, xt_all, xo_StoreError⟩,
    kt_StoreError_BadSeen := kt_StoreError_BadSeen,
    kt_StoreError_BadWrites := kt_StoreError_BadWrites,
    kt_StoreError_NoNumber := kt_StoreError_NoNumber,
    kt_StoreError_NoSnapshot := kt_StoreError_NoSnapshot,
    kt_StoreError_NotOpen := kt_StoreError_NotOpen,
    kt_StoreError_NotRemembered := kt_StoreError_NotRemembered,
    xm_StoreError_StoreError := exm_by es_StoreError ei_StoreError et_StoreError su_StoreError_StoreError,
    e_NoSnapshot := ⟨ex_NoSnapshot, PySem.W.mg_of X G aC_NoSnapshot, ek_NoSnapshot, es_NoSnapshot, et_NoSnapshot⟩,
    kb_NoSnapshot_ValueError := kb_NoSnapshot_ValueError,
    ec_NoSnapshot := ⟨xg_NoSnapshot, xk_NoSnapshot, es_NoSnapshot, xd_NoSnapshot, xa_NoSnapshot, xn_all, xt_all, xo_NoSnapshot⟩,
    kt_NoSnapshot_BadSeen := kt_NoSnapshot_BadSeen,
    kt_NoSnapshot_BadWrites := kt_NoSnapshot_BadWrites,
    kt_NoSnapshot_NoNumber := kt_NoSnapshot_NoNumber,
    kt_NoSnapshot_NoSnapshot := kt_NoSnapshot_NoSnapshot,
    kt_NoSnapshot_NotOpen := kt_NoSnapshot_NotOpen,
    kt_NoSnapshot_NotRemembered := kt_NoSnapshot_NotRemembered,
    xm_NoSnapshot_StoreError := exm_by es_StoreError ei_StoreError et_StoreError su_NoSnapshot_StoreError,
    e_NoNumber := ⟨ex_NoNumber, PySem.W.mg_of X G aC_NoNumber, ek_NoNumber, es_NoNumber, et_NoNumber⟩,
    kb_NoNumber_ValueError := kb_NoNumber_ValueError,
    ec_NoNumber := ⟨xg_NoNumber, xk_NoNumber, es_NoNumber, xd_NoNumber, xa_NoNumber, xn_all, xt_all, xo_NoNumber⟩,
    kt_NoNumber_BadSeen := kt_NoNumber_BadSeen,
    kt_NoNumber_BadWrites := kt_NoNumber_BadWrites,
    kt_NoNumber_NoNumber := kt_NoNumber_NoNumber,
    kt_NoNumber_NoSnapshot := kt_NoNumber_NoSnapshot,
    kt_NoNumber_NotOpen := kt_NoNumber_NotOpen,
    kt_NoNumber_NotRemembered := kt_NoNumber_NotRemembered,
    xm_NoNumber_StoreError := exm_by es_StoreError ei_StoreError et_StoreError su_NoNumber_StoreError,
    e_NotOpen := ⟨ex_NotOpen, PySem.W.mg_of X G aC_NotOpen, ek_NotOpen, es_NotOpen, et_NotOpen⟩,
    kb_NotOpen_ValueError := kb_NotOpen_ValueError,
    ec_NotOpen := ⟨xg_NotOpen, xk_NotOpen, es_NotOpen, xd_NotOpen, xa_NotOpen, xn_all, xt_all, xo_NotOpen⟩,
    kt_NotOpen_BadSeen := kt_NotOpen_BadSeen,
    kt_NotOpen_BadWrites := kt_NotOpen_BadWrites,
    kt_NotOpen_NoNumber := kt_NotOpen_NoNumber,
    kt_NotOpen_NoSnapshot := kt_NotOpen_NoSnapshot,
    kt_NotOpen_NotOpen := kt_NotOpen_NotOpen,
    kt_NotOpen_NotRemembered := kt_NotOpen_NotRemembered,
    xm_NotOpen_StoreError := exm_by es_StoreError ei_StoreError et_StoreError su_NotOpen_StoreError,
    e_BadSeen := ⟨ex_BadSeen, PySem.W.mg_of X G aC_BadSeen, ek_BadSeen, es_BadSeen, et_BadSeen⟩,
    kb_BadSeen_ValueError := kb_BadSeen_ValueError,
    ec_BadSeen := ⟨xg_BadSeen, xk_BadSeen, es_BadSeen, xd_BadSeen, xa_BadSeen, xn_all, xt_all, xo_BadSeen⟩,
    kt_BadSeen_BadSeen := kt_BadSeen_BadSeen,
    kt_BadSeen_BadWrites := kt_BadSeen_BadWrites,
    kt_BadSeen_NoNumber := kt_BadSeen_NoNumber,
    kt_BadSeen_NoSnapshot := kt_BadSeen_NoSnapshot,
    kt_BadSeen_NotOpen := kt_BadSeen_NotOpen,
    kt_BadSeen_NotRemembered := kt_BadSeen_NotRemembered,
    xm_BadSeen_StoreError := exm_by es_StoreError ei_StoreError et_StoreError su_BadSeen_StoreError,
    e_BadWrites := ⟨ex_BadWrites, PySem.W.mg_of X G aC_BadWrites, ek_BadWrites, es_BadWrites, et_BadWrites⟩,
    kb_BadWrites_ValueError := kb_BadWrites_ValueError,
    ec_BadWrites := ⟨xg_BadWrites, xk_BadWrites, es_BadWrites, xd_BadWrites, xa_BadWrites, xn_all, xt_all, xo_BadWrites⟩,
    kt_BadWrites_BadSeen := kt_BadWrites_BadSeen,
    kt_BadWrites_BadWrites := kt_BadWrites_BadWrites,
    kt_BadWrites_NoNumber := kt_BadWrites_NoNumber,
    kt_BadWrites_NoSnapshot := kt_BadWrites_NoSnapshot,
    kt_BadWrites_NotOpen := kt_BadWrites_NotOpen,
    kt_BadWrites_NotRemembered := kt_BadWrites_NotRemembered,
    xm_BadWrites_StoreError := exm_by es_StoreError ei_StoreError et_StoreError su_BadWrites_StoreError,
    gX_Refused := PySem.W.mg_of X G aC_Refused,
    aI_Refused := fI_Refused,
    dI_Refused := _,
    FI_Refused := fun_mk (st := s_Refused_init) ql_Refused qc_Refused qk_Refused,
    bI_Refused := (fun_mk (st := s_Refused_init) ql_Refused qc_Refused qk_Refused).binds (ps := ["self", "ring"]) (fun _ _ _ _ _ _ us hl => match us, hl with | [_, _], _ => rfl),
    xi_Refused := qi_Refused,
    xt_Refused := qt_Refused,
    xo_Refused := oexC_by qo_Refused qs_Refused es_Refused et_Refused ek_Refused,
    xf_Refused := ⟨qg_Refused, qa_Refused, es_Refused, qh_Refused⟩,
    xn_Refused := qn_Refused,
    kb_Refused_ValueError := kb_Refused_ValueError,
    ec_Refused := ⟨xg_Refused, xk_Refused, es_Refused, xd_Refused, xa_Refused, xn_all, xt_all, xo_Refused⟩,
    kt_Refused_BadSeen := kt_Refused_BadSeen,
    kt_Refused_BadWrites := kt_Refused_BadWrites,
    kt_Refused_NoNumber := kt_Refused_NoNumber,
    kt_Refused_NoSnapshot := kt_Refused_NoSnapshot,
    kt_Refused_NotOpen := kt_Refused_NotOpen,
    kt_Refused_NotRemembered := kt_Refused_NotRemembered,
    xm_Refused_StoreError := exm_by es_StoreError ei_StoreError et_StoreError su_Refused_StoreError,
    e_NotRemembered := ⟨ex_NotRemembered, PySem.W.mg_of X G aC_NotRemembered, ek_NotRemembered, es_NotRemembered, et_NotRemembered⟩,
    kb_NotRemembered_ValueError := kb_NotRemembered_ValueError,
    ec_NotRemembered := ⟨xg_NotRemembered, xk_NotRemembered, es_NotRemembered, xd_NotRemembered, xa_NotRemembered, xn_all, xt_all, xo_NotRemembered⟩,
    kt_NotRemembered_BadSeen := kt_NotRemembered_BadSeen,
    kt_NotRemembered_BadWrites := kt_NotRemembered_BadWrites,
    kt_NotRemembered_NoNumber := kt_NotRemembered_NoNumber,
    kt_NotRemembered_NoSnapshot := kt_NotRemembered_NoSnapshot,
    kt_NotRemembered_NotOpen := kt_NotRemembered_NotOpen,
    kt_NotRemembered_NotRemembered := kt_NotRemembered_NotRemembered,
    xm_NotRemembered_StoreError := exm_by es_StoreError ei_StoreError et_StoreError su_NotRemembered_StoreError,
    M_Check := ⟨mk_Check, a8, i8, kc_Check⟩,
    gC_Check := PySem.W.mg_of X G aC_Check,
    me_Check_least_snapshot := ⟨a10, i10, k10⟩,
    me_Check_opens := ⟨a11, i11, k11⟩,
    me_Check_demand_open := ⟨a12, i12, k12⟩,
    M_Dealing := ⟨mk_Dealing, a28, i28, kc_Dealing⟩,
    gC_Dealing := PySem.W.mg_of X G aC_Dealing,
    me_Check_ways_with := ⟨a32, i32, k32⟩,
    me_Check_judged := ⟨a34, i34, k34⟩,
    me_Check_unseen := ⟨a36, i36, k36⟩,
    me_Check_forget := ⟨a37, i37, k37⟩,
    me_Check_commits := ⟨a38, i38, k38⟩,
    me_Check_gives_up := ⟨a39, i39, k39⟩,
    me_Check_last := ⟨a41, i41, k41⟩,
    me_Check_open_entries := ⟨a42, i42, k42⟩,
    me_Check_remembered := ⟨a43, i43, k43⟩,
    me_Check_copy := ⟨a44, i44, k44⟩,
    me_Check_would_commit := ⟨a49, i49, k49⟩,
    me_Check_key_into := ⟨a50, i50, k50⟩,
    me_Check_could_ring := ⟨a51, i51, k51⟩,
    nf_dealings_Check := nf_dealings_Check,
    nf_gets_Dealing := nf_gets_Dealing,
    nf_newest_Check := nf_newest_Check,
    nf_number_Dealing := nf_number_Dealing,
    nf_opened_Check := nf_opened_Check,
    nf_ranges_Dealing := nf_ranges_Dealing,
    nf_snapshot_Dealing := nf_snapshot_Dealing,
    nf_snapshots_Check := nf_snapshots_Check,
    nf_ways_Check := nf_ways_Check,
    nf_writes_Dealing := nf_writes_Dealing,
    t_GREATEST := t_GREATEST,
    c_GREATEST := PySem.W.mg_of X G co_GREATEST,
    t_LONGEST_WORD := t_LONGEST_WORD,
    c_LONGEST_WORD := PySem.W.mg_of X G co_LONGEST_WORD,
    z_ValueError := PySem.W.mg_none_of X G zb_ValueError,
    z_abs := PySem.W.mg_none_of X G zb_abs,
    z_all := PySem.W.mg_none_of X G zb_all,
    z_any := PySem.W.mg_none_of X G zb_any,
    z_bool := PySem.W.mg_none_of X G zb_bool,
    z_dict := PySem.W.mg_none_of X G zb_dict,
    z_int := PySem.W.mg_none_of X G zb_int,
    z_isinstance := PySem.W.mg_none_of X G zb_isinstance,
    z_len := PySem.W.mg_none_of X G zb_len,
    z_list := PySem.W.mg_none_of X G zb_list,
    z_min := PySem.W.mg_none_of X G zb_min,
    z_range := PySem.W.mg_none_of X G zb_range,
    z_sorted := PySem.W.mg_none_of X G zb_sorted,
    z_str := PySem.W.mg_none_of X G zb_str,
    z_tuple := PySem.W.mg_none_of X G zb_tuple,
    z_zip := PySem.W.mg_none_of X G zb_zip }, rfl, (by intro p hp; simp only [Tx.cs, List.mem_cons, List.not_mem_nil, or_false] at hp; rcases hp with rfl <;> first | exact tc52), (by intro p hp; simp only [Tx.cs, List.mem_cons, List.not_mem_nil, or_false] at hp; rcases hp with rfl <;> first | exact tn52), (by intro p hp; simp only [Tx.cs, List.mem_cons, List.not_mem_nil, or_false] at hp; rcases hp with rfl <;> first | exact (List.contains_iff_mem.mp tm52))⟩
end Lw
namespace Lw
open PySem L2 Mi
def Up (h : Nat) (st s : Sto) : Prop := st.length ≤ s.length ∧ ∀ (i : Nat) (n : Nd), i ≠ h → st[i]? = some n → s[i]? = some n
def Ext (st s : Sto) : Prop := st.length ≤ s.length ∧ ∀ (i : Nat) (n : Nd), st[i]? = some n → s[i]? = some n
theorem Up.refl {h : Nat} {st : Sto} : Up h st st := ⟨Nat.le_refl _, fun _ _ _ z => z⟩
theorem Up.trans {h : Nat} {a b c : Sto} (x : Up h a b) (y : Up h b c) : Up h a c := ⟨Nat.le_trans x.1 y.1, fun i n k z => y.2 i n k (x.2 i n k z)⟩
theorem Ext.refl {st : Sto} : Ext st st := ⟨Nat.le_refl _, fun _ _ z => z⟩
theorem Ext.trans {a b c : Sto} (x : Ext a b) (y : Ext b c) : Ext a c := ⟨Nat.le_trans x.1 y.1, fun i n z => y.2 i n (x.2 i n z)⟩
theorem Ext.up {h : Nat} {a b : Sto} (x : Ext a b) : Up h a b := ⟨x.1, fun i n _ z => x.2 i n z⟩
theorem Ext.app {a t : Sto} : Ext a (a ++ t) := ⟨by simp, fun i n z => by
  rw [List.getElem?_append_left (List.getElem?_eq_some_iff.mp z).1]; exact z⟩
theorem Up.set {h : Nat} {a : Sto} {n : Nd} : Up h a (a.set h n) := ⟨by simp, fun i m k z => by rw [List.getElem?_set_ne (fun e => k e.symm)]; exact z⟩
/-- a place behind st changes -/
theorem Ext.set {a s : Sto} {p : Nat} {n : Nd} (x : Ext a s) (hp : a.length ≤ p) : Ext a (s.set p n) := ⟨by simp; exact x.1, fun i m z => by
  have := (List.getElem?_eq_some_iff.mp z).1
  rw [List.getElem?_set_ne (by omega)]; exact x.2 i m z⟩
theorem get_setp {s : Sto} {p : Nat} {n m : Nd} (e : s[p]? = some m) : (s.set p n)[p]? = some n := by
  have := (List.getElem?_eq_some_iff.mp e).1
  simp [this]
theorem get_setn {s : Sto} {p q : Nat} {n : Nd} (h : p ≠ q) : (s.set p n)[q]? = s[q]? := List.getElem?_set_ne h
/-! the hand -/
def BagN (cs : List Int) (a : Nat) (b c e : Int) : Nd := .lst [.lst (cs.map W.int), .int (a : Int), .int b, .int c, .int e]
def Bg (h : Nat) (st : Sto) : Prop := ∃ cs a b c e, st[h]? = some (BagN cs a b c e)
theorem Bg.ext {h : Nat} {a b : Sto} (x : Ext a b) (g : Bg h a) : Bg h b := by
  obtain ⟨cs, i, j, k, l, e⟩ := g
  exact ⟨cs, i, j, k, l, x.2 h _ e⟩
theorem Bg.new {h : Nat} {st : Sto} {n : Nd} (g : Bg h st) : Bg h (st ++ [n]) := g.ext Ext.app
theorem Bg.set {h p : Nat} {st : Sto} {n : Nd} (g : Bg h st) (k : p ≠ h) : Bg h (st.set p n) := by
  obtain ⟨cs, i, j, l, m, e⟩ := g
  exact ⟨cs, i, j, l, m, by rw [get_setn k]; exact e⟩
theorem Bg.at {h : Nat} {st s : Sto} (g : Bg h st) (k : s[h]? = st[h]?) : Bg h s := by
  obtain ⟨cs, i, j, l, m, e⟩ := g
  exact ⟨cs, i, j, l, m, k.trans e⟩
section
variable {h : Nat} {st : Sto} {cs : List Int} {a : Nat} {b c d : Int} {P : W → Sto → Prop} {E : Xc → Sto → Prop} {PU : Unit → Sto → Prop}
theorem bag0 (e : st[h]? = some (BagN cs a b c d)) : wp (wIx (.ref h) (.int 0) st) P E ↔ P (.lst (cs.map W.int)) st := wp_ixR (n := 0) e rfl
theorem bag1 (e : st[h]? = some (BagN cs a b c d)) : wp (wIx (.ref h) (.int 1) st) P E ↔ P (.int a) st := wp_ixR (n := 1) e rfl
theorem bag2 (e : st[h]? = some (BagN cs a b c d)) : wp (wIx (.ref h) (.int 2) st) P E ↔ P (.int b) st := wp_ixR (n := 2) e rfl
theorem bag3 (e : st[h]? = some (BagN cs a b c d)) : wp (wIx (.ref h) (.int 3) st) P E ↔ P (.int c) st := wp_ixR (n := 3) e rfl
theorem bag4 (e : st[h]? = some (BagN cs a b c d)) : wp (wIx (.ref h) (.int 4) st) P E ↔ P (.int d) st := wp_ixR (n := 4) e rfl
theorem set_k {st : Sto} {h : Nat} {xs : List W} {n : Nat} {w : W} (e : st[h]? = some (.lst xs)) (k : n < xs.length) : wStore (.ref h) (.int (n : Int)) w st = some (st.set h (.lst (xs.set n w))) := by
  simp [wStore, wSet, e, ixN, k]
theorem bagw1 {x : Nat} (e : st[h]? = some (BagN cs a b c d)) : wp (stR (.ref h) (.int 1) (.int ((x : Int) + 1)) st) PU E ↔ PU () (st.set h (BagN cs (x + 1) b c d)) := wp_stR (by
  have := set_k (n := 1) (w := .int ((x + 1 : Nat) : Int)) e (by simp)
  simpa [BagN] using this)
theorem bagw2 {x : Int} (e : st[h]? = some (BagN cs a b c d)) : wp (stR (.ref h) (.int 2) (.int x) st) PU E ↔ PU () (st.set h (BagN cs a x c d)) := wp_stR (by
  have := set_k (n := 2) (w := .int x) e (by simp)
  simpa [BagN] using this)
theorem bagw3 {x : Int} (e : st[h]? = some (BagN cs a b c d)) : wp (stR (.ref h) (.int 3) (.int x) st) PU E ↔ PU () (st.set h (BagN cs a b x d)) := wp_stR (by
  have := set_k (n := 3) (w := .int x) e (by simp)
  simpa [BagN] using this)
theorem bagw4 {x : Int} (e : st[h]? = some (BagN cs a b c d)) : wp (stR (.ref h) (.int 4) (.int x) st) PU E ↔ PU () (st.set h (BagN cs a b c x)) := wp_stR (by
  have := set_k (n := 4) (w := .int x) e (by simp)
  simpa [BagN] using this)
end
theorem small_of {i : Int} (a : 0 ≤ i) (b : i < 18446744073709551616) : Mi.small64 i = true := by
  simp only [Mi.small64, decide_eq_true_eq]; omega
/-- a draw -/
theorem draw1 {h : Nat} {st : Sto} {m : Int} (g : Bg h st) (h0 : 0 < m) (h1 : m < 1073741824) : wp (r_law_draw [.ref h, .int m] st) (fun w s => ∃ (x : Int) (n : Nd), w = .int x ∧ 0 ≤ x ∧ x < m ∧ s = st.set h n ∧ Bg h s) NoE := by
  obtain ⟨cs, a, b, c, d, e⟩ := g
  have hm : m ≠ 0 := by omega
  have hm2 : m.natAbs < 1073741824 := by omega
  have hb : ∀ {n : Nd} {s : Sto} {cs a b c d}, s[h]? = some n → Bg h (s.set h (BagN cs a b c d)) := fun q => ⟨_, _, _, _, _, get_setp q⟩
  have hf : ∀ {x : Int} {n : Nd} {s : Sto}, s = st.set h n → Bg h s → ∃ (y : Int) (n' : Nd), W.int (x.fmod m) = W.int y ∧ 0 ≤ y ∧ y < m ∧ s = st.set h n' ∧ Bg h s := fun q q2 => ⟨_, _, rfl, Int.fmod_nonneg_of_pos _ h0, Int.fmod_lt_of_pos _ h0, q, q2⟩
  have f := fun x : Int => small_of (Int.fmod_nonneg_of_pos x (by decide : (0 : Int) < 2147483647)) (Int.lt_trans (Int.fmod_lt_of_pos x (by decide : (0 : Int) < 2147483647)) (by decide))
  have s1 : Mi.small64 7919 = true := rfl
  have s2 : Mi.small64 48271 = true := rfl
  have s3 : Mi.small64 69621 = true := rfl
  have self : st = st.set h (BagN cs a b c d) := (List.ext_getElem? fun j => by
    by_cases q : h = j
    · subst q; rw [get_setp e]; exact e
    · rw [get_setn q])
  simp only [r_law_draw, m_law_draw]
  rw [wp_run]
  simp only [List.map, List.length, List.replicate, List.cons_append, List.nil_append, Nat.reduceAdd, Nat.reduceSub]
  rw [ws_seq]
  refine ws_nx (N := fun v s => ∃ (o : Option W) (a : Nat) (b c d : Int) (n : Nd), v = [some (.ref h), some (.int m), o, none, none] ∧ s = st.set h n ∧ s[h]? = some (BagN cs a b c d)) ?_ ?_
  · have stay : ∃ (o : Option W) (a : Nat) (b c d : Int) (n : Nd), [some (W.ref h), some (.int m), none, none, none] = [some (.ref h), some (.int m), o, none, none] ∧ st = st.set h n ∧ st[h]? = some (BagN cs a b c d) := ⟨none, a, b, c, d, _, rfl, self, e⟩
    simp only [ws_seq, ws_if, ws_set, ws_sub, ws_ret, ws_retN, ws_expr, ws_sNx, ws_for, wp_op, wp_var0, wp_varS, wp_c, wp_mB, wp_toB, wp_tr, wp_trB_bl, wp_trB_non, wp_trB_int, wp_not, wp_and, wp_or, wp_if, wp_mBl, wp_nil, wp_cons, wp_tup, wp_lst, wp_lstS, wp_newL_t, wp_newL_f, wp_chain, wp_call, wp_fn, wp_sl, wp_noPart, wp_part, wp_comp, wp_yes, wp_iL, wp_iA, wp_srcL, wp_srcS, wp_srcAL, wp_srcAT, wp_iR1, wp_iR2, wp_rng1, wp_rng2, wp_iRv, wp_srcRL, wp_srcRT, wp_iEA, wp_srcEL, wp_srcET, wp_add, wp_sub, wp_mul, wp_mod, wp_div, wp_divW, wp_pow18, wp_pow17, wp_pow16, wp_pow30, wp_eqI, wp_neI, wp_cmpI, wp_isN, wp_isNotN, wp_lenL, wp_lenT, wp_abs, wp_int, wp_min2, wp_max2, wp_listL, wp_listT, wp_tupleL, wp_tupleT, wp_ixT0, wp_ixT1, wp_ixL0, wp_neg, wp_ok, wp_srcEL, wp_isB, wp_isNotB, wp_eqB, wp_neB, wp_all, wp_any, wp_slT, wp_slL, wp_rev, wp_revT, wp_revL, wp_disp, wp_pair, wp_pair0, wp_dict0, wipeW, List.foldl_cons, List.foldl_nil, wp_run, List.map, List.length, List.replicate, List.cons_append, List.nil_append, List.append_nil, List.set_cons_zero, List.set_cons_succ, if_true, if_false, Bool.not_true, Bool.not_false, Bool.true_eq_false, Bool.false_eq_true, Nat.reduceAdd, Nat.reduceSub, gName', bag2 e, decide_eq_true_eq]
    split
    · simp only [ws_seq, ws_if, ws_set, ws_sub, ws_ret, ws_retN, ws_expr, ws_sNx, ws_for, wp_op, wp_var0, wp_varS, wp_c, wp_mB, wp_toB, wp_tr, wp_trB_bl, wp_trB_non, wp_trB_int, wp_not, wp_and, wp_or, wp_if, wp_mBl, wp_nil, wp_cons, wp_tup, wp_lst, wp_lstS, wp_newL_t, wp_newL_f, wp_chain, wp_call, wp_fn, wp_sl, wp_noPart, wp_part, wp_comp, wp_yes, wp_iL, wp_iA, wp_srcL, wp_srcS, wp_srcAL, wp_srcAT, wp_iR1, wp_iR2, wp_rng1, wp_rng2, wp_iRv, wp_srcRL, wp_srcRT, wp_iEA, wp_srcEL, wp_srcET, wp_add, wp_sub, wp_mul, wp_mod, wp_div, wp_divW, wp_pow18, wp_pow17, wp_pow16, wp_pow30, wp_eqI, wp_neI, wp_cmpI, wp_isN, wp_isNotN, wp_lenL, wp_lenT, wp_abs, wp_int, wp_min2, wp_max2, wp_listL, wp_listT, wp_tupleL, wp_tupleT, wp_ixT0, wp_ixT1, wp_ixL0, wp_neg, wp_ok, wp_srcEL, wp_isB, wp_isNotB, wp_eqB, wp_neB, wp_all, wp_any, wp_slT, wp_slL, wp_rev, wp_revT, wp_revL, wp_disp, wp_pair, wp_pair0, wp_dict0, wipeW, List.foldl_cons, List.foldl_nil, wp_run, List.map, List.length, List.replicate, List.cons_append, List.nil_append, List.append_nil, List.set_cons_zero, List.set_cons_succ, if_true, if_false, Bool.not_true, Bool.not_false, Bool.true_eq_false, Bool.false_eq_true, Nat.reduceAdd, Nat.reduceSub, gName', bag1 e, bag0 e, List.length_map, decide_eq_true_eq]
      split
      · rename_i hl
        obtain ⟨cell, hcell⟩ : ∃ cell, cs[a]? = some cell := ⟨_, List.getElem?_eq_getElem (by omega)⟩
        have e2 : (cs.map W.int)[a]? = some (.int cell) := by rw [List.getElem?_map, hcell]; rfl
        have e3 := get_setp (n := BagN cs (a + 1) b c d) e
        have e4 : ∀ x, ((st.set h (BagN cs (a + 1) b c d)).set h (BagN cs (a + 1) b x d))[h]? = some (BagN cs (a + 1) b x d) := fun x => get_setp e3
        rw [wp_ixL e2]
        simp only [ws_seq, ws_if, ws_set, ws_sub, ws_ret, ws_retN, ws_expr, ws_sNx, ws_for, wp_op, wp_var0, wp_varS, wp_c, wp_mB, wp_toB, wp_tr, wp_trB_bl, wp_trB_non, wp_trB_int, wp_not, wp_and, wp_or, wp_if, wp_mBl, wp_nil, wp_cons, wp_tup, wp_lst, wp_lstS, wp_newL_t, wp_newL_f, wp_chain, wp_call, wp_fn, wp_sl, wp_noPart, wp_part, wp_comp, wp_yes, wp_iL, wp_iA, wp_srcL, wp_srcS, wp_srcAL, wp_srcAT, wp_iR1, wp_iR2, wp_rng1, wp_rng2, wp_iRv, wp_srcRL, wp_srcRT, wp_iEA, wp_srcEL, wp_srcET, wp_add, wp_sub, wp_mul, wp_mod, wp_div, wp_divW, wp_pow18, wp_pow17, wp_pow16, wp_pow30, wp_eqI, wp_neI, wp_cmpI, wp_isN, wp_isNotN, wp_lenL, wp_lenT, wp_abs, wp_int, wp_min2, wp_max2, wp_listL, wp_listT, wp_tupleL, wp_tupleT, wp_ixT0, wp_ixT1, wp_ixL0, wp_neg, wp_ok, wp_srcEL, wp_isB, wp_isNotB, wp_eqB, wp_neB, wp_all, wp_any, wp_slT, wp_slL, wp_rev, wp_revT, wp_revL, wp_disp, wp_pair, wp_pair0, wp_dict0, wipeW, List.foldl_cons, List.foldl_nil, wp_run, List.map, List.length, List.replicate, List.cons_append, List.nil_append, List.append_nil, List.set_cons_zero, List.set_cons_succ, if_true, if_false, Bool.not_true, Bool.not_false, Bool.true_eq_false, Bool.false_eq_true, Nat.reduceAdd, Nat.reduceSub, gName', bag1 e, bagw1 e, bag3 e3, bagw3 e3, s3, Bool.or_true, true_and, decide_eq_true_eq, ne_eq]
        refine ⟨by decide, ?_⟩
        split
        · simp only [ws_seq, ws_if, ws_set, ws_sub, ws_ret, ws_retN, ws_expr, ws_sNx, ws_for, wp_op, wp_var0, wp_varS, wp_c, wp_mB, wp_toB, wp_tr, wp_trB_bl, wp_trB_non, wp_trB_int, wp_not, wp_and, wp_or, wp_if, wp_mBl, wp_nil, wp_cons, wp_tup, wp_lst, wp_lstS, wp_newL_t, wp_newL_f, wp_chain, wp_call, wp_fn, wp_sl, wp_noPart, wp_part, wp_comp, wp_yes, wp_iL, wp_iA, wp_srcL, wp_srcS, wp_srcAL, wp_srcAT, wp_iR1, wp_iR2, wp_rng1, wp_rng2, wp_iRv, wp_srcRL, wp_srcRT, wp_iEA, wp_srcEL, wp_srcET, wp_add, wp_sub, wp_mul, wp_mod, wp_div, wp_divW, wp_pow18, wp_pow17, wp_pow16, wp_pow30, wp_eqI, wp_neI, wp_cmpI, wp_isN, wp_isNotN, wp_lenL, wp_lenT, wp_abs, wp_int, wp_min2, wp_max2, wp_listL, wp_listT, wp_tupleL, wp_tupleT, wp_ixT0, wp_ixT1, wp_ixL0, wp_neg, wp_ok, wp_srcEL, wp_isB, wp_isNotB, wp_eqB, wp_neB, wp_all, wp_any, wp_slT, wp_slL, wp_rev, wp_revT, wp_revL, wp_disp, wp_pair, wp_pair0, wp_dict0, wipeW, List.foldl_cons, List.foldl_nil, wp_run, List.map, List.length, List.replicate, List.cons_append, List.nil_append, List.append_nil, List.set_cons_zero, List.set_cons_succ, if_true, if_false, Bool.not_true, Bool.not_false, Bool.true_eq_false, Bool.false_eq_true, Nat.reduceAdd, Nat.reduceSub, gName', bagw2 (e4 _)]
          exact ⟨_, _, _, _, _, _, rfl, by rw [List.set_set, List.set_set], get_setp (e4 _)⟩
        · exact ⟨_, _, _, _, _, _, rfl, by rw [List.set_set], e4 _⟩
      · exact stay
    · exact stay
  · rintro v s ⟨o, a, b, c, d, n, rfl, rfl, e⟩
    simp only [ws_seq, ws_if, ws_set, ws_sub, ws_ret, ws_retN, ws_expr, ws_sNx, ws_for, wp_op, wp_var0, wp_varS, wp_c, wp_mB, wp_toB, wp_tr, wp_trB_bl, wp_trB_non, wp_trB_int, wp_not, wp_and, wp_or, wp_if, wp_mBl, wp_nil, wp_cons, wp_tup, wp_lst, wp_lstS, wp_newL_t, wp_newL_f, wp_chain, wp_call, wp_fn, wp_sl, wp_noPart, wp_part, wp_comp, wp_yes, wp_iL, wp_iA, wp_srcL, wp_srcS, wp_srcAL, wp_srcAT, wp_iR1, wp_iR2, wp_rng1, wp_rng2, wp_iRv, wp_srcRL, wp_srcRT, wp_iEA, wp_srcEL, wp_srcET, wp_add, wp_sub, wp_mul, wp_mod, wp_div, wp_divW, wp_pow18, wp_pow17, wp_pow16, wp_pow30, wp_eqI, wp_neI, wp_cmpI, wp_isN, wp_isNotN, wp_lenL, wp_lenT, wp_abs, wp_int, wp_min2, wp_max2, wp_listL, wp_listT, wp_tupleL, wp_tupleT, wp_ixT0, wp_ixT1, wp_ixL0, wp_neg, wp_ok, wp_srcEL, wp_isB, wp_isNotB, wp_eqB, wp_neB, wp_all, wp_any, wp_slT, wp_slL, wp_rev, wp_revT, wp_revL, wp_disp, wp_pair, wp_pair0, wp_dict0, wipeW, List.foldl_cons, List.foldl_nil, wp_run, List.map, List.length, List.replicate, List.cons_append, List.nil_append, List.append_nil, List.set_cons_zero, List.set_cons_succ, if_true, if_false, Bool.not_true, Bool.not_false, Bool.true_eq_false, Bool.false_eq_true, Nat.reduceAdd, Nat.reduceSub, gName', bag2 e, decide_eq_true_eq]
    split
    · simp only [ws_seq, ws_if, ws_set, ws_sub, ws_ret, ws_retN, ws_expr, ws_sNx, ws_for, wp_op, wp_var0, wp_varS, wp_c, wp_mB, wp_toB, wp_tr, wp_trB_bl, wp_trB_non, wp_trB_int, wp_not, wp_and, wp_or, wp_if, wp_mBl, wp_nil, wp_cons, wp_tup, wp_lst, wp_lstS, wp_newL_t, wp_newL_f, wp_chain, wp_call, wp_fn, wp_sl, wp_noPart, wp_part, wp_comp, wp_yes, wp_iL, wp_iA, wp_srcL, wp_srcS, wp_srcAL, wp_srcAT, wp_iR1, wp_iR2, wp_rng1, wp_rng2, wp_iRv, wp_srcRL, wp_srcRT, wp_iEA, wp_srcEL, wp_srcET, wp_add, wp_sub, wp_mul, wp_mod, wp_div, wp_divW, wp_pow18, wp_pow17, wp_pow16, wp_pow30, wp_eqI, wp_neI, wp_cmpI, wp_isN, wp_isNotN, wp_lenL, wp_lenT, wp_abs, wp_int, wp_min2, wp_max2, wp_listL, wp_listT, wp_tupleL, wp_tupleT, wp_ixT0, wp_ixT1, wp_ixL0, wp_neg, wp_ok, wp_srcEL, wp_isB, wp_isNotB, wp_eqB, wp_neB, wp_all, wp_any, wp_slT, wp_slL, wp_rev, wp_revT, wp_revL, wp_disp, wp_pair, wp_pair0, wp_dict0, wipeW, List.foldl_cons, List.foldl_nil, wp_run, List.map, List.length, List.replicate, List.cons_append, List.nil_append, List.append_nil, List.set_cons_zero, List.set_cons_succ, if_true, if_false, Bool.not_true, Bool.not_false, Bool.true_eq_false, Bool.false_eq_true, Nat.reduceAdd, Nat.reduceSub, gName', bag2 e, bagw2 e, hm, hm2, true_and, and_true, ne_eq, not_false_eq_true]
      exact hf (by rw [List.set_set]) (hb e)
    · have e3 := get_setp (n := BagN cs a b c (d + 1)) e
      simp only [ws_seq, ws_if, ws_set, ws_sub, ws_ret, ws_retN, ws_expr, ws_sNx, ws_for, wp_op, wp_var0, wp_varS, wp_c, wp_mB, wp_toB, wp_tr, wp_trB_bl, wp_trB_non, wp_trB_int, wp_not, wp_and, wp_or, wp_if, wp_mBl, wp_nil, wp_cons, wp_tup, wp_lst, wp_lstS, wp_newL_t, wp_newL_f, wp_chain, wp_call, wp_fn, wp_sl, wp_noPart, wp_part, wp_comp, wp_yes, wp_iL, wp_iA, wp_srcL, wp_srcS, wp_srcAL, wp_srcAT, wp_iR1, wp_iR2, wp_rng1, wp_rng2, wp_iRv, wp_srcRL, wp_srcRT, wp_iEA, wp_srcEL, wp_srcET, wp_add, wp_sub, wp_mul, wp_mod, wp_div, wp_divW, wp_pow18, wp_pow17, wp_pow16, wp_pow30, wp_eqI, wp_neI, wp_cmpI, wp_isN, wp_isNotN, wp_lenL, wp_lenT, wp_abs, wp_int, wp_min2, wp_max2, wp_listL, wp_listT, wp_tupleL, wp_tupleT, wp_ixT0, wp_ixT1, wp_ixL0, wp_neg, wp_ok, wp_srcEL, wp_isB, wp_isNotB, wp_eqB, wp_neB, wp_all, wp_any, wp_slT, wp_slL, wp_rev, wp_revT, wp_revL, wp_disp, wp_pair, wp_pair0, wp_dict0, wipeW, List.foldl_cons, List.foldl_nil, wp_run, List.map, List.length, List.replicate, List.cons_append, List.nil_append, List.append_nil, List.set_cons_zero, List.set_cons_succ, if_true, if_false, Bool.not_true, Bool.not_false, Bool.true_eq_false, Bool.false_eq_true, Nat.reduceAdd, Nat.reduceSub, gName', bag4 e, bagw4 e, bag3 e3, bag4 e3, hm, s1, s2, Bool.true_or, Bool.or_true, true_and, and_true, ne_eq, not_false_eq_true, f]
      refine ⟨by decide, ⟨by decide, by decide⟩, ?_⟩
      exact ⟨by decide, ⟨by decide, by decide⟩, by decide, ⟨by decide, by decide⟩, hf (by rw [List.set_set]) (hb e)⟩
end Lw
namespace Lw
open PySem L2 Mi
def wWord (k : Nat) : Option Str := match k with
  | 2 => some "other"
  | 3 => some "snapshot"
  | 4 => some "number"
  | 5 => some "open"
  | 6 => some "seen"
  | 7 => some "writes"
  | 8 => some "other"
  | 9 => some "known"
  | _ => none
def wordX (k : Nat) (s : Sto) : Rs W := match wWord k with
  | some w => .ok (.str w) s
  | none => .stuck
def wordR (r : Rs W) : Rs W := match r with
  | .ok _ s => .ok (.str "let") s
  | .ex (.plain k) s => wordX k s
  | .ex (.one k _ _) s => wordX k s
  | .stuck => .stuck
theorem lk_none {β : Type} {k : Nat} {l : List (Nat × β)} (h : ∀ p ∈ l, p.1 ≠ k) : l.lookup k = none := by
  induction l with
  | nil => rfl
  | cons p l ih =>
    obtain ⟨a, b⟩ := p
    have h1 : (k == a) = false := by simpa using fun e => h (a, b) List.mem_cons_self e.symm
    rw [List.lookup_cons, h1]
    exact ih fun p hp => h p (List.mem_cons_of_mem _ hp)
abbrev t1 : List (Nat × Bool) := [(2, false), (3, false), (4, true), (5, false), (6, false), (7, false), (8, false), (9, false)]
abbrev t2 : List (Nat × Bool) := [(2, false), (3, true), (4, false), (5, false), (6, false), (7, false), (8, false), (9, false)]
abbrev t3 : List (Nat × Bool) := [(2, false), (3, false), (4, false), (5, true), (6, false), (7, false), (8, false), (9, false)]
abbrev t4 : List (Nat × Bool) := [(2, false), (3, false), (4, false), (5, false), (6, true), (7, false), (8, false), (9, false)]
abbrev t5 : List (Nat × Bool) := [(2, false), (3, false), (4, false), (5, false), (6, false), (7, true), (8, false), (9, false)]
abbrev t6 : List (Nat × Bool) := [(2, false), (3, false), (4, false), (5, false), (6, false), (7, false), (8, false), (9, true)]
abbrev tA : List (Nat × Bool) := [(2, true), (3, true), (4, true), (5, true), (6, true), (7, true), (8, true), (9, true)]
theorem exis_at {n : Nat} {a : Addr} {tb : List (Nat × Bool)} {b : Bool} (h : tb.lookup n = some b) (o0 o1 o3 : Option W) (s : Sto) : mExIs n a tb 2 [o0, o1, some (.at_ a), o3] s = .ok (.bl b) s := by
  simp [mExIs, h]
theorem exisx_at {n : Nat} {a d : Addr} {f : Str} {w : W} {tb : List (Nat × Bool)} {b : Bool} (h : tb.lookup n = some b) (o0 o1 o3 : Option W) (s : Sto) : mExIsX n a d tb 2 [o0, o1, some (.exc a d f w), o3] s = .ok (.bl b) s := by
  simp [mExIsX, h]
/-- the suite of the except clause, over what it is told of the error -/
noncomputable def suiteW (m1 m2 m3 m4 m5 m6 mA : M W) : MS := sSeq (sAsg (mLst true (mCons m1 (mCons m2 (mCons m3 (mCons m4 mNil))))) (gName' 3)) (sSeq (sAsg (mOp (wAdd true) (mVar 3) (mLst true (mCons m5 (mCons m6 mNil)))) (gName' 3)) (sSeq (sAsg (mC (.str "other")) (gName' 1)) (sIf (mAnd (mB (mOp (wEq) (mLm fCountB (mVar 3) (mCons (mC (.bl true)) (mNil))) (mC (.int 1)))) (mTr mA)) (sAsg (mOp wIx (mLst true (mCons (mC (.str "number")) (mCons (mC (.str "snapshot")) (mCons (mC (.str "open")) (mCons (mC (.str "seen")) (mCons (mC (.str "writes")) (mCons (mC (.str "known")) (mNil)))))))) (mLm fIndexB (mVar 3) (mCons (mC (.bl true)) (mNil)))) (gName' 1)) (sNx))))
theorem suite_run {m1 m2 m3 m4 m5 m6 mA : M W} {b1 b2 b3 b4 b5 b6 : Bool} {x : W} {w : Str} {s : Sto} (h1 : ∀ o0 o1 o3 s, m1 [o0, o1, some x, o3] s = .ok (.bl b1) s) (h2 : ∀ o0 o1 o3 s, m2 [o0, o1, some x, o3] s = .ok (.bl b2) s) (h3 : ∀ o0 o1 o3 s, m3 [o0, o1, some x, o3] s = .ok (.bl b3) s)
    (h4 : ∀ o0 o1 o3 s, m4 [o0, o1, some x, o3] s = .ok (.bl b4) s) (h5 : ∀ o0 o1 o3 s, m5 [o0, o1, some x, o3] s = .ok (.bl b5) s) (h6 : ∀ o0 o1 o3 s, m6 [o0, o1, some x, o3] s = .ok (.bl b6) s) (hA : ∀ o0 o1 o3 s, mA [o0, o1, some x, o3] s = .ok (.bl true) s)
    (h : suiteW (mC (.bl b1)) (mC (.bl b2)) (mC (.bl b3)) (mC (.bl b4)) (mC (.bl b5)) (mC (.bl b6)) (mC (.bl true)) [none, none, some x, none] s = .nx [none, some (.str w), some x, some (.lst [.bl b1, .bl b2, .bl b3, .bl b4, .bl b5, .bl b6])] s) :
    suiteW m1 m2 m3 m4 m5 m6 mA [none, none, some x, none] s = .nx [none, some (.str w), some x, some (.lst [.bl b1, .bl b2, .bl b3, .bl b4, .bl b5, .bl b6])] s := by
  rw [← h]
  have e1 : (mLst true (mCons m1 (mCons m2 (mCons m3 (mCons m4 mNil))))) [none, none, some x, none] s = (mLst true (mCons (mC (.bl b1)) (mCons (mC (.bl b2)) (mCons (mC (.bl b3)) (mCons (mC (.bl b4)) mNil))))) [none, none, some x, none] s := by
    simp only [mLst, mCons, mNil, h1, h2, h3, h4, mC, Rs.bind]
  have e2 : ∀ l s, (mOp (wAdd true) (mVar 3) (mLst true (mCons m5 (mCons m6 mNil)))) [none, none, some x, some l] s = (mOp (wAdd true) (mVar 3) (mLst true (mCons (mC (.bl b5)) (mCons (mC (.bl b6)) mNil)))) [none, none, some x, some l] s := by
    intro l s
    simp only [mOp, mLst, mCons, mNil, h5, h6, mC, Rs.bind]
  have e3 : ∀ o l s, mTr mA [none, o, some x, l] s = mTr (mC (.bl true)) [none, o, some x, l] s := by
    intro o l s
    simp only [mTr, hA, mC, Rs.bind]
  have e4 : (mLst true (mCons (mC (.bl b1)) (mCons (mC (.bl b2)) (mCons (mC (.bl b3)) (mCons (mC (.bl b4)) mNil))))) [none, none, some x, none] s = .ok (.lst [.bl b1, .bl b2, .bl b3, .bl b4]) s := rfl
  have e5 : (mOp (wAdd true) (mVar 3) (mLst true (mCons (mC (.bl b5)) (mCons (mC (.bl b6)) mNil)))) [none, none, some x, some (.lst [.bl b1, .bl b2, .bl b3, .bl b4])] s = .ok (.lst [.bl b1, .bl b2, .bl b3, .bl b4, .bl b5, .bl b6]) s := rfl
  simp only [suiteW, sSeq, sAsg, e1, e4, Rs.bind, Rs.to, gDo, gName', List.set_cons_succ, List.set_cons_zero, e2, e5, mC, sIf, mAnd, e3]
theorem try_plain {k : Nat} {b1 b2 b3 b4 b5 b6 : Bool} {w : Str} {s : Sto} {kk : Nat → Addr → MS} (h : ∀ a, kk k a [none, none, some (.at_ a), none] s = .nx [none, some (.str w), some (.at_ a), some (.lst [.bl b1, .bl b2, .bl b3, .bl b4, .bl b5, .bl b6])] s) :
    (agree fun a => clrS 2 (kk k a ([none, none, none, none].set 2 (some (.at_ a))) s)) = .nx [none, some (.str w), none, some (.lst [.bl b1, .bl b2, .bl b3, .bl b4, .bl b5, .bl b6])] s := agree_eq fun a => by
  show clrS 2 (kk k a [none, none, some (.at_ a), none] s) = _
  rw [h a]
  rfl
theorem try_one {k : Nat} {b1 b2 b3 b4 b5 b6 : Bool} {w f : Str} {v : W} {s : Sto} {kk : Nat → Addr → Addr → MS} (h : ∀ a d, kk k a d [none, none, some (.exc a d f v), none] s = .nx [none, some (.str w), some (.exc a d f v), some (.lst [.bl b1, .bl b2, .bl b3, .bl b4, .bl b5, .bl b6])] s) :
    (agree2 fun a d => clrS 2 (kk k a d ([none, none, none, none].set 2 (some (.exc a d f v))) s)) = .nx [none, some (.str w), none, some (.lst [.bl b1, .bl b2, .bl b3, .bl b4, .bl b5, .bl b6])] s := agree2_eq fun a d => by
  show clrS 2 (kk k a d [none, none, some (.exc a d f v), none] s) = _
  rw [h a d]
  rfl
theorem word_ok {cl : Sto → Rs W} {st : Sto} : calmR (outOf (mL_law_word .non cl (some .non :: List.replicate 3 none) st)) = wordR (cl st) := by
  have e1 : mCallP .non 0 cl [some .non, some (.str "let"), none, none] st = cl st := if_pos rfl
  have bad : ∀ k, 10 ≤ k → wordX k = fun _ => .stuck := fun k hk => by
    funext s
    unfold wordX wWord
    split
    · rename_i e
      split at e <;> first | omega | cases e
    · rfl
  unfold mL_law_word
  simp only [sSeq, sAsg, mC, Rs.bind, Rs.to, gDo, gName', List.set_cons_succ, List.set_cons_zero, List.replicate, sTryX, sForget, sExpr, e1]
  rcases h : cl st with ⟨a, s⟩ | ⟨⟨k⟩ | ⟨k, f, w⟩, s⟩ | _
  · rfl
  · match k, h with
    | 0, h => rfl
    | 1, h => rfl
    | 2, h =>
      have e := try_plain (k := 2) (w := "other") (b1 := false) (b2 := false) (b3 := false) (b4 := false) (b5 := false) (b6 := false) (s := s) (kk := fun n a => suiteW (mExIs n a t1 2) (mExIs n a t2 2) (mExIs n a t3 2) (mExIs n a t4 2) (mExIs n a t5 2) (mExIs n a t6 2) (mExIs n a tA 2)) fun a => suite_run (exis_at rfl) (exis_at rfl) (exis_at rfl) (exis_at rfl) (exis_at rfl) (exis_at rfl) (exis_at rfl) rfl
      exact congrArg (fun z => calmR (outOf (match z with
            | SRs.nx env1 st1 => sRet (mVar 1) env1 st1
            | r => r))) e
    | 3, h =>
      have e := try_plain (k := 3) (w := "snapshot") (b1 := false) (b2 := true) (b3 := false) (b4 := false) (b5 := false) (b6 := false) (s := s) (kk := fun n a => suiteW (mExIs n a t1 2) (mExIs n a t2 2) (mExIs n a t3 2) (mExIs n a t4 2) (mExIs n a t5 2) (mExIs n a t6 2) (mExIs n a tA 2)) fun a => suite_run (exis_at rfl) (exis_at rfl) (exis_at rfl) (exis_at rfl) (exis_at rfl) (exis_at rfl) (exis_at rfl) rfl
      exact congrArg (fun z => calmR (outOf (match z with
            | SRs.nx env1 st1 => sRet (mVar 1) env1 st1
            | r => r))) e
    | 4, h =>
      have e := try_plain (k := 4) (w := "number") (b1 := true) (b2 := false) (b3 := false) (b4 := false) (b5 := false) (b6 := false) (s := s) (kk := fun n a => suiteW (mExIs n a t1 2) (mExIs n a t2 2) (mExIs n a t3 2) (mExIs n a t4 2) (mExIs n a t5 2) (mExIs n a t6 2) (mExIs n a tA 2)) fun a => suite_run (exis_at rfl) (exis_at rfl) (exis_at rfl) (exis_at rfl) (exis_at rfl) (exis_at rfl) (exis_at rfl) rfl
      exact congrArg (fun z => calmR (outOf (match z with
            | SRs.nx env1 st1 => sRet (mVar 1) env1 st1
            | r => r))) e
    | 5, h =>
      have e := try_plain (k := 5) (w := "open") (b1 := false) (b2 := false) (b3 := true) (b4 := false) (b5 := false) (b6 := false) (s := s) (kk := fun n a => suiteW (mExIs n a t1 2) (mExIs n a t2 2) (mExIs n a t3 2) (mExIs n a t4 2) (mExIs n a t5 2) (mExIs n a t6 2) (mExIs n a tA 2)) fun a => suite_run (exis_at rfl) (exis_at rfl) (exis_at rfl) (exis_at rfl) (exis_at rfl) (exis_at rfl) (exis_at rfl) rfl
      exact congrArg (fun z => calmR (outOf (match z with
            | SRs.nx env1 st1 => sRet (mVar 1) env1 st1
            | r => r))) e
    | 6, h =>
      have e := try_plain (k := 6) (w := "seen") (b1 := false) (b2 := false) (b3 := false) (b4 := true) (b5 := false) (b6 := false) (s := s) (kk := fun n a => suiteW (mExIs n a t1 2) (mExIs n a t2 2) (mExIs n a t3 2) (mExIs n a t4 2) (mExIs n a t5 2) (mExIs n a t6 2) (mExIs n a tA 2)) fun a => suite_run (exis_at rfl) (exis_at rfl) (exis_at rfl) (exis_at rfl) (exis_at rfl) (exis_at rfl) (exis_at rfl) rfl
      exact congrArg (fun z => calmR (outOf (match z with
            | SRs.nx env1 st1 => sRet (mVar 1) env1 st1
            | r => r))) e
    | 7, h =>
      have e := try_plain (k := 7) (w := "writes") (b1 := false) (b2 := false) (b3 := false) (b4 := false) (b5 := true) (b6 := false) (s := s) (kk := fun n a => suiteW (mExIs n a t1 2) (mExIs n a t2 2) (mExIs n a t3 2) (mExIs n a t4 2) (mExIs n a t5 2) (mExIs n a t6 2) (mExIs n a tA 2)) fun a => suite_run (exis_at rfl) (exis_at rfl) (exis_at rfl) (exis_at rfl) (exis_at rfl) (exis_at rfl) (exis_at rfl) rfl
      exact congrArg (fun z => calmR (outOf (match z with
            | SRs.nx env1 st1 => sRet (mVar 1) env1 st1
            | r => r))) e
    | 8, h =>
      have e := try_plain (k := 8) (w := "other") (b1 := false) (b2 := false) (b3 := false) (b4 := false) (b5 := false) (b6 := false) (s := s) (kk := fun n a => suiteW (mExIs n a t1 2) (mExIs n a t2 2) (mExIs n a t3 2) (mExIs n a t4 2) (mExIs n a t5 2) (mExIs n a t6 2) (mExIs n a tA 2)) fun a => suite_run (exis_at rfl) (exis_at rfl) (exis_at rfl) (exis_at rfl) (exis_at rfl) (exis_at rfl) (exis_at rfl) rfl
      exact congrArg (fun z => calmR (outOf (match z with
            | SRs.nx env1 st1 => sRet (mVar 1) env1 st1
            | r => r))) e
    | 9, h =>
      have e := try_plain (k := 9) (w := "known") (b1 := false) (b2 := false) (b3 := false) (b4 := false) (b5 := false) (b6 := true) (s := s) (kk := fun n a => suiteW (mExIs n a t1 2) (mExIs n a t2 2) (mExIs n a t3 2) (mExIs n a t4 2) (mExIs n a t5 2) (mExIs n a t6 2) (mExIs n a tA 2)) fun a => suite_run (exis_at rfl) (exis_at rfl) (exis_at rfl) (exis_at rfl) (exis_at rfl) (exis_at rfl) (exis_at rfl) rfl
      exact congrArg (fun z => calmR (outOf (match z with
            | SRs.nx env1 st1 => sRet (mVar 1) env1 st1
            | r => r))) e
    | k + 10, h =>
      simp only [wordR]
      rw [bad _ (by omega), lk_none (by intro p hp; simp at hp; rcases hp with rfl | rfl | rfl | rfl | rfl | rfl | rfl | rfl <;> simp)]
      rfl
  · match k, h with
    | 0, h => rfl
    | 1, h => rfl
    | 2, h =>
      have e := try_one (k := 2) (w := "other") (f := f) (v := w) (b1 := false) (b2 := false) (b3 := false) (b4 := false) (b5 := false) (b6 := false) (s := s) (kk := fun n a d => suiteW (mExIsX n a d t1 2) (mExIsX n a d t2 2) (mExIsX n a d t3 2) (mExIsX n a d t4 2) (mExIsX n a d t5 2) (mExIsX n a d t6 2) (mExIsX n a d tA 2)) fun a d => suite_run (exisx_at rfl) (exisx_at rfl) (exisx_at rfl) (exisx_at rfl) (exisx_at rfl) (exisx_at rfl) (exisx_at rfl) rfl
      exact congrArg (fun z => calmR (outOf (match z with
            | SRs.nx env1 st1 => sRet (mVar 1) env1 st1
            | r => r))) e
    | 3, h =>
      have e := try_one (k := 3) (w := "snapshot") (f := f) (v := w) (b1 := false) (b2 := true) (b3 := false) (b4 := false) (b5 := false) (b6 := false) (s := s) (kk := fun n a d => suiteW (mExIsX n a d t1 2) (mExIsX n a d t2 2) (mExIsX n a d t3 2) (mExIsX n a d t4 2) (mExIsX n a d t5 2) (mExIsX n a d t6 2) (mExIsX n a d tA 2)) fun a d => suite_run (exisx_at rfl) (exisx_at rfl) (exisx_at rfl) (exisx_at rfl) (exisx_at rfl) (exisx_at rfl) (exisx_at rfl) rfl
      exact congrArg (fun z => calmR (outOf (match z with
            | SRs.nx env1 st1 => sRet (mVar 1) env1 st1
            | r => r))) e
    | 4, h =>
      have e := try_one (k := 4) (w := "number") (f := f) (v := w) (b1 := true) (b2 := false) (b3 := false) (b4 := false) (b5 := false) (b6 := false) (s := s) (kk := fun n a d => suiteW (mExIsX n a d t1 2) (mExIsX n a d t2 2) (mExIsX n a d t3 2) (mExIsX n a d t4 2) (mExIsX n a d t5 2) (mExIsX n a d t6 2) (mExIsX n a d tA 2)) fun a d => suite_run (exisx_at rfl) (exisx_at rfl) (exisx_at rfl) (exisx_at rfl) (exisx_at rfl) (exisx_at rfl) (exisx_at rfl) rfl
      exact congrArg (fun z => calmR (outOf (match z with
            | SRs.nx env1 st1 => sRet (mVar 1) env1 st1
            | r => r))) e
    | 5, h =>
      have e := try_one (k := 5) (w := "open") (f := f) (v := w) (b1 := false) (b2 := false) (b3 := true) (b4 := false) (b5 := false) (b6 := false) (s := s) (kk := fun n a d => suiteW (mExIsX n a d t1 2) (mExIsX n a d t2 2) (mExIsX n a d t3 2) (mExIsX n a d t4 2) (mExIsX n a d t5 2) (mExIsX n a d t6 2) (mExIsX n a d tA 2)) fun a d => suite_run (exisx_at rfl) (exisx_at rfl) (exisx_at rfl) (exisx_at rfl) (exisx_at rfl) (exisx_at rfl) (exisx_at rfl) rfl
      exact congrArg (fun z => calmR (outOf (match z with
            | SRs.nx env1 st1 => sRet (mVar 1) env1 st1
            | r => r))) e
    | 6, h =>
      have e := try_one (k := 6) (w := "seen") (f := f) (v := w) (b1 := false) (b2 := false) (b3 := false) (b4 := true) (b5 := false) (b6 := false) (s := s) (kk := fun n a d => suiteW (mExIsX n a d t1 2) (mExIsX n a d t2 2) (mExIsX n a d t3 2) (mExIsX n a d t4 2) (mExIsX n a d t5 2) (mExIsX n a d t6 2) (mExIsX n a d tA 2)) fun a d => suite_run (exisx_at rfl) (exisx_at rfl) (exisx_at rfl) (exisx_at rfl) (exisx_at rfl) (exisx_at rfl) (exisx_at rfl) rfl
      exact congrArg (fun z => calmR (outOf (match z with
            | SRs.nx env1 st1 => sRet (mVar 1) env1 st1
            | r => r))) e
    | 7, h =>
      have e := try_one (k := 7) (w := "writes") (f := f) (v := w) (b1 := false) (b2 := false) (b3 := false) (b4 := false) (b5 := true) (b6 := false) (s := s) (kk := fun n a d => suiteW (mExIsX n a d t1 2) (mExIsX n a d t2 2) (mExIsX n a d t3 2) (mExIsX n a d t4 2) (mExIsX n a d t5 2) (mExIsX n a d t6 2) (mExIsX n a d tA 2)) fun a d => suite_run (exisx_at rfl) (exisx_at rfl) (exisx_at rfl) (exisx_at rfl) (exisx_at rfl) (exisx_at rfl) (exisx_at rfl) rfl
      exact congrArg (fun z => calmR (outOf (match z with
            | SRs.nx env1 st1 => sRet (mVar 1) env1 st1
            | r => r))) e
    | 8, h =>
      have e := try_one (k := 8) (w := "other") (f := f) (v := w) (b1 := false) (b2 := false) (b3 := false) (b4 := false) (b5 := false) (b6 := false) (s := s) (kk := fun n a d => suiteW (mExIsX n a d t1 2) (mExIsX n a d t2 2) (mExIsX n a d t3 2) (mExIsX n a d t4 2) (mExIsX n a d t5 2) (mExIsX n a d t6 2) (mExIsX n a d tA 2)) fun a d => suite_run (exisx_at rfl) (exisx_at rfl) (exisx_at rfl) (exisx_at rfl) (exisx_at rfl) (exisx_at rfl) (exisx_at rfl) rfl
      exact congrArg (fun z => calmR (outOf (match z with
            | SRs.nx env1 st1 => sRet (mVar 1) env1 st1
            | r => r))) e
    | 9, h =>
      have e := try_one (k := 9) (w := "known") (f := f) (v := w) (b1 := false) (b2 := false) (b3 := false) (b4 := false) (b5 := false) (b6 := true) (s := s) (kk := fun n a d => suiteW (mExIsX n a d t1 2) (mExIsX n a d t2 2) (mExIsX n a d t3 2) (mExIsX n a d t4 2) (mExIsX n a d t5 2) (mExIsX n a d t6 2) (mExIsX n a d tA 2)) fun a d => suite_run (exisx_at rfl) (exisx_at rfl) (exisx_at rfl) (exisx_at rfl) (exisx_at rfl) (exisx_at rfl) (exisx_at rfl) rfl
      exact congrArg (fun z => calmR (outOf (match z with
            | SRs.nx env1 st1 => sRet (mVar 1) env1 st1
            | r => r))) e
    | k + 10, h =>
      simp only [wordR]
      rw [bad _ (by omega), lk_none (by intro p hp; simp at hp; rcases hp with rfl | rfl | rfl | rfl | rfl | rfl | rfl | rfl <;> simp)]
      rfl
  · rfl
end Lw
namespace Lw
open PySem L2 Mi

def tb0 : Nd := .tb 0 "law.<locals>.<lambda>"
def mLamD (mb : M W) : M W := fun env st => match st[(0 : Nat)]? with
  | some (.tb j q) => if j = 0 ∧ q = "law.<locals>.<lambda>" then wordR (mb env st) else .stuck
  | _ => .stuck
theorem lam_eq {mb : M W} : mLam 0 "law.<locals>.<lambda>" (fun F cl => mL_law_word F cl) 3 mb = mLamD mb := by
  funext env st
  unfold mLam mLamD
  cases st[(0 : Nat)]? with
  | none => rfl
  | some nd =>
    cases nd with
    | tb j' q' =>
      simp only
      split
      · exact word_ok
      · rfl
    | _ => rfl

noncomputable def z_odd : M W := mGcS (mCall r_law_odd (mCons (mVar 1) (mCons (mC (.int 0)) (mNil))))
noncomputable def z_due : M W := mIf (mTr (mCall r_law_is_int (mCons (mVar 2) (mCons (mC (.int 0)) (mCons (mOp (wPow) (mC (.int 10)) (mC (.int 40))) (mNil)))))) (mC (.str "let")) (mC (.str "number"))
noncomputable def z_lam : M W := mLamD (mMake 0 r_Check_init (mCons (mVar 2) (mNil)))
noncomputable def a_pick : M W := mGcS (mOp wIx (mLst true (mCons (mVar 4) (mCons (mOp (wAdd true) (mVar 4) (mC (.int 1))) (mCons (mOp (wSub) (mVar 4) (mC (.int 1))) (mCons (mOp (wAdd true) (mVar 4) (mC (.int 2))) (mCons (mGcS (mCall r_law_odd (mCons (mVar 1) (mCons (mVar 4) (mNil))))) (mCons (mC (.bl true)) (mCons (mC .non) (mCons (mC (.str "0")) (mNil)))))))))) (mCall r_law_draw (mCons (mVar 1) (mCons (mC (.int 8)) (mNil)))))
noncomputable def a_due : M W := mIf (mTr (mCall r_law_is_int (mCons (mVar 8) (mCons (mVar 4) (mCons (mOp (wAdd true) (mVar 4) (mC (.int 1))) (mNil)))))) (mC (.str "let")) (mC (.str "snapshot"))
noncomputable def a_lam : M W := mLamD (mMeth [(0, r_Check_opens)] "opens" (mMeth [(0, r_Check_copy)] "copy" (mVar 5) mNil) (mCons (mVar 8) (mNil)))
noncomputable def b_pick : M W := mGcS (mOp wIx (mLst true (mCons (mC (.int 0)) (mCons (mC (.int 3)) (mCons (mC (.int 1)) (mCons (mC (.int 2)) (mCons (mC (.int 4)) (mCons (mC (.bl true)) (mCons (mC (.bl false)) (mCons (mGcS (mCall r_law_odd (mCons (mVar 1) (mCons (mC (.int 0)) (mNil))))) (mNil)))))))))) (mCall r_law_draw (mCons (mVar 1) (mCons (mC (.int 8)) (mNil)))))
noncomputable def b_open : M W := mBl (mAnd (mB (mCall r_law_is_int (mCons (mVar 9) (mCons (mC (.int 0)) (mCons (mC (.int 3)) (mNil)))))) (mB (mOp (wIn false) (mVar 9) (mTup (mCons (mC (.int 0)) (mCons (mC (.int 3)) (mNil)))))))
noncomputable def b_three : M W := mTup (mCons (mGcS (mCall r_law_odd (mCons (mVar 1) (mCons (mTup (mCons (mC (.str "c")) (mNil))) (mNil))))) (mCons (mGcS (mCall r_law_odd (mCons (mVar 1) (mCons (mTup (mNil)) (mNil))))) (mCons (mGcS (mCall r_law_odd (mCons (mVar 1) (mCons (mTup (mCons (mTup (mCons (mC (.str "d")) (mCons (mC (.int 1)) (mNil)))) (mNil))) (mNil))))) (mNil))))
noncomputable def b_w : M W := mIf (mTr (mCall r_law_are_writes (mCons (mVar 13) (mNil)))) (mC (.str "let")) (mC (.str "writes"))
noncomputable def b_k : M W := mIf (mAnd (mTr (mCall r_law_are_keys (mCons (mVar 11) (mNil)))) (mTr (mCall r_law_are_ranges (mCons (mVar 12) (mNil))))) (mVar 3) (mC (.str "seen"))
noncomputable def b_o : M W := mIf (mTr (mVar 10)) (mVar 3) (mC (.str "open"))
noncomputable def l_com : M W := mLamD (mMeth [(0, r_Check_commits)] "commits" (mMeth [(0, r_Check_copy)] "copy" (mVar 5) mNil) (mCons (mVar 9) (mCons (mVar 11) (mCons (mVar 12) (mCons (mVar 13) (mNil))))))
noncomputable def l_wc : M W := mLamD (mMeth [(0, r_Check_would_commit)] "would_commit" (mVar 5) (mCons (mVar 9) (mCons (mVar 11) (mCons (mVar 12) (mCons (mVar 13) (mNil))))))
noncomputable def l_gu : M W := mLamD (mMeth [(0, r_Check_gives_up)] "gives_up" (mMeth [(0, r_Check_copy)] "copy" (mVar 5) mNil) (mCons (mVar 9) (mNil)))
noncomputable def b_kn : M W := mIf (mTr (mCall r_law_is_int (mCons (mVar 9) (mCons (mC (.int 1)) (mCons (mC (.int 1)) (mNil)))))) (mC (.str "let")) (mC (.str "known"))
noncomputable def l_cr : M W := mLamD (mMeth [(0, r_Check_could_ring)] "could_ring" (mVar 5) (mCons (mVar 9) (mNil)))
noncomputable def G0 : MS := sSeq (sAsg z_odd (gName' 2)) (sSeq (sAsg z_due (gName' 3)) (sIf (mB (mOp (wNe) (mGc z_lam) (mVar 3))) (sRet (mC (.bl false))) (sNx)))
noncomputable def GA : MS := sSeq (sAsg a_pick (gName' 8)) (sSeq (sAsg a_due (gName' 3)) (sIf (mB (mOp (wNe) (mGc a_lam) (mVar 3))) (sRet (mC (.bl false))) (sNx)))
noncomputable def GBt : MS := sSeq (sAsg b_w (gName' 3)) (sSeq (sAsg b_k (gName' 3)) (sSeq (sAsg b_o (gName' 3)) (sSeq (sAsg (mGc l_com) (gName' 14)) (sSeq (sIf (mAnd (mB (mOp (wNe) (mVar 14) (mVar 3))) (mOr (mB (mOp (wNe) (mVar 14) (mC (.str "other")))) (mB (mOp (wNe) (mVar 3) (mC (.str "let")))))) (sRet (mC (.bl false))) (sNx)) (sSeq (sIf (mB (mOp (wNe) (mGc l_wc) (mVar 14))) (sRet (mC (.bl false))) (sNx)) (sSeq (sIf (mB (mOp (wNe) (mGc l_gu) (mIf (mTr (mVar 10)) (mC (.str "let")) (mC (.str "open"))))) (sRet (mC (.bl false))) (sNx)) (sSeq (sAsg b_kn (gName' 3)) (sIf (mB (mOp (wNe) (mGc l_cr) (mVar 3))) (sRet (mC (.bl false))) (sNx)))))))))
noncomputable def GB : MS := sSeq (sAsg b_pick (gName' 9)) (sSeq (sAsg b_open (gName' 10)) (sSeq (sAsg b_three (gTup' [gName' 11, gName' 12, gName' 13])) GBt))
noncomputable def m_lawD : MS := sSeq (sAsg (mCall r_law_hand (mCons (mVar 0) (mNil))) (gName' 1)) (sSeq (sGc [2, 3] G0) (sSeq (sAsg (mOp wIx (mLst true (mCons (mC (.int 0)) (mCons (mC (.int 5)) (mCons (mOp (wPow) (mC (.int 10)) (mC (.int 17))) (mNil))))) (mCall r_law_draw (mCons (mVar 1) (mCons (mC (.int 3)) (mNil))))) (gName' 4)) (sSeq (sAsg (mCall r_law_ready (mCons (mVar 1) (mCons (mVar 4) (mNil)))) (gName' 5)) (sSeq (sAsg (mTup (mCons (mMeth [(0, r_Check_last)] "last" (mVar 5) mNil) (mCons (mMeth [(0, r_Check_open_entries)] "open_entries" (mVar 5) mNil) (mCons (mMeth [(0, r_Check_remembered)] "remembered" (mVar 5) mNil) (mNil))))) (gName' 6)) (sSeq (sIf (mB (mOp (wNe) (mVar 6) (mTup (mCons (mOp (wAdd true) (mVar 4) (mC (.int 1))) (mCons (mTup (mCons (mC (.int 0)) (mCons (mC (.int 3)) (mNil)))) (mCons (mTup (mCons (mC (.int 1)) (mNil))) (mNil))))))) (sRet (mC (.bl false))) (sNx)) (sSeq (sFor (iR1 (mCons (mC (.int 6)) (mNil))) (gName' 7) (sSeq (sGc [8, 3] GA) (sGc [9, 10, 11, 12, 13, 3, 14] GB))) (sRet (mOp (wEq) (mTup (mCons (mMeth [(0, r_Check_last)] "last" (mVar 5) mNil) (mCons (mMeth [(0, r_Check_open_entries)] "open_entries" (mVar 5) mNil) (mCons (mMeth [(0, r_Check_remembered)] "remembered" (mVar 5) mNil) (mNil))))) (mVar 6)))))))))
theorem law_eq : m_law = m_lawD := by
  unfold m_law
  simp only [lam_eq]
  rfl
/-- the store behind the hand, once the check is ready -/
def Rl (l l1 : Int) : Sto := [.ins 0 [("newest", .int l1), ("opened", .int 4), ("snapshots", .ref 3), ("dealings", .ref 19), ("ways", .ref 20)], .dk [(.inl 0, .int l), (.inl 3, .int l1)], .dk [(.inl 1, .ref 6)], .dk [], .ins 1 [("snapshot", .int l), ("number", .int l1), ("gets", .tup [.str "a"]), ("ranges", .tup []), ("writes", .tup [.tup [.str "b", .int 4]])], .lst [], .dk [(.inl 1, .ref 7)], .dk [(.inl 1, .bl true)], .lst [], .dk [(.inl 1, .int l1)], .dk [(.inl 1, .bl true)], .lst [], .dk [(.inl 1, .ref 6)], .dk [(.inl 1, .ref 7)], .dk [(.inl 1, .int l1)], .dk [(.inl 1, .bl true)], .lst [], .dk [(.inl 1, .ref 6)], .dk [(.inl 1, .ref 7)]]
theorem rd_0 (n : Nd) : r_law_ready [.ref 1, .int 0] [tb0, n] = .ok (.ref 2) (tb0 :: n :: Rl 0 1) := by kernel_rfl
theorem rd_1 (n : Nd) : r_law_ready [.ref 1, .int 5] [tb0, n] = .ok (.ref 2) (tb0 :: n :: Rl 5 6) := by kernel_rfl
theorem rd_2 (n : Nd) : r_law_ready [.ref 1, .int 100000000000000000] [tb0, n] = .ok (.ref 2) (tb0 :: n :: Rl 100000000000000000 100000000000000001) := by kernel_rfl
end Lw
namespace Lw
open PySem L2 Mi

def conc : List W := [.non, .bl true, .int (-1), .int 0, .int 1, .int 1000000000000000000000000000000, .str "a", .str "", .tup [], .lst [], .tup [.str "a"], .lst [.str "a"], .tup [.tup [.str "a", .int 1]], .tup [.tup [.str "a", .str "b", .tup []]], .tup [.str "b", .str "a"], .tup [.str "a", .str "a"], .tup [.str "A"], .tup [.str "abcdefghijklm"], .tup [.tup [.str "b", .str "a", .tup []]], .tup [.tup [.str "a", .str "c", .tup [.str "d"]]], .tup [.tup [.str "a", .str "c", .lst [.str "b"]]], .tup [.tup [.str "a", .str "c", .tup [.str "b"]]], .tup [.tup [.str "b", .int 1], .tup [.str "a", .int 2]], .tup [.tup [.str "a", .int 1], .tup [.str "a", .int 2]], .tup [.tup [.str "a", .int 1000000000000000001]], .tup [.tup [.str "a", .bl true]], .tup [.tup [.str "a", .non]], .tup [.tup [.str "a"]]]
/-- a value of the menu that is no dict -/
def Oddv (v : W) : Prop := v ∈ conc ∨ ∃ x, v = .lst [x] ∨ v = .tup [.tup [x]] ∨ v = .tup [.lst [x]]
def Val (R0 : List W) (v : W) : Prop := v ∈ R0 ∨ Oddv v
def vals (R0 : List W) (x : W) : List W := R0 ++ conc ++ [.lst [x], .tup [.tup [x]], .tup [.lst [x]]]
theorem Val.mem {R0 : List W} {v : W} (h : Val R0 v) : ∃ x, v ∈ vals R0 x := by
  rcases h with h | h | ⟨x, rfl | rfl | rfl⟩
  · exact ⟨.non, by simp [vals, h]⟩
  · exact ⟨.non, by simp [vals, h]⟩
  · exact ⟨x, by simp [vals]⟩
  · exact ⟨x, by simp [vals]⟩
  · exact ⟨x, by simp [vals]⟩
/-- what holds at each place of a list holds at each value -/
theorem val_by {α : Type} {R0 : List W} {f g : W → α} (h : ∀ x, (vals R0 x).map f = (vals R0 x).map g) {v : W} (hv : Val R0 v) : f v = g v := by
  obtain ⟨x, hm⟩ := hv.mem
  exact List.map_inj_left.mp (h x) v hm
theorem isi_d {st : Sto} {j : Nat} (h : st[j]? = some (.dk [])) : fIsi x_own [.ref j, .ty "tuple"] st = .ok (.bl false) st := by
  have e : tyOf st (.ref j) = some "dict" := by simp [tyOf, h]
  simp only [fIsi, e]
  rfl
def PX_keys (v : W) (b : Bool) : Prop := (∀ st, r_law_are_keys [v] st = .ok (.bl b) st) ∧ ∀ st, r_is_keys [v] st = .ok (.bl b) st
def ok_keys : List W := [.tup [], .tup [.str "a"], .tup [.str "c"]]
theorem all_keys (v : W) (hv : Val [.tup [.str "c"]] v) : ∃ b, PX_keys v b ∧ (b = true → v ∈ ok_keys) := by
  rcases hv with h | h | ⟨x, rfl | rfl | rfl⟩
  · rw [List.mem_singleton] at h
    subst h
    exact ⟨true, ⟨fun st => by kernel_rfl, fun st => by kernel_rfl⟩, fun _ => by simp [ok_keys]⟩
  · simp only [conc, List.mem_cons, List.not_mem_nil, or_false] at h
    rcases h with rfl | rfl | rfl | rfl | rfl | rfl | rfl | rfl | rfl | rfl | rfl | rfl | rfl | rfl | rfl | rfl | rfl | rfl | rfl | rfl | rfl | rfl | rfl | rfl | rfl | rfl | rfl | rfl
    · exact ⟨false, ⟨fun st => by kernel_rfl, fun st => by kernel_rfl⟩, fun z => by cases z⟩
    · exact ⟨false, ⟨fun st => by kernel_rfl, fun st => by kernel_rfl⟩, fun z => by cases z⟩
    · exact ⟨false, ⟨fun st => by kernel_rfl, fun st => by kernel_rfl⟩, fun z => by cases z⟩
    · exact ⟨false, ⟨fun st => by kernel_rfl, fun st => by kernel_rfl⟩, fun z => by cases z⟩
    · exact ⟨false, ⟨fun st => by kernel_rfl, fun st => by kernel_rfl⟩, fun z => by cases z⟩
    · exact ⟨false, ⟨fun st => by kernel_rfl, fun st => by kernel_rfl⟩, fun z => by cases z⟩
    · exact ⟨false, ⟨fun st => by kernel_rfl, fun st => by kernel_rfl⟩, fun z => by cases z⟩
    · exact ⟨false, ⟨fun st => by kernel_rfl, fun st => by kernel_rfl⟩, fun z => by cases z⟩
    · exact ⟨true, ⟨fun st => by kernel_rfl, fun st => by kernel_rfl⟩, fun z => by simp [ok_keys]⟩
    · exact ⟨false, ⟨fun st => by kernel_rfl, fun st => by kernel_rfl⟩, fun z => by cases z⟩
    · exact ⟨true, ⟨fun st => by kernel_rfl, fun st => by kernel_rfl⟩, fun z => by simp [ok_keys]⟩
    · exact ⟨false, ⟨fun st => by kernel_rfl, fun st => by kernel_rfl⟩, fun z => by cases z⟩
    · exact ⟨false, ⟨fun st => by kernel_rfl, fun st => by kernel_rfl⟩, fun z => by cases z⟩
    · exact ⟨false, ⟨fun st => by kernel_rfl, fun st => by kernel_rfl⟩, fun z => by cases z⟩
    · exact ⟨false, ⟨fun st => by kernel_rfl, fun st => by kernel_rfl⟩, fun z => by cases z⟩
    · exact ⟨false, ⟨fun st => by kernel_rfl, fun st => by kernel_rfl⟩, fun z => by cases z⟩
    · exact ⟨false, ⟨fun st => by kernel_rfl, fun st => by kernel_rfl⟩, fun z => by cases z⟩
    · exact ⟨false, ⟨fun st => by kernel_rfl, fun st => by kernel_rfl⟩, fun z => by cases z⟩
    · exact ⟨false, ⟨fun st => by kernel_rfl, fun st => by kernel_rfl⟩, fun z => by cases z⟩
    · exact ⟨false, ⟨fun st => by kernel_rfl, fun st => by kernel_rfl⟩, fun z => by cases z⟩
    · exact ⟨false, ⟨fun st => by kernel_rfl, fun st => by kernel_rfl⟩, fun z => by cases z⟩
    · exact ⟨false, ⟨fun st => by kernel_rfl, fun st => by kernel_rfl⟩, fun z => by cases z⟩
    · exact ⟨false, ⟨fun st => by kernel_rfl, fun st => by kernel_rfl⟩, fun z => by cases z⟩
    · exact ⟨false, ⟨fun st => by kernel_rfl, fun st => by kernel_rfl⟩, fun z => by cases z⟩
    · exact ⟨false, ⟨fun st => by kernel_rfl, fun st => by kernel_rfl⟩, fun z => by cases z⟩
    · exact ⟨false, ⟨fun st => by kernel_rfl, fun st => by kernel_rfl⟩, fun z => by cases z⟩
    · exact ⟨false, ⟨fun st => by kernel_rfl, fun st => by kernel_rfl⟩, fun z => by cases z⟩
    · exact ⟨false, ⟨fun st => by kernel_rfl, fun st => by kernel_rfl⟩, fun z => by cases z⟩
  · exact ⟨false, ⟨fun st => by kernel_rfl, fun st => by kernel_rfl⟩, fun z => by cases z⟩
  · exact ⟨false, ⟨fun st => by kernel_rfl, fun st => by kernel_rfl⟩, fun z => by cases z⟩
  · exact ⟨false, ⟨fun st => by kernel_rfl, fun st => by kernel_rfl⟩, fun z => by cases z⟩
theorem dict_keys {st : Sto} {j : Nat} (h : st[j]? = some (.dk [])) : r_law_are_keys [.ref j] st = .ok (.bl false) st ∧ r_is_keys [.ref j] st = .ok (.bl false) st := by
  have e := isi_d h
  constructor
  · simp [r_law_are_keys, m_law_are_keys, runOf, outOf, sSeq, sIf, sRet, sNx, mBl, mAnd, mOr, mNot, mTr, mB, mFn, mCall, mCons, mNil, mC, mVar, Rs.bind, Rs.to, toB, trW, e]
  · simp [r_is_keys, m_is_keys, r_is_tuple_of_is_key, m_is_tuple_of_is_key, runOf, outOf, sSeq, sIf, sRet, sNx, mBl, mAnd, mOr, mNot, mTr, mB, mFn, mCall, mCallV, mCons, mNil, mC, mVar, Rs.bind, Rs.to, toB, trW, e]
def PX_ranges (v : W) (b : Bool) : Prop := (∀ st, r_law_are_ranges [v] st = .ok (.bl b) st) ∧ ∀ st, r_is_ranges [v] st = .ok (.bl b) st
def ok_ranges : List W := [.tup [], .tup [.tup [.str "a", .str "b", .tup []]], .tup [.tup [.str "a", .str "c", .tup [.str "b"]]]]
theorem all_ranges (v : W) (hv : Val [.tup []] v) : ∃ b, PX_ranges v b ∧ (b = true → v ∈ ok_ranges) := by
  rcases hv with h | h | ⟨x, rfl | rfl | rfl⟩
  · rw [List.mem_singleton] at h
    subst h
    exact ⟨true, ⟨fun st => by kernel_rfl, fun st => by kernel_rfl⟩, fun _ => by simp [ok_ranges]⟩
  · simp only [conc, List.mem_cons, List.not_mem_nil, or_false] at h
    rcases h with rfl | rfl | rfl | rfl | rfl | rfl | rfl | rfl | rfl | rfl | rfl | rfl | rfl | rfl | rfl | rfl | rfl | rfl | rfl | rfl | rfl | rfl | rfl | rfl | rfl | rfl | rfl | rfl
    · exact ⟨false, ⟨fun st => by kernel_rfl, fun st => by kernel_rfl⟩, fun z => by cases z⟩
    · exact ⟨false, ⟨fun st => by kernel_rfl, fun st => by kernel_rfl⟩, fun z => by cases z⟩
    · exact ⟨false, ⟨fun st => by kernel_rfl, fun st => by kernel_rfl⟩, fun z => by cases z⟩
    · exact ⟨false, ⟨fun st => by kernel_rfl, fun st => by kernel_rfl⟩, fun z => by cases z⟩
    · exact ⟨false, ⟨fun st => by kernel_rfl, fun st => by kernel_rfl⟩, fun z => by cases z⟩
    · exact ⟨false, ⟨fun st => by kernel_rfl, fun st => by kernel_rfl⟩, fun z => by cases z⟩
    · exact ⟨false, ⟨fun st => by kernel_rfl, fun st => by kernel_rfl⟩, fun z => by cases z⟩
    · exact ⟨false, ⟨fun st => by kernel_rfl, fun st => by kernel_rfl⟩, fun z => by cases z⟩
    · exact ⟨true, ⟨fun st => by kernel_rfl, fun st => by kernel_rfl⟩, fun z => by simp [ok_ranges]⟩
    · exact ⟨false, ⟨fun st => by kernel_rfl, fun st => by kernel_rfl⟩, fun z => by cases z⟩
    · exact ⟨false, ⟨fun st => by kernel_rfl, fun st => by kernel_rfl⟩, fun z => by cases z⟩
    · exact ⟨false, ⟨fun st => by kernel_rfl, fun st => by kernel_rfl⟩, fun z => by cases z⟩
    · exact ⟨false, ⟨fun st => by kernel_rfl, fun st => by kernel_rfl⟩, fun z => by cases z⟩
    · exact ⟨true, ⟨fun st => by kernel_rfl, fun st => by kernel_rfl⟩, fun z => by simp [ok_ranges]⟩
    · exact ⟨false, ⟨fun st => by kernel_rfl, fun st => by kernel_rfl⟩, fun z => by cases z⟩
    · exact ⟨false, ⟨fun st => by kernel_rfl, fun st => by kernel_rfl⟩, fun z => by cases z⟩
    · exact ⟨false, ⟨fun st => by kernel_rfl, fun st => by kernel_rfl⟩, fun z => by cases z⟩
    · exact ⟨false, ⟨fun st => by kernel_rfl, fun st => by kernel_rfl⟩, fun z => by cases z⟩
    · exact ⟨false, ⟨fun st => by kernel_rfl, fun st => by kernel_rfl⟩, fun z => by cases z⟩
    · exact ⟨false, ⟨fun st => by kernel_rfl, fun st => by kernel_rfl⟩, fun z => by cases z⟩
    · exact ⟨false, ⟨fun st => by kernel_rfl, fun st => by kernel_rfl⟩, fun z => by cases z⟩
    · exact ⟨true, ⟨fun st => by kernel_rfl, fun st => by kernel_rfl⟩, fun z => by simp [ok_ranges]⟩
    · exact ⟨false, ⟨fun st => by kernel_rfl, fun st => by kernel_rfl⟩, fun z => by cases z⟩
    · exact ⟨false, ⟨fun st => by kernel_rfl, fun st => by kernel_rfl⟩, fun z => by cases z⟩
    · exact ⟨false, ⟨fun st => by kernel_rfl, fun st => by kernel_rfl⟩, fun z => by cases z⟩
    · exact ⟨false, ⟨fun st => by kernel_rfl, fun st => by kernel_rfl⟩, fun z => by cases z⟩
    · exact ⟨false, ⟨fun st => by kernel_rfl, fun st => by kernel_rfl⟩, fun z => by cases z⟩
    · exact ⟨false, ⟨fun st => by kernel_rfl, fun st => by kernel_rfl⟩, fun z => by cases z⟩
  · exact ⟨false, ⟨fun st => by kernel_rfl, fun st => by kernel_rfl⟩, fun z => by cases z⟩
  · exact ⟨false, ⟨fun st => by kernel_rfl, fun st => by kernel_rfl⟩, fun z => by cases z⟩
  · exact ⟨false, ⟨fun st => by kernel_rfl, fun st => by kernel_rfl⟩, fun z => by cases z⟩
theorem dict_ranges {st : Sto} {j : Nat} (h : st[j]? = some (.dk [])) : r_law_are_ranges [.ref j] st = .ok (.bl false) st ∧ r_is_ranges [.ref j] st = .ok (.bl false) st := by
  have e := isi_d h
  constructor
  · simp [r_law_are_ranges, m_law_are_ranges, runOf, outOf, sSeq, sIf, sRet, sNx, mBl, mAnd, mOr, mNot, mTr, mB, mFn, mCall, mCons, mNil, mC, mVar, Rs.bind, Rs.to, toB, trW, e]
  · simp [r_is_ranges, m_is_ranges, r_is_tuple_of_is_range, m_is_tuple_of_is_range, runOf, outOf, sSeq, sIf, sRet, sNx, mBl, mAnd, mOr, mNot, mTr, mB, mFn, mCall, mCallV, mCons, mNil, mC, mVar, Rs.bind, Rs.to, toB, trW, e]
def PX_writes (v : W) (b : Bool) : Prop := (∀ st, r_law_are_writes [v] st = .ok (.bl b) st) ∧ ∀ st, r_is_writes [v] st = .ok (.bl b) st
def ok_writes : List W := [.tup [], .tup [.tup [.str "a", .int 1]], .tup [.tup [.str "a", .non]], .tup [.tup [.str "d", .int 1]]]
theorem all_writes (v : W) (hv : Val [.tup [.tup [.str "d", .int 1]]] v) : ∃ b, PX_writes v b ∧ (b = true → v ∈ ok_writes) := by
  rcases hv with h | h | ⟨x, rfl | rfl | rfl⟩
  · rw [List.mem_singleton] at h
    subst h
    exact ⟨true, ⟨fun st => by kernel_rfl, fun st => by kernel_rfl⟩, fun _ => by simp [ok_writes]⟩
  · simp only [conc, List.mem_cons, List.not_mem_nil, or_false] at h
    rcases h with rfl | rfl | rfl | rfl | rfl | rfl | rfl | rfl | rfl | rfl | rfl | rfl | rfl | rfl | rfl | rfl | rfl | rfl | rfl | rfl | rfl | rfl | rfl | rfl | rfl | rfl | rfl | rfl
    · exact ⟨false, ⟨fun st => by kernel_rfl, fun st => by kernel_rfl⟩, fun z => by cases z⟩
    · exact ⟨false, ⟨fun st => by kernel_rfl, fun st => by kernel_rfl⟩, fun z => by cases z⟩
    · exact ⟨false, ⟨fun st => by kernel_rfl, fun st => by kernel_rfl⟩, fun z => by cases z⟩
    · exact ⟨false, ⟨fun st => by kernel_rfl, fun st => by kernel_rfl⟩, fun z => by cases z⟩
    · exact ⟨false, ⟨fun st => by kernel_rfl, fun st => by kernel_rfl⟩, fun z => by cases z⟩
    · exact ⟨false, ⟨fun st => by kernel_rfl, fun st => by kernel_rfl⟩, fun z => by cases z⟩
    · exact ⟨false, ⟨fun st => by kernel_rfl, fun st => by kernel_rfl⟩, fun z => by cases z⟩
    · exact ⟨false, ⟨fun st => by kernel_rfl, fun st => by kernel_rfl⟩, fun z => by cases z⟩
    · exact ⟨true, ⟨fun st => by kernel_rfl, fun st => by kernel_rfl⟩, fun z => by simp [ok_writes]⟩
    · exact ⟨false, ⟨fun st => by kernel_rfl, fun st => by kernel_rfl⟩, fun z => by cases z⟩
    · exact ⟨false, ⟨fun st => by kernel_rfl, fun st => by kernel_rfl⟩, fun z => by cases z⟩
    · exact ⟨false, ⟨fun st => by kernel_rfl, fun st => by kernel_rfl⟩, fun z => by cases z⟩
    · exact ⟨true, ⟨fun st => by kernel_rfl, fun st => by kernel_rfl⟩, fun z => by simp [ok_writes]⟩
    · exact ⟨false, ⟨fun st => by kernel_rfl, fun st => by kernel_rfl⟩, fun z => by cases z⟩
    · exact ⟨false, ⟨fun st => by kernel_rfl, fun st => by kernel_rfl⟩, fun z => by cases z⟩
    · exact ⟨false, ⟨fun st => by kernel_rfl, fun st => by kernel_rfl⟩, fun z => by cases z⟩
    · exact ⟨false, ⟨fun st => by kernel_rfl, fun st => by kernel_rfl⟩, fun z => by cases z⟩
    · exact ⟨false, ⟨fun st => by kernel_rfl, fun st => by kernel_rfl⟩, fun z => by cases z⟩
    · exact ⟨false, ⟨fun st => by kernel_rfl, fun st => by kernel_rfl⟩, fun z => by cases z⟩
    · exact ⟨false, ⟨fun st => by kernel_rfl, fun st => by kernel_rfl⟩, fun z => by cases z⟩
    · exact ⟨false, ⟨fun st => by kernel_rfl, fun st => by kernel_rfl⟩, fun z => by cases z⟩
    · exact ⟨false, ⟨fun st => by kernel_rfl, fun st => by kernel_rfl⟩, fun z => by cases z⟩
    · exact ⟨false, ⟨fun st => by kernel_rfl, fun st => by kernel_rfl⟩, fun z => by cases z⟩
    · exact ⟨false, ⟨fun st => by kernel_rfl, fun st => by kernel_rfl⟩, fun z => by cases z⟩
    · exact ⟨false, ⟨fun st => by kernel_rfl, fun st => by kernel_rfl⟩, fun z => by cases z⟩
    · exact ⟨false, ⟨fun st => by kernel_rfl, fun st => by kernel_rfl⟩, fun z => by cases z⟩
    · exact ⟨true, ⟨fun st => by kernel_rfl, fun st => by kernel_rfl⟩, fun z => by simp [ok_writes]⟩
    · exact ⟨false, ⟨fun st => by kernel_rfl, fun st => by kernel_rfl⟩, fun z => by cases z⟩
  · exact ⟨false, ⟨fun st => by kernel_rfl, fun st => by kernel_rfl⟩, fun z => by cases z⟩
  · exact ⟨false, ⟨fun st => by kernel_rfl, fun st => by kernel_rfl⟩, fun z => by cases z⟩
  · exact ⟨false, ⟨fun st => by kernel_rfl, fun st => by kernel_rfl⟩, fun z => by cases z⟩
theorem dict_writes {st : Sto} {j : Nat} (h : st[j]? = some (.dk [])) : r_law_are_writes [.ref j] st = .ok (.bl false) st ∧ r_is_writes [.ref j] st = .ok (.bl false) st := by
  have e := isi_d h
  constructor
  · simp [r_law_are_writes, m_law_are_writes, runOf, outOf, sSeq, sIf, sRet, sNx, mBl, mAnd, mOr, mNot, mTr, mB, mFn, mCall, mCons, mNil, mC, mVar, Rs.bind, Rs.to, toB, trW, e]
  · simp [r_is_writes, m_is_writes, r_is_tuple_of_is_write, m_is_tuple_of_is_write, runOf, outOf, sSeq, sIf, sRet, sNx, mBl, mAnd, mOr, mNot, mTr, mB, mFn, mCall, mCallV, mCons, mNil, mC, mVar, Rs.bind, Rs.to, toB, trW, e]
end Lw
namespace Lw
open PySem L2 Mi
/-! stores -/
def Sk (l l1 : Int) (k : Nat) (n : Nd) : Sto := tb0 :: n :: (Rl l l1 ++ List.replicate k (.dk []))
def Cp (l l1 : Int) (k : Nat) : Sto := [.ins 0 [("newest", .int l1), ("opened", .int 4), ("snapshots", .ref (25 + k)), ("dealings", .ref (26 + k)), ("ways", .ref (27 + k))], .dk [], .dk [], .dk [], .dk [(.inl 0, .int l), (.inl 3, .int l1)], .dk [(.inl 1, .ref 6)], .dk [(.inl 1, .lst [])]]
def Sc (l l1 : Int) (k : Nat) (n : Nd) : Sto := tb0 :: n :: (Rl l l1 ++ List.replicate k (.dk []) ++ Cp l l1 k)
def chkL (L : Nat) (r : Rs W) : Option (Str × Sto) := match r with
  | .ok (.str w) s => some (w, s.take L)
  | _ => none
theorem gc_lam {m : M W} {env : Ev} {S : Sto} {w : Str} (h : chkL S.length (m env S) = some (w, S)) (hb : S.all (blN S.length) = true) : mGc m env S = .ok (.str w) S := by
  unfold chkL at h
  split at h
  · rename_i w' s e
    have h' := Option.some.inj h
    have h1 : w' = w := congrArg Prod.fst h'
    have h2 : s.take S.length = S := congrArg Prod.snd h'
    subst h1
    have := mGc_ok e (b := by rw [h2]; simp only [blW, Bool.true_and]; exact hb)
    rw [this, h2]
  · cases h
/-! the hand -/
def Hn (n : Nd) : Prop := ∃ cs a b c d, n = BagN cs a b c d
theorem bls_ints (k : Nat) : ∀ cs : List Int, blWs k (cs.map W.int) = true
  | [] => rfl
  | c :: cs => by simp only [List.map_cons, blWs, blW, Bool.true_and]; exact bls_ints k cs
theorem Hn.bl {n : Nd} (h : Hn n) (k : Nat) : blN k n = true := by
  obtain ⟨cs, a, b, c, d, rfl⟩ := h
  simp [BagN, blN, blWs, blW, bls_ints]
theorem all_of {n : Nd} {R : Sto} {k : Nat} (h : Hn n) (hR : R.all (blN k) = true) : (tb0 :: n :: R).all (blN k) = true := by
  simp only [List.all_cons, h.bl, hR, Bool.and_true]
  rfl
theorem Hn.bg {n : Nd} {R : Sto} (h : Hn n) : Bg 1 (tb0 :: n :: R) := by
  obtain ⟨cs, a, b, c, d, rfl⟩ := h
  exact ⟨cs, a, b, c, d, rfl⟩
theorem bg_hn {n : Nd} {R : Sto} (h : Bg 1 (tb0 :: n :: R)) : Hn n := by
  obtain ⟨cs, a, b, c, d, e⟩ := h
  exact ⟨cs, a, b, c, d, Option.some.inj e⟩
theorem draw_eq {n : Nd} {R : Sto} {m : Int} (h : Hn n) (h0 : 0 < m) (h1 : m < 1073741824) : ∃ (x : Int) (n' : Nd), r_law_draw [.ref 1, .int m] (tb0 :: n :: R) = .ok (.int x) (tb0 :: n' :: R) ∧ 0 ≤ x ∧ x < m ∧ Hn n' := by
  obtain ⟨w, s, e, x, n', rfl, a, b, rfl, g⟩ := wp_get (draw1 (h.bg (R := R)) h0 h1)
  exact ⟨x, n', e, a, b, bg_hn (R := R) g⟩
theorem hand_eq (ns : List Int) (hl : ns.length ≤ 63) (st : Sto) : wp (r_law_hand [.scr (ns.map W.int)] st) (fun w s => w = .ref st.length ∧ ∃ cs : List Int, s = st ++ [BagN cs 0 0 (1 + (cs.length : Int)) 0]) NoE := by
  simp only [r_law_hand, m_law_hand]
  simp only [ws_seq, ws_if, ws_set, ws_sub, ws_ret, ws_retN, ws_expr, ws_sNx, ws_for, wp_op, wp_var0, wp_varS, wp_c, wp_mB, wp_toB, wp_tr, wp_trB_bl, wp_trB_non, wp_trB_int, wp_not, wp_and, wp_or, wp_if, wp_mBl, wp_nil, wp_cons, wp_tup, wp_lst, wp_lstS, wp_newL_t, wp_newL_f, wp_chain, wp_call, wp_fn, wp_sl, wp_noPart, wp_part, wp_comp, wp_yes, wp_iL, wp_iA, wp_srcL, wp_srcS, wp_srcAL, wp_srcAT, wp_iR1, wp_iR2, wp_rng1, wp_rng2, wp_iRv, wp_srcRL, wp_srcRT, wp_iEA, wp_srcEL, wp_srcET, wp_add, wp_sub, wp_mul, wp_mod, wp_div, wp_divW, wp_pow18, wp_pow17, wp_pow16, wp_pow30, wp_eqI, wp_neI, wp_cmpI, wp_isN, wp_isNotN, wp_lenL, wp_lenT, wp_abs, wp_int, wp_min2, wp_max2, wp_listL, wp_listT, wp_tupleL, wp_tupleT, wp_ixT0, wp_ixT1, wp_ixL0, wp_neg, wp_ok, wp_srcEL, wp_isB, wp_isNotB, wp_eqB, wp_neB, wp_all, wp_any, wp_slT, wp_slL, wp_rev, wp_revT, wp_revL, wp_disp, wp_pair, wp_pair0, wp_dict0, wipeW, List.foldl_cons, List.foldl_nil, wp_run, List.map, List.length, List.replicate, List.cons_append, List.nil_append, List.append_nil, List.set_cons_zero, List.set_cons_succ, if_true, if_false, Bool.not_true, Bool.not_false, Bool.true_eq_false, Bool.false_eq_true, Nat.reduceAdd, Nat.reduceSub, gName', wp_cut63]
  refine compS_fix (fun i acc s => s = st ∧ acc.length = i ∧ ∃ cs : List Int, acc = cs.map W.int) ⟨rfl, rfl, [], rfl⟩ (by simp [sizeLine]; omega) (fun i acc s z => by omega) (fun i w e acc s z => ?_) (fun acc s z => ?_)
  · obtain ⟨rfl, rfl, cs, rfl⟩ := z
    have e' : ∃ c : Int, w = .int c := by
      rw [List.getElem?_take] at e
      split at e
      · rw [List.getElem?_map] at e
        cases q : ns[(cs.map W.int).length]? with
        | none => rw [q] at e; simp at e
        | some c => rw [q] at e; simp at e; exact ⟨c, e.symm⟩
      · simp at e
    obtain ⟨c, rfl⟩ := e'
    refine ⟨_, rfl, ?_⟩
    simp only [ws_seq, ws_if, ws_set, ws_sub, ws_ret, ws_retN, ws_expr, ws_sNx, ws_for, wp_op, wp_var0, wp_varS, wp_c, wp_mB, wp_toB, wp_tr, wp_trB_bl, wp_trB_non, wp_trB_int, wp_not, wp_and, wp_or, wp_if, wp_mBl, wp_nil, wp_cons, wp_tup, wp_lst, wp_lstS, wp_newL_t, wp_newL_f, wp_chain, wp_call, wp_fn, wp_sl, wp_noPart, wp_part, wp_comp, wp_yes, wp_iL, wp_iA, wp_srcL, wp_srcS, wp_srcAL, wp_srcAT, wp_iR1, wp_iR2, wp_rng1, wp_rng2, wp_iRv, wp_srcRL, wp_srcRT, wp_iEA, wp_srcEL, wp_srcET, wp_add, wp_sub, wp_mul, wp_mod, wp_div, wp_divW, wp_pow18, wp_pow17, wp_pow16, wp_pow30, wp_eqI, wp_neI, wp_cmpI, wp_isN, wp_isNotN, wp_lenL, wp_lenT, wp_abs, wp_int, wp_min2, wp_max2, wp_listL, wp_listT, wp_tupleL, wp_tupleT, wp_ixT0, wp_ixT1, wp_ixL0, wp_neg, wp_ok, wp_srcEL, wp_isB, wp_isNotB, wp_eqB, wp_neB, wp_all, wp_any, wp_slT, wp_slL, wp_rev, wp_revT, wp_revL, wp_disp, wp_pair, wp_pair0, wp_dict0, wipeW, List.foldl_cons, List.foldl_nil, wp_run, List.map, List.length, List.replicate, List.cons_append, List.nil_append, List.append_nil, List.set_cons_zero, List.set_cons_succ, if_true, if_false, Bool.not_true, Bool.not_false, Bool.true_eq_false, Bool.false_eq_true, Nat.reduceAdd, Nat.reduceSub, gName']
    exact ⟨by trivial, by simp, cs ++ [if c < 0 then -c else c], by simp⟩
  · obtain ⟨rfl, _, cs, rfl⟩ := z
    simp only [ws_seq, ws_if, ws_set, ws_sub, ws_ret, ws_retN, ws_expr, ws_sNx, ws_for, wp_op, wp_var0, wp_varS, wp_c, wp_mB, wp_toB, wp_tr, wp_trB_bl, wp_trB_non, wp_trB_int, wp_not, wp_and, wp_or, wp_if, wp_mBl, wp_nil, wp_cons, wp_tup, wp_lst, wp_lstS, wp_newL_t, wp_newL_f, wp_chain, wp_call, wp_fn, wp_sl, wp_noPart, wp_part, wp_comp, wp_yes, wp_iL, wp_iA, wp_srcL, wp_srcS, wp_srcAL, wp_srcAT, wp_iR1, wp_iR2, wp_rng1, wp_rng2, wp_iRv, wp_srcRL, wp_srcRT, wp_iEA, wp_srcEL, wp_srcET, wp_add, wp_sub, wp_mul, wp_mod, wp_div, wp_divW, wp_pow18, wp_pow17, wp_pow16, wp_pow30, wp_eqI, wp_neI, wp_cmpI, wp_isN, wp_isNotN, wp_lenL, wp_lenT, wp_abs, wp_int, wp_min2, wp_max2, wp_listL, wp_listT, wp_tupleL, wp_tupleT, wp_ixT0, wp_ixT1, wp_ixL0, wp_neg, wp_ok, wp_srcEL, wp_isB, wp_isNotB, wp_eqB, wp_neB, wp_all, wp_any, wp_slT, wp_slL, wp_rev, wp_revT, wp_revL, wp_disp, wp_pair, wp_pair0, wp_dict0, wipeW, List.foldl_cons, List.foldl_nil, wp_run, List.map, List.length, List.replicate, List.cons_append, List.nil_append, List.append_nil, List.set_cons_zero, List.set_cons_succ, if_true, if_false, Bool.not_true, Bool.not_false, Bool.true_eq_false, Bool.false_eq_true, Nat.reduceAdd, Nat.reduceSub, gName', wp_newL_f]
    exact ⟨by trivial, cs, by simp [BagN]⟩
/-! refusals -/
section
variable {q : Nat} {e k r w : W} {s : Sto} {fs : List (Str × W)}
theorem args4 {a b c d : Nat} {env : Ev} {st : Sto} {w1 w2 w3 w4 : W} (h1 : env[a]? = some (some w1)) (h2 : env[b]? = some (some w2)) (h3 : env[c]? = some (some w3)) (h4 : env[d]? = some (some w4)) : (mCons (mVar a) (mCons (mVar b) (mCons (mVar c) (mCons (mVar d) (mNil))))) env st = .ok [w1, w2, w3, w4] st := by
  simp only [mCons, mVar, h1, h2, h3, h4, mNil, Rs.bind]
theorem jud_open (hq : s[q]? = some (.ins 0 fs)) (hl : fs.lookup ("demand_open" : Str) = none) (h : r_Check_demand_open [.ref q, e] s = .ex (.plain 5) s) : r_Check_judged [.ref q, e, k, r, w] s = .ex (.plain 5) s := by
  simp only [r_Check_judged, m_Check_judged, runOf, sSeq, sExpr, mMeth, mVar, mCons, mNil, List.map, List.cons_append, List.getElem?_cons_zero, List.getElem?_cons_succ, Rs.bind, hq, hl, List.lookup, beq_self_eq_true, h, Rs.to, outOf]
theorem jud_seen (hq : s[q]? = some (.ins 0 fs)) (hl : fs.lookup ("demand_open" : Str) = none) (h : r_Check_demand_open [.ref q, e] s = .ok .non s) {bk br : Bool} (hk : r_is_keys [k] s = .ok (.bl bk) s) (hr : r_is_ranges [r] s = .ok (.bl br) s) (hb : (bk && br) = false) : r_Check_judged [.ref q, e, k, r, w] s = .ex (.plain 6) s := by
  cases bk <;> cases br <;> first | exact absurd hb (by decide) | simp only [r_Check_judged, m_Check_judged, runOf, sSeq, sExpr, sIf, sRaise, mOr, mNot, mTr, mCall, mMeth, mVar, mCons, mNil, List.map, List.cons_append, List.getElem?_cons_zero, List.getElem?_cons_succ, Rs.bind, hq, hl, List.lookup, beq_self_eq_true, h, hk, hr, Rs.to, outOf, trW, Bool.not_false, Bool.not_true, if_true, if_false, Bool.false_eq_true]
theorem jud_writes (hq : s[q]? = some (.ins 0 fs)) (hl : fs.lookup ("demand_open" : Str) = none) (h : r_Check_demand_open [.ref q, e] s = .ok .non s) (hk : r_is_keys [k] s = .ok (.bl true) s) (hr : r_is_ranges [r] s = .ok (.bl true) s) (hw : r_is_writes [w] s = .ok (.bl false) s) : r_Check_judged [.ref q, e, k, r, w] s = .ex (.plain 7) s := by
  simp only [r_Check_judged, m_Check_judged, runOf, sSeq, sExpr, sIf, sRaise, sNx, mOr, mNot, mTr, mCall, mMeth, mVar, mCons, mNil, List.map, List.cons_append, List.getElem?_cons_zero, List.getElem?_cons_succ, Rs.bind, hq, hl, List.lookup, beq_self_eq_true, h, hk, hr, hw, Rs.to, outOf, trW, Bool.not_false, Bool.not_true, if_true, if_false, Bool.false_eq_true]
theorem com_ex {c : Nat} (hq : s[q]? = some (.ins 0 fs)) (hl : fs.lookup ("judged" : Str) = none) (h : r_Check_judged [.ref q, e, k, r, w] s = .ex (.plain c) s) : r_Check_commits [.ref q, e, k, r, w] s = .ex (.plain c) s := by
  simp only [r_Check_commits, m_Check_commits, runOf, sSeq, sAsg, mMeth, mVar, mCons, mNil, List.map, List.cons_append, List.getElem?_cons_zero, List.getElem?_cons_succ, Rs.bind, hq, hl, List.lookup, beq_self_eq_true, h, Rs.to, outOf]
theorem wc_ex {c : Nat} (hq : s[q]? = some (.ins 0 fs)) (hl : fs.lookup ("judged" : Str) = none) (h : r_Check_judged [.ref q, e, k, r, w] s = .ex (.plain c) s) : r_Check_would_commit [.ref q, e, k, r, w] s = .ex (.plain c) s := by
  simp only [r_Check_would_commit, m_Check_would_commit, runOf, sSeq, sAsg, mMeth, mVar, mCons, mNil, List.map, List.cons_append, List.getElem?_cons_zero, List.getElem?_cons_succ, Rs.bind, hq, hl, List.lookup, beq_self_eq_true, h, Rs.to, outOf]
end
end Lw
namespace Lw
open PySem L2 Mi

def ioF : W → Bool
  | .int 0 => true
  | .int 3 => true
  | _ => false
def knF : W → Str
  | .int 1 => "let"
  | _ => "known"
def guF (v : W) : Str := if ioF v then "let" else "open"
def dR (v : W) (s : Sto) : Rs W := if ioF v then .ok .non s else .ex (.plain 5) s
abbrev env8 (a0 a2 a3 a6 a7 a9 a10 a11 a12 a13 a14 : Option W) (l : Int) (v : W) : Ev := [a0, some (.ref 1), a2, a3, some (.int l), some (.ref 2), a6, a7, some v, a9, a10, a11, a12, a13, a14]
abbrev env9 (a0 a2 a3 a4 a6 a7 a8 a10 a11 a12 a13 a14 : Option W) (v : W) : Ev := [a0, some (.ref 1), a2, a3, a4, some (.ref 2), a6, a7, a8, some v, a10, a11, a12, a13, a14]
abbrev env2 (a0 a3 a4 a5 a6 a7 a8 a9 a10 a11 a12 a13 a14 : Option W) (v : W) : Ev := [a0, some (.ref 1), some v, a3, a4, a5, a6, a7, a8, a9, a10, a11, a12, a13, a14]
/-- the same word twice -/
def twice (L : Nat) (r1 r2 : Rs W) : Bool × Sto × Sto := match r1, chkL L r2 with
  | .ok (.str d) s, some (t, s2) => (decide (d = t), s, s2)
  | _, _ => (false, [], [])
theorem twice_of {L : Nat} {r1 r2 : Rs W} {S : Sto} (h : twice L r1 r2 = (true, S, S)) : ∃ d : Str, r1 = .ok (.str d) S ∧ chkL L r2 = some (d, S) := by
  unfold twice at h
  split at h
  · rename_i d s t s2 e
    have h1 := congrArg Prod.fst h
    have h2 := congrArg (fun p => p.2.1) h
    have h3 := congrArg (fun p => p.2.2) h
    simp only [decide_eq_true_eq] at h1 h2 h3
    subst h1 h2 h3
    exact ⟨_, rfl, e⟩
  · have h1 := congrArg Prod.fst h
    simp at h1
noncomputable def fZ (S : Sto) (a0 a3 b3 a4 a5 a6 a7 a8 a9 a10 a11 a12 a13 a14 : Option W) (v : W) : Bool × Sto × Sto := twice S.length (z_due (env2 a0 a3 a4 a5 a6 a7 a8 a9 a10 a11 a12 a13 a14 v) S) (z_lam (env2 a0 b3 a4 a5 a6 a7 a8 a9 a10 a11 a12 a13 a14 v) S)
noncomputable def fA (l : Int) (S : Sto) (a0 a2 a3 b3 a6 a7 a9 a10 a11 a12 a13 a14 : Option W) (v : W) : Bool × Sto × Sto := twice S.length (a_due (env8 a0 a2 a3 a6 a7 a9 a10 a11 a12 a13 a14 l v) S) (a_lam (env8 a0 a2 b3 a6 a7 a9 a10 a11 a12 a13 a14 l v) S)
structure BR where
  op : Rs W
  d1 : Rs W
  d2 : Rs W
  gu : Option (Str × Sto)
  kn : Rs W
  cr : Option (Str × Sto)
noncomputable def fB (S S' : Sto) (q : Nat) (a0 a2 a3 b3 c3 a4 a6 a7 a8 a10 b10 a11 b11 a12 b12 a13 b13 a14 b14 : Option W) (v : W) : BR := ⟨b_open (env9 a0 a2 a3 a4 a6 a7 a8 a10 a11 a12 a13 a14 v) S, r_Check_demand_open [.ref 2, v] S, r_Check_demand_open [.ref q, v] S',
  chkL S.length (l_gu (env9 a0 a2 b3 a4 a6 a7 a8 b10 b11 b12 b13 b14 v) S), b_kn (env9 a0 a2 b3 a4 a6 a7 a8 b10 b11 b12 b13 b14 v) S, chkL S.length (l_cr (env9 a0 a2 c3 a4 a6 a7 a8 b10 b11 b12 b13 b14 v) S)⟩
def gB (S S' : Sto) (v : W) : BR := ⟨.ok (.bl (ioF v)) S, dR v S, dR v S', some (guF v, S), .ok (.str (knF v)) S, some (knF v, S)⟩

theorem zz (n : Nd) (a0 a3 b3 a4 a5 a6 a7 a8 a9 a10 a11 a12 a13 a14 : Option W) (x : W) : (vals [.int 0] x).map (fZ [tb0, n] a0 a3 b3 a4 a5 a6 a7 a8 a9 a10 a11 a12 a13 a14) = (vals [.int 0] x).map fun _ => (true, [tb0, n], [tb0, n]) := by kernel_rfl
theorem zd (n : Nd) (a0 a3 b3 a4 a5 a6 a7 a8 a9 a10 a11 a12 a13 a14 : Option W) : fZ [tb0, n, .dk []] a0 a3 b3 a4 a5 a6 a7 a8 a9 a10 a11 a12 a13 a14 (.ref 2) = (true, [tb0, n, .dk []], [tb0, n, .dk []]) := by kernel_rfl
theorem za_0 (n : Nd) (a0 a2 a3 b3 a6 a7 a9 a10 a11 a12 a13 a14 : Option W) (x : W) : (vals [.int 0, .int 1, .int (-1), .int 2, .bl true, .non, .str "0"] x).map (fA 0 (Sk 0 1 0 n) a0 a2 a3 b3 a6 a7 a9 a10 a11 a12 a13 a14) = (vals [.int 0, .int 1, .int (-1), .int 2, .bl true, .non, .str "0"] x).map fun _ => (true, Sk 0 1 0 n, Sk 0 1 0 n) := by kernel_rfl
theorem zad_0 (n : Nd) (a0 a2 a3 b3 a6 a7 a9 a10 a11 a12 a13 a14 : Option W) : fA 0 (Sk 0 1 1 n) a0 a2 a3 b3 a6 a7 a9 a10 a11 a12 a13 a14 (.ref 21) = (true, Sk 0 1 1 n, Sk 0 1 1 n) := by kernel_rfl
theorem cp_0_0 (n : Nd) : r_Check_copy [.ref 2] (Sk 0 1 0 n) = .ok (.ref 21) (Sc 0 1 0 n) := by kernel_rfl
theorem zb_0_0 (n : Nd) (a0 a2 a3 b3 c3 a4 a6 a7 a8 a10 b10 a11 b11 a12 b12 a13 b13 a14 b14 : Option W) (x : W) : (vals [.int 0, .int 3, .int 1, .int 2, .int 4, .bl true, .bl false] x).map (fB (Sk 0 1 0 n) (Sc 0 1 0 n) 21 a0 a2 a3 b3 c3 a4 a6 a7 a8 a10 b10 a11 b11 a12 b12 a13 b13 a14 b14) = (vals [.int 0, .int 3, .int 1, .int 2, .int 4, .bl true, .bl false] x).map (gB (Sk 0 1 0 n) (Sc 0 1 0 n)) := by kernel_rfl
theorem cp_0_1 (n : Nd) : r_Check_copy [.ref 2] (Sk 0 1 1 n) = .ok (.ref 22) (Sc 0 1 1 n) := by kernel_rfl
theorem zb_0_1 (n : Nd) (a0 a2 a3 b3 c3 a4 a6 a7 a8 a10 b10 a11 b11 a12 b12 a13 b13 a14 b14 : Option W) (x : W) : (vals [.int 0, .int 3, .int 1, .int 2, .int 4, .bl true, .bl false] x).map (fB (Sk 0 1 1 n) (Sc 0 1 1 n) 22 a0 a2 a3 b3 c3 a4 a6 a7 a8 a10 b10 a11 b11 a12 b12 a13 b13 a14 b14) = (vals [.int 0, .int 3, .int 1, .int 2, .int 4, .bl true, .bl false] x).map (gB (Sk 0 1 1 n) (Sc 0 1 1 n)) := by kernel_rfl
theorem zbd_0_1 (n : Nd) (a0 a2 a3 b3 c3 a4 a6 a7 a8 a10 b10 a11 b11 a12 b12 a13 b13 a14 b14 : Option W) : fB (Sk 0 1 1 n) (Sc 0 1 1 n) 22 a0 a2 a3 b3 c3 a4 a6 a7 a8 a10 b10 a11 b11 a12 b12 a13 b13 a14 b14 (.ref 21) = gB (Sk 0 1 1 n) (Sc 0 1 1 n) (.ref 21) := by kernel_rfl
theorem cp_0_2 (n : Nd) : r_Check_copy [.ref 2] (Sk 0 1 2 n) = .ok (.ref 23) (Sc 0 1 2 n) := by kernel_rfl
theorem zb_0_2 (n : Nd) (a0 a2 a3 b3 c3 a4 a6 a7 a8 a10 b10 a11 b11 a12 b12 a13 b13 a14 b14 : Option W) (x : W) : (vals [.int 0, .int 3, .int 1, .int 2, .int 4, .bl true, .bl false] x).map (fB (Sk 0 1 2 n) (Sc 0 1 2 n) 23 a0 a2 a3 b3 c3 a4 a6 a7 a8 a10 b10 a11 b11 a12 b12 a13 b13 a14 b14) = (vals [.int 0, .int 3, .int 1, .int 2, .int 4, .bl true, .bl false] x).map (gB (Sk 0 1 2 n) (Sc 0 1 2 n)) := by kernel_rfl
theorem zbd_0_2 (n : Nd) (a0 a2 a3 b3 c3 a4 a6 a7 a8 a10 b10 a11 b11 a12 b12 a13 b13 a14 b14 : Option W) : fB (Sk 0 1 2 n) (Sc 0 1 2 n) 23 a0 a2 a3 b3 c3 a4 a6 a7 a8 a10 b10 a11 b11 a12 b12 a13 b13 a14 b14 (.ref 21) = gB (Sk 0 1 2 n) (Sc 0 1 2 n) (.ref 21) := by kernel_rfl
theorem cp_0_3 (n : Nd) : r_Check_copy [.ref 2] (Sk 0 1 3 n) = .ok (.ref 24) (Sc 0 1 3 n) := by kernel_rfl
theorem zb_0_3 (n : Nd) (a0 a2 a3 b3 c3 a4 a6 a7 a8 a10 b10 a11 b11 a12 b12 a13 b13 a14 b14 : Option W) (x : W) : (vals [.int 0, .int 3, .int 1, .int 2, .int 4, .bl true, .bl false] x).map (fB (Sk 0 1 3 n) (Sc 0 1 3 n) 24 a0 a2 a3 b3 c3 a4 a6 a7 a8 a10 b10 a11 b11 a12 b12 a13 b13 a14 b14) = (vals [.int 0, .int 3, .int 1, .int 2, .int 4, .bl true, .bl false] x).map (gB (Sk 0 1 3 n) (Sc 0 1 3 n)) := by kernel_rfl
theorem zbd_0_3 (n : Nd) (a0 a2 a3 b3 c3 a4 a6 a7 a8 a10 b10 a11 b11 a12 b12 a13 b13 a14 b14 : Option W) : fB (Sk 0 1 3 n) (Sc 0 1 3 n) 24 a0 a2 a3 b3 c3 a4 a6 a7 a8 a10 b10 a11 b11 a12 b12 a13 b13 a14 b14 (.ref 21) = gB (Sk 0 1 3 n) (Sc 0 1 3 n) (.ref 21) := by kernel_rfl
theorem cp_0_4 (n : Nd) : r_Check_copy [.ref 2] (Sk 0 1 4 n) = .ok (.ref 25) (Sc 0 1 4 n) := by kernel_rfl
theorem zbd_0_4 (n : Nd) (a0 a2 a3 b3 c3 a4 a6 a7 a8 a10 b10 a11 b11 a12 b12 a13 b13 a14 b14 : Option W) : fB (Sk 0 1 4 n) (Sc 0 1 4 n) 25 a0 a2 a3 b3 c3 a4 a6 a7 a8 a10 b10 a11 b11 a12 b12 a13 b13 a14 b14 (.ref 21) = gB (Sk 0 1 4 n) (Sc 0 1 4 n) (.ref 21) := by kernel_rfl
theorem za_1 (n : Nd) (a0 a2 a3 b3 a6 a7 a9 a10 a11 a12 a13 a14 : Option W) (x : W) : (vals [.int 5, .int 6, .int (4), .int 7, .bl true, .non, .str "0"] x).map (fA 5 (Sk 5 6 0 n) a0 a2 a3 b3 a6 a7 a9 a10 a11 a12 a13 a14) = (vals [.int 5, .int 6, .int (4), .int 7, .bl true, .non, .str "0"] x).map fun _ => (true, Sk 5 6 0 n, Sk 5 6 0 n) := by kernel_rfl
theorem zad_1 (n : Nd) (a0 a2 a3 b3 a6 a7 a9 a10 a11 a12 a13 a14 : Option W) : fA 5 (Sk 5 6 1 n) a0 a2 a3 b3 a6 a7 a9 a10 a11 a12 a13 a14 (.ref 21) = (true, Sk 5 6 1 n, Sk 5 6 1 n) := by kernel_rfl
theorem cp_1_0 (n : Nd) : r_Check_copy [.ref 2] (Sk 5 6 0 n) = .ok (.ref 21) (Sc 5 6 0 n) := by kernel_rfl
theorem zb_1_0 (n : Nd) (a0 a2 a3 b3 c3 a4 a6 a7 a8 a10 b10 a11 b11 a12 b12 a13 b13 a14 b14 : Option W) (x : W) : (vals [.int 0, .int 3, .int 1, .int 2, .int 4, .bl true, .bl false] x).map (fB (Sk 5 6 0 n) (Sc 5 6 0 n) 21 a0 a2 a3 b3 c3 a4 a6 a7 a8 a10 b10 a11 b11 a12 b12 a13 b13 a14 b14) = (vals [.int 0, .int 3, .int 1, .int 2, .int 4, .bl true, .bl false] x).map (gB (Sk 5 6 0 n) (Sc 5 6 0 n)) := by kernel_rfl
theorem cp_1_1 (n : Nd) : r_Check_copy [.ref 2] (Sk 5 6 1 n) = .ok (.ref 22) (Sc 5 6 1 n) := by kernel_rfl
theorem zb_1_1 (n : Nd) (a0 a2 a3 b3 c3 a4 a6 a7 a8 a10 b10 a11 b11 a12 b12 a13 b13 a14 b14 : Option W) (x : W) : (vals [.int 0, .int 3, .int 1, .int 2, .int 4, .bl true, .bl false] x).map (fB (Sk 5 6 1 n) (Sc 5 6 1 n) 22 a0 a2 a3 b3 c3 a4 a6 a7 a8 a10 b10 a11 b11 a12 b12 a13 b13 a14 b14) = (vals [.int 0, .int 3, .int 1, .int 2, .int 4, .bl true, .bl false] x).map (gB (Sk 5 6 1 n) (Sc 5 6 1 n)) := by kernel_rfl
theorem zbd_1_1 (n : Nd) (a0 a2 a3 b3 c3 a4 a6 a7 a8 a10 b10 a11 b11 a12 b12 a13 b13 a14 b14 : Option W) : fB (Sk 5 6 1 n) (Sc 5 6 1 n) 22 a0 a2 a3 b3 c3 a4 a6 a7 a8 a10 b10 a11 b11 a12 b12 a13 b13 a14 b14 (.ref 21) = gB (Sk 5 6 1 n) (Sc 5 6 1 n) (.ref 21) := by kernel_rfl
theorem cp_1_2 (n : Nd) : r_Check_copy [.ref 2] (Sk 5 6 2 n) = .ok (.ref 23) (Sc 5 6 2 n) := by kernel_rfl
theorem zb_1_2 (n : Nd) (a0 a2 a3 b3 c3 a4 a6 a7 a8 a10 b10 a11 b11 a12 b12 a13 b13 a14 b14 : Option W) (x : W) : (vals [.int 0, .int 3, .int 1, .int 2, .int 4, .bl true, .bl false] x).map (fB (Sk 5 6 2 n) (Sc 5 6 2 n) 23 a0 a2 a3 b3 c3 a4 a6 a7 a8 a10 b10 a11 b11 a12 b12 a13 b13 a14 b14) = (vals [.int 0, .int 3, .int 1, .int 2, .int 4, .bl true, .bl false] x).map (gB (Sk 5 6 2 n) (Sc 5 6 2 n)) := by kernel_rfl
theorem zbd_1_2 (n : Nd) (a0 a2 a3 b3 c3 a4 a6 a7 a8 a10 b10 a11 b11 a12 b12 a13 b13 a14 b14 : Option W) : fB (Sk 5 6 2 n) (Sc 5 6 2 n) 23 a0 a2 a3 b3 c3 a4 a6 a7 a8 a10 b10 a11 b11 a12 b12 a13 b13 a14 b14 (.ref 21) = gB (Sk 5 6 2 n) (Sc 5 6 2 n) (.ref 21) := by kernel_rfl
theorem cp_1_3 (n : Nd) : r_Check_copy [.ref 2] (Sk 5 6 3 n) = .ok (.ref 24) (Sc 5 6 3 n) := by kernel_rfl
theorem zb_1_3 (n : Nd) (a0 a2 a3 b3 c3 a4 a6 a7 a8 a10 b10 a11 b11 a12 b12 a13 b13 a14 b14 : Option W) (x : W) : (vals [.int 0, .int 3, .int 1, .int 2, .int 4, .bl true, .bl false] x).map (fB (Sk 5 6 3 n) (Sc 5 6 3 n) 24 a0 a2 a3 b3 c3 a4 a6 a7 a8 a10 b10 a11 b11 a12 b12 a13 b13 a14 b14) = (vals [.int 0, .int 3, .int 1, .int 2, .int 4, .bl true, .bl false] x).map (gB (Sk 5 6 3 n) (Sc 5 6 3 n)) := by kernel_rfl
theorem zbd_1_3 (n : Nd) (a0 a2 a3 b3 c3 a4 a6 a7 a8 a10 b10 a11 b11 a12 b12 a13 b13 a14 b14 : Option W) : fB (Sk 5 6 3 n) (Sc 5 6 3 n) 24 a0 a2 a3 b3 c3 a4 a6 a7 a8 a10 b10 a11 b11 a12 b12 a13 b13 a14 b14 (.ref 21) = gB (Sk 5 6 3 n) (Sc 5 6 3 n) (.ref 21) := by kernel_rfl
theorem cp_1_4 (n : Nd) : r_Check_copy [.ref 2] (Sk 5 6 4 n) = .ok (.ref 25) (Sc 5 6 4 n) := by kernel_rfl
theorem zbd_1_4 (n : Nd) (a0 a2 a3 b3 c3 a4 a6 a7 a8 a10 b10 a11 b11 a12 b12 a13 b13 a14 b14 : Option W) : fB (Sk 5 6 4 n) (Sc 5 6 4 n) 25 a0 a2 a3 b3 c3 a4 a6 a7 a8 a10 b10 a11 b11 a12 b12 a13 b13 a14 b14 (.ref 21) = gB (Sk 5 6 4 n) (Sc 5 6 4 n) (.ref 21) := by kernel_rfl
theorem za_2 (n : Nd) (a0 a2 a3 b3 a6 a7 a9 a10 a11 a12 a13 a14 : Option W) (x : W) : (vals [.int 100000000000000000, .int 100000000000000001, .int (99999999999999999), .int 100000000000000002, .bl true, .non, .str "0"] x).map (fA 100000000000000000 (Sk 100000000000000000 100000000000000001 0 n) a0 a2 a3 b3 a6 a7 a9 a10 a11 a12 a13 a14) = (vals [.int 100000000000000000, .int 100000000000000001, .int (99999999999999999), .int 100000000000000002, .bl true, .non, .str "0"] x).map fun _ => (true, Sk 100000000000000000 100000000000000001 0 n, Sk 100000000000000000 100000000000000001 0 n) := by kernel_rfl
theorem zad_2 (n : Nd) (a0 a2 a3 b3 a6 a7 a9 a10 a11 a12 a13 a14 : Option W) : fA 100000000000000000 (Sk 100000000000000000 100000000000000001 1 n) a0 a2 a3 b3 a6 a7 a9 a10 a11 a12 a13 a14 (.ref 21) = (true, Sk 100000000000000000 100000000000000001 1 n, Sk 100000000000000000 100000000000000001 1 n) := by kernel_rfl
theorem cp_2_0 (n : Nd) : r_Check_copy [.ref 2] (Sk 100000000000000000 100000000000000001 0 n) = .ok (.ref 21) (Sc 100000000000000000 100000000000000001 0 n) := by kernel_rfl
theorem zb_2_0 (n : Nd) (a0 a2 a3 b3 c3 a4 a6 a7 a8 a10 b10 a11 b11 a12 b12 a13 b13 a14 b14 : Option W) (x : W) : (vals [.int 0, .int 3, .int 1, .int 2, .int 4, .bl true, .bl false] x).map (fB (Sk 100000000000000000 100000000000000001 0 n) (Sc 100000000000000000 100000000000000001 0 n) 21 a0 a2 a3 b3 c3 a4 a6 a7 a8 a10 b10 a11 b11 a12 b12 a13 b13 a14 b14) = (vals [.int 0, .int 3, .int 1, .int 2, .int 4, .bl true, .bl false] x).map (gB (Sk 100000000000000000 100000000000000001 0 n) (Sc 100000000000000000 100000000000000001 0 n)) := by kernel_rfl
theorem cp_2_1 (n : Nd) : r_Check_copy [.ref 2] (Sk 100000000000000000 100000000000000001 1 n) = .ok (.ref 22) (Sc 100000000000000000 100000000000000001 1 n) := by kernel_rfl
theorem zb_2_1 (n : Nd) (a0 a2 a3 b3 c3 a4 a6 a7 a8 a10 b10 a11 b11 a12 b12 a13 b13 a14 b14 : Option W) (x : W) : (vals [.int 0, .int 3, .int 1, .int 2, .int 4, .bl true, .bl false] x).map (fB (Sk 100000000000000000 100000000000000001 1 n) (Sc 100000000000000000 100000000000000001 1 n) 22 a0 a2 a3 b3 c3 a4 a6 a7 a8 a10 b10 a11 b11 a12 b12 a13 b13 a14 b14) = (vals [.int 0, .int 3, .int 1, .int 2, .int 4, .bl true, .bl false] x).map (gB (Sk 100000000000000000 100000000000000001 1 n) (Sc 100000000000000000 100000000000000001 1 n)) := by kernel_rfl
theorem zbd_2_1 (n : Nd) (a0 a2 a3 b3 c3 a4 a6 a7 a8 a10 b10 a11 b11 a12 b12 a13 b13 a14 b14 : Option W) : fB (Sk 100000000000000000 100000000000000001 1 n) (Sc 100000000000000000 100000000000000001 1 n) 22 a0 a2 a3 b3 c3 a4 a6 a7 a8 a10 b10 a11 b11 a12 b12 a13 b13 a14 b14 (.ref 21) = gB (Sk 100000000000000000 100000000000000001 1 n) (Sc 100000000000000000 100000000000000001 1 n) (.ref 21) := by kernel_rfl
theorem cp_2_2 (n : Nd) : r_Check_copy [.ref 2] (Sk 100000000000000000 100000000000000001 2 n) = .ok (.ref 23) (Sc 100000000000000000 100000000000000001 2 n) := by kernel_rfl
theorem zb_2_2 (n : Nd) (a0 a2 a3 b3 c3 a4 a6 a7 a8 a10 b10 a11 b11 a12 b12 a13 b13 a14 b14 : Option W) (x : W) : (vals [.int 0, .int 3, .int 1, .int 2, .int 4, .bl true, .bl false] x).map (fB (Sk 100000000000000000 100000000000000001 2 n) (Sc 100000000000000000 100000000000000001 2 n) 23 a0 a2 a3 b3 c3 a4 a6 a7 a8 a10 b10 a11 b11 a12 b12 a13 b13 a14 b14) = (vals [.int 0, .int 3, .int 1, .int 2, .int 4, .bl true, .bl false] x).map (gB (Sk 100000000000000000 100000000000000001 2 n) (Sc 100000000000000000 100000000000000001 2 n)) := by kernel_rfl
theorem zbd_2_2 (n : Nd) (a0 a2 a3 b3 c3 a4 a6 a7 a8 a10 b10 a11 b11 a12 b12 a13 b13 a14 b14 : Option W) : fB (Sk 100000000000000000 100000000000000001 2 n) (Sc 100000000000000000 100000000000000001 2 n) 23 a0 a2 a3 b3 c3 a4 a6 a7 a8 a10 b10 a11 b11 a12 b12 a13 b13 a14 b14 (.ref 21) = gB (Sk 100000000000000000 100000000000000001 2 n) (Sc 100000000000000000 100000000000000001 2 n) (.ref 21) := by kernel_rfl
theorem cp_2_3 (n : Nd) : r_Check_copy [.ref 2] (Sk 100000000000000000 100000000000000001 3 n) = .ok (.ref 24) (Sc 100000000000000000 100000000000000001 3 n) := by kernel_rfl
theorem zb_2_3 (n : Nd) (a0 a2 a3 b3 c3 a4 a6 a7 a8 a10 b10 a11 b11 a12 b12 a13 b13 a14 b14 : Option W) (x : W) : (vals [.int 0, .int 3, .int 1, .int 2, .int 4, .bl true, .bl false] x).map (fB (Sk 100000000000000000 100000000000000001 3 n) (Sc 100000000000000000 100000000000000001 3 n) 24 a0 a2 a3 b3 c3 a4 a6 a7 a8 a10 b10 a11 b11 a12 b12 a13 b13 a14 b14) = (vals [.int 0, .int 3, .int 1, .int 2, .int 4, .bl true, .bl false] x).map (gB (Sk 100000000000000000 100000000000000001 3 n) (Sc 100000000000000000 100000000000000001 3 n)) := by kernel_rfl
theorem zbd_2_3 (n : Nd) (a0 a2 a3 b3 c3 a4 a6 a7 a8 a10 b10 a11 b11 a12 b12 a13 b13 a14 b14 : Option W) : fB (Sk 100000000000000000 100000000000000001 3 n) (Sc 100000000000000000 100000000000000001 3 n) 24 a0 a2 a3 b3 c3 a4 a6 a7 a8 a10 b10 a11 b11 a12 b12 a13 b13 a14 b14 (.ref 21) = gB (Sk 100000000000000000 100000000000000001 3 n) (Sc 100000000000000000 100000000000000001 3 n) (.ref 21) := by kernel_rfl
theorem cp_2_4 (n : Nd) : r_Check_copy [.ref 2] (Sk 100000000000000000 100000000000000001 4 n) = .ok (.ref 25) (Sc 100000000000000000 100000000000000001 4 n) := by kernel_rfl
theorem zbd_2_4 (n : Nd) (a0 a2 a3 b3 c3 a4 a6 a7 a8 a10 b10 a11 b11 a12 b12 a13 b13 a14 b14 : Option W) : fB (Sk 100000000000000000 100000000000000001 4 n) (Sc 100000000000000000 100000000000000001 4 n) 25 a0 a2 a3 b3 c3 a4 a6 a7 a8 a10 b10 a11 b11 a12 b12 a13 b13 a14 b14 (.ref 21) = gB (Sk 100000000000000000 100000000000000001 4 n) (Sc 100000000000000000 100000000000000001 4 n) (.ref 21) := by kernel_rfl
end Lw
namespace Lw
open PySem L2 Mi

abbrev env13 (a0 a2 a3 a4 a6 a7 a8 a10 a14 : Option W) (e k r w : W) : Ev := [a0, some (.ref 1), a2, a3, a4, some (.ref 2), a6, a7, a8, some e, a10, some k, some r, some w, a14]
def twiceC (r1 r2 : Option (Str × Sto)) : Bool × Sto × Sto := match r1, r2 with
  | some (t1, s1), some (t2, s2) => (decide (t1 = t2) && (decide (t1 = "let") || decide (t1 = "other")), s1, s2)
  | _, _ => (false, [], [])
theorem twiceC_of {r1 r2 : Option (Str × Sto)} {S : Sto} (h : twiceC r1 r2 = (true, S, S)) : ∃ t : Str, r1 = some (t, S) ∧ r2 = some (t, S) ∧ (t = "let" ∨ t = "other") := by
  unfold twiceC at h
  split at h
  · rename_i t1 s1 t2 s2
    have h1 := congrArg Prod.fst h
    have h2 := congrArg (fun p => p.2.1) h
    have h3 := congrArg (fun p => p.2.2) h
    simp only [Bool.and_eq_true, Bool.or_eq_true, decide_eq_true_eq] at h1 h2 h3
    obtain ⟨rfl, ho⟩ := h1
    subst h2 h3
    exact ⟨_, rfl, rfl, ho⟩
  · have h1 := congrArg Prod.fst h
    simp at h1
noncomputable def fC (S : Sto) (a0 a2 a3 b3 a4 a6 a7 a8 a10 a14 b14 : Option W) (e : W) (c : W × W × W) : Bool × Sto × Sto := twiceC (chkL S.length (l_com (env13 a0 a2 a3 a4 a6 a7 a8 a10 a14 e c.1 c.2.1 c.2.2) S)) (chkL S.length (l_wc (env13 a0 a2 b3 a4 a6 a7 a8 a10 b14 e c.1 c.2.1 c.2.2) S))
def cmb (k : W) : List (W × W × W) := ok_ranges.flatMap fun r => ok_writes.map fun w => (k, r, w)

theorem vc_0_0_0 (n : Nd) (a0 a2 a3 b3 a4 a6 a7 a8 a10 a14 b14 : Option W) : (cmb (.tup [])).map (fC (Sk 0 1 0 n) a0 a2 a3 b3 a4 a6 a7 a8 a10 a14 b14 (.int 0)) = (cmb (.tup [])).map fun _ => (true, Sk 0 1 0 n, Sk 0 1 0 n) := by kernel_rfl
theorem vc_0_0_1 (n : Nd) (a0 a2 a3 b3 a4 a6 a7 a8 a10 a14 b14 : Option W) : (cmb (.tup [.str "a"])).map (fC (Sk 0 1 0 n) a0 a2 a3 b3 a4 a6 a7 a8 a10 a14 b14 (.int 0)) = (cmb (.tup [.str "a"])).map fun _ => (true, Sk 0 1 0 n, Sk 0 1 0 n) := by kernel_rfl
theorem vc_0_0_2 (n : Nd) (a0 a2 a3 b3 a4 a6 a7 a8 a10 a14 b14 : Option W) : (cmb (.tup [.str "c"])).map (fC (Sk 0 1 0 n) a0 a2 a3 b3 a4 a6 a7 a8 a10 a14 b14 (.int 0)) = (cmb (.tup [.str "c"])).map fun _ => (true, Sk 0 1 0 n, Sk 0 1 0 n) := by kernel_rfl
theorem vc_0_3_0 (n : Nd) (a0 a2 a3 b3 a4 a6 a7 a8 a10 a14 b14 : Option W) : (cmb (.tup [])).map (fC (Sk 0 1 0 n) a0 a2 a3 b3 a4 a6 a7 a8 a10 a14 b14 (.int 3)) = (cmb (.tup [])).map fun _ => (true, Sk 0 1 0 n, Sk 0 1 0 n) := by kernel_rfl
theorem vc_0_3_1 (n : Nd) (a0 a2 a3 b3 a4 a6 a7 a8 a10 a14 b14 : Option W) : (cmb (.tup [.str "a"])).map (fC (Sk 0 1 0 n) a0 a2 a3 b3 a4 a6 a7 a8 a10 a14 b14 (.int 3)) = (cmb (.tup [.str "a"])).map fun _ => (true, Sk 0 1 0 n, Sk 0 1 0 n) := by kernel_rfl
theorem vc_0_3_2 (n : Nd) (a0 a2 a3 b3 a4 a6 a7 a8 a10 a14 b14 : Option W) : (cmb (.tup [.str "c"])).map (fC (Sk 0 1 0 n) a0 a2 a3 b3 a4 a6 a7 a8 a10 a14 b14 (.int 3)) = (cmb (.tup [.str "c"])).map fun _ => (true, Sk 0 1 0 n, Sk 0 1 0 n) := by kernel_rfl
theorem vc_1_0_0 (n : Nd) (a0 a2 a3 b3 a4 a6 a7 a8 a10 a14 b14 : Option W) : (cmb (.tup [])).map (fC (Sk 5 6 0 n) a0 a2 a3 b3 a4 a6 a7 a8 a10 a14 b14 (.int 0)) = (cmb (.tup [])).map fun _ => (true, Sk 5 6 0 n, Sk 5 6 0 n) := by kernel_rfl
theorem vc_1_0_1 (n : Nd) (a0 a2 a3 b3 a4 a6 a7 a8 a10 a14 b14 : Option W) : (cmb (.tup [.str "a"])).map (fC (Sk 5 6 0 n) a0 a2 a3 b3 a4 a6 a7 a8 a10 a14 b14 (.int 0)) = (cmb (.tup [.str "a"])).map fun _ => (true, Sk 5 6 0 n, Sk 5 6 0 n) := by kernel_rfl
theorem vc_1_0_2 (n : Nd) (a0 a2 a3 b3 a4 a6 a7 a8 a10 a14 b14 : Option W) : (cmb (.tup [.str "c"])).map (fC (Sk 5 6 0 n) a0 a2 a3 b3 a4 a6 a7 a8 a10 a14 b14 (.int 0)) = (cmb (.tup [.str "c"])).map fun _ => (true, Sk 5 6 0 n, Sk 5 6 0 n) := by kernel_rfl
theorem vc_1_3_0 (n : Nd) (a0 a2 a3 b3 a4 a6 a7 a8 a10 a14 b14 : Option W) : (cmb (.tup [])).map (fC (Sk 5 6 0 n) a0 a2 a3 b3 a4 a6 a7 a8 a10 a14 b14 (.int 3)) = (cmb (.tup [])).map fun _ => (true, Sk 5 6 0 n, Sk 5 6 0 n) := by kernel_rfl
theorem vc_1_3_1 (n : Nd) (a0 a2 a3 b3 a4 a6 a7 a8 a10 a14 b14 : Option W) : (cmb (.tup [.str "a"])).map (fC (Sk 5 6 0 n) a0 a2 a3 b3 a4 a6 a7 a8 a10 a14 b14 (.int 3)) = (cmb (.tup [.str "a"])).map fun _ => (true, Sk 5 6 0 n, Sk 5 6 0 n) := by kernel_rfl
theorem vc_1_3_2 (n : Nd) (a0 a2 a3 b3 a4 a6 a7 a8 a10 a14 b14 : Option W) : (cmb (.tup [.str "c"])).map (fC (Sk 5 6 0 n) a0 a2 a3 b3 a4 a6 a7 a8 a10 a14 b14 (.int 3)) = (cmb (.tup [.str "c"])).map fun _ => (true, Sk 5 6 0 n, Sk 5 6 0 n) := by kernel_rfl
theorem vc_2_0_0 (n : Nd) (a0 a2 a3 b3 a4 a6 a7 a8 a10 a14 b14 : Option W) : (cmb (.tup [])).map (fC (Sk 100000000000000000 100000000000000001 0 n) a0 a2 a3 b3 a4 a6 a7 a8 a10 a14 b14 (.int 0)) = (cmb (.tup [])).map fun _ => (true, Sk 100000000000000000 100000000000000001 0 n, Sk 100000000000000000 100000000000000001 0 n) := by kernel_rfl
theorem vc_2_0_1 (n : Nd) (a0 a2 a3 b3 a4 a6 a7 a8 a10 a14 b14 : Option W) : (cmb (.tup [.str "a"])).map (fC (Sk 100000000000000000 100000000000000001 0 n) a0 a2 a3 b3 a4 a6 a7 a8 a10 a14 b14 (.int 0)) = (cmb (.tup [.str "a"])).map fun _ => (true, Sk 100000000000000000 100000000000000001 0 n, Sk 100000000000000000 100000000000000001 0 n) := by kernel_rfl
theorem vc_2_0_2 (n : Nd) (a0 a2 a3 b3 a4 a6 a7 a8 a10 a14 b14 : Option W) : (cmb (.tup [.str "c"])).map (fC (Sk 100000000000000000 100000000000000001 0 n) a0 a2 a3 b3 a4 a6 a7 a8 a10 a14 b14 (.int 0)) = (cmb (.tup [.str "c"])).map fun _ => (true, Sk 100000000000000000 100000000000000001 0 n, Sk 100000000000000000 100000000000000001 0 n) := by kernel_rfl
theorem vc_2_3_0 (n : Nd) (a0 a2 a3 b3 a4 a6 a7 a8 a10 a14 b14 : Option W) : (cmb (.tup [])).map (fC (Sk 100000000000000000 100000000000000001 0 n) a0 a2 a3 b3 a4 a6 a7 a8 a10 a14 b14 (.int 3)) = (cmb (.tup [])).map fun _ => (true, Sk 100000000000000000 100000000000000001 0 n, Sk 100000000000000000 100000000000000001 0 n) := by kernel_rfl
theorem vc_2_3_1 (n : Nd) (a0 a2 a3 b3 a4 a6 a7 a8 a10 a14 b14 : Option W) : (cmb (.tup [.str "a"])).map (fC (Sk 100000000000000000 100000000000000001 0 n) a0 a2 a3 b3 a4 a6 a7 a8 a10 a14 b14 (.int 3)) = (cmb (.tup [.str "a"])).map fun _ => (true, Sk 100000000000000000 100000000000000001 0 n, Sk 100000000000000000 100000000000000001 0 n) := by kernel_rfl
theorem vc_2_3_2 (n : Nd) (a0 a2 a3 b3 a4 a6 a7 a8 a10 a14 b14 : Option W) : (cmb (.tup [.str "c"])).map (fC (Sk 100000000000000000 100000000000000001 0 n) a0 a2 a3 b3 a4 a6 a7 a8 a10 a14 b14 (.int 3)) = (cmb (.tup [.str "c"])).map fun _ => (true, Sk 100000000000000000 100000000000000001 0 n, Sk 100000000000000000 100000000000000001 0 n) := by kernel_rfl
end Lw
namespace Lw
open PySem L2 Mi
theorem seq_nx {a b : MS} {env e1 : Ev} {st s1 : Sto} (h : a env st = .nx e1 s1) : sSeq a b env st = b e1 s1 := by
  unfold sSeq
  rw [h]
theorem for_fix {xs : List W} {mi : MI} {g : MG} {b : MS} {env : Ev} {st : Sto} (Inv : Nat → Ev → Sto → Prop) (hm : mi env st = .ok (fixS xs) st) (h0 : Inv 0 env st)
    (step : ∀ (i : Nat) (w : W), xs[i]? = some w → ∀ e s, Inv i e s → ∃ e1 s1 e2 s2, g w e s = some (e1, s1) ∧ b e1 s1 = .nx e2 s2 ∧ Inv (i + 1) e2 s2) : ∃ e s, sFor mi g b env st = .nx e s ∧ Inv xs.length e s := by
  have h : ws (forS (fixS xs) g b (fixS xs).fuel 0 env st) (Inv xs.length) (fun _ _ => False) (fun _ _ => False) (fun _ _ => False) (fun _ _ _ => False) := forS_fix Inv h0 (fun i w e env s z => by
    obtain ⟨e1, s1, e2, s2, h1, h2, h3⟩ := step i w e env s z
    refine ⟨e1, s1, h1, ?_⟩
    rw [h2]
    exact h3) (fun e s z => z)
  have e : sFor mi g b env st = forS (fixS xs) g b (fixS xs).fuel 0 env st := by
    unfold sFor
    rw [hm]
    rfl
  rw [e]
  revert h
  cases forS (fixS xs) g b (fixS xs).fuel 0 env st <;> intro h
  · exact ⟨_, _, rfl, h⟩
  all_goals exact h.elim
def Flat (v : W) : Prop := ∀ k, blW k v = true
def Dp (v : W) : Prop := Flat v ∧ ∃ x, v = .lst [x] ∨ v = .tup [.tup [x]] ∨ v = .tup [.lst [x]]
/-- after i turns -/
def Dq (i : Nat) (v : W) : Prop := Flat v ∧ (1 ≤ i → ∃ x, v = .lst [x] ∨ v = .tup [x]) ∧ (2 ≤ i → Dp v)
theorem Flat.tup {v : W} (h : Flat v) : Flat (.tup [v]) := fun k => by simp [blW, blWs, h k]
theorem Flat.lst {v : W} (h : Flat v) : Flat (.lst [v]) := fun k => by simp [blW, blWs, h k]
theorem Dq.lst {i : Nat} {v : W} (h : Dq i v) : Dq (i + 1) (.lst [v]) := ⟨h.1.lst, fun _ => ⟨v, .inl rfl⟩, fun _ => ⟨h.1.lst, v, .inl rfl⟩⟩
theorem Dq.tup {i : Nat} {v : W} (h : Dq i v) : Dq (i + 1) (.tup [v]) := ⟨h.1.tup, fun _ => ⟨v, .inr rfl⟩, fun z => ⟨h.1.tup, by
  obtain ⟨x, rfl | rfl⟩ := h.2.1 (by omega)
  · exact ⟨x, .inr (.inr rfl)⟩
  · exact ⟨x, .inr (.inl rfl)⟩⟩⟩
theorem two {x : Int} (a : 0 ≤ x) (b : x < 2) : x = 0 ∨ x = 1 := by omega
theorem four {x : Int} (a : 0 ≤ x) (b : x < 4) : x = 0 ∨ x = 1 ∨ x = 2 ∨ x = 3 := by omega
theorem deep_eq {n : Nd} {R : Sto} (h : Hn n) : ∃ v n', r_law_deep [.ref 1] (tb0 :: n :: R) = .ok v (tb0 :: n' :: R) ∧ Hn n' ∧ Dp v := by
  obtain ⟨x, n1, e1, a1, b1, h1⟩ := draw_eq h (R := R) (m := 4) (by decide) (by decide)
  have f1 : ∃ v0, Flat v0 ∧ (sAsg (mOp wIx (mLst true (mCons (mC .non) (mCons (mTup (mNil)) (mCons (mC (.str "a")) (mCons (mC (.int 0)) (mNil)))))) (mCall r_law_draw (mCons (mVar 0) (mCons (mC (.int 4)) (mNil))))) (gName' 1)) [some (.ref 1), none, none] (tb0 :: n :: R) = .nx [some (.ref 1), some v0, none] (tb0 :: n1 :: R) := by
    have e : ∀ v0, wIx (.lst [.non, .tup [], .str "a", .int 0]) (.int x) (tb0 :: n1 :: R) = .ok v0 (tb0 :: n1 :: R) → (sAsg (mOp wIx (mLst true (mCons (mC .non) (mCons (mTup (mNil)) (mCons (mC (.str "a")) (mCons (mC (.int 0)) (mNil)))))) (mCall r_law_draw (mCons (mVar 0) (mCons (mC (.int 4)) (mNil))))) (gName' 1)) [some (.ref 1), none, none] (tb0 :: n :: R) = .nx [some (.ref 1), some v0, none] (tb0 :: n1 :: R) := fun v0 hv => by
      have l : (mLst true (mCons (mC .non) (mCons (mTup (mNil)) (mCons (mC (.str "a")) (mCons (mC (.int 0)) (mNil)))))) [some (.ref 1), none, none] (tb0 :: n :: R) = .ok (.lst [.non, .tup [], .str "a", .int 0]) (tb0 :: n :: R) := rfl
      simp only [sAsg, mOp, l, Rs.bind, mCall, mCons, mVar, mC, mNil, List.getElem?_cons_zero, e1, hv, Rs.to, gDo, gName']
      rfl
    rcases four a1 b1 with rfl | rfl | rfl | rfl
    · exact ⟨_, fun k => rfl, e _ rfl⟩
    · exact ⟨_, fun k => rfl, e _ rfl⟩
    · exact ⟨_, fun k => rfl, e _ rfl⟩
    · exact ⟨_, fun k => rfl, e _ rfl⟩
  obtain ⟨v0, hf, f1⟩ := f1
  obtain ⟨e, s, hs, hi⟩ := for_fix (xs := (List.range 33).map fun (j : Nat) => W.int j) (mi := iR1 (mCons (mC (.int 33)) (mNil))) (g := gName' 2) (b := sAsg (mOp wIx (mLst true (mCons (mTup (mCons (mVar 1) (mNil))) (mCons (mLst true (mCons (mVar 1) (mNil))) (mNil)))) (mCall r_law_draw (mCons (mVar 0) (mCons (mC (.int 2)) (mNil))))) (gName' 1)) (env := [some (.ref 1), some v0, none]) (st := tb0 :: n1 :: R)
    (fun i e s => ∃ v o n', e = [some (.ref 1), some v, o] ∧ s = tb0 :: n' :: R ∧ Hn n' ∧ Dq i v) rfl ⟨v0, none, n1, rfl, rfl, h1, hf, fun z => absurd z (by omega), fun z => absurd z (by omega)⟩ (fun i w ei e s z => by
      obtain ⟨v, o, n', rfl, rfl, hn, hd⟩ := z
      obtain ⟨y, n2, e2, a2, b2, h2⟩ := draw_eq hn (R := R) (m := 2) (by decide) (by decide)
      have ee : ∀ v', wIx (.lst [.tup [v], .lst [v]]) (.int y) (tb0 :: n2 :: R) = .ok v' (tb0 :: n2 :: R) → (sAsg (mOp wIx (mLst true (mCons (mTup (mCons (mVar 1) (mNil))) (mCons (mLst true (mCons (mVar 1) (mNil))) (mNil)))) (mCall r_law_draw (mCons (mVar 0) (mCons (mC (.int 2)) (mNil))))) (gName' 1)) [some (.ref 1), some v, some w] (tb0 :: n' :: R) = .nx [some (.ref 1), some v', some w] (tb0 :: n2 :: R) := fun v' hv => by
        have l : (mLst true (mCons (mTup (mCons (mVar 1) (mNil))) (mCons (mLst true (mCons (mVar 1) (mNil))) (mNil)))) [some (.ref 1), some v, some w] (tb0 :: n' :: R) = .ok (.lst [.tup [v], .lst [v]]) (tb0 :: n' :: R) := rfl
        simp only [sAsg, mOp, l, Rs.bind, mCall, mCons, mVar, mC, mNil, List.getElem?_cons_zero, e2, hv, Rs.to, gDo, gName']
        rfl
      rcases two a2 b2 with rfl | rfl
      · exact ⟨_, _, _, _, rfl, ee _ rfl, _, _, _, rfl, rfl, h2, hd.tup⟩
      · exact ⟨_, _, _, _, rfl, ee _ rfl, _, _, _, rfl, rfl, h2, hd.lst⟩)
  obtain ⟨v, o, n', rfl, rfl, hn, hd⟩ := hi
  refine ⟨v, n', ?_, hn, hd.2.2 (by simp)⟩
  show outOf (m_law_deep [some (.ref 1), none, none] (tb0 :: n :: R)) = _
  unfold m_law_deep
  rw [seq_nx f1, seq_nx hs]
  rfl
end Lw
namespace Lw
open PySem L2 Mi

def menu (j : Nat) : List W := [.non, .bl true, .int (-1), .int 0, .int 1, .int 1000000000000000000000000000000, .str "a", .str "", .tup [], .lst [], .ref j, .tup [.str "a"], .lst [.str "a"], .tup [.tup [.str "a", .int 1]], .tup [.tup [.str "a", .str "b", .tup []]], .tup [.str "b", .str "a"], .tup [.str "a", .str "a"], .tup [.str "A"], .tup [.str "abcdefghijklm"], .tup [.tup [.str "b", .str "a", .tup []]], .tup [.tup [.str "a", .str "c", .tup [.str "d"]]], .tup [.tup [.str "a", .str "c", .lst [.str "b"]]], .tup [.tup [.str "a", .str "c", .tup [.str "b"]]], .tup [.tup [.str "b", .int 1], .tup [.str "a", .int 2]], .tup [.tup [.str "a", .int 1], .tup [.str "a", .int 2]], .tup [.tup [.str "a", .int 1000000000000000001]], .tup [.tup [.str "a", .bl true]], .tup [.tup [.str "a", .non]], .tup [.tup [.str "a"]]]
/-- values that lie in a list behind a given one -/
theorem cut_take {n : Nd} {R T : Sto} : (tb0 :: n :: (R ++ T)).take (R.length + 2) = tb0 :: n :: R := by
  simp [List.take_succ_cons]
theorem ix_list {xs : List W} {x : Int} {st : Sto} (a : 0 ≤ x) (b : x < xs.length) : ∃ v, wIx (.lst xs) (.int x) st = .ok v st ∧ v ∈ xs := by
  obtain ⟨k, rfl⟩ := Int.eq_ofNat_of_zero_le a
  have hk : k < xs.length := by omega
  refine ⟨xs[k], ?_, List.getElem_mem hk⟩
  have := wp_ixL (st := st) (E := NoE) (P := fun v s => v = xs[k] ∧ s = st) (List.getElem?_eq_getElem hk)
  obtain ⟨v, s, e, rfl, rfl⟩ := wp_get (this.mpr ⟨rfl, rfl⟩)
  exact e
theorem conc_flat {v : W} (h : v ∈ conc) : Flat v := by
  simp only [conc, List.mem_cons, List.not_mem_nil, or_false] at h
  rcases h with rfl | rfl | rfl | rfl | rfl | rfl | rfl | rfl | rfl | rfl | rfl | rfl | rfl | rfl | rfl | rfl | rfl | rfl | rfl | rfl | rfl | rfl | rfl | rfl | rfl | rfl | rfl | rfl <;> exact fun k => rfl
theorem menu_mem {j : Nat} {v : W} (h : v ∈ menu j) : v ∈ conc ∨ v = .ref j := by
  simp only [menu, List.mem_cons, List.not_mem_nil, or_false] at h
  rcases h with rfl | rfl | rfl | rfl | rfl | rfl | rfl | rfl | rfl | rfl | rfl | rfl | rfl | rfl | rfl | rfl | rfl | rfl | rfl | rfl | rfl | rfl | rfl | rfl | rfl | rfl | rfl | rfl | rfl <;> first | exact .inr rfl | (left; simp [conc])
theorem odd_eq {n : Nd} {R : Sto} {right : W} (h : Hn n) : ∃ v n', Hn n' ∧ ((r_law_odd [.ref 1, right] (tb0 :: n :: R) = .ok right (tb0 :: n' :: R) ∧ v = right) ∨
    (r_law_odd [.ref 1, right] (tb0 :: n :: R) = .ok v (tb0 :: n' :: (R ++ [.dk []])) ∧ (v = .ref (R.length + 2) ∨ (Oddv v ∧ Flat v)))) := by
  obtain ⟨x, n1, e1, a1, b1, h1⟩ := draw_eq h (R := R) (m := 2) (by decide) (by decide)
  have ei : (sIf (mB (mOp (wEq) (mCall r_law_draw (mCons (mVar 0) (mCons (mC (.int 2)) (mNil)))) (mC (.int 0)))) (sRet (mVar 1)) (sNx)) [some (.ref 1), some right, none] (tb0 :: n :: R) = if x = 0 then .rt right (tb0 :: n1 :: R) else .nx [some (.ref 1), some right, none] (tb0 :: n1 :: R) := by
    simp only [sIf, mB, mOp, mCall, mCons, mVar, mC, mNil, Rs.bind, List.getElem?_cons_zero, e1]
    rcases two a1 b1 with rfl | rfl <;> rfl
  rcases two a1 b1 with rfl | rfl
  · refine ⟨right, n1, h1, .inl ⟨?_, rfl⟩⟩
    rw [if_pos rfl] at ei
    show outOf (m_law_odd [some (.ref 1), some right, none] (tb0 :: n :: R)) = _
    unfold m_law_odd sSeq
    rw [ei]
    rfl
  rw [if_neg (by decide)] at ei
  obtain ⟨d1, n2, e2, h2, p1⟩ := deep_eq h1 (R := R ++ [.dk []])
  obtain ⟨d2, n3, e3, h3, p2⟩ := deep_eq h2 (R := R ++ [.dk []])
  obtain ⟨y, n4, e4, a4, b4, h4⟩ := draw_eq h3 (R := R ++ [.dk []]) (m := 31) (by decide) (by decide)
  have s1 : (sAsg (mLst true (mCons (mC .non) (mCons (mC (.bl true)) (mCons (mNeg (mC (.int 1))) (mCons (mC (.int 0)) (mCons (mC (.int 1)) (mCons (mOp (wPow) (mC (.int 10)) (mC (.int 30))) (mCons (mC (.str "a")) (mCons (mC (.str "")) (mCons (mTup (mNil)) (mCons (mLst true (mNil)) (mCons (mDict0) (mCons (mTup (mCons (mC (.str "a")) (mNil))) (mCons (mLst true (mCons (mC (.str "a")) (mNil))) (mCons (mTup (mCons (mTup (mCons (mC (.str "a")) (mCons (mC (.int 1)) (mNil)))) (mNil))) (mCons (mTup (mCons (mTup (mCons (mC (.str "a")) (mCons (mC (.str "b")) (mCons (mTup (mNil)) (mNil))))) (mNil))) (mNil))))))))))))))))) (gName' 2)) [some (.ref 1), some right, none] (tb0 :: n1 :: R) = .nx [some (.ref 1), some right, some (.lst [.non, .bl true, .int (-1), .int 0, .int 1, .int 1000000000000000000000000000000, .str "a", .str "", .tup [], .lst [], .ref (R.length + 2), .tup [.str "a"], .lst [.str "a"], .tup [.tup [.str "a", .int 1]], .tup [.tup [.str "a", .str "b", .tup []]]])] (tb0 :: n1 :: (R ++ [.dk []])) := by kernel_rfl
  have s2 : (sAsg (mOp (wAdd true) (mVar 2) (mLst true (mCons (mTup (mCons (mC (.str "b")) (mCons (mC (.str "a")) (mNil)))) (mCons (mTup (mCons (mC (.str "a")) (mCons (mC (.str "a")) (mNil)))) (mCons (mTup (mCons (mC (.str "A")) (mNil))) (mCons (mTup (mCons (mC (.str "abcdefghijklm")) (mNil))) (mCons (mTup (mCons (mTup (mCons (mC (.str "b")) (mCons (mC (.str "a")) (mCons (mTup (mNil)) (mNil))))) (mNil))) (mCons (mTup (mCons (mTup (mCons (mC (.str "a")) (mCons (mC (.str "c")) (mCons (mTup (mCons (mC (.str "d")) (mNil))) (mNil))))) (mNil))) (mNil))))))))) (gName' 2)) [some (.ref 1), some right, some (.lst [.non, .bl true, .int (-1), .int 0, .int 1, .int 1000000000000000000000000000000, .str "a", .str "", .tup [], .lst [], .ref (R.length + 2), .tup [.str "a"], .lst [.str "a"], .tup [.tup [.str "a", .int 1]], .tup [.tup [.str "a", .str "b", .tup []]]])] (tb0 :: n1 :: (R ++ [.dk []])) = .nx [some (.ref 1), some right, some (.lst [.non, .bl true, .int (-1), .int 0, .int 1, .int 1000000000000000000000000000000, .str "a", .str "", .tup [], .lst [], .ref (R.length + 2), .tup [.str "a"], .lst [.str "a"], .tup [.tup [.str "a", .int 1]], .tup [.tup [.str "a", .str "b", .tup []]], .tup [.str "b", .str "a"], .tup [.str "a", .str "a"], .tup [.str "A"], .tup [.str "abcdefghijklm"], .tup [.tup [.str "b", .str "a", .tup []]], .tup [.tup [.str "a", .str "c", .tup [.str "d"]]]])] (tb0 :: n1 :: (R ++ [.dk []])) := by kernel_rfl
  have s3 : (sAsg (mOp (wAdd true) (mVar 2) (mLst true (mCons (mTup (mCons (mTup (mCons (mC (.str "a")) (mCons (mC (.str "c")) (mCons (mLst true (mCons (mC (.str "b")) (mNil))) (mNil))))) (mNil))) (mCons (mTup (mCons (mTup (mCons (mC (.str "a")) (mCons (mC (.str "c")) (mCons (mTup (mCons (mC (.str "b")) (mNil))) (mNil))))) (mNil))) (mCons (mTup (mCons (mTup (mCons (mC (.str "b")) (mCons (mC (.int 1)) (mNil)))) (mCons (mTup (mCons (mC (.str "a")) (mCons (mC (.int 2)) (mNil)))) (mNil)))) (mCons (mTup (mCons (mTup (mCons (mC (.str "a")) (mCons (mC (.int 1)) (mNil)))) (mCons (mTup (mCons (mC (.str "a")) (mCons (mC (.int 2)) (mNil)))) (mNil)))) (mNil))))))) (gName' 2)) [some (.ref 1), some right, some (.lst [.non, .bl true, .int (-1), .int 0, .int 1, .int 1000000000000000000000000000000, .str "a", .str "", .tup [], .lst [], .ref (R.length + 2), .tup [.str "a"], .lst [.str "a"], .tup [.tup [.str "a", .int 1]], .tup [.tup [.str "a", .str "b", .tup []]], .tup [.str "b", .str "a"], .tup [.str "a", .str "a"], .tup [.str "A"], .tup [.str "abcdefghijklm"], .tup [.tup [.str "b", .str "a", .tup []]], .tup [.tup [.str "a", .str "c", .tup [.str "d"]]]])] (tb0 :: n1 :: (R ++ [.dk []])) = .nx [some (.ref 1), some right, some (.lst [.non, .bl true, .int (-1), .int 0, .int 1, .int 1000000000000000000000000000000, .str "a", .str "", .tup [], .lst [], .ref (R.length + 2), .tup [.str "a"], .lst [.str "a"], .tup [.tup [.str "a", .int 1]], .tup [.tup [.str "a", .str "b", .tup []]], .tup [.str "b", .str "a"], .tup [.str "a", .str "a"], .tup [.str "A"], .tup [.str "abcdefghijklm"], .tup [.tup [.str "b", .str "a", .tup []]], .tup [.tup [.str "a", .str "c", .tup [.str "d"]]], .tup [.tup [.str "a", .str "c", .lst [.str "b"]]], .tup [.tup [.str "a", .str "c", .tup [.str "b"]]], .tup [.tup [.str "b", .int 1], .tup [.str "a", .int 2]], .tup [.tup [.str "a", .int 1], .tup [.str "a", .int 2]]])] (tb0 :: n1 :: (R ++ [.dk []])) := by kernel_rfl
  have s4 : (sAsg (mOp (wAdd true) (mVar 2) (mLst true (mCons (mTup (mCons (mTup (mCons (mC (.str "a")) (mCons (mOp (wAdd true) (mOp (wPow) (mC (.int 10)) (mC (.int 18))) (mC (.int 1))) (mNil)))) (mNil))) (mCons (mTup (mCons (mTup (mCons (mC (.str "a")) (mCons (mC (.bl true)) (mNil)))) (mNil))) (mCons (mTup (mCons (mTup (mCons (mC (.str "a")) (mCons (mC .non) (mNil)))) (mNil))) (mCons (mTup (mCons (mTup (mCons (mC (.str "a")) (mNil))) (mNil))) (mNil))))))) (gName' 2)) [some (.ref 1), some right, some (.lst [.non, .bl true, .int (-1), .int 0, .int 1, .int 1000000000000000000000000000000, .str "a", .str "", .tup [], .lst [], .ref (R.length + 2), .tup [.str "a"], .lst [.str "a"], .tup [.tup [.str "a", .int 1]], .tup [.tup [.str "a", .str "b", .tup []]], .tup [.str "b", .str "a"], .tup [.str "a", .str "a"], .tup [.str "A"], .tup [.str "abcdefghijklm"], .tup [.tup [.str "b", .str "a", .tup []]], .tup [.tup [.str "a", .str "c", .tup [.str "d"]]], .tup [.tup [.str "a", .str "c", .lst [.str "b"]]], .tup [.tup [.str "a", .str "c", .tup [.str "b"]]], .tup [.tup [.str "b", .int 1], .tup [.str "a", .int 2]], .tup [.tup [.str "a", .int 1], .tup [.str "a", .int 2]]])] (tb0 :: n1 :: (R ++ [.dk []])) = .nx [some (.ref 1), some right, some (.lst [.non, .bl true, .int (-1), .int 0, .int 1, .int 1000000000000000000000000000000, .str "a", .str "", .tup [], .lst [], .ref (R.length + 2), .tup [.str "a"], .lst [.str "a"], .tup [.tup [.str "a", .int 1]], .tup [.tup [.str "a", .str "b", .tup []]], .tup [.str "b", .str "a"], .tup [.str "a", .str "a"], .tup [.str "A"], .tup [.str "abcdefghijklm"], .tup [.tup [.str "b", .str "a", .tup []]], .tup [.tup [.str "a", .str "c", .tup [.str "d"]]], .tup [.tup [.str "a", .str "c", .lst [.str "b"]]], .tup [.tup [.str "a", .str "c", .tup [.str "b"]]], .tup [.tup [.str "b", .int 1], .tup [.str "a", .int 2]], .tup [.tup [.str "a", .int 1], .tup [.str "a", .int 2]], .tup [.tup [.str "a", .int 1000000000000000001]], .tup [.tup [.str "a", .bl true]], .tup [.tup [.str "a", .non]], .tup [.tup [.str "a"]]])] (tb0 :: n1 :: (R ++ [.dk []])) := by kernel_rfl
  have s5 : (sAsg (mOp (wAdd true) (mVar 2) (mLst true (mCons (mCall r_law_deep (mCons (mVar 0) (mNil))) (mCons (mTup (mCons (mCall r_law_deep (mCons (mVar 0) (mNil))) (mNil))) (mNil))))) (gName' 2)) [some (.ref 1), some right, some (.lst [.non, .bl true, .int (-1), .int 0, .int 1, .int 1000000000000000000000000000000, .str "a", .str "", .tup [], .lst [], .ref (R.length + 2), .tup [.str "a"], .lst [.str "a"], .tup [.tup [.str "a", .int 1]], .tup [.tup [.str "a", .str "b", .tup []]], .tup [.str "b", .str "a"], .tup [.str "a", .str "a"], .tup [.str "A"], .tup [.str "abcdefghijklm"], .tup [.tup [.str "b", .str "a", .tup []]], .tup [.tup [.str "a", .str "c", .tup [.str "d"]]], .tup [.tup [.str "a", .str "c", .lst [.str "b"]]], .tup [.tup [.str "a", .str "c", .tup [.str "b"]]], .tup [.tup [.str "b", .int 1], .tup [.str "a", .int 2]], .tup [.tup [.str "a", .int 1], .tup [.str "a", .int 2]], .tup [.tup [.str "a", .int 1000000000000000001]], .tup [.tup [.str "a", .bl true]], .tup [.tup [.str "a", .non]], .tup [.tup [.str "a"]]])] (tb0 :: n1 :: (R ++ [.dk []])) = .nx [some (.ref 1), some right, some (.lst (menu (R.length + 2) ++ [d1, .tup [d2]]))] (tb0 :: n3 :: (R ++ [.dk []])) := by
    simp only [sAsg, mOp, mLst, mTup, mCall, mCons, mVar, mNil, Rs.bind, List.getElem?_cons_zero, List.getElem?_cons_succ, e2, e3]
    rfl
  obtain ⟨v, ev, hv⟩ := ix_list (xs := menu (R.length + 2) ++ [d1, .tup [d2]]) (st := tb0 :: n4 :: (R ++ [.dk []])) a4 (by simpa [menu] using b4)
  refine ⟨v, n4, h4, .inr ⟨?_, ?_⟩⟩
  · have s6 : (sRet (mOp wIx (mVar 2) (mCall r_law_draw (mCons (mVar 0) (mCons (mFn fLen (mCons (mVar 2) (mNil))) (mNil)))))) [some (.ref 1), some right, some (.lst (menu (R.length + 2) ++ [d1, .tup [d2]]))] (tb0 :: n3 :: (R ++ [.dk []])) = .rt v (tb0 :: n4 :: (R ++ [.dk []])) := by
      have el : (mFn fLen (mCons (mVar 2) (mNil))) [some (.ref 1), some right, some (.lst (menu (R.length + 2) ++ [d1, .tup [d2]]))] (tb0 :: n3 :: (R ++ [.dk []])) = .ok (.int 31) (tb0 :: n3 :: (R ++ [.dk []])) := rfl
      have em : (mCall r_law_draw (mCons (mVar 0) (mCons (mFn fLen (mCons (mVar 2) (mNil))) (mNil)))) [some (.ref 1), some right, some (.lst (menu (R.length + 2) ++ [d1, .tup [d2]]))] (tb0 :: n3 :: (R ++ [.dk []])) = .ok (.int y) (tb0 :: n4 :: (R ++ [.dk []])) := by
        unfold mCall
        have : (mCons (mVar 0) (mCons (mFn fLen (mCons (mVar 2) (mNil))) (mNil))) [some (.ref 1), some right, some (.lst (menu (R.length + 2) ++ [d1, .tup [d2]]))] (tb0 :: n3 :: (R ++ [.dk []])) = .ok [.ref 1, .int 31] (tb0 :: n3 :: (R ++ [.dk []])) := rfl
        rw [this]
        exact e4
      have ev2 : (mVar 2) [some (.ref 1), some right, some (.lst (menu (R.length + 2) ++ [d1, .tup [d2]]))] (tb0 :: n3 :: (R ++ [.dk []])) = .ok (.lst (menu (R.length + 2) ++ [d1, .tup [d2]])) (tb0 :: n3 :: (R ++ [.dk []])) := rfl
      unfold sRet mOp
      rw [ev2]
      simp only [Rs.bind, em, ev, Rs.to]
    show outOf (m_law_odd [some (.ref 1), some right, none] (tb0 :: n :: R)) = _
    unfold m_law_odd
    rw [seq_nx ei, seq_nx s1, seq_nx s2, seq_nx s3, seq_nx s4, seq_nx s5, s6]
    rfl
  · rcases List.mem_append.mp hv with hm | hm
    · rcases menu_mem hm with hc | hc
      · exact .inr ⟨.inl hc, conc_flat hc⟩
      · exact .inl hc
    · simp only [List.mem_cons, List.not_mem_nil, or_false] at hm
      obtain ⟨f1, x1, q1⟩ := p1
      obtain ⟨f2, x2, q2⟩ := p2
      rcases hm with rfl | rfl
      · exact .inr ⟨.inr ⟨x1, q1⟩, f1⟩
      · refine .inr ⟨.inr ?_, f2.tup⟩
        rcases q2 with rfl | rfl | rfl
        · exact ⟨x2, .inr (.inr rfl)⟩
        · exact ⟨.tup [x2], .inr (.inl rfl)⟩
        · exact ⟨.lst [x2], .inr (.inl rfl)⟩
/-! store cut -/
theorem gcs_cut {m : M W} {env : Ev} {st s s0 : Sto} {v : W} (h : m env st = .ok v s) (hf : Flat v) (hs : s.take st.length = s0) (hb : s0.all (blN st.length) = true) : mGcS m env st = .ok v s0 := by
  unfold mGcS
  rw [h]
  simp only
  rw [hs, hf, hb]
  rfl
theorem gcs_keep {m : M W} {env : Ev} {st s : Sto} {v : W} (h : m env st = .ok v s) (hb : blW st.length v = false) : mGcS m env st = .ok v s := by
  unfold mGcS
  rw [h]
  simp [hb]
theorem gcs_odd {n : Nd} {R : Sto} {right : W} {m : M (List W)} {env : Ev} (hn : Hn n) (hR : R.all (blN (R.length + 2)) = true) (hf : Flat right) (ha : ∀ n : Nd, m env (tb0 :: n :: R) = .ok [.ref 1, right] (tb0 :: n :: R)) :
    ∃ n', Hn n' ∧ ((∃ v, mGcS (mCall r_law_odd m) env (tb0 :: n :: R) = .ok v (tb0 :: n' :: R) ∧ Val [right] v ∧ Flat v) ∨ mGcS (mCall r_law_odd m) env (tb0 :: n :: R) = .ok (.ref (R.length + 2)) (tb0 :: n' :: (R ++ [.dk []]))) := by
  obtain ⟨v, n', h', ⟨e, rfl⟩ | ⟨e, hv⟩⟩ := odd_eq (R := R) (right := right) hn
  · refine ⟨n', h', .inl ⟨v, gcs_cut (s := tb0 :: n' :: R) ?_ hf (by simp) (all_of h' hR), .inl (by simp), hf⟩⟩
    unfold mCall
    rw [ha]
    exact e
  · have e' : mCall r_law_odd m env (tb0 :: n :: R) = .ok v (tb0 :: n' :: (R ++ [.dk []])) := by
      unfold mCall
      rw [ha]
      exact e
    rcases hv with rfl | ⟨ho, hfl⟩
    · exact ⟨n', h', .inr (gcs_keep e' (by simp [blW]))⟩
    · exact ⟨n', h', .inl ⟨v, gcs_cut e' hfl cut_take (all_of h' hR), .inr ho, hfl⟩⟩
end Lw
namespace Lw
open PySem L2 Mi

abbrev RA (l l1 : Int) : List W := [.int l, .int l1, .int (l - 1), .int (l + 2), .bl true, .non, .str "0"]
abbrev RB : List W := [.int 0, .int 3, .int 1, .int 2, .int 4, .bl true, .bl false]
abbrev shW (l1 : Int) : W := .tup [.int l1, .tup [.int 0, .int 3], .tup [.int 1]]
noncomputable def m_sh : M W := mTup (mCons (mMeth [(0, r_Check_last)] "last" (mVar 5) mNil) (mCons (mMeth [(0, r_Check_open_entries)] "open_entries" (mVar 5) mNil) (mCons (mMeth [(0, r_Check_remembered)] "remembered" (mVar 5) mNil) (mNil))))
noncomputable def m_fin : M W := mOp (wEq) (mTup (mCons (mMeth [(0, r_Check_last)] "last" (mVar 5) mNil) (mCons (mMeth [(0, r_Check_open_entries)] "open_entries" (mVar 5) mNil) (mCons (mMeth [(0, r_Check_remembered)] "remembered" (mVar 5) mNil) (mNil))))) (mVar 6)
noncomputable def m_shc : M Bool := mB (mOp (wNe) (mVar 6) (mTup (mCons (mOp (wAdd true) (mVar 4) (mC (.int 1))) (mCons (mTup (mCons (mC (.int 0)) (mCons (mC (.int 3)) (mNil)))) (mCons (mTup (mCons (mC (.int 1)) (mNil))) (mNil))))))
abbrev envL (a0 a2 a3 a6 a7 a8 a9 a10 a11 a12 a13 a14 : Option W) (l : Int) : Ev := [a0, some (.ref 1), a2, a3, some (.int l), some (.ref 2), a6, a7, a8, a9, a10, a11, a12, a13, a14]
/-- what the kernel found of one of the three last numbers -/
structure Good (l l1 : Int) : Prop where
  e1 : l + 1 = l1
  rd : ∀ n : Nd, r_law_ready [.ref 1, .int l] [tb0, n] = .ok (.ref 2) (Sk l l1 0 n)
  sh : ∀ (n : Nd) (a0 a2 a3 a6 a7 a8 a9 a10 a11 a12 a13 a14 : Option W), m_sh (envL a0 a2 a3 a6 a7 a8 a9 a10 a11 a12 a13 a14 l) (Sk l l1 0 n) = .ok (shW l1) (Sk l l1 0 n)
  shc : ∀ (n : Nd) (a0 a2 a3 a7 a8 a9 a10 a11 a12 a13 a14 : Option W), m_shc (envL a0 a2 a3 (some (shW l1)) a7 a8 a9 a10 a11 a12 a13 a14 l) (Sk l l1 0 n) = .ok false (Sk l l1 0 n)
  fin : ∀ (n : Nd) (a0 a2 a3 a7 a8 a9 a10 a11 a12 a13 a14 : Option W), m_fin (envL a0 a2 a3 (some (shW l1)) a7 a8 a9 a10 a11 a12 a13 a14 l) (Sk l l1 0 n) = .ok (.bl true) (Sk l l1 0 n)
  a : ∀ (n : Nd) (a0 a2 a3 b3 a6 a7 a9 a10 a11 a12 a13 a14 : Option W) (v : W), Val (RA l l1) v → fA l (Sk l l1 0 n) a0 a2 a3 b3 a6 a7 a9 a10 a11 a12 a13 a14 v = (true, Sk l l1 0 n, Sk l l1 0 n)
  ad : ∀ (n : Nd) (a0 a2 a3 b3 a6 a7 a9 a10 a11 a12 a13 a14 : Option W), fA l (Sk l l1 1 n) a0 a2 a3 b3 a6 a7 a9 a10 a11 a12 a13 a14 (.ref 21) = (true, Sk l l1 1 n, Sk l l1 1 n)
  b : ∀ (c : Nat) (n : Nd) (a0 a2 a3 b3 c3 a4 a6 a7 a8 a10 b10 a11 b11 a12 b12 a13 b13 a14 b14 : Option W) (v : W), (Val RB v ∧ c ≤ 3) ∨ (v = .ref 21 ∧ 1 ≤ c ∧ c ≤ 4) → fB (Sk l l1 c n) (Sc l l1 c n) (21 + c) a0 a2 a3 b3 c3 a4 a6 a7 a8 a10 b10 a11 b11 a12 b12 a13 b13 a14 b14 v = gB (Sk l l1 c n) (Sc l l1 c n) v
  cp : ∀ (c : Nat) (n : Nd), c ≤ 4 → r_Check_copy [.ref 2] (Sk l l1 c n) = .ok (.ref (21 + c)) (Sc l l1 c n)
  vc : ∀ (n : Nd) (a0 a2 a3 b3 a4 a6 a7 a8 a10 a14 b14 : Option W) (v k r w : W), (v = .int 0 ∨ v = .int 3) → k ∈ ok_keys → r ∈ ok_ranges → w ∈ ok_writes → fC (Sk l l1 0 n) a0 a2 a3 b3 a4 a6 a7 a8 a10 a14 b14 v (k, r, w) = (true, Sk l l1 0 n, Sk l l1 0 n)
theorem cmb_mem {k r w : W} (h1 : r ∈ ok_ranges) (h2 : w ∈ ok_writes) : (k, r, w) ∈ cmb k := by
  unfold cmb
  exact List.mem_flatMap.mpr ⟨r, h1, List.mem_map.mpr ⟨w, h2, rfl⟩⟩
theorem le3 {c : Nat} (h : c ≤ 3) : c = 0 ∨ c = 1 ∨ c = 2 ∨ c = 3 := by omega
theorem le4 {c : Nat} (h : c ≤ 4) : c = 0 ∨ c = 1 ∨ c = 2 ∨ c = 3 ∨ c = 4 := by omega
theorem in14 {c : Nat} (h : 1 ≤ c) (h' : c ≤ 4) : c = 1 ∨ c = 2 ∨ c = 3 ∨ c = 4 := by omega
theorem good_0 : Good 0 1 where
  e1 := rfl
  rd := rd_0
  sh := fun n a0 a2 a3 a6 a7 a8 a9 a10 a11 a12 a13 a14 => by kernel_rfl
  shc := fun n a0 a2 a3 a7 a8 a9 a10 a11 a12 a13 a14 => by kernel_rfl
  fin := fun n a0 a2 a3 a7 a8 a9 a10 a11 a12 a13 a14 => by kernel_rfl
  a := fun n a0 a2 a3 b3 a6 a7 a9 a10 a11 a12 a13 a14 v h => val_by (fun x => za_0 n a0 a2 a3 b3 a6 a7 a9 a10 a11 a12 a13 a14 x) h
  ad := fun n a0 a2 a3 b3 a6 a7 a9 a10 a11 a12 a13 a14 => zad_0 n a0 a2 a3 b3 a6 a7 a9 a10 a11 a12 a13 a14
  b := fun c n a0 a2 a3 b3 c3 a4 a6 a7 a8 a10 b10 a11 b11 a12 b12 a13 b13 a14 b14 v h => by
    rcases h with ⟨h, hc⟩ | ⟨rfl, h1, h2⟩
    · rcases le3 hc with rfl | rfl | rfl | rfl
      · exact val_by (fun x => zb_0_0 n a0 a2 a3 b3 c3 a4 a6 a7 a8 a10 b10 a11 b11 a12 b12 a13 b13 a14 b14 x) h
      · exact val_by (fun x => zb_0_1 n a0 a2 a3 b3 c3 a4 a6 a7 a8 a10 b10 a11 b11 a12 b12 a13 b13 a14 b14 x) h
      · exact val_by (fun x => zb_0_2 n a0 a2 a3 b3 c3 a4 a6 a7 a8 a10 b10 a11 b11 a12 b12 a13 b13 a14 b14 x) h
      · exact val_by (fun x => zb_0_3 n a0 a2 a3 b3 c3 a4 a6 a7 a8 a10 b10 a11 b11 a12 b12 a13 b13 a14 b14 x) h
    · rcases in14 h1 h2 with rfl | rfl | rfl | rfl
      · exact zbd_0_1 n a0 a2 a3 b3 c3 a4 a6 a7 a8 a10 b10 a11 b11 a12 b12 a13 b13 a14 b14
      · exact zbd_0_2 n a0 a2 a3 b3 c3 a4 a6 a7 a8 a10 b10 a11 b11 a12 b12 a13 b13 a14 b14
      · exact zbd_0_3 n a0 a2 a3 b3 c3 a4 a6 a7 a8 a10 b10 a11 b11 a12 b12 a13 b13 a14 b14
      · exact zbd_0_4 n a0 a2 a3 b3 c3 a4 a6 a7 a8 a10 b10 a11 b11 a12 b12 a13 b13 a14 b14
  cp := fun c n hc => by
    rcases le4 hc with rfl | rfl | rfl | rfl | rfl
    · exact cp_0_0 n
    · exact cp_0_1 n
    · exact cp_0_2 n
    · exact cp_0_3 n
    · exact cp_0_4 n
  vc := fun n a0 a2 a3 b3 a4 a6 a7 a8 a10 a14 b14 v k r w hv hk hr hw => by
    simp only [ok_keys, List.mem_cons, List.not_mem_nil, or_false] at hk
    rcases hv with rfl | rfl <;> rcases hk with rfl | rfl | rfl
    · exact List.map_inj_left.mp (vc_0_0_0 n a0 a2 a3 b3 a4 a6 a7 a8 a10 a14 b14) _ (cmb_mem hr hw)
    · exact List.map_inj_left.mp (vc_0_0_1 n a0 a2 a3 b3 a4 a6 a7 a8 a10 a14 b14) _ (cmb_mem hr hw)
    · exact List.map_inj_left.mp (vc_0_0_2 n a0 a2 a3 b3 a4 a6 a7 a8 a10 a14 b14) _ (cmb_mem hr hw)
    · exact List.map_inj_left.mp (vc_0_3_0 n a0 a2 a3 b3 a4 a6 a7 a8 a10 a14 b14) _ (cmb_mem hr hw)
    · exact List.map_inj_left.mp (vc_0_3_1 n a0 a2 a3 b3 a4 a6 a7 a8 a10 a14 b14) _ (cmb_mem hr hw)
    · exact List.map_inj_left.mp (vc_0_3_2 n a0 a2 a3 b3 a4 a6 a7 a8 a10 a14 b14) _ (cmb_mem hr hw)
theorem good_1 : Good 5 6 where
  e1 := rfl
  rd := rd_1
  sh := fun n a0 a2 a3 a6 a7 a8 a9 a10 a11 a12 a13 a14 => by kernel_rfl
  shc := fun n a0 a2 a3 a7 a8 a9 a10 a11 a12 a13 a14 => by kernel_rfl
  fin := fun n a0 a2 a3 a7 a8 a9 a10 a11 a12 a13 a14 => by kernel_rfl
  a := fun n a0 a2 a3 b3 a6 a7 a9 a10 a11 a12 a13 a14 v h => val_by (fun x => za_1 n a0 a2 a3 b3 a6 a7 a9 a10 a11 a12 a13 a14 x) h
  ad := fun n a0 a2 a3 b3 a6 a7 a9 a10 a11 a12 a13 a14 => zad_1 n a0 a2 a3 b3 a6 a7 a9 a10 a11 a12 a13 a14
  b := fun c n a0 a2 a3 b3 c3 a4 a6 a7 a8 a10 b10 a11 b11 a12 b12 a13 b13 a14 b14 v h => by
    rcases h with ⟨h, hc⟩ | ⟨rfl, h1, h2⟩
    · rcases le3 hc with rfl | rfl | rfl | rfl
      · exact val_by (fun x => zb_1_0 n a0 a2 a3 b3 c3 a4 a6 a7 a8 a10 b10 a11 b11 a12 b12 a13 b13 a14 b14 x) h
      · exact val_by (fun x => zb_1_1 n a0 a2 a3 b3 c3 a4 a6 a7 a8 a10 b10 a11 b11 a12 b12 a13 b13 a14 b14 x) h
      · exact val_by (fun x => zb_1_2 n a0 a2 a3 b3 c3 a4 a6 a7 a8 a10 b10 a11 b11 a12 b12 a13 b13 a14 b14 x) h
      · exact val_by (fun x => zb_1_3 n a0 a2 a3 b3 c3 a4 a6 a7 a8 a10 b10 a11 b11 a12 b12 a13 b13 a14 b14 x) h
    · rcases in14 h1 h2 with rfl | rfl | rfl | rfl
      · exact zbd_1_1 n a0 a2 a3 b3 c3 a4 a6 a7 a8 a10 b10 a11 b11 a12 b12 a13 b13 a14 b14
      · exact zbd_1_2 n a0 a2 a3 b3 c3 a4 a6 a7 a8 a10 b10 a11 b11 a12 b12 a13 b13 a14 b14
      · exact zbd_1_3 n a0 a2 a3 b3 c3 a4 a6 a7 a8 a10 b10 a11 b11 a12 b12 a13 b13 a14 b14
      · exact zbd_1_4 n a0 a2 a3 b3 c3 a4 a6 a7 a8 a10 b10 a11 b11 a12 b12 a13 b13 a14 b14
  cp := fun c n hc => by
    rcases le4 hc with rfl | rfl | rfl | rfl | rfl
    · exact cp_1_0 n
    · exact cp_1_1 n
    · exact cp_1_2 n
    · exact cp_1_3 n
    · exact cp_1_4 n
  vc := fun n a0 a2 a3 b3 a4 a6 a7 a8 a10 a14 b14 v k r w hv hk hr hw => by
    simp only [ok_keys, List.mem_cons, List.not_mem_nil, or_false] at hk
    rcases hv with rfl | rfl <;> rcases hk with rfl | rfl | rfl
    · exact List.map_inj_left.mp (vc_1_0_0 n a0 a2 a3 b3 a4 a6 a7 a8 a10 a14 b14) _ (cmb_mem hr hw)
    · exact List.map_inj_left.mp (vc_1_0_1 n a0 a2 a3 b3 a4 a6 a7 a8 a10 a14 b14) _ (cmb_mem hr hw)
    · exact List.map_inj_left.mp (vc_1_0_2 n a0 a2 a3 b3 a4 a6 a7 a8 a10 a14 b14) _ (cmb_mem hr hw)
    · exact List.map_inj_left.mp (vc_1_3_0 n a0 a2 a3 b3 a4 a6 a7 a8 a10 a14 b14) _ (cmb_mem hr hw)
    · exact List.map_inj_left.mp (vc_1_3_1 n a0 a2 a3 b3 a4 a6 a7 a8 a10 a14 b14) _ (cmb_mem hr hw)
    · exact List.map_inj_left.mp (vc_1_3_2 n a0 a2 a3 b3 a4 a6 a7 a8 a10 a14 b14) _ (cmb_mem hr hw)
theorem good_2 : Good 100000000000000000 100000000000000001 where
  e1 := rfl
  rd := rd_2
  sh := fun n a0 a2 a3 a6 a7 a8 a9 a10 a11 a12 a13 a14 => by kernel_rfl
  shc := fun n a0 a2 a3 a7 a8 a9 a10 a11 a12 a13 a14 => by kernel_rfl
  fin := fun n a0 a2 a3 a7 a8 a9 a10 a11 a12 a13 a14 => by kernel_rfl
  a := fun n a0 a2 a3 b3 a6 a7 a9 a10 a11 a12 a13 a14 v h => val_by (fun x => za_2 n a0 a2 a3 b3 a6 a7 a9 a10 a11 a12 a13 a14 x) h
  ad := fun n a0 a2 a3 b3 a6 a7 a9 a10 a11 a12 a13 a14 => zad_2 n a0 a2 a3 b3 a6 a7 a9 a10 a11 a12 a13 a14
  b := fun c n a0 a2 a3 b3 c3 a4 a6 a7 a8 a10 b10 a11 b11 a12 b12 a13 b13 a14 b14 v h => by
    rcases h with ⟨h, hc⟩ | ⟨rfl, h1, h2⟩
    · rcases le3 hc with rfl | rfl | rfl | rfl
      · exact val_by (fun x => zb_2_0 n a0 a2 a3 b3 c3 a4 a6 a7 a8 a10 b10 a11 b11 a12 b12 a13 b13 a14 b14 x) h
      · exact val_by (fun x => zb_2_1 n a0 a2 a3 b3 c3 a4 a6 a7 a8 a10 b10 a11 b11 a12 b12 a13 b13 a14 b14 x) h
      · exact val_by (fun x => zb_2_2 n a0 a2 a3 b3 c3 a4 a6 a7 a8 a10 b10 a11 b11 a12 b12 a13 b13 a14 b14 x) h
      · exact val_by (fun x => zb_2_3 n a0 a2 a3 b3 c3 a4 a6 a7 a8 a10 b10 a11 b11 a12 b12 a13 b13 a14 b14 x) h
    · rcases in14 h1 h2 with rfl | rfl | rfl | rfl
      · exact zbd_2_1 n a0 a2 a3 b3 c3 a4 a6 a7 a8 a10 b10 a11 b11 a12 b12 a13 b13 a14 b14
      · exact zbd_2_2 n a0 a2 a3 b3 c3 a4 a6 a7 a8 a10 b10 a11 b11 a12 b12 a13 b13 a14 b14
      · exact zbd_2_3 n a0 a2 a3 b3 c3 a4 a6 a7 a8 a10 b10 a11 b11 a12 b12 a13 b13 a14 b14
      · exact zbd_2_4 n a0 a2 a3 b3 c3 a4 a6 a7 a8 a10 b10 a11 b11 a12 b12 a13 b13 a14 b14
  cp := fun c n hc => by
    rcases le4 hc with rfl | rfl | rfl | rfl | rfl
    · exact cp_2_0 n
    · exact cp_2_1 n
    · exact cp_2_2 n
    · exact cp_2_3 n
    · exact cp_2_4 n
  vc := fun n a0 a2 a3 b3 a4 a6 a7 a8 a10 a14 b14 v k r w hv hk hr hw => by
    simp only [ok_keys, List.mem_cons, List.not_mem_nil, or_false] at hk
    rcases hv with rfl | rfl <;> rcases hk with rfl | rfl | rfl
    · exact List.map_inj_left.mp (vc_2_0_0 n a0 a2 a3 b3 a4 a6 a7 a8 a10 a14 b14) _ (cmb_mem hr hw)
    · exact List.map_inj_left.mp (vc_2_0_1 n a0 a2 a3 b3 a4 a6 a7 a8 a10 a14 b14) _ (cmb_mem hr hw)
    · exact List.map_inj_left.mp (vc_2_0_2 n a0 a2 a3 b3 a4 a6 a7 a8 a10 a14 b14) _ (cmb_mem hr hw)
    · exact List.map_inj_left.mp (vc_2_3_0 n a0 a2 a3 b3 a4 a6 a7 a8 a10 a14 b14) _ (cmb_mem hr hw)
    · exact List.map_inj_left.mp (vc_2_3_1 n a0 a2 a3 b3 a4 a6 a7 a8 a10 a14 b14) _ (cmb_mem hr hw)
    · exact List.map_inj_left.mp (vc_2_3_2 n a0 a2 a3 b3 a4 a6 a7 a8 a10 a14 b14) _ (cmb_mem hr hw)
end Lw
namespace Lw
open PySem L2 Mi
theorem ne_str {d t : Str} {st : Sto} : wNe (.str t) (.str d) st = .ok (.bl (!decide (t = d))) st := by simp [wNe, eqW, scalV, scal]
theorem Sk_dk {l l1 : Int} {c : Nat} {n : Nd} : tb0 :: n :: ((Rl l l1 ++ List.replicate c (.dk [])) ++ [.dk []]) = Sk l l1 (c + 1) n := by
  unfold Sk
  rw [List.append_assoc, ← List.replicate_succ']
theorem Rl_len {l l1 : Int} {c : Nat} : (Rl l l1 ++ List.replicate c (.dk [] : Nd)).length + 2 = 21 + c := by
  simp [Rl]
  omega
theorem Sk_len {l l1 : Int} {c : Nat} {n : Nd} : (Sk l l1 c n).length = 21 + c := by
  simp [Sk, Rl]
  omega
theorem Rl_bl {l l1 : Int} {c k : Nat} (h : 21 ≤ k) : (Rl l l1 ++ List.replicate c (.dk [] : Nd)).all (blN k) = true := by
  have e : ∀ m : Nat, m < 21 → decide (m < k) = true := fun m hm => decide_eq_true (by omega)
  rw [List.all_append]
  have h2 : (List.replicate c (.dk [] : Nd)).all (blN k) = true := by
    simp [List.all_eq_true, blN, blWs]
  rw [h2]
  simp [Rl, blN, blWs, blW]
  omega
theorem Sk_bl {l l1 : Int} {c : Nat} {n : Nd} (h : Hn n) : (Sk l l1 c n).all (blN (Sk l l1 c n).length) = true := by
  rw [Sk_len]
  exact all_of h (Rl_bl (by omega))
theorem Sk_at {l l1 : Int} {c j : Nat} {n : Nd} (h1 : 21 ≤ j) (h2 : j < 21 + c) : (Sk l l1 c n)[j]? = some (.dk []) := by
  obtain ⟨i, rfl⟩ : ∃ i, j = 21 + i := ⟨j - 21, by omega⟩
  have e : (Sk l l1 c n)[21 + i]? = (List.replicate c (.dk [] : Nd))[i]? := by
    rw [Nat.add_comm 21 i]
    rfl
  rw [e, List.getElem?_replicate, if_pos (by omega)]
theorem Sc_at {l l1 : Int} {c j : Nat} {n : Nd} (h1 : 21 ≤ j) (h2 : j < 21 + c) : (Sc l l1 c n)[j]? = some (.dk []) := by
  obtain ⟨i, rfl⟩ : ∃ i, j = 21 + i := ⟨j - 21, by omega⟩
  have e : (Sc l l1 c n)[21 + i]? = (List.replicate c (.dk [] : Nd) ++ Cp l l1 c)[i]? := by
    rw [Nat.add_comm 21 i]
    rfl
  rw [e, List.getElem?_append_left (by simp; omega), List.getElem?_replicate, if_pos (by omega)]
theorem Sc_self {l l1 : Int} {c : Nat} {n : Nd} : (Sc l l1 c n)[21 + c]? = some (.ins 0 [("newest", .int l1), ("opened", .int 4), ("snapshots", .ref (25 + c)), ("dealings", .ref (26 + c)), ("ways", .ref (27 + c))]) := by
  have e : (Sc l l1 c n)[21 + c]? = (List.replicate c (.dk [] : Nd) ++ Cp l l1 c)[c]? := by
    rw [Nat.add_comm 21 c]
    rfl
  rw [e, List.getElem?_append_right (by simp)]
  simp [Cp]
theorem Sc_take {l l1 : Int} {c : Nat} {n : Nd} : (Sc l l1 c n).take (21 + c) = Sk l l1 c n := by
  have e : Sc l l1 c n = Sk l l1 c n ++ Cp l l1 c := by
    simp [Sc, Sk]
  rw [e, ← Sk_len (l := l) (l1 := l1) (c := c) (n := n), List.take_left]
/-- a value picked of a list where one place is drawn -/
theorem pick_of {n : Nd} {R : Sto} {right : W} {R0 : List W} {xs : W → List W} {mL : M W} {env : Ev} (hn : Hn n) (hR : R.all (blN (R.length + 2)) = true) (he : env[1]? = some (some (.ref 1)))
    (hL : ∃ n1, Hn n1 ∧ ((∃ v, mL env (tb0 :: n :: R) = .ok (.lst (xs v)) (tb0 :: n1 :: R) ∧ Val [right] v ∧ Flat v) ∨ mL env (tb0 :: n :: R) = .ok (.lst (xs (.ref (R.length + 2)))) (tb0 :: n1 :: (R ++ [.dk []]))))
    (hr : right ∈ R0) (hx : ∀ v, (xs v).length = 8) (hm : ∀ v u, u ∈ xs v → u = v ∨ (u ∈ R0 ∧ Flat u)) :
    ∃ n', Hn n' ∧ ((∃ u, mGcS (mOp wIx mL (mCall r_law_draw (mCons (mVar 1) (mCons (mC (.int 8)) (mNil))))) env (tb0 :: n :: R) = .ok u (tb0 :: n' :: R) ∧ Val R0 u ∧ Flat u) ∨
      mGcS (mOp wIx mL (mCall r_law_draw (mCons (mVar 1) (mCons (mC (.int 8)) (mNil))))) env (tb0 :: n :: R) = .ok (.ref (R.length + 2)) (tb0 :: n' :: (R ++ [.dk []]))) := by
  have up : ∀ v, Val [right] v → Val R0 v := fun v h => by
    rcases h with h | h
    · rw [List.mem_singleton] at h
      subst h
      exact .inl hr
    · exact .inr h
  have go : ∀ {T : Sto} {n1 : Nd} {v : W}, Hn n1 → mL env (tb0 :: n :: R) = .ok (.lst (xs v)) (tb0 :: n1 :: T) → ∃ u n', Hn n' ∧ u ∈ xs v ∧ mOp wIx mL (mCall r_law_draw (mCons (mVar 1) (mCons (mC (.int 8)) (mNil)))) env (tb0 :: n :: R) = .ok u (tb0 :: n' :: T) := fun {T n1 v} h1 e => by
    obtain ⟨x, n2, e2, a2, b2, h2⟩ := draw_eq h1 (R := T) (m := 8) (by decide) (by decide)
    obtain ⟨u, eu, hu⟩ := ix_list (xs := xs v) (st := tb0 :: n2 :: T) a2 (by rw [hx]; exact b2)
    refine ⟨u, n2, h2, hu, ?_⟩
    simp only [mOp, e, Rs.bind, mCall, mCons, mVar, he, mC, mNil, e2, eu]
  obtain ⟨n1, h1, ⟨v, e, hv, hf⟩ | e⟩ := hL
  · obtain ⟨u, n', h', hu, eu⟩ := go h1 e
    have hu' : Val R0 u ∧ Flat u := by
      rcases hm v u hu with rfl | ⟨a, b⟩
      · exact ⟨up _ hv, hf⟩
      · exact ⟨.inl a, b⟩
    exact ⟨n', h', .inl ⟨u, gcs_cut eu hu'.2 (by simp) (all_of h' hR), hu'⟩⟩
  · obtain ⟨u, n', h', hu, eu⟩ := go h1 e
    rcases hm _ u hu with rfl | ⟨a, b⟩
    · exact ⟨n', h', .inr (gcs_keep eu (by simp [blW]))⟩
    · exact ⟨n', h', .inl ⟨u, gcs_cut eu b cut_take (all_of h' hR), .inl a, b⟩⟩
/-- an assignment of a found value -/
theorem asg_nx {m : M W} {env : Ev} {st s : Sto} {v : W} {i : Nat} (h : m env st = .ok v s) : sAsg m (gName' i) env st = .nx (env.set i (some v)) s := by
  unfold sAsg
  rw [h]
  rfl
/-- a word as it is due -/
theorem if_word {m : M W} {k : MS} {env : Ev} {st : Sto} {d : Str} {i : Nat} (h : m env st = .ok (.str d) st) (hi : env[i]? = some (some (.str d))) : sIf (mB (mOp wNe m (mVar i))) k sNx env st = .nx env st := by
  simp only [sIf, mB, mOp, h, Rs.bind, mVar, hi, ne_str, decide_true, Bool.not_true, toB, Rs.to, Bool.false_eq_true, if_false, sNx]
abbrev EL (sc sh : W) (tn : Option W) (l : Int) : Ev := [some sc, some (.ref 1), none, none, some (.int l), some (.ref 2), some sh, tn, none, none, none, none, none, none, none]
theorem ga_run {l l1 : Int} (G : Good l l1) {n : Nd} (hn : Hn n) (sc sh : W) (tn : Option W) (hb : evBl 21 (EL sc sh tn l) = true) : ∃ n', Hn n' ∧ sGc [8, 3] GA (EL sc sh tn l) (Sk l l1 0 n) = .nx (EL sc sh tn l) (Sk l l1 0 n') := by
  have hR : (Rl l l1).all (blN ((Rl l l1).length + 2)) = true := by
    show (Rl l l1 ++ List.replicate 0 (.dk [] : Nd)).all (blN 21) = true
    exact Rl_bl (by omega)
  have hL : ∃ n1, Hn n1 ∧ ((∃ v, (mLst true (mCons (mVar 4) (mCons (mOp (wAdd true) (mVar 4) (mC (.int 1))) (mCons (mOp (wSub) (mVar 4) (mC (.int 1))) (mCons (mOp (wAdd true) (mVar 4) (mC (.int 2))) (mCons (mGcS (mCall r_law_odd (mCons (mVar 1) (mCons (mVar 4) (mNil))))) (mCons (mC (.bl true)) (mCons (mC .non) (mCons (mC (.str "0")) (mNil)))))))))) (EL sc sh tn l) (tb0 :: n :: Rl l l1) = .ok (.lst [.int l, .int (l + 1), .int (l - 1), .int (l + 2), v, .bl true, .non, .str "0"]) (tb0 :: n1 :: Rl l l1) ∧ Val [.int l] v ∧ Flat v) ∨
      (mLst true (mCons (mVar 4) (mCons (mOp (wAdd true) (mVar 4) (mC (.int 1))) (mCons (mOp (wSub) (mVar 4) (mC (.int 1))) (mCons (mOp (wAdd true) (mVar 4) (mC (.int 2))) (mCons (mGcS (mCall r_law_odd (mCons (mVar 1) (mCons (mVar 4) (mNil))))) (mCons (mC (.bl true)) (mCons (mC .non) (mCons (mC (.str "0")) (mNil)))))))))) (EL sc sh tn l) (tb0 :: n :: Rl l l1) = .ok (.lst [.int l, .int (l + 1), .int (l - 1), .int (l + 2), .ref ((Rl l l1).length + 2), .bl true, .non, .str "0"]) (tb0 :: n1 :: (Rl l l1 ++ [.dk []]))) := by
    obtain ⟨n1, h1, ⟨v, e, hv, hf⟩ | e⟩ := gcs_odd (R := Rl l l1) (right := .int l) (m := mCons (mVar 1) (mCons (mVar 4) (mNil))) (env := EL sc sh tn l) hn hR (fun k => rfl) (fun n => rfl)
    · refine ⟨n1, h1, .inl ⟨v, ?_, hv, hf⟩⟩
      simp only [mLst, mCons, mOp, mVar, mC, mNil, Rs.bind, List.getElem?_cons_succ, List.getElem?_cons_zero, e, wAdd, wSub]
      rfl
    · refine ⟨n1, h1, .inr ?_⟩
      simp only [mLst, mCons, mOp, mVar, mC, mNil, Rs.bind, List.getElem?_cons_succ, List.getElem?_cons_zero, e, wAdd, wSub]
      rfl
  obtain ⟨n', h', hp⟩ := pick_of (R0 := RA l l1) (right := .int l) (xs := fun v => [.int l, .int (l + 1), .int (l - 1), .int (l + 2), v, .bl true, .non, .str "0"]) hn hR rfl hL (by simp) (fun v => rfl) (fun v u hu => by
    rw [G.e1] at hu
    simp only [List.mem_cons, List.not_mem_nil, or_false] at hu
    rcases hu with rfl | rfl | rfl | rfl | rfl | rfl | rfl | rfl
    · exact .inr ⟨by simp, fun k => rfl⟩
    · exact .inr ⟨by simp, fun k => rfl⟩
    · exact .inr ⟨by simp, fun k => rfl⟩
    · exact .inr ⟨by simp, fun k => rfl⟩
    · exact .inl rfl
    · exact .inr ⟨by simp, fun k => rfl⟩
    · exact .inr ⟨by simp, fun k => rfl⟩
    · exact .inr ⟨by simp, fun k => rfl⟩)
  refine ⟨n', h', ?_⟩
  have fin : ∀ (u : W) (c : Nat) (_ : a_pick (EL sc sh tn l) (Sk l l1 0 n) = .ok u (Sk l l1 c n')) (_ : fA l (Sk l l1 c n') (some sc) none none none (some sh) tn none none none none none none u = (true, Sk l l1 c n', Sk l l1 c n')) (_ : ∀ b3, fA l (Sk l l1 c n') (some sc) none none b3 (some sh) tn none none none none none none u = (true, Sk l l1 c n', Sk l l1 c n')), c ≤ 1 →
      sGc [8, 3] GA (EL sc sh tn l) (Sk l l1 0 n) = .nx (EL sc sh tn l) (Sk l l1 0 n') := fun u c ep _ hf hc => by
    obtain ⟨d, e1, e2⟩ := twice_of (hf none)
    obtain ⟨d', e1', e2'⟩ := twice_of (hf (some (.str d)))
    have ed : d' = d := by
      have := e1'.symm.trans e1
      injection this with h1 _
      injection h1
    subst ed
    have g := gc_lam e2' (Sk_bl h')
    have run : GA (EL sc sh tn l) (Sk l l1 0 n) = .nx [some sc, some (.ref 1), none, some (.str d'), some (.int l), some (.ref 2), some sh, tn, some u, none, none, none, none, none, none] (Sk l l1 c n') := by
      unfold GA
      exact Eq.trans (seq_nx (asg_nx ep)) (Eq.trans (seq_nx (asg_nx e1)) (if_word g rfl))
    have tk : (Sk l l1 c n').take (Sk l l1 0 n).length = Sk l l1 0 n' := by
      rcases Nat.le_one_iff_eq_zero_or_eq_one.mp hc with rfl | rfl
      · rw [Sk_len]
        exact List.take_of_length_le (Nat.le_of_eq Sk_len)
      · rfl
    have := sGc_ok (is := [8, 3]) run (by
      rw [tk, Sk_len, Bool.and_eq_true]
      exact ⟨hb, all_of h' (Rl_bl (by omega))⟩)
    rw [this, tk]
    rfl
  rcases hp with ⟨u, e, hv, _⟩ | e
  · exact fin u 0 e (G.a _ _ _ _ _ _ _ _ _ _ _ _ _ u hv) (fun b3 => G.a _ _ _ _ _ _ _ _ _ _ _ _ _ u hv) (by omega)
  · exact fin (.ref 21) 1 e (G.ad _ _ _ _ _ _ _ _ _ _ _ _ _) (fun b3 => G.ad _ _ _ _ _ _ _ _ _ _ _ _ _) (by omega)
end Lw
namespace Lw
open PySem L2 Mi
abbrev E0 (sc : W) : Ev := [some sc, some (.ref 1), none, none, none, none, none, none, none, none, none, none, none, none, none]
theorem g0_run {n : Nd} (hn : Hn n) (sc : W) (hb : evBl 2 (E0 sc) = true) : ∃ n', Hn n' ∧ sGc [2, 3] G0 (E0 sc) [tb0, n] = .nx (E0 sc) [tb0, n'] := by
  obtain ⟨n', h', hp⟩ := gcs_odd (R := []) (right := .int 0) (m := mCons (mVar 1) (mCons (mC (.int 0)) (mNil))) (env := E0 sc) hn rfl (fun k => rfl) (fun n => rfl)
  refine ⟨n', h', ?_⟩
  have fin : ∀ (u : W) (S : Sto) (_ : z_odd (E0 sc) [tb0, n] = .ok u S) (_ : S.all (blN S.length) = true) (_ : S.take 2 = [tb0, n']) (_ : ∀ b3, fZ S (some sc) none b3 none none none none none none none none none none none u = (true, S, S)),
      sGc [2, 3] G0 (E0 sc) [tb0, n] = .nx (E0 sc) [tb0, n'] := fun u S ep hbl htk hf => by
    obtain ⟨d, e1, e2⟩ := twice_of (hf none)
    obtain ⟨d', e1', e2'⟩ := twice_of (hf (some (.str d)))
    have ed : d' = d := by
      have := e1'.symm.trans e1
      injection this with h1 _
      injection h1
    subst ed
    have g := gc_lam e2' hbl
    have run : G0 (E0 sc) [tb0, n] = .nx [some sc, some (.ref 1), some u, some (.str d'), none, none, none, none, none, none, none, none, none, none, none] S := by
      unfold G0
      exact Eq.trans (seq_nx (asg_nx ep)) (Eq.trans (seq_nx (asg_nx e1)) (if_word g rfl))
    have tk : S.take [tb0, n].length = [tb0, n'] := htk
    have := sGc_ok (is := [2, 3]) run (by
      rw [tk, Bool.and_eq_true]
      exact ⟨hb, all_of h' rfl⟩)
    rw [this, tk]
    rfl
  rcases hp with ⟨u, e, hv, _⟩ | e
  · exact fin u [tb0, n'] e (all_of h' rfl) rfl (fun b3 => val_by (fun x => zz n' _ _ _ _ _ _ _ _ _ _ _ _ _ _ x) hv)
  · exact fin (.ref 2) [tb0, n', .dk []] e (all_of h' rfl) rfl (fun b3 => zd n' _ _ _ _ _ _ _ _ _ _ _ _ _ _)
/-! the long group -/
def XV (right v : W) (c c' : Nat) : Prop := (Val [right] v ∧ c' = c) ∨ (v = .ref (21 + c) ∧ c' = c + 1)
theorem XV.le {right v : W} {c c' : Nat} (h : XV right v c c') : c ≤ c' ∧ c' ≤ c + 1 := by
  rcases h with ⟨_, rfl⟩ | ⟨_, rfl⟩ <;> omega
theorem one_odd {l l1 : Int} {c : Nat} {n : Nd} {right : W} {m : M (List W)} {env : Ev} (hn : Hn n) (hf : Flat right) (ha : ∀ s : Sto, m env s = .ok [.ref 1, right] s) :
    ∃ v c' n', Hn n' ∧ mGcS (mCall r_law_odd m) env (Sk l l1 c n) = .ok v (Sk l l1 c' n') ∧ XV right v c c' := by
  obtain ⟨n', h', ⟨v, e, hv, _⟩ | e⟩ := gcs_odd (R := Rl l l1 ++ List.replicate c (.dk [])) (right := right) (m := m) (env := env) hn (Rl_bl (by rw [Rl_len]; omega)) hf (fun n => ha _)
  · exact ⟨v, c, n', h', e, .inl ⟨hv, rfl⟩⟩
  · rw [Sk_dk, Rl_len] at e
    exact ⟨_, c + 1, n', h', e, .inr ⟨rfl, rfl⟩⟩
/-- what the checks say of a found value -/
theorem px_keys {l l1 : Int} {v : W} {c c' cF : Nat} {n : Nd} (h : XV (.tup [.str "c"]) v c c') (hc : c' ≤ cF) : ∃ b, r_law_are_keys [v] (Sk l l1 cF n) = .ok (.bl b) (Sk l l1 cF n) ∧ r_is_keys [v] (Sk l l1 cF n) = .ok (.bl b) (Sk l l1 cF n) ∧ r_is_keys [v] (Sc l l1 cF n) = .ok (.bl b) (Sc l l1 cF n) ∧ (b = true → v ∈ ok_keys ∧ c' = c) := by
  rcases h with ⟨h, rfl⟩ | ⟨rfl, rfl⟩
  · obtain ⟨b, p, q⟩ := all_keys v h
    exact ⟨b, p.1 _, p.2 _, p.2 _, fun z => ⟨q z, rfl⟩⟩
  · have d1 := dict_keys (Sk_at (l := l) (l1 := l1) (c := cF) (n := n) (j := 21 + c) (by omega) (by omega))
    have d2 := dict_keys (Sc_at (l := l) (l1 := l1) (c := cF) (n := n) (j := 21 + c) (by omega) (by omega))
    exact ⟨false, d1.1, d1.2, d2.2, fun z => by cases z⟩
theorem px_ranges {l l1 : Int} {v : W} {c c' cF : Nat} {n : Nd} (h : XV (.tup []) v c c') (hc : c' ≤ cF) : ∃ b, r_law_are_ranges [v] (Sk l l1 cF n) = .ok (.bl b) (Sk l l1 cF n) ∧ r_is_ranges [v] (Sk l l1 cF n) = .ok (.bl b) (Sk l l1 cF n) ∧ r_is_ranges [v] (Sc l l1 cF n) = .ok (.bl b) (Sc l l1 cF n) ∧ (b = true → v ∈ ok_ranges ∧ c' = c) := by
  rcases h with ⟨h, rfl⟩ | ⟨rfl, rfl⟩
  · obtain ⟨b, p, q⟩ := all_ranges v h
    exact ⟨b, p.1 _, p.2 _, p.2 _, fun z => ⟨q z, rfl⟩⟩
  · have d1 := dict_ranges (Sk_at (l := l) (l1 := l1) (c := cF) (n := n) (j := 21 + c) (by omega) (by omega))
    have d2 := dict_ranges (Sc_at (l := l) (l1 := l1) (c := cF) (n := n) (j := 21 + c) (by omega) (by omega))
    exact ⟨false, d1.1, d1.2, d2.2, fun z => by cases z⟩
theorem px_writes {l l1 : Int} {v : W} {c c' cF : Nat} {n : Nd} (h : XV (.tup [.tup [.str "d", .int 1]]) v c c') (hc : c' ≤ cF) : ∃ b, r_law_are_writes [v] (Sk l l1 cF n) = .ok (.bl b) (Sk l l1 cF n) ∧ r_is_writes [v] (Sk l l1 cF n) = .ok (.bl b) (Sk l l1 cF n) ∧ r_is_writes [v] (Sc l l1 cF n) = .ok (.bl b) (Sc l l1 cF n) ∧ (b = true → v ∈ ok_writes ∧ c' = c) := by
  rcases h with ⟨h, rfl⟩ | ⟨rfl, rfl⟩
  · obtain ⟨b, p, q⟩ := all_writes v h
    exact ⟨b, p.1 _, p.2 _, p.2 _, fun z => ⟨q z, rfl⟩⟩
  · have d1 := dict_writes (Sk_at (l := l) (l1 := l1) (c := cF) (n := n) (j := 21 + c) (by omega) (by omega))
    have d2 := dict_writes (Sc_at (l := l) (l1 := l1) (c := cF) (n := n) (j := 21 + c) (by omega) (by omega))
    exact ⟨false, d1.1, d1.2, d2.2, fun z => by cases z⟩
theorem ioF_at {v : W} (h : ioF v = true) : v = .int 0 ∨ v = .int 3 := by
  unfold ioF at h
  split at h
  · exact .inl rfl
  · exact .inr rfl
  · cases h
section
variable {l l1 : Int} {c : Nat} {n : Nd} {e k r w : W}
theorem Sk_self : (Sk l l1 c n)[2]? = some (.ins 0 [("newest", .int l1), ("opened", .int 4), ("snapshots", .ref 3), ("dealings", .ref 19), ("ways", .ref 20)]) := rfl
theorem meth_go {mo : M W} {ma : M (List W)} {env : Ev} {st s1 s2 : Sto} {i c : Nat} {fs : List (Str × W)} {tb : List (Nat × RunM)} {m : Str} {run : RunM} {ws : List W} (h1 : mo env st = .ok (.ref i) s1) (h2 : s1[i]? = some (.ins c fs)) (h3 : fs.lookup m = none) (h4 : tb.lookup c = some run) (h5 : ma env s1 = .ok ws s2) : mMeth tb m mo ma env st = run (.ref i :: ws) s2 := by
  simp only [mMeth, h1, Rs.bind, h2, h3, h4, h5]
theorem l_com_eq {a0 a2 a3 a4 a6 a7 a8 a10 a14 : Option W} (cp : r_Check_copy [.ref 2] (Sk l l1 c n) = .ok (.ref (21 + c)) (Sc l l1 c n)) : l_com (env13 a0 a2 a3 a4 a6 a7 a8 a10 a14 e k r w) (Sk l l1 c n) = wordR (r_Check_commits [.ref (21 + c), e, k, r, w] (Sc l l1 c n)) := by
  have h : mMeth [(0, r_Check_copy)] "copy" (mVar 5) mNil (env13 a0 a2 a3 a4 a6 a7 a8 a10 a14 e k r w) (Sk l l1 c n) = .ok (.ref (21 + c)) (Sc l l1 c n) :=
    (meth_go (run := r_Check_copy) (s1 := Sk l l1 c n) rfl Sk_self (by kernel_rfl) rfl rfl).trans cp
  exact congrArg wordR (meth_go (run := r_Check_commits) h Sc_self (by kernel_rfl) rfl (args4 rfl rfl rfl rfl))
theorem l_wc_eq {a0 a2 a3 a4 a6 a7 a8 a10 a14 : Option W} : l_wc (env13 a0 a2 a3 a4 a6 a7 a8 a10 a14 e k r w) (Sk l l1 c n) = wordR (r_Check_would_commit [.ref 2, e, k, r, w] (Sk l l1 c n)) :=
  congrArg wordR (meth_go (run := r_Check_would_commit) (s1 := Sk l l1 c n) rfl Sk_self (by kernel_rfl) rfl (args4 rfl rfl rfl rfl))
theorem refuse {x : Nat} {t : Str} (hx : ∀ s, wordX x s = .ok (.str t) s) (cp : r_Check_copy [.ref 2] (Sk l l1 c n) = .ok (.ref (21 + c)) (Sc l l1 c n))
    (h1 : r_Check_judged [.ref (21 + c), e, k, r, w] (Sc l l1 c n) = .ex (.plain x) (Sc l l1 c n)) (h2 : r_Check_judged [.ref 2, e, k, r, w] (Sk l l1 c n) = .ex (.plain x) (Sk l l1 c n)) {a0 a2 a3 b3 a4 a6 a7 a8 a10 a14 b14 : Option W} :
    chkL (Sk l l1 c n).length (l_com (env13 a0 a2 a3 a4 a6 a7 a8 a10 a14 e k r w) (Sk l l1 c n)) = some (t, Sk l l1 c n) ∧ chkL (Sk l l1 c n).length (l_wc (env13 a0 a2 b3 a4 a6 a7 a8 a10 b14 e k r w) (Sk l l1 c n)) = some (t, Sk l l1 c n) := by
  rw [l_com_eq cp, l_wc_eq, com_ex Sc_self (by kernel_rfl) h1, wc_ex Sk_self (by kernel_rfl) h2]
  simp only [wordR, hx, chkL, Sk_len, Sc_take]
  rw [← Sk_len (l := l) (l1 := l1) (c := c) (n := n), List.take_length]
  constructor <;> first | rfl | trivial
end
end Lw
namespace Lw
open PySem L2 Mi
/-- the word that is due -/
def dueF (io bk br bw : Bool) : Str := if io then (if bk && br then (if bw then "let" else "writes") else "seen") else "open"
theorem told {l l1 : Int} (G : Good l l1) {c0 c c1 c2 : Nat} {n : Nd} {e k r w : W} (he : (Val RB e ∧ c0 = 0) ∨ (e = .ref 21 ∧ c0 = 1)) (hk : XV (.tup [.str "c"]) k c0 c1) (hr : XV (.tup []) r c1 c2) (hw : XV (.tup [.tup [.str "d", .int 1]]) w c2 c) :
    ∃ bk br bw, r_law_are_keys [k] (Sk l l1 c n) = .ok (.bl bk) (Sk l l1 c n) ∧ r_law_are_ranges [r] (Sk l l1 c n) = .ok (.bl br) (Sk l l1 c n) ∧ r_law_are_writes [w] (Sk l l1 c n) = .ok (.bl bw) (Sk l l1 c n) ∧
      ∀ (a0 a2 a3 b3 a4 a6 a7 a8 a10 a14 b14 : Option W), ∃ t : Str, chkL (Sk l l1 c n).length (l_com (env13 a0 a2 a3 a4 a6 a7 a8 a10 a14 e k r w) (Sk l l1 c n)) = some (t, Sk l l1 c n) ∧ chkL (Sk l l1 c n).length (l_wc (env13 a0 a2 b3 a4 a6 a7 a8 a10 b14 e k r w) (Sk l l1 c n)) = some (t, Sk l l1 c n) ∧
        (t = dueF (ioF e) bk br bw ∨ (t = "other" ∧ dueF (ioF e) bk br bw = "let")) := by
  have l1' := hk.le; have l2' := hr.le; have l3' := hw.le
  obtain ⟨bk, k1, k2, k3, k4⟩ := px_keys (l := l) (l1 := l1) (n := n) hk (cF := c) (by omega)
  obtain ⟨br, r1, r2, r3, r4⟩ := px_ranges (l := l) (l1 := l1) (n := n) hr (cF := c) (by omega)
  obtain ⟨bw, w1, w2, w3, w4⟩ := px_writes (l := l) (l1 := l1) (n := n) hw (cF := c) (by omega)
  refine ⟨bk, br, bw, k1, r1, w1, fun a0 a2 a3 b3 a4 a6 a7 a8 a10 a14 b14 => ?_⟩
  have hc4 : c ≤ 4 := by rcases he with ⟨_, rfl⟩ | ⟨_, rfl⟩ <;> omega
  have B := G.b c n none none none none none none none none none none none none none none none none none none none e (by
    rcases he with ⟨h, rfl⟩ | ⟨h, rfl⟩
    · exact .inl ⟨h, by omega⟩
    · exact .inr ⟨h, by omega, by omega⟩)
  have d1 : r_Check_demand_open [.ref 2, e] (Sk l l1 c n) = dR e (Sk l l1 c n) := congrArg BR.d1 B
  have d2 : r_Check_demand_open [.ref (21 + c), e] (Sc l l1 c n) = dR e (Sc l l1 c n) := congrArg BR.d2 B
  have cp := G.cp c n hc4
  unfold dR at d1 d2
  cases hio : ioF e with
  | false =>
    rw [hio, if_neg Bool.false_ne_true] at d1 d2
    obtain ⟨q1, q2⟩ := refuse (x := 5) (t := "open") (fun s => rfl) cp (jud_open (k := k) (r := r) (w := w) Sc_self (by kernel_rfl) d2) (jud_open (k := k) (r := r) (w := w) Sk_self (by kernel_rfl) d1) (a0 := a0) (a2 := a2) (a3 := a3) (b3 := b3) (a4 := a4) (a6 := a6) (a7 := a7) (a8 := a8) (a10 := a10) (a14 := a14) (b14 := b14)
    exact ⟨_, q1, q2, .inl rfl⟩
  | true =>
    rw [hio, if_pos rfl] at d1 d2
    cases hkr : (bk && br) with
    | false =>
      obtain ⟨q1, q2⟩ := refuse (x := 6) (t := "seen") (fun s => rfl) cp (jud_seen (w := w) Sc_self (by kernel_rfl) d2 k3 r3 hkr) (jud_seen (w := w) Sk_self (by kernel_rfl) d1 k2 r2 hkr) (a0 := a0) (a2 := a2) (a3 := a3) (b3 := b3) (a4 := a4) (a6 := a6) (a7 := a7) (a8 := a8) (a10 := a10) (a14 := a14) (b14 := b14)
      exact ⟨_, q1, q2, .inl (by unfold dueF; rw [hkr]; rfl)⟩
    | true =>
      obtain ⟨rfl, rfl⟩ := Bool.and_eq_true_iff.mp hkr
      cases hbw : bw with
      | false =>
        subst hbw
        obtain ⟨q1, q2⟩ := refuse (x := 7) (t := "writes") (fun s => rfl) cp (jud_writes Sc_self (by kernel_rfl) d2 k3 r3 w3) (jud_writes Sk_self (by kernel_rfl) d1 k2 r2 w2) (a0 := a0) (a2 := a2) (a3 := a3) (b3 := b3) (a4 := a4) (a6 := a6) (a7 := a7) (a8 := a8) (a10 := a10) (a14 := a14) (b14 := b14)
        exact ⟨_, q1, q2, .inl rfl⟩
      | true =>
        subst hbw
        obtain ⟨mk, e1⟩ := k4 rfl
        obtain ⟨mr, e2⟩ := r4 rfl
        obtain ⟨mw, e3⟩ := w4 rfl
        have e0 : c0 = 0 := by
          rcases he with ⟨_, h⟩ | ⟨h, _⟩
          · exact h
          · rw [h] at hio
            cases hio
        have : c = 0 := by omega
        subst this
        obtain ⟨t, q1, q2, q3⟩ := twiceC_of (G.vc n a0 a2 a3 b3 a4 a6 a7 a8 a10 a14 b14 e k r w (ioF_at hio) mk mr mw)
        exact ⟨t, q1, q2, q3.imp id fun z => ⟨z, rfl⟩⟩
theorem mif_word {m : M Bool} {x y : M W} {env : Ev} {st : Sto} {b : Bool} {s t : Str} (h : m env st = .ok b st) (hx : x env st = .ok (.str s) st) (hy : y env st = .ok (.str t) st) : mIf m x y env st = .ok (.str (if b then s else t)) st := by
  unfold mIf
  rw [h]
  cases b
  · exact hy
  · exact hx
theorem mtr_call {r : RunM} {v : W} {env : Ev} {st : Sto} {b : Bool} {i : Nat} (hi : env[i]? = some (some v)) (h : r [v] st = .ok (.bl b) st) : mTr (mCall r (mCons (mVar i) (mNil))) env st = .ok b st := by
  simp only [mTr, mCall, mCons, mVar, hi, mNil, Rs.bind, h, trW]
theorem mtr_var {b : Bool} {env : Ev} {st : Sto} {i : Nat} (hi : env[i]? = some (some (.bl b))) : mTr (mVar i) env st = .ok b st := by
  simp only [mTr, mVar, hi, Rs.bind, trW]
theorem mand_ok {m k : M Bool} {env : Ev} {st : Sto} {a b : Bool} (h : m env st = .ok a st) (h' : k env st = .ok b st) : mAnd m k env st = .ok (a && b) st := by
  unfold mAnd
  rw [h]
  cases a
  · rfl
  · exact h'
/-- told against due -/
theorem cond_ok {env : Ev} {st : Sto} {t d : Str} {k : MS} (ht : env[14]? = some (some (.str t))) (hd : env[3]? = some (some (.str d))) (h : t = d ∨ (t = "other" ∧ d = "let")) :
    sIf (mAnd (mB (mOp (wNe) (mVar 14) (mVar 3))) (mOr (mB (mOp (wNe) (mVar 14) (mC (.str "other")))) (mB (mOp (wNe) (mVar 3) (mC (.str "let")))))) k (sNx) env st = .nx env st := by
  rcases h with rfl | ⟨rfl, rfl⟩
  · simp only [sIf, mAnd, mOr, mB, mOp, mVar, ht, hd, Rs.bind, ne_str, decide_true, Bool.not_true, toB, Rs.to, Bool.false_eq_true, if_false, sNx]
  · simp only [sIf, mAnd, mOr, mB, mOp, mVar, mC, ht, hd, Rs.bind, ne_str, decide_true, Bool.not_true, toB, Rs.to]
    rfl
theorem if_words {m x : M W} {k : MS} {env : Ev} {st : Sto} {d : Str} (h : m env st = .ok (.str d) st) (hi : x env st = .ok (.str d) st) : sIf (mB (mOp wNe m x)) k sNx env st = .nx env st := by
  simp only [sIf, mB, mOp, h, Rs.bind, hi, ne_str, decide_true, Bool.not_true, toB, Rs.to, Bool.false_eq_true, if_false, sNx]
end Lw
namespace Lw
open PySem L2 Mi
theorem gb_run {l l1 : Int} (G : Good l l1) {n : Nd} (hn : Hn n) (sc sh : W) (tn : Option W) (hb : evBl 21 (EL sc sh tn l) = true) : ∃ n', Hn n' ∧ sGc [9, 10, 11, 12, 13, 3, 14] GB (EL sc sh tn l) (Sk l l1 0 n) = .nx (EL sc sh tn l) (Sk l l1 0 n') := by
  have hR : (Rl l l1).all (blN ((Rl l l1).length + 2)) = true := by
    show (Rl l l1 ++ List.replicate 0 (.dk [] : Nd)).all (blN 21) = true
    exact Rl_bl (by omega)
  have hL : ∃ n1, Hn n1 ∧ ((∃ v, (mLst true (mCons (mC (.int 0)) (mCons (mC (.int 3)) (mCons (mC (.int 1)) (mCons (mC (.int 2)) (mCons (mC (.int 4)) (mCons (mC (.bl true)) (mCons (mC (.bl false)) (mCons (mGcS (mCall r_law_odd (mCons (mVar 1) (mCons (mC (.int 0)) (mNil))))) (mNil)))))))))) (EL sc sh tn l) (tb0 :: n :: Rl l l1) = .ok (.lst [.int 0, .int 3, .int 1, .int 2, .int 4, .bl true, .bl false, v]) (tb0 :: n1 :: Rl l l1) ∧ Val [.int 0] v ∧ Flat v) ∨
      (mLst true (mCons (mC (.int 0)) (mCons (mC (.int 3)) (mCons (mC (.int 1)) (mCons (mC (.int 2)) (mCons (mC (.int 4)) (mCons (mC (.bl true)) (mCons (mC (.bl false)) (mCons (mGcS (mCall r_law_odd (mCons (mVar 1) (mCons (mC (.int 0)) (mNil))))) (mNil)))))))))) (EL sc sh tn l) (tb0 :: n :: Rl l l1) = .ok (.lst [.int 0, .int 3, .int 1, .int 2, .int 4, .bl true, .bl false, .ref ((Rl l l1).length + 2)]) (tb0 :: n1 :: (Rl l l1 ++ [.dk []]))) := by
    obtain ⟨n1, h1, ⟨v, e, hv, hf⟩ | e⟩ := gcs_odd (R := Rl l l1) (right := .int 0) (m := mCons (mVar 1) (mCons (mC (.int 0)) (mNil))) (env := EL sc sh tn l) hn hR (fun k => rfl) (fun n => rfl)
    · refine ⟨n1, h1, .inl ⟨v, ?_, hv, hf⟩⟩
      simp only [mLst, mCons, mC, mNil, Rs.bind, e]
      rfl
    · refine ⟨n1, h1, .inr ?_⟩
      simp only [mLst, mCons, mC, mNil, Rs.bind, e]
      rfl
  obtain ⟨n1, h1, hp⟩ := pick_of (R0 := RB) (right := .int 0) (xs := fun v => [.int 0, .int 3, .int 1, .int 2, .int 4, .bl true, .bl false, v]) hn hR rfl hL (by simp) (fun v => rfl) (fun v u hu => by
    simp only [List.mem_cons, List.not_mem_nil, or_false] at hu
    rcases hu with rfl | rfl | rfl | rfl | rfl | rfl | rfl | rfl
    · exact .inr ⟨by simp, fun k => rfl⟩
    · exact .inr ⟨by simp, fun k => rfl⟩
    · exact .inr ⟨by simp, fun k => rfl⟩
    · exact .inr ⟨by simp, fun k => rfl⟩
    · exact .inr ⟨by simp, fun k => rfl⟩
    · exact .inr ⟨by simp, fun k => rfl⟩
    · exact .inr ⟨by simp, fun k => rfl⟩
    · exact .inl rfl)
  have he : ∃ e c0, b_pick (EL sc sh tn l) (Sk l l1 0 n) = .ok e (Sk l l1 c0 n1) ∧ ((Val RB e ∧ c0 = 0) ∨ (e = .ref 21 ∧ c0 = 1)) := by
    rcases hp with ⟨u, e, hv, _⟩ | e
    · exact ⟨u, 0, e, .inl ⟨hv, rfl⟩⟩
    · exact ⟨.ref 21, 1, e, .inr ⟨rfl, rfl⟩⟩
  obtain ⟨e, c0, ep, he⟩ := he
  have hop : ∀ x10 x11 x12 x13 x14 : Option W, b_open (env9 (some sc) none none (some (.int l)) (some sh) tn none x10 x11 x12 x13 x14 e) (Sk l l1 c0 n1) = .ok (.bl (ioF e)) (Sk l l1 c0 n1) := fun x10 x11 x12 x13 x14 => congrArg BR.op (G.b c0 n1 (some sc) none none none none (some (.int l)) (some sh) tn none x10 none x11 none x12 none x13 none x14 none e (by
    rcases he with ⟨h, rfl⟩ | ⟨h, rfl⟩
    · exact .inl ⟨h, by omega⟩
    · exact .inr ⟨h, by omega, by omega⟩))
  let E2 : Ev := env9 (some sc) none none (some (.int l)) (some sh) tn none (some (.bl (ioF e))) none none none none e
  obtain ⟨k, c1, n2, h2, ek, hk⟩ := one_odd (l := l) (l1 := l1) (c := c0) (right := .tup [.str "c"]) (m := mCons (mVar 1) (mCons (mTup (mCons (mC (.str "c")) (mNil))) (mNil))) (env := E2) h1 (fun k => rfl) (fun s => rfl)
  obtain ⟨r, c2, n3, h3, er, hr⟩ := one_odd (l := l) (l1 := l1) (c := c1) (right := .tup []) (m := mCons (mVar 1) (mCons (mTup (mNil)) (mNil))) (env := E2) h2 (fun k => rfl) (fun s => rfl)
  obtain ⟨w, c, n4, h4, ew, hw⟩ := one_odd (l := l) (l1 := l1) (c := c2) (right := .tup [.tup [.str "d", .int 1]]) (m := mCons (mVar 1) (mCons (mTup (mCons (mTup (mCons (mC (.str "d")) (mCons (mC (.int 1)) (mNil)))) (mNil))) (mNil))) (env := E2) h3 (fun k => rfl) (fun s => rfl)
  have three : b_three E2 (Sk l l1 c0 n1) = .ok (.tup [k, r, w]) (Sk l l1 c n4) := by
    unfold b_three
    simp only [mTup, mCons, mNil, Rs.bind] at ek er ew ⊢
    simp only [ek, er, ew]
  obtain ⟨bk, br, bw, pk, pr, pw, tl⟩ := told G (n := n4) he hk hr hw
  have lk := hk.le; have lr := hr.le; have lw := hw.le
  have hcc : (Val RB e ∧ c ≤ 3) ∨ (e = .ref 21 ∧ 1 ≤ c ∧ c ≤ 4) := by
    rcases he with ⟨h, rfl⟩ | ⟨h, rfl⟩
    · exact .inl ⟨h, by omega⟩
    · exact .inr ⟨h, by omega, by omega⟩
  have bl := Sk_bl (l := l) (l1 := l1) (c := c) h4
  -- the steps
  let F : Option W → Option W → Ev := fun x3 x14 => [some sc, some (.ref 1), none, x3, some (.int l), some (.ref 2), some sh, tn, none, some e, some (.bl (ioF e)), some k, some r, some w, x14]
  have s1 : sAsg b_three (gTup' [gName' 11, gName' 12, gName' 13]) E2 (Sk l l1 c0 n1) = .nx (F none none) (Sk l l1 c n4) := by
    unfold sAsg
    rw [three]
    rfl
  have s2 : sAsg b_w (gName' 3) (F none none) (Sk l l1 c n4) = .nx (F (some (.str (if bw then "let" else "writes"))) none) (Sk l l1 c n4) := asg_nx (mif_word (mtr_call rfl pw) rfl rfl)
  have s3 : sAsg b_k (gName' 3) (F (some (.str (if bw then "let" else "writes"))) none) (Sk l l1 c n4) = .nx (F (some (.str (if (bk && br) then (if bw then "let" else "writes") else "seen"))) none) (Sk l l1 c n4) := asg_nx (mif_word (mand_ok (mtr_call rfl pk) (mtr_call rfl pr)) rfl rfl)
  have s4 : sAsg b_o (gName' 3) (F (some (.str (if (bk && br) then (if bw then "let" else "writes") else "seen"))) none) (Sk l l1 c n4) = .nx (F (some (.str (dueF (ioF e) bk br bw))) none) (Sk l l1 c n4) := asg_nx (mif_word (mtr_var rfl) rfl rfl)
  obtain ⟨t, q1, q2, q3⟩ := tl (some sc) none (some (.str (dueF (ioF e) bk br bw))) (some (.str (dueF (ioF e) bk br bw))) (some (.int l)) (some sh) tn none (some (.bl (ioF e))) none none
  obtain ⟨t', q1', q2', q3'⟩ := tl (some sc) none (some (.str (dueF (ioF e) bk br bw))) (some (.str (dueF (ioF e) bk br bw))) (some (.int l)) (some sh) tn none (some (.bl (ioF e))) none (some (.str t))
  have et : t' = t := by
    have := q1'.symm.trans q1
    injection this with h
    exact congrArg Prod.fst h
  subst et
  have s5 : sAsg (mGc l_com) (gName' 14) (F (some (.str (dueF (ioF e) bk br bw))) none) (Sk l l1 c n4) = .nx (F (some (.str (dueF (ioF e) bk br bw))) (some (.str t'))) (Sk l l1 c n4) := asg_nx (gc_lam q1 bl)
  have B := fun b3 c3 => G.b c n4 (some sc) none none b3 c3 (some (.int l)) (some sh) tn none none (some (.bl (ioF e))) none (some k) none (some r) none (some w) none (some (.str t')) e hcc
  have s7 := gc_lam (congrArg BR.gu (B (some (.str (dueF (ioF e) bk br bw))) none)) bl
  have s8 : b_kn (F (some (.str (dueF (ioF e) bk br bw))) (some (.str t'))) (Sk l l1 c n4) = .ok (.str (knF e)) (Sk l l1 c n4) := congrArg BR.kn (B (some (.str (dueF (ioF e) bk br bw))) none)
  have s9 := gc_lam (congrArg BR.cr (B none (some (.str (knF e))))) bl
  have run : GB (EL sc sh tn l) (Sk l l1 0 n) = .nx (F (some (.str (knF e))) (some (.str t'))) (Sk l l1 c n4) := by
    unfold GB GBt
    refine Eq.trans (seq_nx (asg_nx ep)) (Eq.trans (seq_nx (asg_nx (hop none none none none none))) (Eq.trans (seq_nx s1) (Eq.trans (seq_nx s2) (Eq.trans (seq_nx s3) (Eq.trans (seq_nx s4) (Eq.trans (seq_nx s5) ?_))))))
    refine Eq.trans (seq_nx (cond_ok rfl rfl q3')) (Eq.trans (seq_nx (if_word (gc_lam q2' bl) rfl)) (Eq.trans (seq_nx (if_words s7 ?_)) (Eq.trans (seq_nx (asg_nx s8)) (if_word s9 rfl))))
    exact mif_word (mtr_var rfl) rfl rfl
  have tk : (Sk l l1 c n4).take (Sk l l1 0 n).length = Sk l l1 0 n4 := by
    rw [Sk_len]
    have e1 : Sk l l1 c n4 = Sk l l1 0 n4 ++ List.replicate c (.dk []) := by simp [Sk]
    rw [e1, ← Sk_len (l := l) (l1 := l1) (c := 0) (n := n4), List.take_left]
  have := sGc_ok (is := [9, 10, 11, 12, 13, 3, 14]) run (by
    rw [tk, Sk_len, Bool.and_eq_true]
    exact ⟨hb, all_of h4 (Rl_bl (by omega))⟩)
  refine ⟨n4, h4, ?_⟩
  rw [this, tk]
  rfl
end Lw
namespace Lw
open PySem L2 Mi
theorem ev_scr (ns : List Int) (k : Nat) : blW k (.scr (ns.map W.int)) = true := by
  simp only [blW]
  exact bls_ints k ns
theorem ev_E0 (ns : List Int) : evBl 2 (E0 (.scr (ns.map W.int))) = true := by
  simp only [evBl, List.all_cons, List.all_nil, ev_scr]
  rfl
theorem ev_EL (ns : List Int) (l l1 : Int) {tn : Option W} (h : tn = none ∨ ∃ j, tn = some (.int j)) : evBl 21 (EL (.scr (ns.map W.int)) (shW l1) tn l) = true := by
  rcases h with rfl | ⟨j, rfl⟩ <;> (simp only [evBl, List.all_cons, List.all_nil, ev_scr]; rfl)
noncomputable def m_loop : MS := sFor (iR1 (mCons (mC (.int 6)) (mNil))) (gName' 7) (sSeq (sGc [8, 3] GA) (sGc [9, 10, 11, 12, 13, 3, 14] GB))
noncomputable def m_rest : MS := sSeq (sAsg (mCall r_law_ready (mCons (mVar 1) (mCons (mVar 4) (mNil)))) (gName' 5)) (sSeq (sAsg m_sh (gName' 6)) (sSeq (sIf m_shc (sRet (mC (.bl false))) sNx) (sSeq m_loop (sRet m_fin))))
theorem lawD_eq : m_lawD = sSeq (sAsg (mCall r_law_hand (mCons (mVar 0) (mNil))) (gName' 1)) (sSeq (sGc [2, 3] G0) (sSeq (sAsg (mOp wIx (mLst true (mCons (mC (.int 0)) (mCons (mC (.int 5)) (mCons (mOp (wPow) (mC (.int 10)) (mC (.int 17))) (mNil))))) (mCall r_law_draw (mCons (mVar 1) (mCons (mC (.int 3)) (mNil))))) (gName' 4)) m_rest)) := rfl
theorem rest_ok {l l1 : Int} (G : Good l l1) (ns : List Int) {n : Nd} (hn : Hn n) : ∃ s, m_rest [some (.scr (ns.map W.int)), some (.ref 1), none, none, some (.int l), none, none, none, none, none, none, none, none, none, none] [tb0, n] = .rt (.bl true) s := by
  have s1 : sAsg (mCall r_law_ready (mCons (mVar 1) (mCons (mVar 4) (mNil)))) (gName' 5) [some (.scr (ns.map W.int)), some (.ref 1), none, none, some (.int l), none, none, none, none, none, none, none, none, none, none] [tb0, n] = .nx (envL (some (.scr (ns.map W.int))) none none none none none none none none none none none l) (Sk l l1 0 n) := by
    refine asg_nx (i := 5) ?_
    exact G.rd n
  have s2 : sAsg m_sh (gName' 6) (envL (some (.scr (ns.map W.int))) none none none none none none none none none none none l) (Sk l l1 0 n) = .nx (EL (.scr (ns.map W.int)) (shW l1) none l) (Sk l l1 0 n) := asg_nx (G.sh n _ _ _ _ _ _ _ _ _ _ _ _)
  have s3 : sIf m_shc (sRet (mC (.bl false))) sNx (EL (.scr (ns.map W.int)) (shW l1) none l) (Sk l l1 0 n) = .nx (EL (.scr (ns.map W.int)) (shW l1) none l) (Sk l l1 0 n) := by
    have e : m_shc (EL (.scr (ns.map W.int)) (shW l1) none l) (Sk l l1 0 n) = .ok false (Sk l l1 0 n) := G.shc n (some (.scr (ns.map W.int))) none none none none none none none none none none
    unfold sIf
    rw [e]
    rfl
  obtain ⟨e, s, s4, hi⟩ := for_fix (xs := rngW 0 6) (mi := iR1 (mCons (mC (.int 6)) (mNil))) (g := gName' 7) (b := sSeq (sGc [8, 3] GA) (sGc [9, 10, 11, 12, 13, 3, 14] GB)) (env := EL (.scr (ns.map W.int)) (shW l1) none l) (st := Sk l l1 0 n)
    (fun i e s => ∃ tn n', (tn = none ∨ ∃ j, tn = some (.int j)) ∧ e = EL (.scr (ns.map W.int)) (shW l1) tn l ∧ s = Sk l l1 0 n' ∧ Hn n') rfl ⟨none, n, .inl rfl, rfl, rfl, hn⟩ (fun i w ei e s z => by
      obtain ⟨tn, n', ht, rfl, rfl, h'⟩ := z
      obtain ⟨rfl, hi⟩ := rng_get ei
      obtain ⟨n1, h1, g1⟩ := ga_run G h' (.scr (ns.map W.int)) (shW l1) (some (.int (0 + (i : Int)))) (ev_EL ns l l1 (.inr ⟨_, rfl⟩))
      obtain ⟨n2, h2, g2⟩ := gb_run G h1 (.scr (ns.map W.int)) (shW l1) (some (.int (0 + (i : Int)))) (ev_EL ns l l1 (.inr ⟨_, rfl⟩))
      exact ⟨EL (.scr (ns.map W.int)) (shW l1) (some (.int (0 + (i : Int)))) l, Sk l l1 0 n', _, _, rfl, Eq.trans (seq_nx g1) g2, _, n2, .inr ⟨_, rfl⟩, rfl, rfl, h2⟩)
  obtain ⟨tn, n', ht, rfl, rfl, h'⟩ := hi
  refine ⟨Sk l l1 0 n', ?_⟩
  unfold m_rest m_loop
  refine Eq.trans (seq_nx s1) (Eq.trans (seq_nx s2) (Eq.trans (seq_nx s3) (Eq.trans (seq_nx s4) ?_)))
  have e : m_fin (EL (.scr (ns.map W.int)) (shW l1) tn l) (Sk l l1 0 n') = .ok (.bl true) (Sk l l1 0 n') := G.fin n' (some (.scr (ns.map W.int))) none none tn none none none none none none none
  unfold sRet
  rw [e]
  rfl
theorem mop_ok {f : F2} {ma mb : M W} {env : Ev} {st s1 s2 s3 : Sto} {a b v : W} (h1 : ma env st = .ok a s1) (h2 : mb env s1 = .ok b s2) (h3 : f a b s2 = .ok v s3) : mOp f ma mb env st = .ok v s3 := by
  simp only [mOp, h1, Rs.bind, h2, h3]
theorem three3 {x : Int} (a : 0 ≤ x) (b : x < 3) : x = 0 ∨ x = 1 ∨ x = 2 := by omega
theorem law_true (ns : List Int) (hl : ns.length ≤ 63) : ∃ st, r_law [.scr (ns.map W.int)] st0 = .ok (.bl true) st := by
  obtain ⟨w, s, eh, rfl, cs, rfl⟩ := wp_get (hand_eq ns hl st0)
  have hn0 : Hn (BagN cs 0 0 (1 + (cs.length : Int)) 0) := ⟨cs, 0, 0, _, 0, rfl⟩
  have eA : (sAsg (mCall r_law_hand (mCons (mVar 0) (mNil))) (gName' 1)) [some (.scr (ns.map W.int)), none, none, none, none, none, none, none, none, none, none, none, none, none, none] st0 = .nx (E0 (.scr (ns.map W.int))) [tb0, BagN cs 0 0 (1 + (cs.length : Int)) 0] := by
    refine asg_nx (i := 1) ?_
    exact eh
  obtain ⟨n1, h1, g0⟩ := g0_run hn0 (.scr (ns.map W.int)) (ev_E0 ns)
  obtain ⟨x, n2, e2, a2, b2, h2⟩ := draw_eq h1 (R := []) (m := 3) (by decide) (by decide)
  have go : ∀ l l1 : Int, Good l l1 → wIx (.lst [.int 0, .int 5, .int 100000000000000000]) (.int x) [tb0, n2] = .ok (.int l) [tb0, n2] → ∃ st, r_law [.scr (ns.map W.int)] st0 = .ok (.bl true) st := fun l l1 G hx => by
    obtain ⟨s, hs⟩ := rest_ok G ns h2
    refine ⟨s, ?_⟩
    show outOf (m_law [some (.scr (ns.map W.int)), none, none, none, none, none, none, none, none, none, none, none, none, none, none] st0) = _
    have eB : sAsg (mOp wIx (mLst true (mCons (mC (.int 0)) (mCons (mC (.int 5)) (mCons (mOp (wPow) (mC (.int 10)) (mC (.int 17))) (mNil))))) (mCall r_law_draw (mCons (mVar 1) (mCons (mC (.int 3)) (mNil))))) (gName' 4) (E0 (.scr (ns.map W.int))) [tb0, n1] = .nx [some (.scr (ns.map W.int)), some (.ref 1), none, none, some (.int l), none, none, none, none, none, none, none, none, none, none] [tb0, n2] := by
      refine asg_nx (i := 4) ?_
      have el : (mLst true (mCons (mC (.int 0)) (mCons (mC (.int 5)) (mCons (mOp (wPow) (mC (.int 10)) (mC (.int 17))) (mNil))))) (E0 (.scr (ns.map W.int))) [tb0, n1] = .ok (.lst [.int 0, .int 5, .int 100000000000000000]) [tb0, n1] := by kernel_rfl
      have ec : (mCall r_law_draw (mCons (mVar 1) (mCons (mC (.int 3)) (mNil)))) (E0 (.scr (ns.map W.int))) [tb0, n1] = .ok (.int x) [tb0, n2] := e2
      exact mop_ok el ec hx
    rw [law_eq, lawD_eq]
    exact congrArg outOf (Eq.trans (seq_nx eA) (Eq.trans (seq_nx g0) (Eq.trans (seq_nx eB) hs)))
  rcases three3 a2 b2 with rfl | rfl | rfl
  · exact go 0 1 good_0 rfl
  · exact go 5 6 good_1 rfl
  · exact go _ _ good_2 rfl
end Lw
namespace Lw
open PySem PySem.Spec PyProof.Rows L2 Mi
def spLawT (K : PySem.W.Frag) (cs : List (Addr × Addr)) : Sp := fun vs H Q _ => ∃ (a : Addr) (ns : List Int), vs = [.ref a] ∧ SqL K H a (ns.map V.int) ∧ ns.length ≤ 63 ∧ (∀ p ∈ cs, H p.2 = some (.tbl #[])) ∧ ∀ H', Q (.bl true) H'
theorem law_fn {P : Program} {w : World} {K : PySem.W.Frag} {mg : Str → Option Value} {base : Heap} (x : Tx K mg) (tb : x.TB base) (H0 : ∀ ns : List Int, ns.length ≤ 63 → ∃ st, r_law [.scr (ns.map W.int)] st0 = .ok (.bl true) st) : FnOk P w K mg base (L2.CX P w) 14 x.a_law x.d_law ["script"] (spLawT K x.cs) := by
  refine (fn_law x tb).imp fun vs H Q E h => ?_
  obtain ⟨a, ns, e, hs, hl, ht, q⟩ := h
  subst e
  obtain ⟨st, hr⟩ := H0 ns hl
  have t0 : H x.P_law = some (.tbl #[]) := ht (x.c_law, x.P_law) (by simp [Tx.cs])
  refine ⟨[x.P_law], [], st0, [.scr (ns.map W.int)], ⟨by simp, rfl, by simp, by simp, ?_⟩, VRs.cons ?_ VRs.nil, rfl, ?_⟩
  · intro i n b e1 e2
    cases i with
    | zero =>
      cases e1
      cases e2
      exact ⟨rfl, #[], t0, tab_nil, fun pos cv z => nomatch z⟩
    | succ i =>
      cases e2
  · simp only [VR]
    refine ⟨a, _, rfl, hs.imp (fun h => ⟨?_, by simp, h⟩) id, vints⟩
    intro z
    simp only [List.mem_cons, List.not_mem_nil, or_false] at z
    rcases z with rfl
    · rcases h with h | ⟨o, h⟩ <;> (rw [t0] at h; cases h)
  · rw [hr]
    intro ρ' H' v g s r
    simp only [VR] at r
    rw [r]
    exact q H'
theorem walk {l : PySem.W.OpenLaw} {q : Program} {loose : List Str} {XP : (Str → Option Value) → Heap → Prop} {YP : World → Heap → Prop} {d : DefRec} {K : Params → PySem.W.Frag} {ts : List Addr} (hn : l.most = some 63) (hdf : d.params.defaults = [])
    (hY : ∀ (w : World) (h : Heap), YP w h → (K w.params).In h ∧ ∀ p : Addr, p ∈ ts → h.get? p = some (PySem.W.tabObj #[])) (H0 : ∀ ns : List Int, ns.length ≤ 63 → ∃ st, r_law [.scr (ns.map W.int)] st0 = .ok (.bl true) st)
    (F : ∀ (w : World) (mg : Str → Option Value) (fa : Addr) (h : Heap), (K w.params).In h → h.Ns mainGlobals mg → mg d.name = some (.ref fa) → ∃ x : Tx (K w.params) mg, x.a_law = fa ∧ (∀ p ∈ x.cs, PySem.W.codeHdIn (K w.params) p.1 p.2 = true) ∧ (∀ p ∈ x.cs, (K w.params).lookup p.2 = none) ∧ (∀ p ∈ x.cs, p.2 ∈ ts)) :
    PySem.W.WalkO q loose XP YP l.row.toRowW d [] (fun f vs => PySem.call f vs) := by
  refine LamX.walk_ofTs (n := 63) (k := 14) (x := "script") (CX := fun w => L2.CX l.prog w) hn (by decide) hdf ⟨rfl, by decide, by decide⟩ (fun w h Y => (hY w h Y).1) (fun w mg fa h Y hK hG hm => ?_) (fun w H s e s' z => ?_)
  · obtain ⟨x, e, h1, h2, h3⟩ := F w mg fa h hK hG hm
    subst e
    exact ⟨x.d_law, x.cs, spLawT (K w.params) x.cs, fun p hp => (hY w h Y).2 p.2 (h3 p hp), h2, fun p hp => PySem.W.codeHd_of_K hK (h1 p hp), x.bl, fun H a ns hl _ ht hS => ⟨a, ns, rfl, hS, hl, ht, fun _ => rfl⟩, fun base _ _ tb => law_fn x tb H0⟩
  · obtain ⟨_, _, _, _, _, _, _, _, _, _, _, _, z⟩ := z
    exact z.elim
end Lw
open PySem PySem.W PyProof.Rows in
set_option maxRecDepth 100000 in
set_option maxHeartbeats 0 in
theorem PySem.Challenge.cw_wholecommits_k56_checks_refused_holds : PySem.Challenge.rw_wholecommits_k56_checks_refused.Holds := by
  w_on; o_law; k_head; (case hw => w_witness2)
  k_fill
  refine Lw.walk (l := PySem.Challenge.rw_wholecommits_k56_checks_refused) rfl rfl (fun w h Y => Y) Lw.law_true ?F
  case F =>
    intro w mg fa h KX G hmg
    refine' Lw.all_mk (w := w) KX G hmg ?aC_Check ?aC_Dealing ?aC_StoreError ?aC_NoSnapshot ?aC_NoNumber ?aC_NotOpen ?aC_BadSeen ?aC_BadWrites ?aC_Refused ?aC_NotRemembered ?a0 ?l0 ?c0 ?k0 ?a1 ?l1 ?c1 ?k1 ?a2 ?l2 ?c2 ?k2 ?a3 ?l3 ?c3 ?k3 ?a4 ?l4 ?c4 ?k4 ?a5 ?l5 ?c5 ?k5 ?a6 ?l6 ?c6 ?k6 ?a7 ?l7 ?c7 ?k7 ?a8 ?i8 ?l8 ?c8 ?k8 ?a9 ?l9 ?c9 ?k9 ?a10 ?i10 ?l10 ?c10 ?k10 ?a11 ?i11 ?l11 ?c11 ?k11 ?a12 ?i12 ?l12 ?c12 ?k12 ?a13 ?l13 ?c13 ?k13 ?a14 ?l14 ?c14 ?k14 ?a15 ?l15 ?c15 ?k15 ?a16 ?l16 ?c16 ?k16 ?a17 ?l17 ?c17 ?k17 ?a18 ?l18 ?c18 ?k18 ?a19 ?l19 ?c19 ?k19 ?a20 ?l20 ?c20 ?k20 ?a21 ?l21 ?c21 ?k21 ?a22 ?l22 ?c22 ?k22 ?a23 ?l23 ?c23 ?k23 ?a24 ?l24 ?c24 ?k24 ?a25 ?l25 ?c25 ?k25 ?a26 ?l26 ?c26 ?k26 ?a27 ?l27 ?c27 ?k27 ?a28 ?i28 ?l28 ?c28 ?k28 ?a29 ?l29 ?c29 ?k29 ?a30 ?l30 ?c30 ?k30 ?a31 ?l31 ?c31 ?k31 ?a32 ?i32 ?l32 ?c32 ?k32 ?a33 ?l33 ?c33 ?k33 ?a34 ?i34 ?l34 ?c34 ?k34 ?a35 ?l35 ?c35 ?k35 ?a36 ?i36 ?l36 ?c36 ?k36 ?a37 ?i37 ?l37 ?c37 ?k37 ?a38 ?i38 ?l38 ?c38 ?k38 ?a39 ?i39 ?l39 ?c39 ?k39 ?a40 ?l40 ?c40 ?k40 ?a41 ?i41 ?l41 ?c41 ?k41 ?a42 ?i42 ?l42 ?c42 ?k42 ?a43 ?i43 ?l43 ?c43 ?k43 ?a44 ?i44 ?l44 ?c44 ?k44 ?a45 ?l45 ?c45 ?k45 ?a46 ?l46 ?c46 ?k46 ?a47 ?l47 ?c47 ?k47 ?a48 ?l48 ?c48 ?k48 ?a49 ?i49 ?l49 ?c49 ?k49 ?a50 ?i50 ?l50 ?c50 ?k50 ?a51 ?i51 ?l51 ?c51 ?k51 ?a52 ?l52 ?tc52 ?tn52 ?tm52 ?c52 ?k52 ?pg_Check ?hd_Check ?po_Check ?sa_Check ?pg_Dealing ?hd_Dealing ?po_Dealing ?sa_Dealing ?xa_Dealing ?xo_Dealing ?xn_all ?xt_all ?ki_Dealing_int ?ki_Dealing_bool ?ki_Dealing_str ?ki_Dealing_tuple ?ex_StoreError ?ek_StoreError ?es_StoreError ?et_StoreError ?ei_StoreError ?kb_StoreError_ValueError ?xg_StoreError ?xk_StoreError ?xd_StoreError ?xa_StoreError ?xo_StoreError ?kt_StoreError_BadSeen ?kt_StoreError_BadWrites ?kt_StoreError_NoNumber ?kt_StoreError_NoSnapshot ?kt_StoreError_NotOpen ?kt_StoreError_NotRemembered ?su_StoreError_StoreError ?ex_NoSnapshot ?ek_NoSnapshot ?es_NoSnapshot ?et_NoSnapshot ?ei_NoSnapshot ?kb_NoSnapshot_ValueError ?xg_NoSnapshot ?xk_NoSnapshot ?xd_NoSnapshot ?xa_NoSnapshot ?xo_NoSnapshot ?kt_NoSnapshot_BadSeen ?kt_NoSnapshot_BadWrites ?kt_NoSnapshot_NoNumber ?kt_NoSnapshot_NoSnapshot ?kt_NoSnapshot_NotOpen ?kt_NoSnapshot_NotRemembered ?su_NoSnapshot_StoreError ?ex_NoNumber ?ek_NoNumber ?es_NoNumber ?et_NoNumber ?ei_NoNumber ?kb_NoNumber_ValueError ?xg_NoNumber ?xk_NoNumber ?xd_NoNumber ?xa_NoNumber ?xo_NoNumber ?kt_NoNumber_BadSeen ?kt_NoNumber_BadWrites ?kt_NoNumber_NoNumber ?kt_NoNumber_NoSnapshot ?kt_NoNumber_NotOpen ?kt_NoNumber_NotRemembered ?su_NoNumber_StoreError ?ex_NotOpen ?ek_NotOpen ?es_NotOpen ?et_NotOpen ?ei_NotOpen ?kb_NotOpen_ValueError ?xg_NotOpen ?xk_NotOpen ?xd_NotOpen ?xa_NotOpen ?xo_NotOpen ?kt_NotOpen_BadSeen ?kt_NotOpen_BadWrites ?kt_NotOpen_NoNumber ?kt_NotOpen_NoSnapshot ?kt_NotOpen_NotOpen ?kt_NotOpen_NotRemembered ?su_NotOpen_StoreError ?ex_BadSeen ?ek_BadSeen ?es_BadSeen ?et_BadSeen ?ei_BadSeen ?kb_BadSeen_ValueError ?xg_BadSeen ?xk_BadSeen ?xd_BadSeen ?xa_BadSeen ?xo_BadSeen ?kt_BadSeen_BadSeen ?kt_BadSeen_BadWrites ?kt_BadSeen_NoNumber ?kt_BadSeen_NoSnapshot ?kt_BadSeen_NotOpen ?kt_BadSeen_NotRemembered ?su_BadSeen_StoreError ?ex_BadWrites ?ek_BadWrites ?es_BadWrites ?et_BadWrites ?ei_BadWrites ?kb_BadWrites_ValueError ?xg_BadWrites ?xk_BadWrites ?xd_BadWrites ?xa_BadWrites ?xo_BadWrites ?kt_BadWrites_BadSeen ?kt_BadWrites_BadWrites ?kt_BadWrites_NoNumber ?kt_BadWrites_NoSnapshot ?kt_BadWrites_NotOpen ?kt_BadWrites_NotRemembered ?su_BadWrites_StoreError ?qi_Refused ?qt_Refused ?ql_Refused ?qc_Refused ?qk_Refused ?qo_Refused ?qs_Refused ?qn_Refused ?qg_Refused ?qa_Refused ?qh_Refused ?ek_Refused ?es_Refused ?et_Refused ?ei_Refused ?kb_Refused_ValueError ?xg_Refused ?xk_Refused ?xd_Refused ?xa_Refused ?xo_Refused ?kt_Refused_BadSeen ?kt_Refused_BadWrites ?kt_Refused_NoNumber ?kt_Refused_NoSnapshot ?kt_Refused_NotOpen ?kt_Refused_NotRemembered ?su_Refused_StoreError ?ex_NotRemembered ?ek_NotRemembered ?es_NotRemembered ?et_NotRemembered ?ei_NotRemembered ?kb_NotRemembered_ValueError ?xg_NotRemembered ?xk_NotRemembered ?xd_NotRemembered ?xa_NotRemembered ?xo_NotRemembered ?kt_NotRemembered_BadSeen ?kt_NotRemembered_BadWrites ?kt_NotRemembered_NoNumber ?kt_NotRemembered_NoSnapshot ?kt_NotRemembered_NotOpen ?kt_NotRemembered_NotRemembered ?su_NotRemembered_StoreError ?mk_Check ?kc_Check ?mk_Dealing ?kc_Dealing ?nf_dealings_Check ?nf_gets_Dealing ?nf_newest_Check ?nf_number_Dealing ?nf_opened_Check ?nf_ranges_Dealing ?nf_snapshot_Dealing ?nf_snapshots_Check ?nf_ways_Check ?nf_writes_Dealing ?co_GREATEST ?co_LONGEST_WORD ?zb_ValueError ?zb_abs ?zb_all ?zb_any ?zb_bool ?zb_dict ?zb_int ?zb_isinstance ?zb_len ?zb_list ?zb_min ?zb_range ?zb_sorted ?zb_str ?zb_tuple ?zb_zip
    (case aC_Check => k_is)
    (case aC_Dealing => k_is)
    (case aC_StoreError => k_is)
    (case aC_NoSnapshot => k_is)
    (case aC_NoNumber => k_is)
    (case aC_NotOpen => k_is)
    (case aC_BadSeen => k_is)
    (case aC_BadWrites => k_is)
    (case aC_Refused => k_is)
    (case aC_NotRemembered => k_is)
    (case a0 => k_is)
    (case l0 => k_is)
    (case c0 => k_is)
    (case k0 => k_is)
    (case a1 => k_is)
    (case l1 => k_is)
    (case c1 => k_is)
    (case k1 => k_is)
    (case a2 => k_is)
    (case l2 => k_is)
    (case c2 => k_is)
    (case k2 => k_is)
    (case a3 => k_is)
    (case l3 => k_is)
    (case c3 => k_is)
    (case k3 => k_is)
    (case a4 => k_is)
    (case l4 => k_is)
    (case c4 => k_is)
    (case k4 => k_is)
    (case a5 => k_is)
    (case l5 => k_is)
    (case c5 => k_is)
    (case k5 => k_is)
    (case a6 => k_is)
    (case l6 => k_is)
    (case c6 => k_is)
    (case k6 => k_is)
    (case a7 => k_is)
    (case l7 => k_is)
    (case c7 => k_is)
    (case k7 => k_is)
    (case a8 => k_is)
    (case i8 => k_is)
    (case l8 => k_is)
    (case c8 => k_is)
    (case k8 => k_is)
    (case a9 => k_is)
    (case l9 => k_is)
    (case c9 => k_is)
    (case k9 => k_is)
    (case a10 => k_is)
    (case i10 => k_is)
    (case l10 => k_is)
    (case c10 => k_is)
    (case k10 => k_is)
    (case a11 => k_is)
    (case i11 => k_is)
    (case l11 => k_is)
    (case c11 => k_is)
    (case k11 => k_is)
    (case a12 => k_is)
    (case i12 => k_is)
    (case l12 => k_is)
    (case c12 => k_is)
    (case k12 => k_is)
    (case a13 => k_is)
    (case l13 => k_is)
    (case c13 => k_is)
    (case k13 => k_is)
    (case a14 => k_is)
    (case l14 => k_is)
    (case c14 => k_is)
    (case k14 => k_is)
    (case a15 => k_is)
    (case l15 => k_is)
    (case c15 => k_is)
    (case k15 => k_is)
    (case a16 => k_is)
    (case l16 => k_is)
    (case c16 => k_is)
    (case k16 => k_is)
    (case a17 => k_is)
    (case l17 => k_is)
    (case c17 => k_is)
    (case k17 => k_is)
    (case a18 => k_is)
    (case l18 => k_is)
    (case c18 => k_is)
    (case k18 => k_is)
    (case a19 => k_is)
    (case l19 => k_is)
    (case c19 => k_is)
    (case k19 => k_is)
    (case a20 => k_is)
    (case l20 => k_is)
    (case c20 => k_is)
    (case k20 => k_is)
    (case a21 => k_is)
    (case l21 => k_is)
    (case c21 => k_is)
    (case k21 => k_is)
    (case a22 => k_is)
    (case l22 => k_is)
    (case c22 => k_is)
    (case k22 => k_is)
    (case a23 => k_is)
    (case l23 => k_is)
    (case c23 => k_is)
    (case k23 => k_is)
    (case a24 => k_is)
    (case l24 => k_is)
    (case c24 => k_is)
    (case k24 => k_is)
    (case a25 => k_is)
    (case l25 => k_is)
    (case c25 => k_is)
    (case k25 => k_is)
    (case a26 => k_is)
    (case l26 => k_is)
    (case c26 => k_is)
    (case k26 => k_is)
    (case a27 => k_is)
    (case l27 => k_is)
    (case c27 => k_is)
    (case k27 => k_is)
    (case a28 => k_is)
    (case i28 => k_is)
    (case l28 => k_is)
    (case c28 => k_is)
    (case k28 => k_is)
    (case a29 => k_is)
    (case l29 => k_is)
    (case c29 => k_is)
    (case k29 => k_is)
    (case a30 => k_is)
    (case l30 => k_is)
    (case c30 => k_is)
    (case k30 => k_is)
    (case a31 => k_is)
    (case l31 => k_is)
    (case c31 => k_is)
    (case k31 => k_is)
    (case a32 => k_is)
    (case i32 => k_is)
    (case l32 => k_is)
    (case c32 => k_is)
    (case k32 => k_is)
    (case a33 => k_is)
    (case l33 => k_is)
    (case c33 => k_is)
    (case k33 => k_is)
    (case a34 => k_is)
    (case i34 => k_is)
    (case l34 => k_is)
    (case c34 => k_is)
    (case k34 => k_is)
    (case a35 => k_is)
    (case l35 => k_is)
    (case c35 => k_is)
    (case k35 => k_is)
    (case a36 => k_is)
    (case i36 => k_is)
    (case l36 => k_is)
    (case c36 => k_is)
    (case k36 => k_is)
    (case a37 => k_is)
    (case i37 => k_is)
    (case l37 => k_is)
    (case c37 => k_is)
    (case k37 => k_is)
    (case a38 => k_is)
    (case i38 => k_is)
    (case l38 => k_is)
    (case c38 => k_is)
    (case k38 => k_is)
    (case a39 => k_is)
    (case i39 => k_is)
    (case l39 => k_is)
    (case c39 => k_is)
    (case k39 => k_is)
    (case a40 => k_is)
    (case l40 => k_is)
    (case c40 => k_is)
    (case k40 => k_is)
    (case a41 => k_is)
    (case i41 => k_is)
    (case l41 => k_is)
    (case c41 => k_is)
    (case k41 => k_is)
    (case a42 => k_is)
    (case i42 => k_is)
    (case l42 => k_is)
    (case c42 => k_is)
    (case k42 => k_is)
    (case a43 => k_is)
    (case i43 => k_is)
    (case l43 => k_is)
    (case c43 => k_is)
    (case k43 => k_is)
    (case a44 => k_is)
    (case i44 => k_is)
    (case l44 => k_is)
    (case c44 => k_is)
    (case k44 => k_is)
    (case a45 => k_is)
    (case l45 => k_is)
    (case c45 => k_is)
    (case k45 => k_is)
    (case a46 => k_is)
    (case l46 => k_is)
    (case c46 => k_is)
    (case k46 => k_is)
    (case a47 => k_is)
    (case l47 => k_is)
    (case c47 => k_is)
    (case k47 => k_is)
    (case a48 => k_is)
    (case l48 => k_is)
    (case c48 => k_is)
    (case k48 => k_is)
    (case a49 => k_is)
    (case i49 => k_is)
    (case l49 => k_is)
    (case c49 => k_is)
    (case k49 => k_is)
    (case a50 => k_is)
    (case i50 => k_is)
    (case l50 => k_is)
    (case c50 => k_is)
    (case k50 => k_is)
    (case a51 => k_is)
    (case i51 => k_is)
    (case l51 => k_is)
    (case c51 => k_is)
    (case k51 => k_is)
    (case a52 => k_is)
    (case l52 => k_is)
    (case tc52 => kernel_rfl)
    (case tn52 => kernel_rfl)
    (case tm52 => kernel_rfl)
    (case c52 => k_is)
    (case k52 => k_is)
    (case pg_Check => k_is)
    (case hd_Check => k_is)
    (case po_Check => k_is)
    (case sa_Check => k_is)
    (case pg_Dealing => k_is)
    (case hd_Dealing => k_is)
    (case po_Dealing => k_is)
    (case sa_Dealing => k_is)
    (case xa_Dealing => k_is)
    (case xo_Dealing => k_is)
    (case xn_all => k_is)
    (case xt_all => k_is)
    (case ki_Dealing_int => first | rfl | k_is)
    (case ki_Dealing_bool => first | rfl | k_is)
    (case ki_Dealing_str => first | rfl | k_is)
    (case ki_Dealing_tuple => first | rfl | k_is)
    (case ex_StoreError => k_exc)
    (case ek_StoreError => k_is)
    (case es_StoreError => k_is)
    (case et_StoreError => k_is)
    (case ei_StoreError => k_is)
    (case kb_StoreError_ValueError => first | rfl | k_is)
    (case xg_StoreError => k_is)
    (case xk_StoreError => k_is)
    (case xd_StoreError => k_is)
    (case xa_StoreError => k_is)
    (case xo_StoreError => k_is)
    (case kt_StoreError_BadSeen => first | rfl | k_is)
    (case kt_StoreError_BadWrites => first | rfl | k_is)
    (case kt_StoreError_NoNumber => first | rfl | k_is)
    (case kt_StoreError_NoSnapshot => first | rfl | k_is)
    (case kt_StoreError_NotOpen => first | rfl | k_is)
    (case kt_StoreError_NotRemembered => first | rfl | k_is)
    (case su_StoreError_StoreError => first | rfl | k_is)
    (case ex_NoSnapshot => k_exc)
    (case ek_NoSnapshot => k_is)
    (case es_NoSnapshot => k_is)
    (case et_NoSnapshot => k_is)
    (case ei_NoSnapshot => k_is)
    (case kb_NoSnapshot_ValueError => first | rfl | k_is)
    (case xg_NoSnapshot => k_is)
    (case xk_NoSnapshot => k_is)
    (case xd_NoSnapshot => k_is)
    (case xa_NoSnapshot => k_is)
    (case xo_NoSnapshot => k_is)
    (case kt_NoSnapshot_BadSeen => first | rfl | k_is)
    (case kt_NoSnapshot_BadWrites => first | rfl | k_is)
    (case kt_NoSnapshot_NoNumber => first | rfl | k_is)
    (case kt_NoSnapshot_NoSnapshot => first | rfl | k_is)
    (case kt_NoSnapshot_NotOpen => first | rfl | k_is)
    (case kt_NoSnapshot_NotRemembered => first | rfl | k_is)
    (case su_NoSnapshot_StoreError => first | rfl | k_is)
    (case ex_NoNumber => k_exc)
    (case ek_NoNumber => k_is)
    (case es_NoNumber => k_is)
    (case et_NoNumber => k_is)
    (case ei_NoNumber => k_is)
    (case kb_NoNumber_ValueError => first | rfl | k_is)
    (case xg_NoNumber => k_is)
    (case xk_NoNumber => k_is)
    (case xd_NoNumber => k_is)
    (case xa_NoNumber => k_is)
    (case xo_NoNumber => k_is)
    (case kt_NoNumber_BadSeen => first | rfl | k_is)
    (case kt_NoNumber_BadWrites => first | rfl | k_is)
    (case kt_NoNumber_NoNumber => first | rfl | k_is)
    (case kt_NoNumber_NoSnapshot => first | rfl | k_is)
    (case kt_NoNumber_NotOpen => first | rfl | k_is)
    (case kt_NoNumber_NotRemembered => first | rfl | k_is)
    (case su_NoNumber_StoreError => first | rfl | k_is)
    (case ex_NotOpen => k_exc)
    (case ek_NotOpen => k_is)
    (case es_NotOpen => k_is)
    (case et_NotOpen => k_is)
    (case ei_NotOpen => k_is)
    (case kb_NotOpen_ValueError => first | rfl | k_is)
    (case xg_NotOpen => k_is)
    (case xk_NotOpen => k_is)
    (case xd_NotOpen => k_is)
    (case xa_NotOpen => k_is)
    (case xo_NotOpen => k_is)
    (case kt_NotOpen_BadSeen => first | rfl | k_is)
    (case kt_NotOpen_BadWrites => first | rfl | k_is)
    (case kt_NotOpen_NoNumber => first | rfl | k_is)
    (case kt_NotOpen_NoSnapshot => first | rfl | k_is)
    (case kt_NotOpen_NotOpen => first | rfl | k_is)
    (case kt_NotOpen_NotRemembered => first | rfl | k_is)
    (case su_NotOpen_StoreError => first | rfl | k_is)
    (case ex_BadSeen => k_exc)
    (case ek_BadSeen => k_is)
    (case es_BadSeen => k_is)
    (case et_BadSeen => k_is)
    (case ei_BadSeen => k_is)
    (case kb_BadSeen_ValueError => first | rfl | k_is)
    (case xg_BadSeen => k_is)
    (case xk_BadSeen => k_is)
    (case xd_BadSeen => k_is)
    (case xa_BadSeen => k_is)
    (case xo_BadSeen => k_is)
    (case kt_BadSeen_BadSeen => first | rfl | k_is)
    (case kt_BadSeen_BadWrites => first | rfl | k_is)
    (case kt_BadSeen_NoNumber => first | rfl | k_is)
    (case kt_BadSeen_NoSnapshot => first | rfl | k_is)
    (case kt_BadSeen_NotOpen => first | rfl | k_is)
    (case kt_BadSeen_NotRemembered => first | rfl | k_is)
    (case su_BadSeen_StoreError => first | rfl | k_is)
    (case ex_BadWrites => k_exc)
    (case ek_BadWrites => k_is)
    (case es_BadWrites => k_is)
    (case et_BadWrites => k_is)
    (case ei_BadWrites => k_is)
    (case kb_BadWrites_ValueError => first | rfl | k_is)
    (case xg_BadWrites => k_is)
    (case xk_BadWrites => k_is)
    (case xd_BadWrites => k_is)
    (case xa_BadWrites => k_is)
    (case xo_BadWrites => k_is)
    (case kt_BadWrites_BadSeen => first | rfl | k_is)
    (case kt_BadWrites_BadWrites => first | rfl | k_is)
    (case kt_BadWrites_NoNumber => first | rfl | k_is)
    (case kt_BadWrites_NoSnapshot => first | rfl | k_is)
    (case kt_BadWrites_NotOpen => first | rfl | k_is)
    (case kt_BadWrites_NotRemembered => first | rfl | k_is)
    (case su_BadWrites_StoreError => first | rfl | k_is)
    (case qi_Refused => k_is)
    (case qt_Refused => k_is)
    (case ql_Refused => k_is)
    (case qc_Refused => k_is)
    (case qk_Refused => k_is)
    (case qo_Refused => kernel_rfl)
    (case qs_Refused => k_is)
    (case qn_Refused => k_is)
    (case qg_Refused => k_is)
    (case qa_Refused => k_is)
    (case qh_Refused => k_is)
    (case ek_Refused => k_is)
    (case es_Refused => k_is)
    (case et_Refused => k_is)
    (case ei_Refused => k_is)
    (case kb_Refused_ValueError => first | rfl | k_is)
    (case xg_Refused => k_is)
    (case xk_Refused => k_is)
    (case xd_Refused => k_is)
    (case xa_Refused => k_is)
    (case xo_Refused => k_is)
    (case kt_Refused_BadSeen => first | rfl | k_is)
    (case kt_Refused_BadWrites => first | rfl | k_is)
    (case kt_Refused_NoNumber => first | rfl | k_is)
    (case kt_Refused_NoSnapshot => first | rfl | k_is)
    (case kt_Refused_NotOpen => first | rfl | k_is)
    (case kt_Refused_NotRemembered => first | rfl | k_is)
    (case su_Refused_StoreError => first | rfl | k_is)
    (case ex_NotRemembered => k_exc)
    (case ek_NotRemembered => k_is)
    (case es_NotRemembered => k_is)
    (case et_NotRemembered => k_is)
    (case ei_NotRemembered => k_is)
    (case kb_NotRemembered_ValueError => first | rfl | k_is)
    (case xg_NotRemembered => k_is)
    (case xk_NotRemembered => k_is)
    (case xd_NotRemembered => k_is)
    (case xa_NotRemembered => k_is)
    (case xo_NotRemembered => k_is)
    (case kt_NotRemembered_BadSeen => first | rfl | k_is)
    (case kt_NotRemembered_BadWrites => first | rfl | k_is)
    (case kt_NotRemembered_NoNumber => first | rfl | k_is)
    (case kt_NotRemembered_NoSnapshot => first | rfl | k_is)
    (case kt_NotRemembered_NotOpen => first | rfl | k_is)
    (case kt_NotRemembered_NotRemembered => first | rfl | k_is)
    (case su_NotRemembered_StoreError => first | rfl | k_is)
    (case mk_Check => k_is)
    (case kc_Check => k_is)
    (case mk_Dealing => k_is)
    (case kc_Dealing => k_is)
    (case nf_dealings_Check => k_is)
    (case nf_gets_Dealing => k_is)
    (case nf_newest_Check => k_is)
    (case nf_number_Dealing => k_is)
    (case nf_opened_Check => k_is)
    (case nf_ranges_Dealing => k_is)
    (case nf_snapshot_Dealing => k_is)
    (case nf_snapshots_Check => k_is)
    (case nf_ways_Check => k_is)
    (case nf_writes_Dealing => k_is)
    (case co_GREATEST => k_is)
    (case co_LONGEST_WORD => k_is)
    (case zb_ValueError => k_is)
    (case zb_abs => k_is)
    (case zb_all => k_is)
    (case zb_any => k_is)
    (case zb_bool => k_is)
    (case zb_dict => k_is)
    (case zb_int => k_is)
    (case zb_isinstance => k_is)
    (case zb_len => k_is)
    (case zb_list => k_is)
    (case zb_min => k_is)
    (case zb_range => k_is)
    (case zb_sorted => k_is)
    (case zb_str => k_is)
    (case zb_tuple => k_is)
    (case zb_zip => k_is)
