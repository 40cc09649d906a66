import PyProof.Rows.All
import Wide.All
import OpenK.AllK
import Wide.FinOn
import HandS.ForMost
import HandS.WordsExc
import HandS.Lambda
import HandS.Wide
import HandS.TupAny
import HandS.Flow
import HandS.ExcOwn
import HandS.Small
import HandS.IsInst
import HandS.SortInts
import HandS.WordsDict
import HandS.SetFor
import HandS.SetKeys
import HandS.Conv
import HandS.DictComp
import HandS.More
import HandS.TryOnly
import HandS.Deep
import HandS.Rev
import HandS.Star
import PyProof.EnumMake
import PyProof.Draws
import KE.GoesMore
import HandS.Style
import HandS.ExcIs
import PyProof.NeData
import HandS.Strs
import HandS.EndTab
import HandS.List
import HandS.TryMany
import HandS.TupMul
import HandS.Zip
import HandS.Text
import HandS.ListItems
import PyProof.DictUpdate
import HandS.ExcField
import HandS.ExcInit
import HandS.DictSubView
import KE.DataMinMax
import HandS.SortKw
import HandS.TupSets
import KE.SortData
import KE.DataCmp
import KE.KIndexOf
import HandS.SortRule
import HandS.HeadHook4
import PySem.Challenge.RW_wholecommits_k67_whole_lost_updates_and
set_option Elab.async false
set_option linter.all false
set_option maxRecDepth 100000
set_option maxHeartbeats 4000000
/-! The mirror: values, a store, and how they stand in the heap. -/
namespace Mi
open PySem L2

/-- a value of the mirror: lst is a list that is never changed again, ref a place of the store -/
inductive W where
  | non | bl (b : Bool) | int (i : Int) | str (x : Str) | ty (n : String)
  | tup (xs : List W) | lst (xs : List W) | scr (xs : List W) | ref (i : Nat) | at_ (a : Addr)
  | fn (f : Addr) (ρ0 η0 : List Addr) (H0 : Hp)
  | exc (a d : Addr) (f : Str) (w : W)
/-- what stands in the store -/
inductive Nd where
  | lst (xs : List W) | dk (kvs : List (Key × W)) | ins (c : Nat) (fs : List (Str × W)) | lk (kvs : List (Key × W)) | tb (j : Nat) (q : Str)
abbrev Sto := List Nd
abbrev Ev := List (Option W)
/-- an exception of an own class, by its number -/
inductive Xc where
  | plain (c : Nat)
  | one (c : Nat) (f : Str) (w : W)
inductive Rs (α : Type) where
  | ok (a : α) (s : Sto) | ex (x : Xc) (s : Sto) | stuck
def Rs.bind {α β : Type} (r : Rs α) (k : α → Sto → Rs β) : Rs β := match r with
  | .ok a s => k a s
  | .ex x s => .ex x s
  | .stuck => .stuck

/-- not a table of code objects -/
def nt : HO → Bool
  | .tbl _ => false
  | _ => true
/-- what may be hidden -/
def plO : HO → Bool
  | .tbl _ => false
  | .ext _ => false
  | _ => true
/-- nothing but a table stands there -/
def Ab (H : Hp) (a : Addr) : Prop := ∀ o, H a = some o → nt o = false
theorem ab_of {H : Hp} {a : Addr} (h : H a = none) : Ab H a := fun o e => by rw [h] at e; cases e
theorem Ab.not {H : Hp} {a : Addr} {o : HO} (h : Ab H a) (e : H a = some o) (n : nt o = true := by rfl) : False := by
  rw [h o e] at n; cases n
/-- ahead (ρ, H), behind (ρ', H'): more places, what is no place stands as it stood -/
structure Grow (ρ : List Addr) (H : Hp) (ρ' : List Addr) (H' : Hp) : Prop where
  pre : ∃ t, ρ' = ρ ++ t ∧ ∀ a ∈ t, Ab H a
  same' : ∀ a o, a ∉ ρ → H a = some o → nt o = true → H' a = some o
  all : ∀ a o, H a = some o → nt o = true → ∃ o', H' a = some o' ∧ nt o' = true
  frz : ∀ a o u, H a = some (.frz o u) → H' a = some (.frz o u)

theorem Grow.same {ρ ρ' : List Addr} {H H' : Hp} (g : Grow ρ H ρ' H') (a : Addr) (o : HO) (na : a ∉ ρ) (h : H a = some o) (n : nt o = true := by rfl) : H' a = some o := g.same' a o na h n
theorem Grow.refl {ρ : List Addr} {H : Hp} : Grow ρ H ρ H := ⟨⟨[], by simp, by simp⟩, fun _ _ _ h _ => h, fun _ o h n => ⟨o, h, n⟩, fun _ _ _ h => h⟩
theorem Grow.back {ρ ρ' : List Addr} {H H' : Hp} (g : Grow ρ H ρ' H') {a : Addr} (h : Ab H' a) : Ab H a := fun o e => by
  cases q : nt o with
  | false => rfl
  | true =>
    obtain ⟨o', e', n⟩ := g.all a o e q
    exact (h.not e' n).elim
theorem Grow.trans {ρ ρ1 ρ2 : List Addr} {H H1 H2 : Hp} (g : Grow ρ H ρ1 H1) (k : Grow ρ1 H1 ρ2 H2) : Grow ρ H ρ2 H2 := by
  obtain ⟨t, e, ht⟩ := g.pre
  obtain ⟨u, e2, hu⟩ := k.pre
  refine ⟨⟨t ++ u, by rw [e2, e, List.append_assoc], fun a ha => ?_⟩, fun a o na h n => ?_, fun a o h n => ?_, fun a o u h => k.frz a o u (g.frz a o u h)⟩
  · rcases List.mem_append.mp ha with ha | ha
    · exact ht a ha
    · exact g.back (hu a ha)
  · refine k.same a o (fun z => ?_) (g.same a o na h n) n
    rw [e] at z
    rcases List.mem_append.mp z with z | z
    · exact na z
    · exact (ht a z).not h n
  · obtain ⟨o1, h1, n1⟩ := g.all a o h n
    exact k.all a o1 h1 n1
theorem Grow.out {ρ ρ' : List Addr} {H H' : Hp} (g : Grow ρ H ρ' H') {a : Addr} {o : HO} (na : a ∉ ρ) (h : H a = some o) (n : nt o = true := by rfl) : a ∉ ρ' := fun z => by
  obtain ⟨t, e, ht⟩ := g.pre
  rw [e] at z
  rcases List.mem_append.mp z with z | z
  · exact na z
  · exact (ht a z).not h n
/-- what stood still since (ρ0, η0, H0) stands -/
def GH (ρ0 η0 : List Addr) (H0 : Hp) (ρ η : List Addr) (H : Hp) : Prop := (∃ t, ρ = ρ0 ++ t) ∧ ∀ a o, a ∉ ρ0 → a ∉ η0 → H0 a = some o → nt o = true → a ∉ ρ ∧ a ∉ η ∧ H a = some o
theorem GH.refl {ρ η : List Addr} {H : Hp} : GH ρ η H ρ η H := ⟨⟨[], by simp⟩, fun _ _ h1 h2 h3 _ => ⟨h1, h2, h3⟩⟩
theorem GH.trans {ρ0 ρ1 ρ2 η0 η1 η2 : List Addr} {H0 H1 H2 : Hp} (g : GH ρ0 η0 H0 ρ1 η1 H1) (k : GH ρ1 η1 H1 ρ2 η2 H2) : GH ρ0 η0 H0 ρ2 η2 H2 := by
  obtain ⟨⟨t, e⟩, g2⟩ := g
  obtain ⟨⟨u, e2⟩, k2⟩ := k
  refine ⟨⟨t ++ u, by rw [e2, e, List.append_assoc]⟩, fun a o h1 h2 h3 n => ?_⟩
  obtain ⟨x1, x2, x3⟩ := g2 a o h1 h2 h3 n
  exact k2 a o x1 x2 x3 n
theorem GH.of {ρ ρ' η : List Addr} {H H' : Hp} (g : Grow ρ H ρ' H') : GH ρ η H ρ' η H' := by
  obtain ⟨t, e, _⟩ := g.pre
  exact ⟨⟨t, e⟩, fun a o h1 h2 h3 n => ⟨g.out h1 h3 n, h2, g.same a o h1 h3 n⟩⟩
theorem GH.less {ρ η η' : List Addr} {H : Hp} (g : ∀ b ∈ η', b ∈ η) : GH ρ η H ρ η' H := ⟨⟨[], by simp⟩, fun a o h1 h2 h3 _ => ⟨h1, fun z => h2 (g _ z), h3⟩⟩
theorem GH.hide {ρ η : List Addr} {H : Hp} {D : Addr} {o : HO} (n : H D = none ∨ D ∈ η) : GH ρ η H ρ (D :: η) (upd H D o) := ⟨⟨[], by simp⟩, fun a u h1 h2 h3 _ => by
  have ne : a ≠ D := by
    rintro rfl
    rcases n with n | n
    · rw [n] at h3; cases h3
    · exact h2 n
  exact ⟨h1, by simp [ne, h2], by rw [upd_ne ne]; exact h3⟩⟩
theorem GH.shift {ρ η : List Addr} {H : Hp} {D : Addr} : GH ρ (D :: η) H (ρ ++ [D]) η H := ⟨⟨[D], rfl⟩, fun a u h1 h2 h3 _ => by
  simp only [List.mem_cons, not_or] at h2
  exact ⟨by simp [h1, h2.1], h2.2, h3⟩⟩
section
variable (K : PySem.W.Frag)
/-- a tuple, a list that stands still at a -/
def TupAt (ρ η : List Addr) (H : Hp) (a : Addr) (vs : List V) : Prop := (a ∉ ρ ∧ a ∉ η ∧ Rd H a (.tup vs)) ∨
  ∃ (o : Obj) (its : Array Value) (n : Nat), K.lookup a = some o ∧ o.cls = .type "tuple" ∧ o.data = .seq its n ∧ its.size ≤ sizeLine ∧ Vals vs its.toList
def LstAt (ρ η : List Addr) (H : Hp) (a : Addr) (vs : List V) : Prop := (a ∉ ρ ∧ a ∉ η ∧ Rd H a (.lst vs)) ∨
  ∃ (o : Obj) (its : Array Value) (n : Nat), K.lookup a = some o ∧ o.cls = .type "list" ∧ o.dict = none ∧ o.data = .seq its n ∧ its.size ≤ sizeLine ∧ Vals vs its.toList
mutual
def VR (ρ η : List Addr) (H : Hp) : W → V → Prop
  | .non, v => v = .non
  | .bl b, v => v = .bl b
  | .int i, v => v = .int i
  | .str x, v => v = .str x
  | .ty n, v => v = .ty n
  | .at_ a, v => v = .ref a
  | .fn f ρ0 η0 H0, v => v = .ref f ∧ GH ρ0 η0 H0 ρ η H
  | .exc a d f w, v => v = .ref a ∧ (d ∉ ρ ∧ d ∉ η ∧ ∃ fs u, H d = some (.xd fs) ∧ fs.lookup f = some u ∧ VR ρ η H w u)
  | .ref i, v => ∃ a, ρ[i]? = some a ∧ v = .ref a
  | .tup xs, v => ∃ a vs, v = .ref a ∧ TupAt K ρ η H a vs ∧ VRs ρ η H xs vs
  | .lst xs, v => ∃ a vs, v = .ref a ∧ (a ∉ ρ ∧ a ∉ η ∧ H a = some (.lst vs)) ∧ VRs ρ η H xs vs
  | .scr xs, v => ∃ a vs, v = .ref a ∧ LstAt K ρ η H a vs ∧ VRs ρ η H xs vs
def VRs (ρ η : List Addr) (H : Hp) : List W → List V → Prop
  | [], vs => vs = []
  | x :: xs, vs => ∃ v r, vs = v :: r ∧ VR ρ η H x v ∧ VRs ρ η H xs r
end
end

theorem Grow.at {ρ ρ' : List Addr} {H H' : Hp} (g : Grow ρ H ρ' H') {i : Nat} {a : Addr} (h : ρ[i]? = some a) : ρ'[i]? = some a := by
  obtain ⟨t, e, _⟩ := g.pre
  rw [e]
  rw [List.getElem?_append_left (List.getElem?_eq_some_iff.mp h).1]
  exact h
/-- a new object that is no place -/
theorem Grow.new {ρ : List Addr} {H : Hp} {p : Addr} {o : HO} (h : H p = none) : Grow ρ H ρ (upd H p o) :=
  ⟨⟨[], by simp, by simp⟩, fun a u _ e _ => by rw [upd_ne (ne_of_none e h)]; exact e, fun a u e n => ⟨u, by rw [upd_ne (ne_of_none e h)]; exact e, n⟩, fun a u z e => by rw [upd_ne (ne_of_none e h)]; exact e⟩
/-- a new place -/
theorem Grow.node {ρ : List Addr} {H : Hp} {p : Addr} {o : HO} (h : H p = none) : Grow ρ H (ρ ++ [p]) (upd H p o) :=
  ⟨⟨[p], rfl, fun a ha => by rw [List.mem_singleton] at ha; rw [ha]; exact ab_of h⟩, fun a u _ e _ => by rw [upd_ne (ne_of_none e h)]; exact e, fun a u e n => ⟨u, by rw [upd_ne (ne_of_none e h)]; exact e, n⟩, fun a u z e => by rw [upd_ne (ne_of_none e h)]; exact e⟩
/-- what may be written -/
def Open (H : Hp) (p : Addr) : Prop := ∀ o u, H p ≠ some (.frz o u)
/-- a place changes -/
theorem Grow.write {ρ : List Addr} {H : Hp} {p : Addr} {o : HO} (h : p ∈ ρ) (op : Open H p) (n : nt o = true := by rfl) : Grow ρ H ρ (upd H p o) :=
  ⟨⟨[], by simp, by simp⟩, fun a u na e _ => by rw [upd_ne (fun z => na (by rw [z]; exact h))]; exact e, fun a u e k => by
    by_cases z : a = p
    · exact ⟨o, by rw [z, upd_same], n⟩
    · exact ⟨u, by rw [upd_ne z]; exact e, k⟩, fun a u x e => by
    rw [upd_ne (fun z => op u x (by rw [← z]; exact e))]; exact e⟩
theorem open_of {H : Hp} {p : Addr} {x : HO} (e : H p = some x) (n : ∀ o u, x ≠ .frz o u) : Open H p := fun o u z => n o u (Option.some.inj (e.symm.trans z))

theorem rd_some {H : Hp} {a : Addr} {u : HO} (h : Rd H a u) (n : nt u = true := by rfl) : ∃ o, H a = some o ∧ nt o = true := by
  rcases h with h | ⟨o, h⟩
  · exact ⟨_, h, n⟩
  · exact ⟨_, h, rfl⟩
theorem Grow.rd {ρ ρ' : List Addr} {H H' : Hp} (g : Grow ρ H ρ' H') {a : Addr} {u : HO} (na : a ∉ ρ) (h : Rd H a u) (n : nt u = true := by rfl) : Rd H' a u := by
  rcases h with h | ⟨o, h⟩
  · exact .inl (g.same _ _ na h n)
  · exact .inr ⟨o, g.same _ _ na h⟩
section
variable {K : PySem.W.Frag} {ρ ρ' η η' : List Addr} {H H' : Hp}
theorem TupAt.mono {a : Addr} {vs : List V} (g : Grow ρ H ρ' H') (h : TupAt K ρ η H a vs) : TupAt K ρ' η H' a vs := by
  rcases h with ⟨h1, h2, h3⟩ | h
  · obtain ⟨o, e, n⟩ := rd_some h3
    exact .inl ⟨g.out h1 e n, h2, g.rd h1 h3⟩
  · exact .inr h
theorem LstAt.mono {a : Addr} {vs : List V} (g : Grow ρ H ρ' H') (h : LstAt K ρ η H a vs) : LstAt K ρ' η H' a vs := by
  rcases h with ⟨h1, h2, h3⟩ | h
  · obtain ⟨o, e, n⟩ := rd_some h3
    exact .inl ⟨g.out h1 e n, h2, g.rd h1 h3⟩
  · exact .inr h
theorem TupAt.sq {a : Addr} {vs : List V} (h : TupAt K ρ η H a vs) : SqT K H a vs := h.imp (fun h => h.2.2) id
theorem LstAt.sq {a : Addr} {vs : List V} (h : LstAt K ρ η H a vs) : SqL K H a vs := h.imp (fun h => h.2.2) id
mutual
theorem VR.mono (g : Grow ρ H ρ' H') : ∀ {w : W} {v : V}, VR K ρ η H w v → VR K ρ' η H' w v
  | .non, _, h => h
  | .bl _, _, h => h
  | .int _, _, h => h
  | .str _, _, h => h
  | .ty _, _, h => h
  | .at_ _, _, h => h
  | .fn _ _ _ _, _, h => ⟨h.1, h.2.trans (GH.of g)⟩
  | .exc a d f w, v, h => by
    simp only [VR] at h ⊢
    obtain ⟨e, d1, d2, fs, u, x1, x2, r⟩ := h
    exact ⟨e, g.out d1 x1, d2, fs, u, g.same _ _ d1 x1, x2, VR.mono g r⟩
  | .ref i, v, h => by
    simp only [VR] at h ⊢
    obtain ⟨a, e, r⟩ := h
    exact ⟨a, g.at e, r⟩
  | .tup xs, v, h => by
    simp only [VR] at h ⊢
    obtain ⟨a, vs, e, t, r⟩ := h
    exact ⟨a, vs, e, t.mono g, VRs.mono g r⟩
  | .lst xs, v, h => by
    simp only [VR] at h ⊢
    obtain ⟨a, vs, e, ⟨t1, t2, t3⟩, r⟩ := h
    exact ⟨a, vs, e, ⟨g.out t1 t3, t2, g.same _ _ t1 t3⟩, VRs.mono g r⟩
  | .scr xs, v, h => by
    simp only [VR] at h ⊢
    obtain ⟨a, vs, e, t, r⟩ := h
    exact ⟨a, vs, e, t.mono g, VRs.mono g r⟩
theorem VRs.mono (g : Grow ρ H ρ' H') : ∀ {ws : List W} {vs : List V}, VRs K ρ η H ws vs → VRs K ρ' η H' ws vs
  | [], _, h => by simpa only [VRs] using h
  | x :: xs, vs, h => by
    simp only [VRs] at h ⊢
    obtain ⟨v, r, e, h1, h2⟩ := h
    exact ⟨v, r, e, VR.mono g h1, VRs.mono g h2⟩
end
/-- fewer hidden ones -/
theorem TupAt.less {a : Addr} {vs : List V} (g : ∀ b ∈ η', b ∈ η) (h : TupAt K ρ η H a vs) : TupAt K ρ η' H a vs := h.imp (fun h => ⟨h.1, fun z => h.2.1 (g _ z), h.2.2⟩) id
theorem LstAt.less {a : Addr} {vs : List V} (g : ∀ b ∈ η', b ∈ η) (h : LstAt K ρ η H a vs) : LstAt K ρ η' H a vs := h.imp (fun h => ⟨h.1, fun z => h.2.1 (g _ z), h.2.2⟩) id
mutual
theorem VR.less (g : ∀ b ∈ η', b ∈ η) : ∀ {w : W} {v : V}, VR K ρ η H w v → VR K ρ η' H w v
  | .non, _, h => h
  | .bl _, _, h => h
  | .int _, _, h => h
  | .str _, _, h => h
  | .ty _, _, h => h
  | .at_ _, _, h => h
  | .fn _ _ _ _, _, h => ⟨h.1, h.2.trans (GH.less g)⟩
  | .exc a d f w, v, h => by
    simp only [VR] at h ⊢
    obtain ⟨e, d1, d2, fs, u, x1, x2, r⟩ := h
    exact ⟨e, d1, fun z => d2 (g _ z), fs, u, x1, x2, VR.less g r⟩
  | .ref i, v, h => by
    simp only [VR] at h ⊢
    exact h
  | .tup xs, v, h => by
    simp only [VR] at h ⊢
    obtain ⟨a, vs, e, t, r⟩ := h
    exact ⟨a, vs, e, t.less g, VRs.less g r⟩
  | .lst xs, v, h => by
    simp only [VR] at h ⊢
    obtain ⟨a, vs, e, ⟨t1, t2, t3⟩, r⟩ := h
    exact ⟨a, vs, e, ⟨t1, fun z => t2 (g _ z), t3⟩, VRs.less g r⟩
  | .scr xs, v, h => by
    simp only [VR] at h ⊢
    obtain ⟨a, vs, e, t, r⟩ := h
    exact ⟨a, vs, e, t.less g, VRs.less g r⟩
theorem VRs.less (g : ∀ b ∈ η', b ∈ η) : ∀ {ws : List W} {vs : List V}, VRs K ρ η H ws vs → VRs K ρ η' H ws vs
  | [], _, h => by simpa only [VRs] using h
  | x :: xs, vs, h => by
    simp only [VRs] at h ⊢
    obtain ⟨v, r, e, h1, h2⟩ := h
    exact ⟨v, r, e, VR.less g h1, VRs.less g h2⟩
end
/-- a new hidden object D, or one that changes -/
theorem TupAt.hide {a D : Addr} {o : HO} {vs : List V} (n : H D = none ∨ D ∈ η) (h : TupAt K ρ η H a vs) : TupAt K ρ (D :: η) (upd H D o) a vs := by
  rcases h with ⟨h1, h2, h3⟩ | h
  · have ne : a ≠ D := by
      rintro rfl
      rcases n with n | n
      · obtain ⟨o, e, _⟩ := rd_some h3
        rw [n] at e; cases e
      · exact h2 n
    refine .inl ⟨h1, by simp [ne, h2], ?_⟩
    rcases h3 with e | ⟨o, e⟩
    · exact .inl (by rw [upd_ne ne]; exact e)
    · exact .inr ⟨o, by rw [upd_ne ne]; exact e⟩
  · exact .inr h
theorem LstAt.hide {a D : Addr} {o : HO} {vs : List V} (n : H D = none ∨ D ∈ η) (h : LstAt K ρ η H a vs) : LstAt K ρ (D :: η) (upd H D o) a vs := by
  rcases h with ⟨h1, h2, h3⟩ | h
  · have ne : a ≠ D := by
      rintro rfl
      rcases n with n | n
      · obtain ⟨o, e, _⟩ := rd_some h3
        rw [n] at e; cases e
      · exact h2 n
    refine .inl ⟨h1, by simp [ne, h2], ?_⟩
    rcases h3 with e | ⟨o, e⟩
    · exact .inl (by rw [upd_ne ne]; exact e)
    · exact .inr ⟨o, by rw [upd_ne ne]; exact e⟩
  · exact .inr h
mutual
theorem VR.hide {D : Addr} {o : HO} (n : H D = none ∨ D ∈ η) : ∀ {w : W} {v : V}, VR K ρ η H w v → VR K ρ (D :: η) (upd H D o) w v
  | .non, _, h => h
  | .bl _, _, h => h
  | .int _, _, h => h
  | .str _, _, h => h
  | .ty _, _, h => h
  | .at_ _, _, h => h
  | .fn _ _ _ _, _, h => ⟨h.1, h.2.trans (GH.hide n)⟩
  | .exc a d f w, v, h => by
    simp only [VR] at h ⊢
    obtain ⟨e, d1, d2, fs, u, x1, x2, r⟩ := h
    have ne : d ≠ D := by
      rintro rfl
      rcases n with n | n
      · rw [n] at x1; cases x1
      · exact d2 n
    exact ⟨e, d1, by simp [ne, d2], fs, u, by rw [upd_ne ne]; exact x1, x2, VR.hide n r⟩
  | .ref i, v, h => by
    simp only [VR] at h ⊢
    exact h
  | .tup xs, v, h => by
    simp only [VR] at h ⊢
    obtain ⟨a, vs, e, t, r⟩ := h
    exact ⟨a, vs, e, t.hide n, VRs.hide n r⟩
  | .lst xs, v, h => by
    simp only [VR] at h ⊢
    obtain ⟨a, vs, e, ⟨t1, t2, t3⟩, r⟩ := h
    have ne : a ≠ D := by
      rintro rfl
      rcases n with n | n
      · rw [n] at t3; cases t3
      · exact t2 n
    exact ⟨a, vs, e, ⟨t1, by simp [ne, t2], by rw [upd_ne ne]; exact t3⟩, VRs.hide n r⟩
  | .scr xs, v, h => by
    simp only [VR] at h ⊢
    obtain ⟨a, vs, e, t, r⟩ := h
    exact ⟨a, vs, e, t.hide n, VRs.hide n r⟩
theorem VRs.hide {D : Addr} {o : HO} (n : H D = none ∨ D ∈ η) : ∀ {ws : List W} {vs : List V}, VRs K ρ η H ws vs → VRs K ρ (D :: η) (upd H D o) ws vs
  | [], _, h => by simpa only [VRs] using h
  | x :: xs, vs, h => by
    simp only [VRs] at h ⊢
    obtain ⟨v, r, e, h1, h2⟩ := h
    exact ⟨v, r, e, VR.hide n h1, VRs.hide n h2⟩
end
theorem VRs.append : ∀ {xs ys : List W} {vs us : List V}, VRs K ρ η H xs vs → VRs K ρ η H ys us → VRs K ρ η H (xs ++ ys) (vs ++ us)
  | [], _, _, _, h, k => by
    simp only [VRs] at h
    subst h
    exact k
  | x :: xs, _, _, _, h, k => by
    simp only [VRs, List.cons_append] at h ⊢
    obtain ⟨v, r, e, h1, h2⟩ := h
    exact ⟨v, r ++ _, by rw [e]; rfl, h1, h2.append k⟩
theorem VRs.len : ∀ {xs : List W} {vs : List V}, VRs K ρ η H xs vs → vs.length = xs.length
  | [], _, h => by
    simp only [VRs] at h
    subst h
    rfl
  | x :: xs, _, h => by
    simp only [VRs] at h
    obtain ⟨v, r, e, h1, h2⟩ := h
    rw [e, List.length_cons, List.length_cons, h2.len]
theorem VRs.get : ∀ {xs : List W} {vs : List V} {i : Nat} {x : W}, VRs K ρ η H xs vs → xs[i]? = some x → ∃ v, vs[i]? = some v ∧ VR K ρ η H x v
  | [], _, _, _, _, e => by simp at e
  | x :: xs, _, 0, _, h, e => by
    simp only [VRs] at h
    obtain ⟨v, r, e', h1, h2⟩ := h
    simp at e
    subst e
    exact ⟨v, by rw [e']; rfl, h1⟩
  | x :: xs, _, i + 1, y, h, e => by
    simp only [VRs] at h
    obtain ⟨v, r, e', h1, h2⟩ := h
    obtain ⟨u, q, k⟩ := h2.get (i := i) (x := y) (by simpa using e)
    exact ⟨u, by rw [e']; simpa using q, k⟩
theorem VRs.of_get : ∀ {xs : List W} {vs : List V}, vs.length = xs.length → (∀ (i : Nat) (x : W) (v : V), xs[i]? = some x → vs[i]? = some v → VR K ρ η H x v) → VRs K ρ η H xs vs
  | [], vs, l, _ => by
    simp only [VRs]
    exact List.eq_nil_of_length_eq_zero l
  | x :: xs, [], l, _ => by simp at l
  | x :: xs, v :: vs, l, h => by
    simp only [VRs]
    exact ⟨v, vs, rfl, h 0 x v rfl rfl, VRs.of_get (by simpa using l) fun i y u a b => h (i + 1) y u (by simpa using a) (by simpa using b)⟩
theorem VRs.nil : VRs K ρ η H [] [] := by simp only [VRs]
theorem VRs.cons {x : W} {xs : List W} {v : V} {vs : List V} (a : VR K ρ η H x v) (b : VRs K ρ η H xs vs) : VRs K ρ η H (x :: xs) (v :: vs) := by
  simp only [VRs]
  exact ⟨v, vs, rfl, a, b⟩
theorem VRs.set {x : W} {v : V} (a : VR K ρ η H x v) {xs : List W} {vs : List V} (i : Nat) (h : VRs K ρ η H xs vs) : VRs K ρ η H (xs.set i x) (vs.set i v) := by
  refine .of_get (by simp [h.len]) fun j y u e f => ?_
  rw [List.getElem?_set] at e f
  rw [h.len] at f
  split at e
  · rename_i q
    subst q
    split at e
    · rename_i q
      rw [if_pos q] at f
      simp at e f
      subst e; subst f
      exact a
    · simp at e
  · rename_i q
    rw [if_neg q] at f
    obtain ⟨z, h1, h2⟩ := h.get e
    rw [f] at h1
    cases h1
    exact h2
theorem VRs.take (n : Nat) {xs : List W} {vs : List V} (h : VRs K ρ η H xs vs) : VRs K ρ η H (xs.take n) (vs.take n) := by
  refine .of_get (by simp [h.len]) fun j y u e f => ?_
  rw [List.getElem?_take] at e f
  split at e
  · rename_i q
    rw [if_pos q] at f
    obtain ⟨z, h1, h2⟩ := h.get e
    rw [f] at h1
    cases h1
    exact h2
  · simp at e
theorem VRs.drop (n : Nat) {xs : List W} {vs : List V} (h : VRs K ρ η H xs vs) : VRs K ρ η H (xs.drop n) (vs.drop n) := by
  refine .of_get (by simp [h.len]) fun j y u e f => ?_
  rw [List.getElem?_drop] at e f
  obtain ⟨z, h1, h2⟩ := h.get e
  rw [f] at h1
  cases h1
  exact h2
end
end Mi
namespace Mi
open PySem L2

section
variable (K : PySem.W.Frag) (T : Nat → Addr)
/-- a def's table of code objects, at a -/
def TbR (T : Nat → Addr) (ρ η : List Addr) (H : Hp) (a : Addr) (j : Nat) (q : Str) : Prop := a = T (1000 + j) ∧ ∃ ps : Array Value, H a = some (.tbl ps) ∧ TriplesOk ps.toList ∧ ∀ (pos : Pos) (cv : Value), codeAmong pos ps.toList = some cv → ∃ c : Addr, cv = .ref c ∧ c ∉ ρ ∧ c ∉ η ∧ H c = some (LamX.CodeO c q)
/-- a store's object as it stands at a -/
def NR (ρ η : List Addr) (H : Hp) (a : Addr) : Nd → Prop
  | .lst xs => ∃ vs, H a = some (.lst vs) ∧ VRs K ρ η H xs vs
  | .dk kvs => ∃ kv : List (Key × V), H a = some (.dK kv) ∧ kv.map (·.1) = kvs.map (·.1) ∧ VRs K ρ η H (kvs.map (·.2)) (kv.map (·.2))
  | .lk kvs => ∃ (od : Obj) (kv : List (Key × V)), H a = some (.frz od (.dK kv)) ∧ kv.map (·.1) = kvs.map (·.1) ∧ VRs K ρ η H (kvs.map (·.2)) (kv.map (·.2))
  | .ins c fs => ∃ (dx : Addr) (fv : List (Str × V)), H a = some (.ins (T c) dx fv) ∧ fv.map (·.1) = fs.map (·.1) ∧ VRs K ρ η H (fs.map (·.2)) (fv.map (·.2))
  | .tb j q => TbR T ρ η H a j q
structure SR (ρ η : List Addr) (st : Sto) (H : Hp) : Prop where
  nd : ρ.Nodup
  len : ρ.length = st.length
  hid : ∀ a ∈ η, a ∉ ρ
  has : ∀ a ∈ η, ∃ o, H a = some o ∧ plO o = true
  at_ : ∀ (i : Nat) (n : Nd) (a : Addr), st[i]? = some n → ρ[i]? = some a → NR K T ρ η H a n
/-- the names' values -/
def ER (ρ η : List Addr) (H : Hp) (env : Ev) (σ : St) : Prop := σ.length = env.length ∧ ∀ (i : Nat) (w : W), env[i]? = some (some w) → ∃ v, σ[i]? = some (some v) ∧ VR K ρ η H w v
def XR (ρ η : List Addr) (H : Hp) : Xc → Value → Option Addr → Prop
  | .plain n, c, d => c = .ref (T n) ∧ d = none
  | .one n f w, c, d => c = .ref (T n) ∧ ∃ dd, d = some dd ∧ (dd ∉ ρ ∧ dd ∉ η ∧ ∃ fs u, H dd = some (.xd fs) ∧ fs.lookup f = some u ∧ VR K ρ η H w u)
/-- what follows upon an answer -/
def After {α β : Type} (η : List Addr) (R : List Addr → Hp → α → β → Prop) (ρ : List Addr) (H : Hp) (r : Rs α) (Q : β → Hp → Prop) (E : Value → Option Addr → Hp → Prop) : Prop :=
  match r with
  | .ok w st => ∀ ρ' H' v, Grow ρ H ρ' H' → SR K T ρ' η st H' → R ρ' H' w v → Q v H'
  | .ex x st => ∀ ρ' H' c d, Grow ρ H ρ' H' → SR K T ρ' η st H' → XR K T ρ' η H' x c d → E c d H'
  | .stuck => False
end
section
variable {K : PySem.W.Frag} {T : Nat → Addr} {ρ ρ' η : List Addr} {H H' : Hp} {st : Sto}
theorem TbR.mono {a : Addr} {j : Nat} {q : Str} (g : Grow ρ H ρ' H') (k : H' a = H a) (h : TbR T ρ η H a j q) : TbR T ρ' η H' a j q := by
  obtain ⟨e, ps, h1, h2, h3⟩ := h
  refine ⟨e, ps, k.trans h1, h2, fun pos cv z => ?_⟩
  obtain ⟨c, c1, c2, c3, c4⟩ := h3 pos cv z
  exact ⟨c, c1, g.out c2 c4, c3, g.same c _ c2 c4⟩
theorem NR.mono {a : Addr} {n : Nd} (g : Grow ρ H ρ' H') (k : H' a = H a) (h : NR K T ρ η H a n) : NR K T ρ' η H' a n := by
  cases n with
  | lst xs => obtain ⟨vs, e, r⟩ := h; exact ⟨vs, k.trans e, r.mono g⟩
  | dk kvs => obtain ⟨kv, e, q, r⟩ := h; exact ⟨kv, k.trans e, q, r.mono g⟩
  | lk kvs => obtain ⟨od, kv, e, q, r⟩ := h; exact ⟨od, kv, k.trans e, q, r.mono g⟩
  | ins c fs => obtain ⟨dx, fv, e, q, r⟩ := h; exact ⟨dx, fv, k.trans e, q, r.mono g⟩
  | tb p q => exact TbR.mono g k h
theorem ER.mono {env : Ev} {σ : St} (g : Grow ρ H ρ' H') (h : ER K ρ η H env σ) : ER K ρ' η H' env σ := ⟨h.1, fun i w e => by
  obtain ⟨v, q, r⟩ := h.2 i w e
  exact ⟨v, q, r.mono g⟩⟩
theorem ER.set {env : Ev} {σ : St} {i : Nat} {w : W} {v : V} (h : ER K ρ η H env σ) (r : VR K ρ η H w v) : ER K ρ η H (env.set i (some w)) (σ.set i (some v)) := ⟨by simp [h.1], fun j u e => by
  rw [List.getElem?_set] at e ⊢
  split at e
  · rename_i q
    rw [if_pos q]
    split at e
    · rename_i q2
      rw [h.1, if_pos q2]
      cases e
      exact ⟨v, rfl, r⟩
    · cases e
  · rename_i q
    rw [if_neg q]
    exact h.2 j u e⟩
/-- a new object that is no place -/
theorem SR.new {p : Addr} {o : HO} (h : SR K T ρ η st H) (n : H p = none) (np : ∀ (i : Nat) (a : Addr), ρ[i]? = some a → a ≠ p) : SR K T ρ η st (upd H p o) :=
  ⟨h.nd, h.len, h.hid, fun a ha => by
    obtain ⟨u, e, pl⟩ := h.has a ha
    exact ⟨u, by rw [upd_ne (ne_of_none e n)]; exact e, pl⟩, fun i nd a e q => (h.at_ i nd a e q).mono (Grow.new n) (upd_ne (np i a q))⟩
theorem SR.there {i : Nat} {a : Addr} (h : SR K T ρ η st H) (q : ρ[i]? = some a) : ∃ o, H a = some o := by
  have hi : i < st.length := by rw [← h.len]; exact (List.getElem?_eq_some_iff.mp q).1
  have k := h.at_ i _ a (List.getElem?_eq_getElem hi) q
  cases e : st[i] with
  | lst xs => rw [e] at k; obtain ⟨vs, z, _⟩ := k; exact ⟨_, z⟩
  | dk xs => rw [e] at k; obtain ⟨vs, z, _⟩ := k; exact ⟨_, z⟩
  | lk xs => rw [e] at k; obtain ⟨od, vs, z, _⟩ := k; exact ⟨_, z⟩
  | ins c xs => rw [e] at k; obtain ⟨dx, vs, z, _⟩ := k; exact ⟨_, z⟩
  | tb p q => rw [e] at k; obtain ⟨_, ps, z, _⟩ := k; exact ⟨_, z⟩
theorem SR.new' {p : Addr} {o : HO} (h : SR K T ρ η st H) (n : H p = none) : SR K T ρ η st (upd H p o) := h.new n fun i a q z => by
  obtain ⟨u, e⟩ := h.there q
  rw [z, n] at e; cases e
theorem SR.fresh {p : Addr} (h : SR K T ρ η st H) (n : H p = none) : p ∉ ρ := fun z => by
  obtain ⟨i, hi⟩ := List.getElem?_of_mem z
  obtain ⟨u, e⟩ := h.there hi
  rw [n] at e; cases e
theorem SR.freshH {p : Addr} (h : SR K T ρ η st H) (n : H p = none) : p ∉ η := fun z => by
  obtain ⟨u, e, _⟩ := h.has p z
  rw [n] at e; cases e
/-- a new place -/
theorem SR.node {p : Addr} {o : HO} {nd : Nd} (h : SR K T ρ η st H) (n : H p = none) (k : NR K T (ρ ++ [p]) η (upd H p o) p nd) : SR K T (ρ ++ [p]) η (st ++ [nd]) (upd H p o) := by
  refine ⟨?_, by simp [h.len], fun a ha z => ?_, fun a ha => ?_, fun i m a e q => ?_⟩
  · rw [List.nodup_append]
    exact ⟨h.nd, by simp, fun a ha b hb z => by
      rw [List.mem_singleton] at hb
      subst hb; subst z
      exact h.fresh n ha⟩
  · rcases List.mem_append.mp z with z | z
    · exact h.hid a ha z
    · rw [List.mem_singleton] at z
      subst z
      exact h.freshH n ha
  · obtain ⟨u, e, pl⟩ := h.has a ha
    exact ⟨u, by rw [upd_ne (ne_of_none e n)]; exact e, pl⟩
  · by_cases hi : i < st.length
    · rw [List.getElem?_append_left hi] at e
      rw [List.getElem?_append_left (by rw [h.len]; exact hi)] at q
      obtain ⟨u, z⟩ := h.there q
      exact (h.at_ i m a e q).mono (Grow.node n) (upd_ne (ne_of_none z n))
    · have l1 := (List.getElem?_eq_some_iff.mp e).1
      have hi2 : i = st.length := by
        rw [List.length_append, List.length_singleton] at l1
        omega
      subst hi2
      rw [List.getElem?_append_right (Nat.le_refl _)] at e
      rw [List.getElem?_append_right (by rw [h.len]; exact Nat.le_refl _)] at q
      simp at e
      simp [h.len] at q
      subst e; subst q
      exact k
/-- a place changes -/
theorem SR.write {p : Addr} {o : HO} {nd : Nd} {i : Nat} (h : SR K T ρ η st H) (op : Open H p) (q : ρ[i]? = some p) (k : NR K T ρ η (upd H p o) p nd) (nn : nt o = true := by rfl) : SR K T ρ η (st.set i nd) (upd H p o) := by
  have hp : p ∈ ρ := List.mem_of_getElem? q
  refine ⟨h.nd, by simp [h.len], h.hid, fun a ha => ?_, fun j m a e r => ?_⟩
  · obtain ⟨u, e, pl⟩ := h.has a ha
    exact ⟨u, by rw [upd_ne (fun z => h.hid a ha (by rw [z]; exact hp))]; exact e, pl⟩
  · rw [List.getElem?_set] at e
    split at e
    · rename_i z
      subst z
      rw [q] at r
      cases r
      split at e
      · cases e
        exact k
      · cases e
    · rename_i z
      have ne : a ≠ p := by
        rintro rfl
        have l1 := (List.getElem?_eq_some_iff.mp q)
        have l2 := (List.getElem?_eq_some_iff.mp r)
        obtain ⟨b1, c1⟩ := l1
        obtain ⟨b2, c2⟩ := l2
        exact z ((List.getElem_inj h.nd).mp (c1.trans c2.symm))
      exact (h.at_ j m a e r).mono (Grow.write hp op nn) (upd_ne ne)

theorem After.grow {α β : Type} {R : List Addr → Hp → α → β → Prop} {r : Rs α} {Q : β → Hp → Prop} {E : Value → Option Addr → Hp → Prop} (g : Grow ρ H ρ' H') (h : After K T η R ρ H r Q E) : After K T η R ρ' H' r Q E := by
  cases r with
  | ok w s => exact fun ρ2 H2 v g2 => h ρ2 H2 v (g.trans g2)
  | ex x s => exact fun ρ2 H2 c d g2 => h ρ2 H2 c d (g.trans g2)
  | stuck => exact h
theorem After.bind {α β γ δ : Type} {R : List Addr → Hp → α → β → Prop} {R' : List Addr → Hp → γ → δ → Prop} {r : Rs α} {k : α → Sto → Rs γ} {Q : δ → Hp → Prop} {Q1 : β → Hp → Prop} {E : Value → Option Addr → Hp → Prop} (h : After K T η R' ρ H (r.bind k) Q E)
    (f : ∀ w st1 ρ1 H1 v, Grow ρ H ρ1 H1 → SR K T ρ1 η st1 H1 → R ρ1 H1 w v → After K T η R' ρ1 H1 (k w st1) Q E → Q1 v H1) : After K T η R ρ H r Q1 E := by
  cases r with
  | ok w s => exact fun ρ1 H1 v g s1 r1 => f w s ρ1 H1 v g s1 r1 (After.grow g h)
  | ex x s => exact h
  | stuck => exact h
theorem After.ok {α β : Type} {R : List Addr → Hp → α → β → Prop} {w : α} {Q : β → Hp → Prop} {E : Value → Option Addr → Hp → Prop} {v : β} (h : After K T η R ρ H (.ok w st) Q E) (s : SR K T ρ η st H) (r : R ρ H w v) : Q v H := h ρ H v Grow.refl s r
end

/-! ### what an expression does -/
abbrev M (α : Type) := Ev → Sto → Rs α
def tS (X : Cx) (e : Expr) : TE := fun σ H Q => ∃ t, PE X e t ∧ t σ H Q
theorem pe_S {X : Cx} {e : Expr} : PE X e (tS X e) := ⟨fun pins s σ H Q I ⟨_, h, q⟩ => h.run pins s σ H Q I q⟩
def tST (X : Cx) (e : Expr) : TT := fun σ H Q => ∃ t, PT X e t ∧ t σ H Q
theorem pt_S {X : Cx} {e : Expr} : PT X e (tST X e) := ⟨fun pins s σ H Q I ⟨_, h, q⟩ => h.run pins s σ H Q I q⟩
def tSW (X : Cx) (e : Expr) : TT := fun σ H Q => ∃ t, PW X e t ∧ t σ H Q
theorem pw_S {X : Cx} {e : Expr} : PW X e (tSW X e) := ⟨fun wh pins s σ H Q I ⟨_, h, q⟩ => h.run wh pins s σ H Q I q⟩
def tSA (X : Cx) (es : List Expr) : TA := fun σ H Q => ∃ t, PA X es t ∧ t σ H Q
theorem pa_S {X : Cx} {es : List Expr} : PA X es (tSA X es) := ⟨fun p pins s σ H Q I ⟨_, h, q⟩ => h.run p pins s σ H Q I q⟩
def tSS (X : Cx) (st : Stmt) : TS := fun D σ H => ∃ t, PS X st t ∧ t D σ H
theorem ps_S {X : Cx} {st : Stmt} : PS X st (tSS X st) := ⟨fun pins s σ H D I ⟨_, h, q⟩ => h.run pins s σ H D I q⟩
def tSSs (X : Cx) (st : List Stmt) : TS := fun D σ H => ∃ t, PSs X st t ∧ t D σ H
theorem pss_S {X : Cx} {st : List Stmt} : PSs X st (tSSs X st) := ⟨fun pins s σ H D I ⟨_, h, q⟩ => h.run pins s σ H D I q⟩

abbrev WX' := Value → Option Addr → St → Hp → Prop
section
variable (X : Cx) (T : Nat → Addr) (Wx : WX')
def SE (e : Expr) (m : M W) : Prop := ∀ ρ η st env σ H Q, SR X.K T ρ η st H → ER X.K ρ η H env σ → After X.K T η (fun ρ H => VR X.K ρ η H) ρ H (m env st) Q (fun c d H' => Wx c d σ H') → tS X e σ H Q
def STt (e : Expr) (m : M Bool) : Prop := ∀ ρ η st env σ H Q, SR X.K T ρ η st H → ER X.K ρ η H env σ → After X.K T η (fun _ _ => Eq) ρ H (m env st) Q (fun c d H' => Wx c d σ H') → tST X e σ H Q
def SWt (e : Expr) (m : M Bool) : Prop := ∀ ρ η st env σ H Q, SR X.K T ρ η st H → ER X.K ρ η H env σ → After X.K T η (fun _ _ => Eq) ρ H (m env st) Q (fun c d H' => Wx c d σ H') → tSW X e σ H Q
def SA (es : List Expr) (m : M (List W)) : Prop := ∀ ρ η st env σ H Q, SR X.K T ρ η st H → ER X.K ρ η H env σ → After X.K T η (fun ρ H => VRs X.K ρ η H) ρ H (m env st) Q (fun c d H' => Wx c d σ H') → tSA X es σ H Q
end
end Mi
namespace Mi
open PySem L2

/-! ### reading lists and tuples -/
def seqL (st : Sto) : W → Option (List W)
  | .lst xs => some xs
  | .scr xs => some xs
  | .ref i => match st[i]? with
    | some (.lst xs) => some xs
    | _ => none
  | _ => none
def trkL (st : Sto) : W → Option (List W)
  | .lst xs => some xs
  | .ref i => match st[i]? with
    | some (.lst xs) => some xs
    | _ => none
  | _ => none
def tupL : W → Option (List W)
  | .tup xs => some xs
  | _ => none
section
variable {K : PySem.W.Frag} {T : Nat → Addr} {ρ ρ' η : List Addr} {H H' : Hp} {st : Sto}
theorem node_at {i : Nat} {v : V} {n : Nd} (s : SR K T ρ η st H) (h : VR K ρ η H (.ref i) v) (e : st[i]? = some n) : ∃ a, v = .ref a ∧ ρ[i]? = some a ∧ NR K T ρ η H a n := by
  simp only [VR] at h
  obtain ⟨a, h1, h2⟩ := h
  exact ⟨a, h2, h1, s.at_ i n a e h1⟩
theorem trk_ok {w : W} {v : V} {xs : List W} (s : SR K T ρ η st H) (h : VR K ρ η H w v) (e : trkL st w = some xs) : ∃ a vs, v = .ref a ∧ H a = some (.lst vs) ∧ VRs K ρ η H xs vs := by
  cases w with
  | lst ys =>
    simp only [trkL, Option.some.injEq] at e
    subst e
    simp only [VR] at h
    obtain ⟨a, vs, h1, h2, h3⟩ := h
    exact ⟨a, vs, h1, h2.2.2, h3⟩
  | ref i =>
    simp only [trkL] at e
    split at e
    · rename_i ys q
      cases e
      obtain ⟨a, h1, _, h2⟩ := node_at s h q
      obtain ⟨vs, h3, h4⟩ := h2
      exact ⟨a, vs, h1, h3, h4⟩
    · cases e
  | _ => simp [trkL] at e
theorem seq_ok {w : W} {v : V} {xs : List W} (s : SR K T ρ η st H) (h : VR K ρ η H w v) (e : seqL st w = some xs) : ∃ a vs, v = .ref a ∧ SqL K H a vs ∧ VRs K ρ η H xs vs := by
  cases w with
  | lst ys =>
    obtain ⟨a, vs, h1, h2, h3⟩ := trk_ok s h (show trkL st (.lst ys) = some xs from e)
    exact ⟨a, vs, h1, SqL.of h2, h3⟩
  | ref i =>
    obtain ⟨a, vs, h1, h2, h3⟩ := trk_ok s h (show trkL st (.ref i) = some xs from e)
    exact ⟨a, vs, h1, SqL.of h2, h3⟩
  | scr ys =>
    simp only [seqL, Option.some.injEq] at e
    subst e
    simp only [VR] at h
    obtain ⟨a, vs, h1, h2, h3⟩ := h
    exact ⟨a, vs, h1, h2.sq, h3⟩
  | _ => simp [seqL] at e
theorem tup_ok {w : W} {v : V} {xs : List W} (h : VR K ρ η H w v) (e : tupL w = some xs) : ∃ a vs, v = .ref a ∧ SqT K H a vs ∧ VRs K ρ η H xs vs := by
  cases w with
  | tup ys =>
    simp only [tupL, Option.some.injEq] at e
    subst e
    simp only [VR] at h
    obtain ⟨a, vs, h1, h2, h3⟩ := h
    exact ⟨a, vs, h1, h2.sq, h3⟩
  | _ => simp [tupL] at e
end

/-! ### new lists and tuples -/
def newL (fz : Bool) (xs : List W) (st : Sto) : Rs W := if fz then .ok (.lst xs) st else .ok (.ref st.length) (st ++ [.lst xs])
section
variable {K : PySem.W.Frag} {T : Nat → Addr} {ρ ρ' η : List Addr} {H H' : Hp} {st : Sto} {Q : V → Hp → Prop} {E : Value → Option Addr → Hp → Prop}
theorem newL_ok {fz : Bool} {xs : List W} {vs : List V} {p : Addr} (h : After K T η (fun ρ H => VR K ρ η H) ρ H (newL fz xs st) Q E) (s : SR K T ρ η st H) (r : VRs K ρ η H xs vs) (n : H p = none) : Q (.ref p) (upd H p (.lst vs)) := by
  unfold newL at h
  cases fz with
  | true =>
    refine h ρ _ _ (Grow.new n) (s.new' n) ?_
    simp only [VR]
    exact ⟨p, vs, rfl, ⟨s.fresh n, s.freshH n, upd_same⟩, r.mono (Grow.new n)⟩
  | false =>
    refine h (ρ ++ [p]) _ _ (Grow.node n) (s.node n ⟨vs, upd_same, r.mono (Grow.node n)⟩) ?_
    simp only [VR]
    exact ⟨p, by rw [← s.len, List.getElem?_append_right (Nat.le_refl _)]; simp, rfl⟩
theorem newT_ok {xs : List W} {vs : List V} {p : Addr} (h : After K T η (fun ρ H => VR K ρ η H) ρ H (.ok (.tup xs) st) Q E) (s : SR K T ρ η st H) (r : VRs K ρ η H xs vs) (n : H p = none) : Q (.ref p) (upd H p (.tup vs)) := by
  refine h ρ _ _ (Grow.new n) (s.new' n) ?_
  simp only [VR]
  exact ⟨p, vs, rfl, .inl ⟨s.fresh n, s.freshH n, .inl upd_same⟩, r.mono (Grow.new n)⟩
end

/-! ### operators by values -/
abbrev F2 := W → W → Sto → Rs W
def OkR (K : PySem.W.Frag) (T : Nat → Addr) (f : F2) (r : R2) : Prop := ∀ ρ η st H a b x y Q E, SR K T ρ η st H → VR K ρ η H a x → VR K ρ η H b y → After K T η (fun ρ H => VR K ρ η H) ρ H (f a b st) Q E → r x y H Q
def rOr (r r' : R2) : R2 := fun x y H Q => r x y H Q ∨ r' x y H Q
theorem opr_or {X : Cx} {f : Value → Value → Sem Value} {r r' : R2} (h : OpR X f r) (h' : OpR X f r') : OpR X f (rOr r r') := fun pins s σ H x y v u Q I a b q => by
  rcases q with q | q
  · exact h pins s σ H x y v u Q I a b q
  · exact h' pins s σ H x y v u Q I a b q

def wAdd (fz : Bool) : F2 := fun a b st => match a, b with
  | .int i, .int j => .ok (.int (i + j)) st
  | .str x, .str y => if x.length + y.length ≤ sizeLine then .ok (.str (x ++ y)) st else .stuck
  | .tup xs, .tup ys => if xs.length + ys.length ≤ sizeLine then .ok (.tup (xs ++ ys)) st else .stuck
  | a, b => match trkL st a, trkL st b with
    | some xs, some ys => if xs.length + ys.length ≤ sizeLine then newL fz (xs ++ ys) st else .stuck
    | _, _ => .stuck
def wSub : F2 := fun a b st => match a, b with
  | .int i, .int j => .ok (.int (i - j)) st
  | _, _ => .stuck
def small64 (i : Int) : Bool := decide (i.natAbs < 2 ^ 64)
theorem small64_of {i : Int} (h : small64 i = true) : -(2 ^ 64) < i ∧ i < 2 ^ 64 := by
  simp only [small64, decide_eq_true_eq] at h
  omega
def wMul (fz : Bool) : F2 := fun a b st => match a, b with
  | .int i, .int j => if small64 i || small64 j then .ok (.int (i * j)) st else .stuck
  | a, .int k => match trkL st a with
    | some xs => if k.natAbs < 2 ^ 63 ∧ xs.length * k.toNat ≤ sizeLine then newL fz (List.replicate k.toNat xs).flatten st else .stuck
    | none => .stuck
  | _, _ => .stuck
def wDiv : F2 := fun a b st => match a, b with
  | .int i, .int j => if j ≠ 0 ∧ j.natAbs < 1073741824 then .ok (.int (i.fdiv j)) st else .stuck
  | _, _ => .stuck
def wMod : F2 := fun a b st => match a, b with
  | .int i, .int j => if j ≠ 0 then .ok (.int (i.fmod j)) st else .stuck
  | _, _ => .stuck
def wPow : F2 := fun a b st => match a, b with
  | .int i, .int j => if 0 ≤ j ∧ j.natAbs ≤ 1000000 ∧ i.natAbs < 2 ^ 64 then .ok (.int (i ^ j.toNat)) st else .stuck
  | _, _ => .stuck
section
variable {K : PySem.W.Frag} {T : Nat → Addr}
theorem VRs.flatrep {ρ η : List Addr} {H : Hp} {xs : List W} {vs : List V} (h : VRs K ρ η H xs vs) : ∀ n : Nat, VRs K ρ η H (List.replicate n xs).flatten (List.replicate n vs).flatten
  | 0 => by simpa using VRs.nil
  | n + 1 => by
    rw [List.replicate_succ, List.replicate_succ, List.flatten_cons, List.flatten_cons]
    exact h.append (VRs.flatrep h n)
theorem ok_add {fz : Bool} : OkR K T (wAdd fz) (rOr (rI0 fun i j => .int (i + j)) (rOr (fun x y H Q => ∃ i j, x = V.str i ∧ y = V.str j ∧ i.length + j.length ≤ sizeLine ∧ Q (V.str (i ++ j)) H) (rOr (rCatA K) rCat))) := by
  intro ρ η st H a b x y Q E s ha hb h
  unfold wAdd at h
  split at h
  · simp only [VR] at ha hb
    exact .inl ⟨_, _, ha, hb, h.ok s (by simp only [VR])⟩
  · split at h
    · rename_i q
      simp only [VR] at ha hb
      exact .inr (.inl ⟨_, _, ha, hb, q, h.ok s (by simp only [VR])⟩)
    · exact h.elim
  · split at h
    · rename_i xs ys q
      have hb2 := hb
      obtain ⟨p1, vs, e1, t1, r1⟩ := tup_ok ha rfl
      obtain ⟨p2, us, e2, t2, r2⟩ := tup_ok hb rfl
      refine .inr (.inr (.inl ⟨p1, p2, vs, us, e1, e2, t1, t2, by rw [r1.len, r2.len]; exact q, fun z => ?_, fun _ z => ?_, fun _ _ p n => newT_ok h s (r1.append r2) n⟩))
      · refine h.ok s ?_
        have l := r1.len
        rw [z] at l
        have e : xs = [] := List.eq_nil_of_length_eq_zero l.symm
        rw [e, List.nil_append, ← e2]
        exact hb2
      · refine h.ok s ?_
        have l := r2.len
        rw [z] at l
        have e : ys = [] := List.eq_nil_of_length_eq_zero l.symm
        rw [e, List.append_nil, ← e1]
        exact ha
    · exact h.elim
  · split at h
    · rename_i q1 q2
      obtain ⟨p1, vs, e1, t1, r1⟩ := trk_ok s ha q1
      obtain ⟨p2, us, e2, t2, r2⟩ := trk_ok s hb q2
      split at h
      · rename_i q
        exact .inr (.inr (.inr ⟨p1, p2, vs, us, e1, e2, t1, t2, by rw [r1.len, r2.len]; exact q, fun p n => newL_ok h s (r1.append r2) n⟩))
      · exact h.elim
    · exact h.elim
theorem ok_sub : OkR K T wSub (rI0 fun i j => .int (i - j)) := by
  intro ρ η st H a b x y Q E s ha hb h
  unfold wSub at h
  split at h
  · simp only [VR] at ha hb
    exact ⟨_, _, ha, hb, h.ok s (by simp only [VR])⟩
  · exact h.elim
theorem ok_mul {fz : Bool} : OkR K T (wMul fz) (rOr (rI CMul fun i j => .int (i * j)) rRep) := by
  intro ρ η st H a b x y Q E s ha hb h
  unfold wMul at h
  split at h
  · split at h
    · rename_i q
      simp only [VR] at ha hb
      refine .inl ⟨_, _, ha, hb, ?_, h.ok s (by simp only [VR])⟩
      simp only [Bool.or_eq_true] at q
      exact q.imp small64_of small64_of
    · exact h.elim
  · split at h
    · rename_i q1
      split at h
      · rename_i q
        obtain ⟨p1, vs, e1, t1, r1⟩ := trk_ok s ha q1
        simp only [VR] at hb
        exact .inr ⟨p1, _, vs, e1, hb, t1, by omega, by omega, by rw [r1.len]; exact q.2, fun p n => newL_ok h s (r1.flatrep _) n⟩
      · exact h.elim
    · exact h.elim
  · exact h.elim
theorem ok_div : OkR K T wDiv (rI CDivN fun i j => .int (i.fdiv j)) := by
  intro ρ η st H a b x y Q E s ha hb h
  unfold wDiv at h
  split at h
  · split at h
    · rename_i q
      simp only [VR] at ha hb
      exact ⟨_, _, ha, hb, q, h.ok s (by simp only [VR])⟩
    · exact h.elim
  · exact h.elim
theorem ok_mod : OkR K T wMod (rI (fun _ j => j ≠ 0) fun i j => .int (i.fmod j)) := by
  intro ρ η st H a b x y Q E s ha hb h
  unfold wMod at h
  split at h
  · split at h
    · rename_i q
      simp only [VR] at ha hb
      exact ⟨_, _, ha, hb, q, h.ok s (by simp only [VR])⟩
    · exact h.elim
  · exact h.elim
theorem ok_pow : OkR K T wPow (rI CPow fun i j => .int (i ^ j.toNat)) := by
  intro ρ η st H a b x y Q E s ha hb h
  unfold wPow at h
  split at h
  · split at h
    · rename_i q
      simp only [VR] at ha hb
      exact ⟨_, _, ha, hb, ⟨q.1, by omega, q.2.2⟩, h.ok s (by simp only [VR])⟩
    · exact h.elim
  · exact h.elim
end
end Mi
namespace Mi
open PySem L2

/-! ### equality -/
def scalV : W → Option V
  | .non => some .non
  | .bl b => some (.bl b)
  | .int i => some (.int i)
  | .str x => some (.str x)
  | _ => none
mutual
def toD0 : W → Option PyData
  | .non => some .none
  | .bl b => some (.bool b)
  | .int i => some (.int i)
  | .str x => some (.str x)
  | .tup xs => (toD0s xs).map .tuple
  | .lst xs => (toD0s xs).map .list
  | .scr xs => (toD0s xs).map .list
  | _ => none
def toD0s : List W → Option (List PyData)
  | [] => some []
  | x :: xs => match toD0 x, toD0s xs with
    | some d, some ds => some (d :: ds)
    | _, _ => none
end
mutual
def toD (st : Sto) : W → Option PyData
  | .non => some .none
  | .bl b => some (.bool b)
  | .int i => some (.int i)
  | .str x => some (.str x)
  | .tup xs => (toDs st xs).map .tuple
  | .lst xs => (toDs st xs).map .list
  | .scr xs => (toDs st xs).map .list
  | .ref i => match st[i]? with
    | some (.lst xs) => (toD0s xs).map .list
    | _ => none
  | _ => none
def toDs (st : Sto) : List W → Option (List PyData)
  | [] => some []
  | x :: xs => match toD st x, toDs st xs with
    | some d, some ds => some (d :: ds)
    | _, _ => none
end
section
variable {K : PySem.W.Frag} {T : Nat → Addr} {ρ η : List Addr} {H : Hp} {st : Sto}
theorem scal_ok {w : W} {v x : V} (h : VR K ρ η H w v) (e : scalV w = some x) : v = x := by
  cases w <;> simp [scalV] at e <;> subst e <;> simpa only [VR] using h
mutual
theorem toD0_ok : ∀ {w : W} {v : V} {d : PyData}, VR K ρ η H w v → toD0 w = some d → Dp K H v d
  | .non, v, d, h, e => by
    simp only [VR] at h; simp only [toD0, Option.some.injEq] at e; subst h; subst e; exact .non
  | .bl b, v, d, h, e => by
    simp only [VR] at h; simp only [toD0, Option.some.injEq] at e; subst h; subst e; exact .bl b
  | .int b, v, d, h, e => by
    simp only [VR] at h; simp only [toD0, Option.some.injEq] at e; subst h; subst e; exact .int b
  | .str b, v, d, h, e => by
    simp only [VR] at h; simp only [toD0, Option.some.injEq] at e; subst h; subst e; exact .str b
  | .tup xs, v, d, h, e => by
    simp only [VR] at h
    simp only [toD0, Option.map_eq_some_iff] at e
    obtain ⟨a, vs, h1, h2, h3⟩ := h
    obtain ⟨ds, e1, e2⟩ := e
    subst h1; subst e2
    exact .tup h2.sq (toD0s_ok h3 e1)
  | .lst xs, v, d, h, e => by
    simp only [VR] at h
    simp only [toD0, Option.map_eq_some_iff] at e
    obtain ⟨a, vs, h1, h2, h3⟩ := h
    obtain ⟨ds, e1, e2⟩ := e
    subst h1; subst e2
    exact .lst (SqL.of h2.2.2) (toD0s_ok h3 e1)
  | .scr xs, v, d, h, e => by
    simp only [VR] at h
    simp only [toD0, Option.map_eq_some_iff] at e
    obtain ⟨a, vs, h1, h2, h3⟩ := h
    obtain ⟨ds, e1, e2⟩ := e
    subst h1; subst e2
    exact .lst h2.sq (toD0s_ok h3 e1)
  | .ty n, v, d, h, e => by simp [toD0] at e
  | .ref n, v, d, h, e => by simp [toD0] at e
  | .at_ n, v, d, h, e => by simp [toD0] at e
  | .fn _ _ _ _, v, d, h, e => by simp [toD0] at e
  | .exc _ _ _ _, v, d, h, e => by simp [toD0] at e
theorem toD0s_ok : ∀ {ws : List W} {vs : List V} {ds : List PyData}, VRs K ρ η H ws vs → toD0s ws = some ds → DpAll K H vs ds
  | [], vs, ds, h, e => by
    simp only [VRs] at h; simp only [toD0s, Option.some.injEq] at e; subst h; subst e; exact .nil
  | x :: xs, vs, ds, h, e => by
    simp only [VRs] at h
    obtain ⟨v, r, h1, h2, h3⟩ := h
    simp only [toD0s] at e
    split at e
    · rename_i d ds' q1 q2
      cases e
      subst h1
      exact .cons (toD0_ok h2 q1) (toD0s_ok h3 q2)
    · cases e
end
mutual
theorem toD_ok (s : SR K T ρ η st H) : ∀ {w : W} {v : V} {d : PyData}, VR K ρ η H w v → toD st w = some d → Dp K H v d
  | .non, v, d, h, e => by
    simp only [VR] at h; simp only [toD, Option.some.injEq] at e; subst h; subst e; exact .non
  | .bl b, v, d, h, e => by
    simp only [VR] at h; simp only [toD, Option.some.injEq] at e; subst h; subst e; exact .bl b
  | .int b, v, d, h, e => by
    simp only [VR] at h; simp only [toD, Option.some.injEq] at e; subst h; subst e; exact .int b
  | .str b, v, d, h, e => by
    simp only [VR] at h; simp only [toD, Option.some.injEq] at e; subst h; subst e; exact .str b
  | .tup xs, v, d, h, e => by
    simp only [VR] at h
    simp only [toD, Option.map_eq_some_iff] at e
    obtain ⟨a, vs, h1, h2, h3⟩ := h
    obtain ⟨ds, e1, e2⟩ := e
    subst h1; subst e2
    exact .tup h2.sq (toDs_ok s h3 e1)
  | .lst xs, v, d, h, e => by
    simp only [VR] at h
    simp only [toD, Option.map_eq_some_iff] at e
    obtain ⟨a, vs, h1, h2, h3⟩ := h
    obtain ⟨ds, e1, e2⟩ := e
    subst h1; subst e2
    exact .lst (SqL.of h2.2.2) (toDs_ok s h3 e1)
  | .scr xs, v, d, h, e => by
    simp only [VR] at h
    simp only [toD, Option.map_eq_some_iff] at e
    obtain ⟨a, vs, h1, h2, h3⟩ := h
    obtain ⟨ds, e1, e2⟩ := e
    subst h1; subst e2
    exact .lst h2.sq (toDs_ok s h3 e1)
  | .ty n, v, d, h, e => by simp [toD] at e
  | .at_ n, v, d, h, e => by simp [toD] at e
  | .fn _ _ _ _, v, d, h, e => by simp [toD] at e
  | .exc _ _ _ _, v, d, h, e => by simp [toD] at e
  | .ref i, v, d, h, e => by
    simp only [toD] at e
    split at e
    · rename_i xs q
      obtain ⟨a, h1, _, vs, h2, h3⟩ := node_at s h q
      simp only [Option.map_eq_some_iff] at e
      obtain ⟨ds, e1, e2⟩ := e
      subst h1; subst e2
      exact .lst (SqL.of h2) (toD0s_ok h3 e1)
    · cases e
theorem toDs_ok (s : SR K T ρ η st H) : ∀ {ws : List W} {vs : List V} {ds : List PyData}, VRs K ρ η H ws vs → toDs st ws = some ds → DpAll K H vs ds
  | [], vs, ds, h, e => by
    simp only [VRs] at h; simp only [toDs, Option.some.injEq] at e; subst h; subst e; exact .nil
  | x :: xs, vs, ds, h, e => by
    simp only [VRs] at h
    obtain ⟨v, r, h1, h2, h3⟩ := h
    simp only [toDs] at e
    split at e
    · rename_i d ds' q1 q2
      cases e
      subst h1
      exact .cons (toD_ok s h2 q1) (toDs_ok s h3 q2)
    · cases e
end
end
/-- whether two things are equal, where this is carried -/
def eqWD (st : Sto) (a b : W) : Option Bool := match toD st a, toD st b with
  | some d, some e => if SeqAt.shaped d && SeqAt.shaped e then some (d.eqv e) else none
  | _, _ => none
def eqW (st : Sto) (a b : W) : Option Bool :=
  match scalV a, scalV b with
  | some x, some y => if scal x y then some (decide (x = y)) else eqWD st a b
  | _, _ => eqWD st a b
def wEq : F2 := fun a b st => match eqW st a b with
  | some c => .ok (.bl c) st
  | none => .stuck
def wNe : F2 := fun a b st => match eqW st a b with
  | some c => .ok (.bl (!c)) st
  | none => .stuck
def isNon : W → Bool
  | .non => true
  | _ => false
def isBl (c : Bool) : W → Bool
  | .bl b => decide (b = c)
  | _ => false
def wIs : F2 := fun a b st => match b with
  | .non => .ok (.bl (isNon a)) st
  | .bl c => .ok (.bl (isBl c a)) st
  | _ => .stuck
def wIsNot : F2 := fun a b st => match b with
  | .non => .ok (.bl (!isNon a)) st
  | .bl c => .ok (.bl (!isBl c a)) st
  | _ => .stuck
/-- is, is not of flags -/
def rIsF (n : Bool) : R2 := fun x y H Q => ∃ c : Bool, y = .bl c ∧ Q (.bl (xor n (decide (x = .bl c)))) H
theorem op_isF {X : Cx} : OpR X (compareOp .Is) (rIsF false) := by
  intro pins s σ H x y v u Q I rx ry h
  obtain ⟨c, rfl, q⟩ := h
  cases (show u = Value.bool c from ry)
  by_cases e : x = .bl c
  · subst e
    cases (show v = Value.bool c from rx)
    exact PySem.wpAny_is_self rfl ⟨.bl true, H, I, rfl, by simpa using q⟩
  · refine PySem.wpAny_is_other ?_ ?_ ⟨.bl false, H, I, rfl, by simpa [e] using q⟩
    · cases x <;> first
        | (cases rx; rfl)
        | (obtain ⟨t, rfl⟩ := rx; rfl)
    · rintro rfl
      cases x <;> first
        | (cases rx; exact e rfl)
        | (cases rx; done)
        | (obtain ⟨t, z⟩ := rx; cases z)
        | (cases rx)
theorem op_isNotF {X : Cx} : OpR X (compareOp .IsNot) (rIsF true) := by
  intro pins s σ H x y v u Q I rx ry h
  obtain ⟨c, rfl, q⟩ := h
  cases (show u = Value.bool c from ry)
  by_cases e : x = .bl c
  · subst e
    cases (show v = Value.bool c from rx)
    exact PySem.wpAny_isNot_self rfl ⟨.bl false, H, I, rfl, by simpa using q⟩
  · refine PySem.wpAny_isNot_other ?_ ?_ ⟨.bl true, H, I, rfl, by simpa [e] using q⟩
    · cases x <;> first
        | (cases rx; rfl)
        | (obtain ⟨t, rfl⟩ := rx; rfl)
    · rintro rfl
      cases x <;> first
        | (cases rx; exact e rfl)
        | (cases rx; done)
        | (obtain ⟨t, z⟩ := rx; cases z)
        | (cases rx)
def scalVs : List W → Option (List V)
  | [] => some []
  | x :: xs => match scalV x, scalVs xs with
    | some v, some vs => some (v :: vs)
    | _, _ => none
/-- in a list, a tuple of flat things -/
def inW (st : Sto) (a b : W) : Option Bool :=
  match scalV a, (match tupL b with | some xs => scalVs xs | none => match seqL st b with | some xs => scalVs xs | none => none) with
  | some x, some vs => some (inV x vs)
  | _, _ => none
def wIn (neg : Bool) : F2 := fun a b st => match inW st a b with
  | some c => .ok (.bl (if neg = true then !c else c)) st
  | none => match a, b with
    | .str x, .str z => match x.cps.toList with
      | [c] => .ok (.bl (if neg = true then !decide (c ∈ z.cps.toList) else decide (c ∈ z.cps.toList))) st
      | _ => .stuck
    | _, _ => .stuck
def wCmpS (p : Str → Str → Bool) (q : Int → Int → Bool) : F2 := fun a b st => match a, b with
  | .int i, .int j => .ok (.bl (q i j)) st
  | .str i, .str j => .ok (.bl (p i j)) st
  | _, _ => .stuck
section
variable {K : PySem.W.Frag} {T : Nat → Addr} {ρ η : List Addr} {H : Hp} {st : Sto}
theorem eqWD_ok {ρ η : List Addr} {H : Hp} {st : Sto} {a b : W} {x y : V} {c : Bool} (s : SR K T ρ η st H) (ha : VR K ρ η H a x) (hb : VR K ρ η H b y) (e : eqWD st a b = some c) : ∃ d e', Dp K H x d ∧ Dp K H y e' ∧ SeqAt.shaped d = true ∧ SeqAt.shaped e' = true ∧ c = d.eqv e' := by
  unfold eqWD at e
  split at e
  · rename_i d e' e1 e2
    split at e
    · rename_i z
      cases e
      rw [Bool.and_eq_true] at z
      exact ⟨d, e', toD_ok s ha e1, toD_ok s hb e2, z.1, z.2, rfl⟩
    · cases e
  · cases e
theorem ok_eq : OkR K T wEq (rOr rEq (rEqD K)) := by
  intro ρ η st H a b x y Q E s ha hb h
  unfold wEq at h
  cases e : eqW st a b with
  | none => rw [e] at h; exact h.elim
  | some c =>
    rw [e] at h
    have q : Q (.bl c) H := h.ok s (by simp only [VR])
    unfold eqW at e
    split at e
    · rename_i x' y' e1 e2
      split at e
      · rename_i z
        cases e
        have := scal_ok ha e1
        have := scal_ok hb e2
        subst x; subst y
        exact .inl ⟨z, q⟩
      · obtain ⟨d, e', h1, h2, h3, h4, rfl⟩ := eqWD_ok s ha hb e
        exact .inr ⟨d, e', h1, h2, h3, h4, q⟩
    · obtain ⟨d, e', h1, h2, h3, h4, rfl⟩ := eqWD_ok s ha hb e
      exact .inr ⟨d, e', h1, h2, h3, h4, q⟩
theorem ok_ne : OkR K T wNe (rOr rNe (rNeD K)) := by
  intro ρ η st H a b x y Q E s ha hb h
  unfold wNe at h
  cases e : eqW st a b with
  | none => rw [e] at h; exact h.elim
  | some c =>
    rw [e] at h
    have q : Q (.bl (!c)) H := h.ok s (by simp only [VR])
    unfold eqW at e
    split at e
    · rename_i x' y' e1 e2
      split at e
      · rename_i z
        cases e
        have := scal_ok ha e1
        have := scal_ok hb e2
        subst x; subst y
        exact .inl ⟨z, q⟩
      · obtain ⟨d, e', h1, h2, h3, h4, rfl⟩ := eqWD_ok s ha hb e
        exact .inr ⟨d, e', h1, h2, h3, h4, q⟩
    · obtain ⟨d, e', h1, h2, h3, h4, rfl⟩ := eqWD_ok s ha hb e
      exact .inr ⟨d, e', h1, h2, h3, h4, q⟩
theorem non_iff {w : W} {v : V} (h : VR K ρ η H w v) : decide (v = .non) = isNon w := by
  cases w with
  | non => simp only [VR] at h; subst h; rfl
  | bl b => simp only [VR] at h; subst h; rfl
  | int b => simp only [VR] at h; subst h; rfl
  | str b => simp only [VR] at h; subst h; rfl
  | ty b => simp only [VR] at h; subst h; rfl
  | tup xs => simp only [VR] at h; obtain ⟨a, vs, e, _⟩ := h; subst e; rfl
  | lst xs => simp only [VR] at h; obtain ⟨a, vs, e, _⟩ := h; subst e; rfl
  | scr xs => simp only [VR] at h; obtain ⟨a, vs, e, _⟩ := h; subst e; rfl
  | ref i => simp only [VR] at h; obtain ⟨a, _, e⟩ := h; subst e; rfl
  | at_ i => simp only [VR] at h; subst h; rfl
  | fn _ _ _ _ => simp only [VR] at h; obtain ⟨e, _⟩ := h; subst e; rfl
  | exc _ _ _ _ => simp only [VR] at h; obtain ⟨e, _⟩ := h; subst e; rfl
theorem bl_iff {c : Bool} {w : W} {v : V} (h : VR K ρ η H w v) : decide (v = .bl c) = isBl c w := by
  cases w with
  | bl b =>
    simp only [VR] at h
    subst h
    simp [isBl]
  | non => simp only [VR] at h; subst h; simp [isBl]
  | int i => simp only [VR] at h; subst h; simp [isBl]
  | str i => simp only [VR] at h; subst h; simp [isBl]
  | ty i => simp only [VR] at h; subst h; simp [isBl]
  | at_ i => simp only [VR] at h; subst h; simp [isBl]
  | fn _ _ _ _ => simp only [VR] at h; obtain ⟨e, _⟩ := h; subst e; simp [isBl]
  | exc _ _ _ _ => simp only [VR] at h; obtain ⟨e, _⟩ := h; subst e; simp [isBl]
  | ref i => simp only [VR] at h; obtain ⟨_, _, e⟩ := h; subst e; simp [isBl]
  | tup i => simp only [VR] at h; obtain ⟨_, _, e, _⟩ := h; subst e; simp [isBl]
  | lst i => simp only [VR] at h; obtain ⟨_, _, e, _⟩ := h; subst e; simp [isBl]
  | scr i => simp only [VR] at h; obtain ⟨_, _, e, _⟩ := h; subst e; simp [isBl]
theorem ok_is : OkR K T wIs (rOr (fun x y H Q => y = .non ∧ Q (.bl (decide (x = .non))) H) (rIsF false)) := by
  intro ρ η st H a b x y Q E s ha hb h
  unfold wIs at h
  split at h
  · simp only [VR] at hb
    refine .inl ⟨hb, ?_⟩
    rw [non_iff ha]
    exact h.ok s (by simp only [VR])
  · simp only [VR] at hb
    refine .inr ⟨_, hb, ?_⟩
    rw [bl_iff ha]
    exact h.ok s (by simp only [VR, Bool.false_bne])
  · exact h.elim
theorem ok_isnot : OkR K T wIsNot (rOr (fun x y H Q => y = .non ∧ Q (.bl (!decide (x = .non))) H) (rIsF true)) := by
  intro ρ η st H a b x y Q E s ha hb h
  unfold wIsNot at h
  split at h
  · simp only [VR] at hb
    refine .inl ⟨hb, ?_⟩
    rw [non_iff ha]
    exact h.ok s (by simp only [VR])
  · simp only [VR] at hb
    refine .inr ⟨_, hb, ?_⟩
    rw [bl_iff ha]
    exact h.ok s (by simp only [VR, Bool.true_bne])
  · exact h.elim
theorem scals_ok : ∀ {ws : List W} {vs us : List V}, VRs K ρ η H ws vs → scalVs ws = some us → vs = us
  | [], vs, us, h, e => by
    simp only [VRs] at h; simp only [scalVs, Option.some.injEq] at e; subst h; exact e
  | x :: xs, vs, us, h, e => by
    simp only [VRs] at h
    obtain ⟨v, r, h1, h2, h3⟩ := h
    simp only [scalVs] at e
    split at e
    · rename_i d ds' q1 q2
      cases e
      subst h1
      rw [scal_ok h2 q1, scals_ok h3 q2]
    · cases e
theorem scal_flat {w : W} {x : V} (e : scalV w = some x) : flatV x = true := by
  cases w <;> simp [scalV] at e <;> subst e <;> rfl
theorem scals_flat : ∀ {ws : List W} {us : List V}, scalVs ws = some us → us.all flatV = true
  | [], us, e => by simp only [scalVs, Option.some.injEq] at e; subst e; rfl
  | x :: xs, us, e => by
    simp only [scalVs] at e
    split at e
    · rename_i d ds' q1 q2
      cases e
      rw [List.all_cons, scal_flat q1, scals_flat q2]
      rfl
    · cases e
def rInSg (neg : Bool) : R2 := fun x y H Q => ∃ (c : Nat) (z : Str), x = .str ⟨#[c]⟩ ∧ y = .str z ∧ Q (.bl (if neg = true then !decide (c ∈ z.cps.toList) else decide (c ∈ z.cps.toList))) H
theorem ok_in {neg : Bool} : OkR K T (wIn neg) (rOr (rIn K neg) (rInSg neg)) := by
  intro ρ η st H a b x y Q E s ha hb h
  unfold wIn at h
  cases e : inW st a b with
  | some c =>
    rw [e] at h
    have q : Q (.bl (if neg = true then !c else c)) H := h.ok s (by simp only [VR])
    unfold inW at e
    split at e
    · rename_i x' us e1 e2
      cases e
      have := scal_ok ha e1
      subst x
      split at e2
      · rename_i xs q1
        obtain ⟨p, vs, h1, h2, h3⟩ := tup_ok hb q1
        have := scals_ok h3 e2
        subst vs
        exact .inl ⟨p, us, h1, .inr h2, scal_flat e1, scals_flat e2, q⟩
      · split at e2
        · rename_i xs q1
          obtain ⟨p, vs, h1, h2, h3⟩ := seq_ok s hb q1
          have := scals_ok h3 e2
          subst vs
          exact .inl ⟨p, us, h1, .inl h2, scal_flat e1, scals_flat e2, q⟩
        · cases e2
    · cases e
  | none =>
    rw [e] at h
    dsimp only at h
    split at h
    · rename_i cs z
      split at h
      · rename_i c q
        simp only [VR] at ha hb
        refine .inr ⟨c, z, ?_, hb, h.ok s (by simp only [VR])⟩
        rw [ha]
        obtain ⟨⟨l⟩⟩ := cs
        have q : l = [c] := q
        rw [q]
      · exact h.elim
    · exact h.elim
theorem ok_cmpS {p : Str → Str → Bool} {q : Int → Int → Bool} : OkR K T (wCmpS p q) (rOr (rI0 fun i j => .bl (q i j)) (fun x y H Q => ∃ i j, x = .str i ∧ y = .str j ∧ Q (.bl (p i j)) H)) := by
  intro ρ η st H a b x y Q E s ha hb h
  unfold wCmpS at h
  split at h
  · simp only [VR] at ha hb
    exact .inl ⟨_, _, ha, hb, h.ok s (by simp only [VR])⟩
  · simp only [VR] at ha hb
    exact .inr ⟨_, _, ha, hb, h.ok s (by simp only [VR])⟩
  · exact h.elim
end
end Mi
namespace Mi
open PySem L2

/-! ### the mirror of expressions -/
def mVar (i : Nat) : M W := fun env st => match env[i]? with
  | some (some w) => .ok w st
  | _ => .stuck
def mC (w : W) : M W := fun _ st => .ok w st
def mOp (f : F2) (ma mb : M W) : M W := fun env st => (ma env st).bind fun a s1 => (mb env s1).bind fun b s2 => f a b s2
def mNeg (ma : M W) : M W := fun env st => (ma env st).bind fun a s1 => match a with
  | .int i => .ok (.int (-i)) s1
  | _ => .stuck
def toB : W → Sto → Rs Bool
  | .bl b, st => .ok b st
  | _, _ => .stuck
/-- a value's truth -/
def trW (st : Sto) : W → Option Bool
  | .non => some false
  | .bl b => some b
  | .int i => some (i != 0)
  | .str x => if x.length ≤ sizeLine then some ((x.length : Int) != 0) else none
  | .lst xs => some (!xs.isEmpty)
  | .scr xs => some (!xs.isEmpty)
  | .tup xs => some (!xs.isEmpty)
  | .ref i => match st[i]? with
    | some (.lst xs) => some (!xs.isEmpty)
    | some (.dk kvs) => some (!kvs.isEmpty)
    | _ => none
  | _ => none
def mB (ma : M W) : M Bool := fun env st => (ma env st).bind toB
def mTr (ma : M W) : M Bool := fun env st => (ma env st).bind fun a s1 => match trW s1 a with
  | some b => .ok b s1
  | none => .stuck
def mNot (m : M Bool) : M Bool := fun env st => (m env st).bind fun b s1 => .ok (!b) s1
def mAnd (m k : M Bool) : M Bool := fun env st => (m env st).bind fun b s1 => if b = true then k env s1 else .ok false s1
def mOr (m k : M Bool) : M Bool := fun env st => (m env st).bind fun b s1 => if b = true then .ok true s1 else k env s1
def mIf {α : Type} (c : M Bool) (ma mb : M α) : M α := fun env st => (c env st).bind fun b s1 => if b = true then ma env s1 else mb env s1
def mBl (m : M Bool) : M W := fun env st => (m env st).bind fun b s1 => .ok (.bl b) s1
def mNil : M (List W) := fun _ st => .ok [] st
def mCons (ma : M W) (mr : M (List W)) : M (List W) := fun env st => (ma env st).bind fun a s1 => (mr env s1).bind fun r s2 => .ok (a :: r) s2
def mTup (m : M (List W)) : M W := fun env st => (m env st).bind fun ws s1 => .ok (.tup ws) s1
def mLst (fz : Bool) (m : M (List W)) : M W := fun env st => (m env st).bind fun ws s1 => newL fz ws s1
def mDict0 : M W := fun _ st => .ok (.ref st.length) (st ++ [.dk []])
/-- two comparisons in a row -/
def mChain (f g : F2) (ma mb mc : M W) : M W := fun env st => (ma env st).bind fun a s1 => (mb env s1).bind fun b s2 => (f a b s2).bind fun z s3 => match z with
  | .bl true => (mc env s3).bind fun c s4 => g b c s4
  | .bl false => .ok (.bl false) s3
  | _ => .stuck
def wNth (xs : List W) (i : Int) (st : Sto) : Rs W := match atI xs i with
  | some w => .ok w st
  | none => .stuck
def dkOf (st : Sto) : W → Option (List (Key × W))
  | .ref i => match st[i]? with
    | some (.dk kvs) => some kvs
    | some (.lk kvs) => some kvs
    | _ => none
  | _ => none
def keyOf : W → Option Key
  | .int i => some (.inl i)
  | .str x => some (.inr x)
  | _ => none
def lkW (kvs : List (Key × W)) (k : Key) : Option W := (kvs.find? fun kv => decide (kv.1 = k)).map (·.2)
/-- a[b] -/
def wIx : F2 := fun a b st => match dkOf st a with
  | some kvs => match keyOf b with
    | some k => match lkW kvs k with
      | some w => .ok w st
      | none => .stuck
    | none => .stuck
  | none => match b with
    | .int i => match seqL st a with
      | some xs => wNth xs i st
      | none => match a with
        | .tup xs => wNth xs i st
        | .str z => if z.length ≤ sizeLine then (match atI z.cps.toList i with | some c => .ok (.str ⟨#[c]⟩) st | none => .stuck) else .stuck
        | _ => .stuck
    | _ => .stuck
def cutW (xs : List W) (lo hi : Option Int) : List W := List.take (HT.sIx xs.length xs.length hi - HT.sIx xs.length 0 lo) (List.drop (HT.sIx xs.length 0 lo) xs)
def wSl (fz : Bool) (a : W) (lo hi : Option Int) (st : Sto) : Rs W := match seqL st a with
  | some xs => newL fz (cutW xs lo hi) st
  | none => match a with
    | .tup xs => .ok (.tup (cutW xs lo hi)) st
    | _ => .stuck
def mPart (m : M W) : M (Option Int) := fun env st => (m env st).bind fun a s1 => match a with
  | .int i => .ok (some i) s1
  | _ => .stuck
def mNoPart : M (Option Int) := fun _ st => .ok none st
def mSl (fz : Bool) (ma : M W) (ml mh : M (Option Int)) : M W := fun env st => (ma env st).bind fun a s1 => (ml env s1).bind fun lo s2 => (mh env s2).bind fun hi s3 => wSl fz a lo hi s3
def mFld (cs : List Nat) (f : Str) (ma : M W) : M W := fun env st => (ma env st).bind fun a s1 => match a with
  | .ref i => match s1[i]? with
    | some (.ins c fs) => if cs.contains c then (match fs.lookup f with | some w => .ok w s1 | none => .stuck) else .stuck
    | _ => .stuck
  | _ => .stuck

section
variable {X : Cx} {T : Nat → Addr} {Wx : WX'} {pos : Pos}
theorem se_var {i : Nat} {x : Str} (hN : X.N[i]? = some x) (hv : Vis X.env.scope x) (hd : (x == ("__debug__" : Str)) = false := by decide) (hcd : (x == ("__classdict__" : Str)) = false := by decide) : SE X T Wx (.Name x pos) (mVar i) := by
  intro ρ η st env σ H Q s er h
  unfold mVar at h
  split at h
  · rename_i w q
    obtain ⟨v, e, r⟩ := er.2 i w q
    exact ⟨_, pe_var hN hv hd hcd, v, e, h.ok s r⟩
  · exact h.elim
theorem se_c {e : Expr} {v : V} {w : W} (he : PE X e (tC v)) (r : ∀ ρ η H, VR X.K ρ η H w v) : SE X T Wx e (mC w) := fun ρ η st env σ H Q s er h => ⟨_, he, h.ok s (r ρ η H)⟩
theorem se_int {i j} : SE X T Wx (.Constant (.int i) j pos) (mC (.int i)) := se_c pe_int fun _ _ _ => by simp only [VR]
theorem se_bl {i j} : SE X T Wx (.Constant (.bool i) j pos) (mC (.bl i)) := se_c pe_bl fun _ _ _ => by simp only [VR]
theorem se_non {j} : SE X T Wx (.Constant .none j pos) (mC .non) := se_c pe_non fun _ _ _ => by simp only [VR]
theorem se_str {i j} : SE X T Wx (.Constant (.str i) j pos) (mC (.str i)) := se_c pe_str fun _ _ _ => by simp only [VR]
/-- a whole number of the module -/
theorem se_globI {x : Str} {i : Int} {u : Value} (hg : Gl X x) (hm : X.mg x = some u) (hr : RelV (.int i) u) (hd : (x == ("__debug__" : Str)) = false := by decide) : SE X T Wx (.Name x pos) (mC (.int i)) := se_c (pe_glob hg hm hr hd) fun _ _ _ => by simp only [VR]
theorem se_op {a b : Expr} {op : Operator} {r : R2} {f : F2} {ma mb : M W} (ho : OpR X (binaryOp op) r) (hf : OkR X.K T f r) (ha : SE X T Wx a ma) (hb : SE X T Wx b mb) : SE X T Wx (.BinOp a op b pos) (mOp f ma mb) := by
  intro ρ η st env σ H Q s er h
  refine ⟨_, pe_op ho pe_S pe_S, ?_⟩
  refine ha ρ η st env σ H _ s er (h.bind fun w s1 ρ1 H1 v g1 sr1 r1 h1 => ?_)
  refine hb ρ1 η s1 env σ H1 _ sr1 (er.mono g1) (h1.bind fun u s2 ρ2 H2 v2 g2 sr2 r2 h2 => ?_)
  exact hf ρ2 η s2 H2 w u v v2 Q _ sr2 (r1.mono g2) r2 h2
theorem se_cmp {a b : Expr} {op : CmpOp} {r : R2} {f : F2} {ma mb : M W} (ho : OpR X (compareOp op) r) (hf : OkR X.K T f r) (ha : SE X T Wx a ma) (hb : SE X T Wx b mb) (hm : behindInMarks op b = false) : SE X T Wx (.Compare a [op] [b] pos) (mOp f ma mb) := by
  intro ρ η st env σ H Q s er h
  refine ⟨_, pe_cmpR ho pe_S pe_S hm, ?_⟩
  refine ha ρ η st env σ H _ s er (h.bind fun w s1 ρ1 H1 v g1 sr1 r1 h1 => ?_)
  refine hb ρ1 η s1 env σ H1 _ sr1 (er.mono g1) (h1.bind fun u s2 ρ2 H2 v2 g2 sr2 r2 h2 => ?_)
  exact hf ρ2 η s2 H2 w u v v2 Q _ sr2 (r1.mono g2) r2 h2
theorem Rs.bind_assoc {α β γ : Type} (r : Rs α) (k : α → Sto → Rs β) (l : β → Sto → Rs γ) : (r.bind k).bind l = r.bind fun a s => (k a s).bind l := by
  cases r <;> rfl
theorem toB_ok {ρ η : List Addr} {H : Hp} {st : Sto} {w : W} {v : V} {Q : Bool → Hp → Prop} {E : Value → Option Addr → Hp → Prop} (s : SR X.K T ρ η st H) (r : VR X.K ρ η H w v) (h : After X.K T η (fun _ _ => Eq) ρ H (toB w st) Q E) : ∃ k, v = .bl k ∧ Q k H := by
  unfold toB at h
  split at h
  · simp only [VR] at r
    exact ⟨_, r, h.ok s rfl⟩
  · exact h.elim
theorem st_cmp {a b : Expr} {op : CmpOp} {r : R2} {f : F2} {ma mb : M W} (ho : OpR X (compareOp op) r) (hf : OkR X.K T f r) (ha : SE X T Wx a ma) (hb : SE X T Wx b mb) (hm : behindInMarks op b = false) : STt X T Wx (.Compare a [op] [b] pos) (mB (mOp f ma mb)) := by
  intro ρ η st env σ H Q s er h
  refine ⟨_, pt_cmpR ho pe_S pe_S hm, ?_⟩
  unfold mB mOp at h
  rw [Rs.bind_assoc] at h
  refine ha ρ η st env σ H _ s er (h.bind fun w s1 ρ1 H1 v g1 sr1 r1 h1 => ?_)
  rw [Rs.bind_assoc] at h1
  refine hb ρ1 η s1 env σ H1 _ sr1 (er.mono g1) (h1.bind fun u s2 ρ2 H2 v2 g2 sr2 r2 h2 => ?_)
  refine hf ρ2 η s2 H2 w u v v2 _ _ sr2 (r1.mono g2) r2 (h2.bind fun z s3 ρ3 H3 v3 g3 sr3 r3 h3 => ?_)
  exact toB_ok sr3 r3 h3
theorem tr_ok {ρ η : List Addr} {H : Hp} {st : Sto} {w : W} {v : V} {b : Bool} (s : SR X.K T ρ η st H) (r : VR X.K ρ η H w v) (e : trW st w = some b) : TruV X.K v H b := by
  have emp : ∀ {xs : List W} {vs : List V}, VRs X.K ρ η H xs vs → (!xs.isEmpty) = !vs.isEmpty := fun {xs vs} h => by
    have := h.len
    cases xs <;> cases vs <;> simp_all
  cases w with
  | non => simp only [VR] at r; subst r; simp only [trW, Option.some.injEq] at e; exact e.symm
  | bl k => simp only [VR] at r; subst r; simp only [trW, Option.some.injEq] at e; exact e.symm
  | int k => simp only [VR] at r; subst r; simp only [trW, Option.some.injEq] at e; exact e.symm
  | str k =>
    simp only [VR] at r
    subst r
    simp only [trW] at e
    split at e
    · rename_i q
      cases e
      exact ⟨q, rfl⟩
    · cases e
  | ty n => simp [trW] at e
  | at_ n => simp [trW] at e
  | fn _ _ _ _ => simp [trW] at e
  | exc _ _ _ _ => simp [trW] at e
  | lst xs =>
    obtain ⟨a, vs, h1, h2, h3⟩ := seq_ok s r (show seqL st (.lst xs) = some xs from rfl)
    simp only [trW, Option.some.injEq] at e
    subst h1; subst e
    exact .inl ⟨vs, h2, emp h3⟩
  | scr xs =>
    obtain ⟨a, vs, h1, h2, h3⟩ := seq_ok s r (show seqL st (.scr xs) = some xs from rfl)
    simp only [trW, Option.some.injEq] at e
    subst h1; subst e
    exact .inl ⟨vs, h2, emp h3⟩
  | tup xs =>
    obtain ⟨a, vs, h1, h2, h3⟩ := tup_ok r (show tupL (.tup xs) = some xs from rfl)
    simp only [trW, Option.some.injEq] at e
    subst h1; subst e
    exact .inr (.inl ⟨vs, h2, emp h3⟩)
  | ref i =>
    simp only [trW] at e
    split at e
    · rename_i xs q
      obtain ⟨a, h1, _, vs, h2, h3⟩ := node_at s r q
      cases e
      subst h1
      exact .inl ⟨vs, SqL.of h2, emp h3⟩
    · rename_i xs q
      obtain ⟨a, h1, _, kv, h2, h3, h4⟩ := node_at s r q
      cases e
      subst h1
      refine .inr (.inr ⟨kv, h2, ?_⟩)
      have := congrArg List.length h3
      cases xs <;> cases kv <;> simp_all
    · cases e
theorem st_tr {e : Expr} {m : M W} (he : SE X T Wx e m) (hi : ∀ whole, isTrue e X.env whole = (do let v ← whole; standAt e.pos; holding [v] (truthy v)) := by intro _; rfl) : STt X T Wx e (mTr m) := by
  intro ρ η st env σ H Q s er h
  refine ⟨_, pt_truth pe_S hi, ?_⟩
  refine he ρ η st env σ H _ s er (h.bind fun w s1 ρ1 H1 v g1 sr1 r1 h1 => ?_)
  cases e : trW s1 w with
  | none => rw [e] at h1; exact h1.elim
  | some b =>
    rw [e] at h1
    exact ⟨b, tr_ok sr1 r1 e, h1.ok sr1 rfl⟩
theorem st_not {e : Expr} {m : M Bool} (he : STt X T Wx e m) : STt X T Wx (.UnaryOp .Not e pos) (mNot m) := by
  intro ρ η st env σ H Q s er h
  refine ⟨_, pt_not pt_S, ?_⟩
  refine he ρ η st env σ H _ s er (h.bind fun b s1 ρ1 H1 v g1 sr1 r1 h1 => ?_)
  subst r1
  exact h1.ok sr1 rfl
theorem sw_and1 {e : Expr} {m : M Bool} (he : STt X T Wx e m) : SWt X T Wx (.BoolOp .And [e] pos) m := fun ρ η st env σ H Q s er h => ⟨_, pw_and1 pt_S, he ρ η st env σ H _ s er h⟩
theorem sw_or1 {e : Expr} {m : M Bool} (he : STt X T Wx e m) : SWt X T Wx (.BoolOp .Or [e] pos) m := fun ρ η st env σ H Q s er h => ⟨_, pw_or1 pt_S, he ρ η st env σ H _ s er h⟩
theorem sw_and {a b : Expr} {rest : List Expr} {m k : M Bool} (ha : STt X T Wx a m) (hb : SWt X T Wx (.BoolOp .And (b :: rest) pos) k) : SWt X T Wx (.BoolOp .And (a :: b :: rest) pos) (mAnd m k) := by
  intro ρ η st env σ H Q s er h
  refine ⟨_, pw_and pt_S pw_S, ?_⟩
  refine ha ρ η st env σ H _ s er (h.bind fun b s1 ρ1 H1 v g1 sr1 r1 h1 => ?_)
  subst r1
  cases b with
  | true => exact iteT (hb ρ1 η s1 env σ H1 Q sr1 (er.mono g1) h1)
  | false => exact iteF (h1.ok sr1 rfl)
theorem sw_or {a b : Expr} {rest : List Expr} {m k : M Bool} (ha : STt X T Wx a m) (hb : SWt X T Wx (.BoolOp .Or (b :: rest) pos) k) : SWt X T Wx (.BoolOp .Or (a :: b :: rest) pos) (mOr m k) := by
  intro ρ η st env σ H Q s er h
  refine ⟨_, pw_or pt_S pw_S, ?_⟩
  refine ha ρ η st env σ H _ s er (h.bind fun b s1 ρ1 H1 v g1 sr1 r1 h1 => ?_)
  subst r1
  cases b with
  | true => exact iteT (h1.ok sr1 rfl)
  | false => exact iteF (hb ρ1 η s1 env σ H1 Q sr1 (er.mono g1) h1)
theorem st_w {e : Expr} {m : M Bool} (h : SWt X T Wx e m) : STt X T Wx e m := fun ρ η st env σ H Q s er q => by
  obtain ⟨t, h1, h2⟩ := h ρ η st env σ H Q s er q
  exact ⟨t, h1.pt, h2⟩
/-- bools as values -/
theorem se_and1 {op} {e : Expr} {m : M Bool} (he : SE X T Wx e (mBl m)) : SE X T Wx (.BoolOp op [e] pos) (mBl m) := fun ρ η st env σ H Q s er h => ⟨_, pe_one pe_S, he ρ η st env σ H _ s er h⟩
theorem se_and {a b : Expr} {rest : List Expr} {m k : M Bool} (ha : SE X T Wx a (mBl m)) (hb : SE X T Wx (.BoolOp .And (b :: rest) pos) (mBl k)) : SE X T Wx (.BoolOp .And (a :: b :: rest) pos) (mBl (mAnd m k)) := by
  intro ρ η st env σ H Q s er h
  refine ⟨_, pe_and pe_S pe_S, ?_⟩
  unfold mBl mAnd at h
  rw [Rs.bind_assoc] at h
  have h' : After X.K T η (fun ρ H => VR X.K ρ η H) ρ H ((mBl m env st).bind fun w s1 => match w with | .bl b => (if b = true then k env s1 else Rs.ok false s1).bind fun b s1 => .ok (.bl b) s1 | _ => .stuck) Q (fun c d H' => Wx c d σ H') := by
    unfold mBl
    rw [Rs.bind_assoc]
    exact h
  refine ha ρ η st env σ H _ s er (h'.bind fun w s1 ρ1 H1 v g1 sr1 r1 h1 => ?_)
  split at h1
  · rename_i c
    simp only [VR] at r1
    refine ⟨c, r1, ?_⟩
    cases c with
    | true => exact iteT (hb ρ1 η s1 env σ H1 Q sr1 (er.mono g1) h1)
    | false => exact iteF (h1.ok sr1 (by simp only [VR]))
  · exact h1.elim
theorem se_or {a b : Expr} {rest : List Expr} {m k : M Bool} (ha : SE X T Wx a (mBl m)) (hb : SE X T Wx (.BoolOp .Or (b :: rest) pos) (mBl k)) : SE X T Wx (.BoolOp .Or (a :: b :: rest) pos) (mBl (mOr m k)) := by
  intro ρ η st env σ H Q s er h
  refine ⟨_, pe_or pe_S pe_S, ?_⟩
  unfold mBl mOr at h
  rw [Rs.bind_assoc] at h
  have h' : After X.K T η (fun ρ H => VR X.K ρ η H) ρ H ((mBl m env st).bind fun w s1 => match w with | .bl b => (if b = true then Rs.ok true s1 else k env s1).bind fun b s1 => .ok (.bl b) s1 | _ => .stuck) Q (fun c d H' => Wx c d σ H') := by
    unfold mBl
    rw [Rs.bind_assoc]
    exact h
  refine ha ρ η st env σ H _ s er (h'.bind fun w s1 ρ1 H1 v g1 sr1 r1 h1 => ?_)
  split at h1
  · rename_i c
    simp only [VR] at r1
    refine ⟨c, r1, ?_⟩
    cases c with
    | true => exact iteT (h1.ok sr1 (by simp only [VR]))
    | false => exact iteF (hb ρ1 η s1 env σ H1 Q sr1 (er.mono g1) h1)
  · exact h1.elim
theorem se_not {e : Expr} {m : M Bool} (he : SE X T Wx e (mBl m)) : SE X T Wx (.UnaryOp .Not e pos) (mBl (mNot m)) := by
  intro ρ η st env σ H Q s er h
  refine ⟨_, pe_not pe_S, ?_⟩
  have h' : After X.K T η (fun ρ H => VR X.K ρ η H) ρ H ((mBl m env st).bind fun w s1 => match w with | .bl b => .ok (.bl (!b)) s1 | _ => .stuck) Q (fun c d H' => Wx c d σ H') := by
    unfold mBl
    rw [Rs.bind_assoc]
    unfold mBl mNot at h
    rw [Rs.bind_assoc] at h
    exact h
  refine he ρ η st env σ H _ s er (h'.bind fun w s1 ρ1 H1 v g1 sr1 r1 h1 => ?_)
  split at h1
  · rename_i c
    simp only [VR] at r1
    exact ⟨c, r1, h1.ok sr1 (by simp only [VR])⟩
  · exact h1.elim
/-- a bool as a value, by its mirror -/
theorem se_bB {e : Expr} {m : M W} (he : SE X T Wx e m) : SE X T Wx e (mBl (mB m)) := by
  intro ρ η st env σ H Q s er h
  refine he ρ η st env σ H Q s er ?_
  unfold mBl mB at h
  rw [Rs.bind_assoc] at h
  cases q : m env st with
  | ok w s1 =>
    rw [q] at h
    cases w with
    | bl b => exact h
    | _ => exact h.elim
  | ex x s1 => rw [q] at h; exact h
  | stuck => rw [q] at h; exact h
theorem se_ifx {c a b : Expr} {m : M Bool} {ma mb : M W} (hc : STt X T Wx c m) (ha : SE X T Wx a ma) (hb : SE X T Wx b mb) : SE X T Wx (.IfExp c a b pos) (mIf m ma mb) := by
  intro ρ η st env σ H Q s er h
  refine ⟨_, pe_ifExp pt_S pe_S pe_S, ?_⟩
  refine hc ρ η st env σ H _ s er (h.bind fun b s1 ρ1 H1 v g1 sr1 r1 h1 => ?_)
  subst r1
  cases b with
  | true => exact iteT (ha ρ1 η s1 env σ H1 Q sr1 (er.mono g1) h1)
  | false => exact iteF (hb ρ1 η s1 env σ H1 Q sr1 (er.mono g1) h1)
theorem se_neg {e : Expr} {m : M W} (he : SE X T Wx e m) : SE X T Wx (.UnaryOp .USub e pos) (mNeg m) := by
  intro ρ η st env σ H Q s er h
  refine ⟨_, pe_un un_neg pe_S, ?_⟩
  refine he ρ η st env σ H _ s er (h.bind fun w s1 ρ1 H1 v g1 sr1 r1 h1 => ?_)
  split at h1
  · simp only [VR] at r1
    exact ⟨_, r1, h1.ok sr1 (by simp only [VR])⟩
  · exact h1.elim
end
end Mi
namespace Mi
open PySem L2
section
variable {X : Cx} {T : Nat → Addr} {Wx : WX'} {pos : Pos}
/-! ### argument lists, displays -/
theorem sa_nil : SA X T Wx [] mNil := fun ρ η st env σ H Q s er h => ⟨_, pa_nil, h.ok s VRs.nil⟩
theorem sa_cons {e : Expr} {es : List Expr} {m : M W} {k : M (List W)} (he : SE X T Wx e m) (hs : SA X T Wx es k) (hst : starEach (e :: es) X.env = (false, eval e X.env) :: starEach es X.env := by rfl) : SA X T Wx (e :: es) (mCons m k) := by
  intro ρ η st env σ H Q s er h
  refine ⟨_, pa_cons pe_S pa_S hst, ?_⟩
  refine he ρ η st env σ H _ s er (h.bind fun w s1 ρ1 H1 v g1 sr1 r1 h1 => ?_)
  refine hs ρ1 η s1 env σ H1 _ sr1 (er.mono g1) (h1.bind fun ws s2 ρ2 H2 vs g2 sr2 r2 h2 => ?_)
  exact h2.ok sr2 (VRs.cons (r1.mono g2) r2)
/-- how long an argument list is -/
def ArgLen (n : Nat) (m : M (List W)) : Prop := ∀ env st ws st', m env st = .ok ws st' → ws.length = n
theorem len_nil : ArgLen 0 mNil := fun env st ws st' h => by
  simp only [mNil, Rs.ok.injEq] at h
  rw [← h.1]; rfl
theorem len_cons {n : Nat} {m : M W} {k : M (List W)} (h : ArgLen n k) : ArgLen (n + 1) (mCons m k) := fun env st ws st' e => by
  unfold mCons at e
  cases q : m env st with
  | ok w s1 =>
    rw [q] at e
    simp only [Rs.bind] at e
    cases q2 : k env s1 with
    | ok r s2 =>
      rw [q2] at e
      simp only [Rs.ok.injEq] at e
      rw [← e.1, List.length_cons, h env s1 r s2 q2]
    | ex x s2 => rw [q2] at e; cases e
    | stuck => rw [q2] at e; cases e
  | ex x s1 => rw [q] at e; cases e
  | stuck => rw [q] at e; cases e
theorem se_tup {es : List Expr} {k : M (List W)} {n : Nat} {x1} (h : SA X T Wx es k) (hl : ArgLen n k) (hn : n ≤ 1000 := by decide) : SE X T Wx (.Tuple es x1 pos) (mTup k) := by
  intro ρ η st env σ H Q s er q
  refine ⟨_, pe_tup pa_S, ?_⟩
  have ql : ∀ ws st', k env st = .ok ws st' → ws.length = n := fun ws st' e => hl env st ws st' e
  refine h ρ η st env σ H _ s er ?_
  unfold mTup at q
  cases e : k env st with
  | ok ws s1 =>
    rw [e] at q
    refine fun ρ1 H1 vs g1 sr1 r1 => ⟨?_, fun p hp => newT_ok (After.grow g1 q) sr1 r1 hp⟩
    rw [r1.len, ql ws s1 e]
    exact Nat.le_trans hn (by decide)
  | ex x s1 => rw [e] at q; exact q
  | stuck => rw [e] at q; exact q
theorem se_lst {fz : Bool} {es : List Expr} {k : M (List W)} {n : Nat} (h : SA X T Wx es k) (hl : ArgLen n k) (hn : n ≤ 1000 := by decide) : SE X T Wx (.List es pos) (mLst fz k) := by
  intro ρ η st env σ H Q s er q
  refine ⟨_, pe_lst pa_S, ?_⟩
  have ql : ∀ ws st', k env st = .ok ws st' → ws.length = n := fun ws st' e => hl env st ws st' e
  refine h ρ η st env σ H _ s er ?_
  unfold mLst at q
  cases e : k env st with
  | ok ws s1 =>
    rw [e] at q
    refine fun ρ1 H1 vs g1 sr1 r1 => ⟨?_, fun p hp => newL_ok (After.grow g1 q) sr1 r1 hp⟩
    rw [r1.len, ql ws s1 e]
    exact Nat.le_trans hn (by decide)
  | ex x s1 => rw [e] at q; exact q
  | stuck => rw [e] at q; exact q
theorem se_dict0 : SE X T Wx (.Dict [] [] pos) mDict0 := by
  intro ρ η st env σ H Q s er h
  refine ⟨_, pe_dnewK, fun d hd => ?_⟩
  refine h (ρ ++ [d]) _ _ (Grow.node hd) (s.node hd ⟨[], upd_same, rfl, VRs.nil⟩) ?_
  simp only [VR]
  exact ⟨d, by rw [← s.len, List.getElem?_append_right (Nat.le_refl _)]; simp, rfl⟩
/-- a op b op' c -/
theorem se_chain {a b c : Expr} {op op' : CmpOp} {r r' : R2} {f g : F2} {ma mb mc : M W} (ho : OpR X (compareOp op) r) (hf : OkR X.K T f r) (ho' : OpR X (compareOp op') r') (hg : OkR X.K T g r') (ha : SE X T Wx a ma) (hb : SE X T Wx b mb) (hc : SE X T Wx c mc)
    (hl : lastMarks [op, op'] [b, c] = false := by rfl) : SE X T Wx (.Compare a [op, op'] [b, c] pos) (mChain f g ma mb mc) := by
  intro ρ η st env σ H Q s er h
  refine ⟨_, pe_chain ho ho' pe_S pe_S pe_S hl, ?_⟩
  refine ha ρ η st env σ H _ s er (h.bind fun w s1 ρ1 H1 v g1 sr1 r1 h1 => ?_)
  refine hb ρ1 η s1 env σ H1 _ sr1 (er.mono g1) (h1.bind fun u s2 ρ2 H2 v2 g2 sr2 r2 h2 => ?_)
  refine hf ρ2 η s2 H2 w u v v2 _ _ sr2 (r1.mono g2) r2 (h2.bind fun z s3 ρ3 H3 v3 g3 sr3 r3 h3 => ?_)
  split at h3
  · simp only [VR] at r3
    refine ⟨true, r3, iteT ?_⟩
    refine hc ρ3 η s3 env σ H3 _ sr3 ((er.mono g1).mono (g2.trans g3)) (h3.bind fun x s4 ρ4 H4 v4 g4 sr4 r4 h4 => ?_)
    exact hg ρ4 η s4 H4 u x v2 v4 Q _ sr4 (r2.mono (g3.trans g4)) r4 h4
  · simp only [VR] at r3
    exact ⟨false, r3, iteF (h3.ok sr3 (by simp only [VR]))⟩
  · exact h3.elim
theorem st_chain {a b c : Expr} {op op' : CmpOp} {r r' : R2} {f g : F2} {ma mb mc : M W} (ho : OpR X (compareOp op) r) (hf : OkR X.K T f r) (ho' : OpR X (compareOp op') r') (hg : OkR X.K T g r') (ha : SE X T Wx a ma) (hb : SE X T Wx b mb) (hc : SE X T Wx c mc)
    (hl : lastMarks [op, op'] [b, c] = false := by rfl) : STt X T Wx (.Compare a [op, op'] [b, c] pos) (mB (mChain f g ma mb mc)) := by
  intro ρ η st env σ H Q s er h
  refine ⟨_, pt_chain ho ho' pe_S pe_S pe_S hl, ?_⟩
  unfold mB mChain at h
  rw [Rs.bind_assoc] at h
  refine ha ρ η st env σ H _ s er (h.bind fun w s1 ρ1 H1 v g1 sr1 r1 h1 => ?_)
  rw [Rs.bind_assoc] at h1
  refine hb ρ1 η s1 env σ H1 _ sr1 (er.mono g1) (h1.bind fun u s2 ρ2 H2 v2 g2 sr2 r2 h2 => ?_)
  rw [Rs.bind_assoc] at h2
  refine hf ρ2 η s2 H2 w u v v2 _ _ sr2 (r1.mono g2) r2 (h2.bind fun z s3 ρ3 H3 v3 g3 sr3 r3 h3 => ?_)
  split at h3
  · simp only [VR] at r3
    refine ⟨true, r3, iteT ?_⟩
    rw [Rs.bind_assoc] at h3
    refine hc ρ3 η s3 env σ H3 _ sr3 ((er.mono g1).mono (g2.trans g3)) (h3.bind fun x s4 ρ4 H4 v4 g4 sr4 r4 h4 => ?_)
    exact hg ρ4 η s4 H4 u x v2 v4 _ _ sr4 (r2.mono (g3.trans g4)) r4 (h4.bind fun y s5 ρ5 H5 v5 g5 sr5 r5 h5 => toB_ok sr5 r5 h5)
  · simp only [VR] at r3
    exact ⟨false, r3, iteF ⟨false, rfl, h3.ok sr3 rfl⟩⟩
  · exact h3.elim

/-! ### subscripts -/
theorem VRs.atI {ρ η : List Addr} {H : Hp} {xs : List W} {vs : List V} {i : Int} {w : W} (r : VRs X.K ρ η H xs vs) (e : atI xs i = some w) : ∃ v, atI vs i = some v ∧ VR X.K ρ η H w v := by
  unfold L2.atI at e ⊢
  rw [r.len]
  cases q : ixN xs.length i with
  | none => rw [q] at e; cases e
  | some j =>
    rw [q] at e
    exact r.get e
theorem kv_find {ρ η : List Addr} {H : Hp} : ∀ {kvs : List (Key × W)} {kv : List (Key × V)} {k : Key}, kv.map (·.1) = kvs.map (·.1) → VRs X.K ρ η H (kvs.map (·.2)) (kv.map (·.2)) →
    (lkW kvs k = none ∧ valV kv k = none) ∨ ∃ w v, lkW kvs k = some w ∧ valV kv k = some v ∧ VR X.K ρ η H w v
  | [], [], k, _, _ => .inl ⟨rfl, rfl⟩
  | [], p :: kv, k, e, _ => by simp at e
  | p :: kvs, [], k, e, _ => by simp at e
  | (a, w) :: kvs, (b, v) :: kv, k, e, r => by
    simp only [List.map_cons, List.cons.injEq] at e
    obtain ⟨e1, e2⟩ := e
    subst e1
    rw [List.map_cons, List.map_cons] at r
    simp only [VRs] at r
    obtain ⟨v', r', q1, q2, q3⟩ := r
    simp only [List.cons.injEq] at q1
    obtain ⟨q1, q4⟩ := q1
    subst q1; subst q4
    by_cases z : b = k
    · refine .inr ⟨w, v, ?_, ?_, q2⟩
      · simp [lkW, z]
      · simp [valV, z]
    · rcases kv_find (k := k) e2 q3 with ⟨h1, h2⟩ | ⟨w', v', h1, h2, h3⟩
      · refine .inl ⟨?_, ?_⟩
        · simpa [lkW, z] using h1
        · simpa [valV, z] using h2
      · refine .inr ⟨w', v', ?_, ?_, h3⟩
        · simpa [lkW, z] using h1
        · simpa [valV, z] using h2
theorem key_ok {ρ η : List Addr} {H : Hp} {w : W} {v : V} {k : Key} (r : VR X.K ρ η H w v) (e : keyOf w = some k) : v = kV k := by
  cases w <;> simp [keyOf] at e <;> subst e <;> simp only [VR] at r <;> exact r
theorem dk_ok {ρ η : List Addr} {H : Hp} {st : Sto} {w : W} {v : V} {kvs : List (Key × W)} (s : SR X.K T ρ η st H) (r : VR X.K ρ η H w v) (e : dkOf st w = some kvs) :
    ∃ a kv, v = .ref a ∧ Rd H a (.dK kv) ∧ kv.map (·.1) = kvs.map (·.1) ∧ VRs X.K ρ η H (kvs.map (·.2)) (kv.map (·.2)) := by
  cases w with
  | ref i =>
    simp only [dkOf] at e
    split at e
    · rename_i ks q
      cases e
      obtain ⟨a, h1, _, kv, h2, h3, h4⟩ := node_at s r q
      exact ⟨a, kv, h1, .inl h2, h3, h4⟩
    · rename_i ks q
      cases e
      obtain ⟨a, h1, _, od, kv, h2, h3, h4⟩ := node_at s r q
      exact ⟨a, kv, h1, .inr ⟨od, h2⟩, h3, h4⟩
    · cases e
  | _ => simp [dkOf] at e
theorem nth_ok {ρ η : List Addr} {H : Hp} {st : Sto} {xs : List W} {vs : List V} {i : Int} {Q : V → Hp → Prop} {E : Value → Option Addr → Hp → Prop} (s : SR X.K T ρ η st H) (r : VRs X.K ρ η H xs vs) (h : After X.K T η (fun ρ H => VR X.K ρ η H) ρ H (wNth xs i st) Q E) :
    ∃ v, atI vs i = some v ∧ Q v H := by
  unfold wNth at h
  split at h
  · rename_i w q
    obtain ⟨v, h1, h2⟩ := r.atI q
    exact ⟨v, h1, h.ok s h2⟩
  · exact h.elim
theorem After.bindE {α β γ δ : Type} {K : PySem.W.Frag} {ρ η : List Addr} {H : Hp} {R : List Addr → Hp → α → β → Prop} {R' : List Addr → Hp → γ → δ → Prop} {r : Rs α} {k : α → Sto → Rs γ} {Q : δ → Hp → Prop} {Q1 : β → Hp → Prop} {E : Value → Option Addr → Hp → Prop} (h : After K T η R' ρ H (r.bind k) Q E)
    (f : ∀ w st1 ρ1 H1 v, r = .ok w st1 → Grow ρ H ρ1 H1 → SR K T ρ1 η st1 H1 → R ρ1 H1 w v → After K T η R' ρ1 H1 (k w st1) Q E → Q1 v H1) : After K T η R ρ H r Q1 E := by
  cases r with
  | ok w s => exact fun ρ1 H1 v g s1 r1 => f w s ρ1 H1 v rfl g s1 r1 (After.grow g h)
  | ex x s => exact h
  | stuck => exact h
theorem se_ix {a b : Expr} {ma mb : M W} (hu : X.A.units + 1 < cLine) (ha : SE X T Wx a ma) (hb : SE X T Wx b mb) (hp : PlainIx b := by intro _ _; rfl) : SE X T Wx (.Subscript a b pos) (mOp wIx ma mb) := by
  intro ρ η st env σ H Q s er h
  by_cases hd : ∃ w s1 u s2 kvs, ma env st = .ok w s1 ∧ mb env s1 = .ok u s2 ∧ dkOf s2 w = some kvs
  · obtain ⟨w, s1, u, s2, kvs, e1, e2, e3⟩ := hd
    refine ⟨_, pe_dget hu pe_S pe_S hp, ?_⟩
    refine ha ρ η st env σ H _ s er (After.bindE h fun w' s1' ρ1 H1 v q1 g1 sr1 r1 h1 => ?_)
    rw [e1] at q1
    cases q1
    refine hb ρ1 η s1 env σ H1 _ sr1 (er.mono g1) (After.bindE h1 fun u' s2' ρ2 H2 v2 q2 g2 sr2 r2 h2 => ?_)
    rw [e2] at q2
    cases q2
    unfold wIx at h2
    rw [e3] at h2
    dsimp only at h2
    split at h2
    · rename_i k q3
      obtain ⟨p, kv, f1, f2, f3, f4⟩ := dk_ok sr2 (r1.mono g2) e3
      rcases kv_find (k := k) f3 f4 with ⟨z1, z2⟩ | ⟨y, z, z1, z2, z3⟩
      · rw [z1] at h2; exact h2.elim
      · rw [z1] at h2
        refine ⟨p, z, f1, .inl ⟨kv, k, f2, key_ok r2 q3, z2.symm⟩, h2.ok sr2 z3⟩
    · exact h2.elim
  · refine ⟨_, pe_ix (IxR.or ix_list (IxR.or ix_tup ix_str)) pe_S pe_S hp, ?_⟩
    refine ha ρ η st env σ H _ s er (After.bindE h fun w s1 ρ1 H1 v q1 g1 sr1 r1 h1 => ?_)
    refine hb ρ1 η s1 env σ H1 _ sr1 (er.mono g1) (After.bindE h1 fun u s2 ρ2 H2 v2 q2 g2 sr2 r2 h2 => ?_)
    have nd : dkOf s2 w = none := by
      cases e : dkOf s2 w with
      | none => rfl
      | some kvs => exact absurd ⟨w, s1, u, s2, kvs, q1, q2, e⟩ hd
    unfold wIx at h2
    rw [nd] at h2
    dsimp only at h2
    have rw1 := r1.mono g2
    split at h2
    · rename_i i
      simp only [VR] at r2
      split at h2
      · rename_i xs q3
        obtain ⟨p, vs, f1, f2, f3⟩ := seq_ok sr2 rw1 q3
        obtain ⟨z, z1, z2⟩ := nth_ok sr2 f3 h2
        exact .inl ⟨p, vs, i, z, f1, r2, f2, z1, z2⟩
      · split at h2
        · rename_i xs _
          obtain ⟨p, vs, f1, f2, f3⟩ := tup_ok rw1 (show tupL (.tup xs) = some xs from rfl)
          obtain ⟨z, z1, z2⟩ := nth_ok sr2 f3 h2
          exact .inr (.inl ⟨p, vs, i, z, f1, r2, f2, z1, z2⟩)
        · rename_i z _
          split at h2
          · rename_i lz
            split at h2
            · rename_i c q4
              simp only [VR] at rw1
              exact .inr (.inr ⟨z, i, c, rw1, r2, lz, q4, h2.ok sr2 (by simp only [VR])⟩)
            · exact h2.elim
          · exact h2.elim
        · exact h2.elim
    · exact h2.elim
/-! ### slices -/
theorem VRs.cut {ρ η : List Addr} {H : Hp} {xs : List W} {vs : List V} (r : VRs X.K ρ η H xs vs) (lo hi : Option Int) : VRs X.K ρ η H (cutW xs lo hi) (cutV vs lo hi) := by
  unfold cutW cutV
  rw [r.len]
  exact (r.drop _).take _
def SPt (e : Option Expr) (m : M (Option Int)) : Prop := ∀ ρ η st env σ H Q, SR X.K T ρ η st H → ER X.K ρ η H env σ → After X.K T η (fun _ _ => Eq) ρ H (m env st) Q (fun c d H' => Wx c d σ H') → ∃ t, PO X e t ∧ t σ H Q
theorem sp_none : SPt (X := X) (T := T) (Wx := Wx) none mNoPart := fun ρ η st env σ H Q s er h => ⟨_, po_none, h.ok s rfl⟩
theorem sp_some {e : Expr} {m : M W} (he : SE X T Wx e m) : SPt (X := X) (T := T) (Wx := Wx) (some e) (mPart m) := by
  intro ρ η st env σ H Q s er h
  refine ⟨_, po_some pe_S, ?_⟩
  refine he ρ η st env σ H _ s er (h.bind fun w s1 ρ1 H1 v g1 sr1 r1 h1 => ?_)
  split at h1
  · rename_i i
    simp only [VR] at r1
    exact ⟨i, r1, h1.ok sr1 rfl⟩
  · exact h1.elim
def tSO (e : Option Expr) : TO := fun σ H Q => ∃ t, PO X e t ∧ t σ H Q
theorem po_S {e : Option Expr} : PO X e (tSO (X := X) e) := ⟨fun pins s σ H Q I ⟨_, h, q⟩ => h.run pins s σ H Q I q⟩
theorem se_sl {fz : Bool} {a : Expr} {lo hi : Option Expr} {ma : M W} {ml mh : M (Option Int)} {p2 : Pos} (ha : SE X T Wx a ma) (hl : SPt (X := X) (T := T) (Wx := Wx) lo ml) (hh : SPt (X := X) (T := T) (Wx := Wx) hi mh) :
    SE X T Wx (.Subscript a (.Slice lo hi none p2) pos) (mSl fz ma ml mh) := by
  intro ρ η st env σ H Q s er h
  refine ⟨_, pe_slice (L2.SlR.or sl_list sl_tupA) pe_S po_S po_S, ?_⟩
  refine ha ρ η st env σ H _ s er (h.bind fun w s1 ρ1 H1 v g1 sr1 r1 h1 => ?_)
  refine hl ρ1 η s1 env σ H1 _ sr1 (er.mono g1) (h1.bind fun l s2 ρ2 H2 l' g2 sr2 r2 h2 => ?_)
  subst r2
  refine hh ρ2 η s2 env σ H2 _ sr2 ((er.mono g1).mono g2) (h2.bind fun u s3 ρ3 H3 u' g3 sr3 r3 h3 => ?_)
  subst r3
  have r := r1.mono (g2.trans g3)
  unfold wSl at h3
  split at h3
  · rename_i xs q
    obtain ⟨p, vs, f1, f2, f3⟩ := seq_ok sr3 r q
    exact .inl ⟨p, vs, f1, f2, fun d hd => newL_ok h3 sr3 (f3.cut l u) hd⟩
  · split at h3
    · rename_i xs q
      have r' := r
      obtain ⟨p, vs, f1, f2, f3⟩ := tup_ok r (show tupL (.tup xs) = some xs from rfl)
      refine .inr ⟨p, vs, f1, f2, fun z => ?_, fun _ d hd => newT_ok h3 sr3 (f3.cut l u) hd⟩
      refine h3.ok sr3 ?_
      have e : cutW xs l u = xs := by
        rw [f3.len] at z
        unfold cutW
        rw [z.1, z.2, Nat.sub_zero, List.drop_zero, List.take_of_length_le (Nat.le_refl _)]
      rw [e, ← f1]
      exact r'
    · exact h3.elim
/-! ### fields -/
theorem fv_find {ρ η : List Addr} {H : Hp} : ∀ {fs : List (Str × W)} {fv : List (Str × V)} {f : Str} {w : W}, fv.map (·.1) = fs.map (·.1) → VRs X.K ρ η H (fs.map (·.2)) (fv.map (·.2)) → fs.lookup f = some w → ∃ v, fv.lookup f = some v ∧ VR X.K ρ η H w v
  | [], _, _, _, _, _, h => by simp at h
  | (a, y) :: fs, [], _, _, e, _, _ => by simp at e
  | (a, y) :: fs, (b, z) :: fv, f, w, e, r, h => by
    simp only [List.map_cons, List.cons.injEq] at e
    obtain ⟨e1, e2⟩ := e
    subst e1
    rw [List.map_cons, List.map_cons] at r
    simp only [VRs] at r
    obtain ⟨v', r', q1, q2, q3⟩ := r
    simp only [List.cons.injEq] at q1
    obtain ⟨q1, q4⟩ := q1
    subst q1; subst q4
    rw [List.lookup_cons] at h ⊢
    split at h
    · cases h
      exact ⟨z, rfl, q2⟩
    · exact fv_find e2 q3 h
theorem se_fld {cs : List Nat} {a : Expr} {f : Str} {ma : M W} (ha : SE X T Wx a ma) (hc : ∀ c ∈ cs, Cls X.K (T c) ∧ NoAttr X.K (T c) f) (hb : attributeBase a f X.env (eval a X.env) = eval a X.env := by rfl) : SE X T Wx (.Attribute a f pos) (mFld cs f ma) := by
  intro ρ η st env σ H Q s er h
  refine ⟨_, pe_fld pe_S hb, ?_⟩
  refine ha ρ η st env σ H _ s er (h.bind fun w s1 ρ1 H1 v g1 sr1 r1 h1 => ?_)
  split at h1
  · rename_i i
    split at h1
    · rename_i c fs q
      split at h1
      · rename_i z
        split at h1
        · rename_i w' q2
          obtain ⟨p, e1, _, dx, fv, e2, e3, e4⟩ := node_at sr1 r1 q
          obtain ⟨v', e5, e6⟩ := fv_find e3 e4 q2
          obtain ⟨k1, k2⟩ := hc c (by simpa using z)
          exact ⟨p, T c, dx, fv, v', e1, e2, k1, k2, e5, h1.ok sr1 e6⟩
        · exact h1.elim
      · exact h1.elim
    · exact h1.elim
  · exact h1.elim
end
end Mi
namespace Mi
open PySem L2
inductive SRs where
  | nx (env : Ev) (s : Sto) | rt (w : W) (s : Sto) | bk (env : Ev) (s : Sto) | ct (env : Ev) (s : Sto) | ex (x : Xc) (env : Ev) (s : Sto) | stuck
abbrev MS := Ev → Sto → SRs
def SAfter (K : PySem.W.Frag) (T : Nat → Addr) (η ρ : List Addr) (H : Hp) (r : SRs) (D : Ends) (Wx : WX') : Prop := match r with
  | .nx env st => ∀ ρ' H' σ', Grow ρ H ρ' H' → SR K T ρ' η st H' → ER K ρ' η H' env σ' → D.nx σ' H'
  | .bk env st => ∀ ρ' H' σ', Grow ρ H ρ' H' → SR K T ρ' η st H' → ER K ρ' η H' env σ' → D.bk σ' H'
  | .ct env st => ∀ ρ' H' σ', Grow ρ H ρ' H' → SR K T ρ' η st H' → ER K ρ' η H' env σ' → D.ct σ' H'
  | .rt w st => ∀ ρ' H' v, Grow ρ H ρ' H' → SR K T ρ' η st H' → VR K ρ' η H' w v → D.rt v H'
  | .ex x env st => ∀ ρ' H' σ' c d, Grow ρ H ρ' H' → SR K T ρ' η st H' → ER K ρ' η H' env σ' → XR K T ρ' η H' x c d → Wx c d σ' H'
  | .stuck => False
def Rs.to {α : Type} (r : Rs α) (env : Ev) (k : α → Sto → SRs) : SRs := match r with
  | .ok a s => k a s
  | .ex x s => .ex x env s
  | .stuck => .stuck
section
variable {K : PySem.W.Frag} {T : Nat → Addr} {ρ ρ' η : List Addr} {H H' : Hp} {st : Sto}
theorem SAfter.grow {r : SRs} {D : Ends} {Wx : WX'} (g : Grow ρ H ρ' H') (h : SAfter K T η ρ H r D Wx) : SAfter K T η ρ' H' r D Wx := by
  cases r with
  | nx env s => exact fun ρ2 H2 σ g2 => h ρ2 H2 σ (g.trans g2)
  | bk env s => exact fun ρ2 H2 σ g2 => h ρ2 H2 σ (g.trans g2)
  | ct env s => exact fun ρ2 H2 σ g2 => h ρ2 H2 σ (g.trans g2)
  | rt w s => exact fun ρ2 H2 v g2 => h ρ2 H2 v (g.trans g2)
  | ex x env s => exact fun ρ2 H2 σ c d g2 => h ρ2 H2 σ c d (g.trans g2)
  | stuck => exact h
theorem SAfter.bind {α β : Type} {R : List Addr → Hp → α → β → Prop} {r : Rs α} {env : Ev} {σ : St} {k : α → Sto → SRs} {D : Ends} {Wx : WX'} {Q1 : β → Hp → Prop} (h : SAfter K T η ρ H (r.to env k) D Wx) (er : ER K ρ η H env σ)
    (f : ∀ w st1 ρ1 H1 v, r = .ok w st1 → Grow ρ H ρ1 H1 → SR K T ρ1 η st1 H1 → R ρ1 H1 w v → SAfter K T η ρ1 H1 (k w st1) D Wx → Q1 v H1) : After K T η R ρ H r Q1 (fun c d H' => Wx c d σ H') := by
  cases r with
  | ok w s => exact fun ρ1 H1 v g s1 r1 => f w s ρ1 H1 v rfl g s1 r1 (SAfter.grow g h)
  | ex x s => exact fun ρ1 H1 c d g s1 xr => h ρ1 H1 σ c d g s1 (er.mono g) xr
  | stuck => exact h
theorem SAfter.nx {env : Ev} {σ : St} {D : Ends} {Wx : WX'} (h : SAfter K T η ρ H (.nx env st) D Wx) (s : SR K T ρ η st H) (e : ER K ρ η H env σ) : D.nx σ H := h ρ H σ Grow.refl s e
end
section
variable (X : Cx) (T : Nat → Addr) (Wx : WX')
def SSt (c : Stmt) (m : MS) : Prop := ∀ ρ η st env σ H D, SR X.K T ρ η st H → ER X.K ρ η H env σ → SAfter X.K T η ρ H (m env st) D Wx → tSS X c D σ H
def SSs (c : List Stmt) (m : MS) : Prop := ∀ ρ η st env σ H D, SR X.K T ρ η st H → ER X.K ρ η H env σ → SAfter X.K T η ρ H (m env st) D Wx → tSSs X c D σ H
end
/-- targets -/
abbrev MG := W → Ev → Sto → Option (Ev × Sto)
def gName' (i : Nat) : MG := fun w env st => some (env.set i (some w), st)
def gAll : List MG → List W → Ev → Sto → Option (Ev × Sto)
  | [], [], env, st => some (env, st)
  | g :: gs, w :: ws, env, st => match g w env st with
    | some (env1, st1) => gAll gs ws env1 st1
    | none => none
  | _, _, _, _ => none
def gTup' (gs : List MG) : MG := fun w env st => match w with
  | .tup ws => gAll gs ws env st
  | _ => none
def wSet (o i v : W) (st : Sto) : Option Sto := match o with
  | .ref n => match st[n]? with
    | some (.lst xs) => match i with
      | .int k => match ixN xs.length k with
        | some j => some (st.set n (.lst (xs.set j v)))
        | none => none
      | _ => none
    | _ => none
  | _ => none
def gOk (K : PySem.W.Frag) (T : Nat → Addr) (η ρ : List Addr) (H : Hp) (r : Option (Ev × Sto)) (Q : St → Hp → Prop) : Prop := match r with
  | some (env, st) => ∀ ρ' H' σ', Grow ρ H ρ' H' → SR K T ρ' η st H' → ER K ρ' η H' env σ' → Q σ' H'
  | none => False
def tSG (X : Cx) (e : Expr) : TG := fun v σ H Q => ∃ t, PG X e t ∧ t v σ H Q
theorem pg_S {X : Cx} {e : Expr} : PG X e (tSG X e) := ⟨fun pins s σ H v u Q I r ⟨_, h, q⟩ => h.run pins s σ H v u Q I r q⟩
def SGt (X : Cx) (T : Nat → Addr) (e : Expr) (g : MG) : Prop := ∀ ρ η st env σ H w v Q, SR X.K T ρ η st H → ER X.K ρ η H env σ → VR X.K ρ η H w v → gOk X.K T η ρ H (g w env st) Q → tSG X e v σ H Q
def SGs (X : Cx) (T : Nat → Addr) (es : List Expr) (gs : List MG) : Prop := ∀ ρ η st env σ H ws vs Q, SR X.K T ρ η st H → ER X.K ρ η H env σ → VRs X.K ρ η H ws vs → gOk X.K T η ρ H (gAll gs ws env st) Q → ∃ t, PGs X es t ∧ t vs σ H Q
theorem pgs_S {X : Cx} {es : List Expr} : PGs X es (fun vs σ H Q => ∃ t, PGs X es t ∧ t vs σ H Q) := ⟨fun pins s σ H vs us Q I r ⟨_, h, q⟩ => h.run pins s σ H vs us Q I r q⟩

def sNx : MS := fun env st => .nx env st
def sSeq (m k : MS) : MS := fun env st => match m env st with
  | .nx env1 st1 => k env1 st1
  | r => r
def sExpr (m : M W) : MS := fun env st => (m env st).to env fun _ s => .nx env s
def sRet (m : M W) : MS := fun env st => (m env st).to env fun w s => .rt w s
def sRetN : MS := fun _ st => .rt .non st
def sIf (c : M Bool) (m k : MS) : MS := fun env st => (c env st).to env fun b s => if b = true then m env s else k env s
def gDo (r : Option (Ev × Sto)) : SRs := match r with
  | some (env, st) => .nx env st
  | none => .stuck
def sAsg (m : M W) (g : MG) : MS := fun env st => (m env st).to env fun w s => gDo (g w env s)
def sAug (i : Nat) (f : F2) (m : M W) : MS := fun env st => match env[i]? with
  | some (some w) => (m env st).to env fun u s => (f w u s).to env fun z s2 => .nx (env.set i (some z)) s2
  | _ => .stuck
def putW (f : Str) (v : W) : List (Str × W) → List (Str × W)
  | [] => [(f, v)]
  | (g, w) :: r => if g = f then (f, v) :: r else (g, w) :: putW f v r
def wSetF (cs : List Nat) (f : Str) (o v : W) (st : Sto) : Option Sto := match o with
  | .ref n => match st[n]? with
    | some (.ins c fs) => if cs.contains c ∧ fs.length < 1000 then some (st.set n (.ins c (putW f v fs))) else none
    | _ => none
  | _ => none
/-- o.f = e: e first -/
def sFld' (cs : List Nat) (f : Str) (mo m : M W) : MS := fun env st => (m env st).to env fun v s => (mo env s).to env fun o s2 => match wSetF cs f o v s2 with
  | some s3 => .nx env s3
  | none => .stuck

section
variable {X : Cx} {T : Nat → Addr} {Wx : WX'} {pos : Pos}
theorem sss_nil : SSs X T Wx [] sNx := fun ρ η st env σ H D s er h => ⟨_, pss_nil, h.nx s er⟩
theorem sss_one {c : Stmt} {m : MS} (h : SSt X T Wx c m) : SSs X T Wx [c] m := fun ρ η st env σ H D s er q => ⟨_, pss_one ps_S, h ρ η st env σ H D s er q⟩
theorem sss_cons {c : Stmt} {cs : List Stmt} {m k : MS} (h : SSt X T Wx c m) (hs : SSs X T Wx cs k) : SSs X T Wx (c :: cs) (sSeq m k) := by
  intro ρ η st env σ H D s er q
  refine ⟨_, pss_cons ps_S pss_S, ?_⟩
  refine h ρ η st env σ H _ s er ?_
  unfold sSeq at q
  cases e : m env st with
  | nx env1 st1 =>
    rw [e] at q
    exact fun ρ1 H1 σ1 g1 sr1 er1 => hs ρ1 η st1 env1 σ1 H1 D sr1 er1 (SAfter.grow g1 q)
  | rt w s1 => rw [e] at q; exact q
  | bk env1 s1 => rw [e] at q; exact q
  | ct env1 s1 => rw [e] at q; exact q
  | ex x env1 s1 => rw [e] at q; exact q
  | stuck => rw [e] at q; exact q
theorem ss_ret {e : Expr} {m : M W} (h : SE X T Wx e m) : SSt X T Wx (.Return (some e) pos) (sRet m) := by
  intro ρ η st env σ H D s er q
  refine ⟨_, ps_ret pe_S, ?_⟩
  exact h ρ η st env σ H _ s er (q.bind er fun w s1 ρ1 H1 v _ g1 sr1 r1 h1 => h1 ρ1 H1 v Grow.refl sr1 r1)
theorem ss_expr {e : Expr} {m : M W} (h : SE X T Wx e m) (hs : swapsWith e none pos.line X.env = pure false := by rfl) : SSt X T Wx (.Expr e pos) (sExpr m) := by
  intro ρ η st env σ H D s er q
  refine ⟨_, ps_expr pe_S hs, ?_⟩
  exact h ρ η st env σ H _ s er (q.bind er fun w s1 ρ1 H1 v _ g1 sr1 r1 h1 => h1.nx sr1 (er.mono g1))
theorem ss_if {c : Expr} {a b : List Stmt} {mc : M Bool} {m k : MS} (hc : STt X T Wx c mc) (ha : SSs X T Wx a m) (hb : SSs X T Wx b k) : SSt X T Wx (.If c a b pos) (sIf mc m k) := by
  intro ρ η st env σ H D s er q
  refine ⟨_, ps_if pt_S pss_S pss_S, ?_⟩
  refine hc ρ η st env σ H _ s er (q.bind er fun w s1 ρ1 H1 v _ g1 sr1 r1 h1 => ?_)
  subst r1
  cases w with
  | true => exact iteT (ha ρ1 η s1 env σ H1 D sr1 (er.mono g1) h1)
  | false => exact iteF (hb ρ1 η s1 env σ H1 D sr1 (er.mono g1) h1)
/-! ### targets -/
theorem sg_name {i : Nat} {x : Str} (hN : X.N.Nodup) (hi : X.N[i]? = some x) (hx : Loc X.env.scope x) (hf : X.fn x = true ∨ X.env.scope.names.lookup x = some .local := by first | exact .inl rfl | exact .inr rfl) : SGt X T (.Name x pos) (gName' i) :=
  fun ρ η st env σ H w v Q s er r h => ⟨_, pg_name hN hi hx hf, h ρ H _ Grow.refl s (er.set r)⟩
theorem sgs_nil : SGs X T [] [] := by
  intro ρ η st env σ H ws vs Q s er r h
  refine ⟨_, pgs_nil, ?_⟩
  cases ws with
  | nil => simp only [VRs] at r; exact ⟨r, h ρ H σ Grow.refl s er⟩
  | cons w ws => exact h.elim
theorem sgs_cons {e : Expr} {es : List Expr} {g : MG} {gs : List MG} (h1 : SGt X T e g) (h2 : SGs X T es gs) (hs : (assignEach (e :: es) X.env).map (·.2) = assign e X.env :: (assignEach es X.env).map (·.2) := by rfl) : SGs X T (e :: es) (g :: gs) := by
  intro ρ η st env σ H ws vs Q s er r h
  refine ⟨_, pgs_cons pg_S pgs_S hs, ?_⟩
  cases ws with
  | nil => exact h.elim
  | cons w ws =>
    simp only [VRs] at r
    obtain ⟨v, rv, e1, r1, r2⟩ := r
    refine ⟨v, rv, e1, h1 ρ η st env σ H w v _ s er r1 ?_⟩
    unfold gAll at h
    cases q : g w env st with
    | none => rw [q] at h; exact h.elim
    | some p =>
      rw [q] at h
      obtain ⟨env1, st1⟩ := p
      intro ρ1 H1 σ1 g1 sr1 er1
      refine h2 ρ1 η st1 env1 σ1 H1 ws rv Q sr1 er1 (r2.mono g1) ?_
      dsimp only at h
      cases q2 : gAll gs ws env1 st1 with
      | none => rw [q2] at h; exact h.elim
      | some p2 =>
        rw [q2] at h
        obtain ⟨env2, st2⟩ := p2
        exact fun ρ2 H2 σ2 g2 => h ρ2 H2 σ2 (g1.trans g2)
theorem sg_tup {es : List Expr} {k : Nat} {gs : List MG} (hc : X.calm = true) (h : SGs X T es gs) (hn : (assignEach es X.env).length = gs.length := by rfl) (hst : (assignEach es X.env).findIdx? (·.1) = none := by rfl) : SGt X T (.Tuple es k pos) (gTup' gs) := by
  intro ρ η st env σ H w v Q s er r q
  refine ⟨_, pg_tup hc pgs_S hn hst, ?_⟩
  unfold gTup' at q
  split at q
  · rename_i ws
    obtain ⟨a, vs, e1, e2, e3⟩ := tup_ok r (show tupL (.tup ws) = some ws from rfl)
    refine ⟨a, vs, e1, e2, ?_, h ρ η st env σ H ws vs Q s er e3 q⟩
    rw [e3.len]
    have : ∀ (gs : List MG) (ws : List W) (env : Ev) (st : Sto), (gAll gs ws env st).isSome = true → ws.length = gs.length := by
      intro gs
      induction gs with
      | nil => intro ws env st; cases ws <;> simp [gAll]
      | cons g gs ih =>
        intro ws env st
        cases ws with
        | nil => simp [gAll]
        | cons w ws =>
          intro z
          unfold gAll at z
          cases q : g w env st with
          | none => rw [q] at z; cases z
          | some p =>
            rw [q] at z
            simp only [List.length_cons, ih ws p.1 p.2 z]
    refine this gs ws env st ?_
    cases z : gAll gs ws env st with
    | none => rw [z] at q; exact q.elim
    | some p => rfl
  · exact q.elim
theorem ss_asg {tg e : Expr} {m : M W} {g : MG} (he : SE X T Wx e m) (hg : SGt X T tg g) (hs : swapsWithSole [tg] e pos.line X.env = pure false := by rfl) (hw : swappedStores [tg] e X.env = pure none := by rfl)
    (h1 : (assignEach [tg] X.env).map (·.2) = [assign tg X.env] := by rfl) : SSt X T Wx (.Assign [tg] e pos) (sAsg m g) := by
  intro ρ η st env σ H D s er q
  refine ⟨_, ps_asg pe_S pg_S hs hw h1, ?_⟩
  refine he ρ η st env σ H _ s er (q.bind er fun w s1 ρ1 H1 v _ g1 sr1 r1 h2 => ?_)
  refine hg ρ1 η s1 env σ H1 w v _ sr1 (er.mono g1) r1 ?_
  unfold gDo at h2
  cases z : g w env s1 with
  | none => rw [z] at h2; exact h2.elim
  | some p => rw [z] at h2; exact h2
theorem ss_set {i : Nat} {x : Str} {e : Expr} {m : M W} {pos' : Pos} (hN : X.N.Nodup) (hi : X.N[i]? = some x) (hx : Loc X.env.scope x) (he : SE X T Wx e m) (hs : swapsWith e (some (.Name x pos')) pos.line X.env = pure false := by rfl) (hf : X.fn x = true ∨ X.env.scope.names.lookup x = some .local := by first | exact .inl rfl | exact .inr rfl) :
    SSt X T Wx (.Assign [.Name x pos'] e pos) (sAsg m (gName' i)) := by
  intro ρ η st env σ H D s er q
  refine ⟨_, ps_set hN hi hx pe_S hs hf, ?_⟩
  exact he ρ η st env σ H _ s er (q.bind er fun w s1 ρ1 H1 v _ g1 sr1 r1 h2 => h2 ρ1 H1 _ Grow.refl sr1 ((er.mono g1).set r1))
end
end Mi
namespace Mi
open PySem L2
/-- more hidden ones, all of them new -/
def Hid (η : List Addr) (H : Hp) (η' : List Addr) : Prop := (∀ a ∈ η, a ∈ η') ∧ ∀ a ∈ η', a ∈ η ∨ H a = none
section
variable {K : PySem.W.Frag} {T : Nat → Addr} {ρ ρ' η η' : List Addr} {H H' : Hp} {st : Sto}
theorem Hid.refl : Hid η H η := ⟨fun _ h => h, fun _ h => .inl h⟩
theorem Hid.not {a : Addr} {o : HO} (k : Hid η H η') (n : a ∉ η) (h : H a = some o) : a ∉ η' := fun z => by
  rcases k.2 a z with z | z
  · exact n z
  · rw [z] at h; cases h
theorem GH.more (g : Grow ρ H ρ' H') (k : Hid η H η') : GH ρ η H ρ' η' H' := by
  obtain ⟨t, e, _⟩ := g.pre
  exact ⟨⟨t, e⟩, fun a o h1 h2 h3 n => ⟨g.out h1 h3 n, k.not h2 h3, g.same a o h1 h3 n⟩⟩
theorem TupAt.more {a : Addr} {vs : List V} (g : Grow ρ H ρ' H') (k : Hid η H η') (h : TupAt K ρ η H a vs) : TupAt K ρ' η' H' a vs := by
  rcases h with ⟨h1, h2, h3⟩ | h
  · obtain ⟨o, e, n⟩ := rd_some h3
    exact .inl ⟨g.out h1 e n, k.not h2 e, g.rd h1 h3⟩
  · exact .inr h
theorem LstAt.more {a : Addr} {vs : List V} (g : Grow ρ H ρ' H') (k : Hid η H η') (h : LstAt K ρ η H a vs) : LstAt K ρ' η' H' a vs := by
  rcases h with ⟨h1, h2, h3⟩ | h
  · obtain ⟨o, e, n⟩ := rd_some h3
    exact .inl ⟨g.out h1 e n, k.not h2 e, g.rd h1 h3⟩
  · exact .inr h
mutual
theorem VR.more (g : Grow ρ H ρ' H') (k : Hid η H η') : ∀ {w : W} {v : V}, VR K ρ η H w v → VR K ρ' η' H' w v
  | .non, _, h => h
  | .bl _, _, h => h
  | .int _, _, h => h
  | .str _, _, h => h
  | .ty _, _, h => h
  | .at_ _, _, h => h
  | .fn _ _ _ _, _, h => ⟨h.1, h.2.trans (GH.more g k)⟩
  | .exc a d f w, v, h => by
    simp only [VR] at h ⊢
    obtain ⟨e, d1, d2, fs, u, x1, x2, r⟩ := h
    exact ⟨e, g.out d1 x1, k.not d2 x1, fs, u, g.same _ _ d1 x1, x2, VR.more g k r⟩
  | .ref i, v, h => by
    simp only [VR] at h ⊢
    obtain ⟨a, e, r⟩ := h
    exact ⟨a, g.at e, r⟩
  | .tup xs, v, h => by
    simp only [VR] at h ⊢
    obtain ⟨a, vs, e, t, r⟩ := h
    exact ⟨a, vs, e, t.more g k, VRs.more g k r⟩
  | .lst xs, v, h => by
    simp only [VR] at h ⊢
    obtain ⟨a, vs, e, ⟨t1, t2, t3⟩, r⟩ := h
    exact ⟨a, vs, e, ⟨g.out t1 t3, k.not t2 t3, g.same _ _ t1 t3⟩, VRs.more g k r⟩
  | .scr xs, v, h => by
    simp only [VR] at h ⊢
    obtain ⟨a, vs, e, t, r⟩ := h
    exact ⟨a, vs, e, t.more g k, VRs.more g k r⟩
theorem VRs.more (g : Grow ρ H ρ' H') (k : Hid η H η') : ∀ {ws : List W} {vs : List V}, VRs K ρ η H ws vs → VRs K ρ' η' H' ws vs
  | [], _, h => by simpa only [VRs] using h
  | x :: xs, vs, h => by
    simp only [VRs] at h ⊢
    obtain ⟨v, r, e, h1, h2⟩ := h
    exact ⟨v, r, e, VR.more g k h1, VRs.more g k h2⟩
end
end

/-! ### what a loop walks -/
structure Src where
  fuel : Nat
  at_ : Nat → Sto → Option (Option W)
def fixS (xs : List W) : Src := ⟨xs.length + 1, fun i _ => some xs[i]?⟩
def nodS (n : Nat) (len : Nat) : Src := ⟨len + 1, fun i st => match st[n]? with
  | some (.lst xs) => some xs[i]?
  | _ => none⟩
def SrcOk (K : PySem.W.Frag) (T : Nat → Addr) (ρ η : List Addr) (H : Hp) (s : Src) (J : It) : Prop := ∀ η', Hid η H η' → ∀ (i : Nat) (ρ' : List Addr) (H' : Hp) (st' : Sto), Grow ρ H ρ' H' → SR K T ρ' η' st' H' →
  match s.at_ i st' with
  | some (some w) => J.go i H' ∧ ∀ x H2, J.yld i H' x H2 → Grow ρ' H' ρ' H2 ∧ SR K T ρ' η' st' H2 ∧ VR K ρ' η' H2 w x
  | some none => J.stop i H'
  | none => True
abbrev MI := Ev → Sto → Rs Src
def SI (X : Cx) (T : Nat → Addr) (Wx : WX') (tg iter : Expr) (m : MI) : Prop := ∀ ρ η st env σ H (Q : It → Hp → Prop), SR X.K T ρ η st H → ER X.K ρ η H env σ → After X.K T η (fun ρ H s J => SrcOk X.K T ρ η H s J) ρ H (m env st) Q (fun c d H' => Wx c d σ H') → ∃ t, PI X tg iter t ∧ t σ H Q
def tSI (X : Cx) (tg iter : Expr) : TI := fun σ H Q => ∃ t, PI X tg iter t ∧ t σ H Q
theorem pi_S {X : Cx} {tg iter : Expr} : PI X tg iter (tSI X tg iter) := ⟨fun pins s σ H R I ⟨_, h, q⟩ => h.run pins s σ H R I q⟩
/-- the loop -/
def forS (s : Src) (g : MG) (body : MS) : Nat → Nat → MS
  | 0, _ => fun _ _ => .stuck
  | n + 1, i => fun env st => match s.at_ i st with
    | some (some w) => match g w env st with
      | some (env1, st1) => match body env1 st1 with
        | .nx env2 st2 => forS s g body n (i + 1) env2 st2
        | .ct env2 st2 => forS s g body n (i + 1) env2 st2
        | .bk env2 st2 => .nx env2 st2
        | r => r
      | none => .stuck
    | some none => .nx env st
    | none => .stuck
def sFor (m : MI) (g : MG) (body : MS) : MS := fun env st => (m env st).to env fun s st1 => forS s g body s.fuel 0 env st1
def whileS (c : M Bool) (body : MS) : Nat → MS
  | 0 => fun _ _ => .stuck
  | n + 1 => fun env st => (c env st).to env fun b s => if b = true then (match body env s with
        | .nx env2 st2 => whileS c body n env2 st2
        | .ct env2 st2 => whileS c body n env2 st2
        | .bk env2 st2 => .nx env2 st2
        | r => r) else .nx env s
def sWhile (fuel : Nat) (c : M Bool) (body : MS) : MS := whileS c body fuel
section
variable {X : Cx} {T : Nat → Addr} {Wx : WX'} {pos : Pos}
theorem ss_for {tg iter : Expr} {body : List Stmt} {mi : MI} {g : MG} {m : MS} (hp : PassesOwn (model X.prog X.w) X.A X.env X.xe) (hc : X.calm = true) (hi : SI X T Wx tg iter mi) (hg : SGt X T tg g) (hb : SSs X T Wx body m)
    (hs : ∀ x, foldedSetIterable iter X.env x = pure x := by intro _; rfl) : SSt X T Wx (.For tg iter body [] pos) (sFor mi g m) := by
  intro ρ η st env σ H D s er q
  refine ⟨_, ps_for hp hc pi_S pg_S pss_S hs, ?_⟩
  refine hi ρ η st env σ H _ s er (q.bind er fun src s1 ρ1 H1 J _ g1 sr1 ok h1 => ?_)
  refine ⟨fun i n σ' H' => ∃ ρ' st' env', Grow ρ1 H1 ρ' H' ∧ SR X.K T ρ' η st' H' ∧ ER X.K ρ' η H' env' σ' ∧ SAfter X.K T η ρ' H' (forS src g m n i env' st') D Wx, ⟨src.fuel, ρ1, s1, env, Grow.refl, sr1, er.mono g1, h1⟩, ?_⟩
  rintro i n σ2 H2 ⟨ρ2, st2, env2, g2, sr2, er2, h2⟩
  cases n with
  | zero => exact h2.elim
  | succ n =>
    have k := ok η Hid.refl i ρ2 H2 st2 g2 sr2
    unfold forS at h2
    split at h2
    · rename_i w e
      rw [e] at k
      obtain ⟨k1, k2⟩ := k
      refine .inr ⟨k1, fun σ' H' => ∃ ρ' st' env', Grow ρ1 H1 ρ' H' ∧ SR X.K T ρ' η st' H' ∧ ER X.K ρ' η H' env' σ' ∧ SAfter X.K T η ρ' H' (forS src g m n (i + 1) env' st') D Wx, fun σ' H' z => ⟨n, Nat.lt_succ_self n, z⟩, fun x H3 y => ?_⟩
      obtain ⟨g3, sr3, r3⟩ := k2 x H3 y
      refine hg ρ2 η st2 env2 σ2 H3 w x _ sr3 (er2.mono g3) r3 ?_
      split at h2
      · rename_i env4 st4 e2
        rw [e2]
        intro ρ4 H4 σ4 g4 sr4 er4
        refine hb ρ4 η st4 env4 σ4 H4 _ sr4 er4 ?_
        split at h2
        · rename_i env5 st5 e5
          rw [e5]
          exact fun ρ5 H5 σ5 g5 sr5 er5 => ⟨ρ5, st5, env5, ((g2.trans g3).trans g4).trans g5, sr5, er5, SAfter.grow ((g3.trans g4).trans g5) h2⟩
        · rename_i env5 st5 e5
          rw [e5]
          exact fun ρ5 H5 σ5 g5 sr5 er5 => ⟨ρ5, st5, env5, ((g2.trans g3).trans g4).trans g5, sr5, er5, SAfter.grow ((g3.trans g4).trans g5) h2⟩
        · rename_i env5 st5 e5
          rw [e5]
          exact fun ρ5 H5 σ5 g5 sr5 er5 => h2 ρ5 H5 σ5 ((g3.trans g4).trans g5) sr5 er5
        · rename_i r n1 n2 n3
          cases e5 : m env4 st4 with
          | nx a b => exact absurd e5 (n1 a b)
          | ct a b => exact absurd e5 (n2 a b)
          | bk a b => exact absurd e5 (n3 a b)
          | rt w5 s5 => rw [e5] at h2; exact fun ρ5 H5 v5 g5 sr5 r5 => h2 ρ5 H5 v5 ((g3.trans g4).trans g5) sr5 r5
          | ex x5 a b => rw [e5] at h2; exact fun ρ5 H5 σ5 c5 d5 g5 sr5 er5 xr5 => h2 ρ5 H5 σ5 c5 d5 ((g3.trans g4).trans g5) sr5 er5 xr5
          | stuck => rw [e5] at h2; exact h2
      · exact h2.elim
    · rename_i e
      rw [e] at k
      exact .inl ⟨k, h2.nx sr2 er2⟩
    · exact h2.elim
theorem ss_while {c : Expr} {body : List Stmt} {mc : M Bool} {m : MS} {fuel : Nat} (hp : PassesOwn (model X.prog X.w) X.A X.env X.xe) (hc : STt X T Wx c mc) (hb : SSs X T Wx body m) : SSt X T Wx (.While c body [] pos) (sWhile fuel mc m) := by
  intro ρ η st env σ H D s er q
  refine ⟨_, ps_while hp pt_S pss_S, ?_⟩
  refine ⟨fun n σ' H' => ∃ ρ' st' env', Grow ρ H ρ' H' ∧ SR X.K T ρ' η st' H' ∧ ER X.K ρ' η H' env' σ' ∧ SAfter X.K T η ρ' H' (whileS mc m n env' st') D Wx, ⟨fuel, ρ, st, env, Grow.refl, s, er, q⟩, ?_⟩
  rintro n σ2 H2 ⟨ρ2, st2, env2, g2, sr2, er2, h2⟩
  cases n with
  | zero => exact h2.elim
  | succ n =>
    unfold whileS at h2
    refine hc ρ2 η st2 env2 σ2 H2 _ sr2 er2 (h2.bind er2 fun b s3 ρ3 H3 b' _ g3 sr3 r3 h3 => ?_)
    subst r3
    cases b with
    | false => exact iteF (h3.nx sr3 (er2.mono g3))
    | true =>
      refine iteT ⟨fun σ' H' => ∃ ρ' st' env', Grow ρ H ρ' H' ∧ SR X.K T ρ' η st' H' ∧ ER X.K ρ' η H' env' σ' ∧ SAfter X.K T η ρ' H' (whileS mc m n env' st') D Wx, fun σ' H' z => ⟨n, Nat.lt_succ_self n, z⟩, ?_⟩
      rw [if_pos rfl] at h3
      refine hb ρ3 η s3 env2 σ2 H3 _ sr3 (er2.mono g3) ?_
      split at h3
      · rename_i env5 st5 e5
        rw [e5]
        exact fun ρ5 H5 σ5 g5 sr5 er5 => ⟨ρ5, st5, env5, (g2.trans g3).trans g5, sr5, er5, SAfter.grow g5 h3⟩
      · rename_i env5 st5 e5
        rw [e5]
        exact fun ρ5 H5 σ5 g5 sr5 er5 => ⟨ρ5, st5, env5, (g2.trans g3).trans g5, sr5, er5, SAfter.grow g5 h3⟩
      · rename_i env5 st5 e5
        rw [e5]
        exact fun ρ5 H5 σ5 g5 sr5 er5 => h3 ρ5 H5 σ5 g5 sr5 er5
      · rename_i r n1 n2 n3
        cases e5 : m env2 s3 with
        | nx a b => exact absurd e5 (n1 a b)
        | ct a b => exact absurd e5 (n2 a b)
        | bk a b => exact absurd e5 (n3 a b)
        | rt w5 s5 => rw [e5] at h3; exact h3
        | ex x5 a b => rw [e5] at h3; exact h3
        | stuck => rw [e5] at h3; exact h3
/-! ### sources -/
def iL (m : M W) : MI := fun env st => (m env st).bind fun w s => match w with
  | .lst xs => .ok (fixS xs) s
  | .scr xs => .ok (fixS xs) s
  | .tup xs => .stuck
  | .ref n => match s[n]? with
    | some (.lst xs) => .ok (nodS n xs.length) s
    | _ => .stuck
  | _ => .stuck
def iT (m : M W) : MI := fun env st => (m env st).bind fun w s => match w with
  | .tup xs => .ok (fixS xs) s
  | _ => .stuck
def rngW (lo : Int) (n : Nat) : List W := (List.range n).map fun (i : Nat) => W.int (lo + (i : Int))
def small62 (i : Int) : Bool := decide (i.natAbs < 2 ^ 62)
theorem small62_of {i : Int} (h : small62 i = true) : -(2 ^ 62) ≤ i ∧ i < 2 ^ 62 := by
  simp only [small62, decide_eq_true_eq] at h
  omega
def iR1 (m : M (List W)) : MI := fun env st => (m env st).bind fun ws s => match ws with
  | [.int j] => if small62 j then .ok (fixS (rngW 0 j.toNat)) s else .stuck
  | _ => .stuck
def iR2 (m : M (List W)) : MI := fun env st => (m env st).bind fun ws s => match ws with
  | [.int i, .int j] => if small62 i ∧ small62 j then .ok (fixS (rngW i (j - i).toNat)) s else .stuck
  | _ => .stuck
theorem src_seq {ρ η : List Addr} {H : Hp} {a : Addr} {xs : List W} {vs : List V} (hl : ∀ ρ' H', Grow ρ H ρ' H' → SqL X.K H' a vs) (r : VRs X.K ρ η H xs vs) : SrcOk X.K T ρ η H (fixS xs) (Itl X.K a) := by
  intro η' k i ρ' H' st' g sr
  have q := hl ρ' H' g
  show match some xs[i]? with | some (some w) => _ | some none => _ | none => _
  cases e : xs[i]? with
  | none => exact ⟨vs, q, by rw [r.len]; exact List.getElem?_eq_none_iff.mp e⟩
  | some w =>
    obtain ⟨v, e1, e2⟩ := r.get e
    refine ⟨⟨vs, v, q, e1⟩, fun x H2 y => ?_⟩
    obtain ⟨y1, y2⟩ := y
    subst y1
    have := y2 vs q
    rw [e1] at this
    cases this
    exact ⟨Grow.refl, sr, e2.more g k⟩
theorem lst_at {ρ η : List Addr} {H : Hp} {a : Addr} {vs : List V} (h : a ∉ ρ ∧ a ∉ η ∧ H a = some (.lst vs)) : ∀ ρ' H', Grow ρ H ρ' H' → SqL X.K H' a vs := fun ρ' H' g => SqL.of (g.same _ _ h.1 h.2.2)
theorem src_nod {ρ η : List Addr} {H : Hp} {a : Addr} {n len : Nat} (h : ρ[n]? = some a) : SrcOk X.K T ρ η H (nodS n len) (Itl X.K a) := by
  intro η' k i ρ' H' st' g sr
  show match (match st'[n]? with | some (.lst xs) => some xs[i]? | _ => none) with | some (some w) => _ | some none => _ | none => True
  cases e : st'[n]? with
  | none => trivial
  | some nd =>
    have q := sr.at_ n nd a e (g.at h)
    cases nd with
    | lst xs =>
      obtain ⟨vs, q1, q2⟩ := q
      dsimp only
      cases e2 : xs[i]? with
      | none => exact ⟨vs, SqL.of q1, by rw [q2.len]; exact List.getElem?_eq_none_iff.mp e2⟩
      | some w =>
        obtain ⟨v, e3, e4⟩ := q2.get e2
        refine ⟨⟨vs, v, SqL.of q1, e3⟩, fun x H2 y => ?_⟩
        obtain ⟨y1, y2⟩ := y
        subst y1
        have := y2 vs (SqL.of q1)
        rw [e3] at this
        cases this
        exact ⟨Grow.refl, sr, e4⟩
    | _ => trivial
theorem si_list {tg l : Expr} {m : M W} (h : SE X T Wx l m) : SI X T Wx tg l (iL m) := by
  intro ρ η st env σ H Q s er q
  refine ⟨_, pi_list pe_S, ?_⟩
  refine h ρ η st env σ H _ s er (q.bind fun w s1 ρ1 H1 v g1 sr1 r1 h1 => ?_)
  split at h1
  · rename_i xs
    simp only [VR] at r1
    obtain ⟨a, vs, e1, e2, e3⟩ := r1
    exact ⟨a, e1, ⟨vs, SqL.of e2.2.2⟩, h1.ok sr1 (src_seq (lst_at e2) e3)⟩
  · rename_i xs
    simp only [VR] at r1
    obtain ⟨a, vs, e1, e2, e3⟩ := r1
    exact ⟨a, e1, ⟨vs, e2.sq⟩, h1.ok sr1 (src_seq (fun ρ' H' g => (e2.mono g).sq) e3)⟩
  · exact h1.elim
  · rename_i n
    split at h1
    · rename_i xs e
      obtain ⟨a, e1, e2, vs, e3, e4⟩ := node_at sr1 r1 e
      exact ⟨a, e1, ⟨vs, SqL.of e3⟩, h1.ok sr1 (src_nod e2)⟩
    · exact h1.elim
  · exact h1.elim
theorem si_tup {tg l : Expr} {m : M W} (h : SE X T Wx l m) : SI X T Wx tg l (iT m) := by
  intro ρ η st env σ H Q s er q
  refine ⟨_, pi_tup pe_S, ?_⟩
  refine h ρ η st env σ H _ s er (q.bind fun w s1 ρ1 H1 v g1 sr1 r1 h1 => ?_)
  split at h1
  · rename_i xs
    simp only [VR] at r1
    obtain ⟨a, vs, e1, e2, e3⟩ := r1
    refine ⟨a, e1, ⟨vs, e2.sq⟩, h1.ok sr1 ?_⟩
    intro η' k i ρ' H' st' g sr
    have q : SqT X.K H' a vs := (e2.mono g).sq
    show match some xs[i]? with | some (some w) => _ | some none => _ | none => _
    cases e : xs[i]? with
    | none => exact ⟨vs, q, by rw [e3.len]; exact List.getElem?_eq_none_iff.mp e⟩
    | some w =>
      obtain ⟨v, f1, f2⟩ := e3.get e
      refine ⟨⟨vs, v, q, f1⟩, fun x H2 y => ?_⟩
      obtain ⟨y1, y2⟩ := y
      subst y1
      have := y2 vs q
      rw [f1] at this
      cases this
      exact ⟨Grow.refl, sr, f2.more g k⟩
  · exact h1.elim
theorem src_rng {ρ η : List Addr} {H : Hp} {lo : Int} {n : Nat} : SrcOk X.K T ρ η H (fixS (rngW lo n)) (Itr lo n) := by
  intro η' k i ρ' H' st' g sr
  show match some (rngW lo n)[i]? with | some (some w) => _ | some none => _ | none => _
  unfold rngW
  rw [List.getElem?_map]
  by_cases hi : i < n
  · rw [List.getElem?_eq_getElem (by simpa using hi)]
    simp only [List.getElem_range, Option.map_some]
    refine ⟨hi, fun x H2 y => ?_⟩
    obtain ⟨y1, y2⟩ := y
    subst y1
    exact ⟨Grow.refl, sr, by simp only [VR]; exact y2⟩
  · rw [List.getElem?_eq_none (by simpa using Nat.le_of_not_lt hi)]
    exact Nat.le_of_not_lt hi
theorem si_range1 {tg a : Expr} {m : M (List W)} {p pos : Pos} (hg : Gl X (Str.ofString "range")) (hm : X.mg (Str.ofString "range") = none) (h : SA X T Wx [a] m) (hst : starEach [a] X.env = [(false, eval a X.env)] := by rfl) :
    SI X T Wx tg (.Call (.Name (Str.ofString "range") p) [a] [] pos) (iR1 m) := by
  intro ρ η st env σ H Q s er q
  refine ⟨_, pi_range1 hg hm pa_S hst, ?_⟩
  refine h ρ η st env σ H _ s er (q.bind fun ws s1 ρ1 H1 vs g1 sr1 r1 h1 => ?_)
  split at h1
  · rename_i j
    split at h1
    · rename_i z
      simp only [VRs, VR] at r1
      obtain ⟨v, r, e1, e2, e3⟩ := r1
      subst e2; subst e3
      have z := small62_of z
      exact ⟨j, e1, z.1, z.2, h1.ok sr1 src_rng⟩
    · exact h1.elim
  · exact h1.elim
end
end Mi
namespace Mi
open PySem L2
/-! ### list comprehensions -/
def wipeW (env : Ev) : List Nat → Ev
  | [] => env
  | v :: vs => (wipeW env vs).set v none
/-- what a comprehension binds: a name, or some names at once -/
inductive CT where
  | one (i : Nat) | tup (is : List Nat)
def CT.ix : CT → List Nat
  | .one i => [i]
  | .tup is => is
def setAll : List Nat → List W → Ev → Option Ev
  | [], [], env => some env
  | i :: is, w :: ws, env => setAll is ws (env.set i (some w))
  | _, _, _ => none
def CT.put (t : CT) (w : W) (env : Ev) : Option Ev := match t with
  | .one i => some (env.set i (some w))
  | .tup is => match w with
    | .tup ws => setAll is ws env
    | _ => none
def gNames : List Nat → TGs
  | [] => gNil
  | i :: is => gCons (gName i) (gNames is)
def CT.tg (K : PySem.W.Frag) : CT → TG
  | .one i => gName i
  | .tup is => gTup K is.length (gNames is)
/-- the loop: what was made so far -/
def compS (s : Src) (t : CT) (cond : M Bool) (elt : M W) (env : Ev) : Nat → Nat → List W → Sto → Rs (List W)
  | 0, _, _, _ => .stuck
  | n + 1, i, acc, st => match s.at_ i st with
    | some (some w) => match t.put w env with
      | some env1 => match cond env1 st with
        | .ok true st1 => match elt env1 st1 with
          | .ok v st2 => if acc.length < sizeLine then compS s t cond elt env n (i + 1) (acc ++ [v]) st2 else .stuck
          | _ => .stuck
        | .ok false st1 => compS s t cond elt env n (i + 1) acc st1
        | _ => .stuck
      | none => .stuck
    | some none => .ok acc st
    | none => .stuck
def mComp (fz : Bool) (mi : MI) (vs : List Nat) (t : CT) (cond : M Bool) (elt : M W) : M W := fun env st => (mi env st).bind fun s st1 => (compS s t cond elt (wipeW env vs) s.fuel 0 [] st1).bind fun ws st2 => newL fz ws st2
def mYes : M Bool := fun _ st => .ok true st
def W0 : WX' := fun _ _ _ _ => False
section
variable {K : PySem.W.Frag} {T : Nat → Addr} {ρ ρ' η η' : List Addr} {H H' : Hp} {st : Sto}
theorem ER.wipe {env : Ev} {σ : St} (h : ER K ρ η H env σ) : ∀ vs : List Nat, ER K ρ η H (wipeW env vs) (wipe σ vs)
  | [] => h
  | v :: vs => by
    have k := ER.wipe h vs
    refine ⟨by simp only [wipeW, L2.wipe, List.length_set]; exact k.1, fun j u e => ?_⟩
    unfold wipeW at e
    unfold L2.wipe
    rw [List.getElem?_set] at e ⊢
    split at e
    · split at e <;> cases e
    · rename_i q
      rw [if_neg q]
      exact k.2 j u e
theorem wipe_set {i : Nat} {x : V} : ∀ {vs : List Nat} {σ : St}, i ∈ vs → wipe (σ.set i (some x)) vs = wipe σ vs
  | [], _, h => by simp at h
  | v :: vs, σ, h => by
    unfold wipe
    by_cases e : i ∈ vs
    · rw [wipe_set e]
    · have : i = v := by
        rcases List.mem_cons.mp h with h | h
        · exact h
        · exact absurd h e
      subst this
      have com : ∀ (vs : List Nat) (σ : St), i ∉ vs → wipe (σ.set i (some x)) vs = (wipe σ vs).set i (some x) := by
        intro vs
        induction vs with
        | nil => intro σ _; rfl
        | cons u us ih =>
          intro σ hn
          unfold wipe
          rw [ih σ (fun z => hn (List.mem_cons_of_mem _ z)), List.set_comm]
          rintro rfl
          exact hn List.mem_cons_self
      rw [com vs σ e, List.set_set]
theorem hid_new {D : Addr} (n : H D = none) : Hid η H (D :: η) := ⟨fun _ h => List.mem_cons_of_mem _ h, fun a h => by
  rcases List.mem_cons.mp h with h | h
  · exact .inr (h ▸ n)
  · exact .inl h⟩
theorem ER.more {env : Ev} {σ : St} (g : Grow ρ H ρ' H') (k : Hid η H η') (h : ER K ρ η H env σ) : ER K ρ' η' H' env σ := ⟨h.1, fun i w e => by
  obtain ⟨v, q, r⟩ := h.2 i w e
  exact ⟨v, q, r.more g k⟩⟩
theorem TbR.more {a : Addr} {p : Nat} {q : Str} (g : Grow ρ H ρ' H') (k : Hid η H η') (e : H' a = H a) (h : TbR T ρ η H a p q) : TbR T ρ' η' H' a p q := by
  obtain ⟨e0, ps, h1, h2, h3⟩ := h
  refine ⟨e0, ps, e.trans h1, h2, fun pos cv z => ?_⟩
  obtain ⟨c, c1, c2, c3, c4⟩ := h3 pos cv z
  exact ⟨c, c1, g.out c2 c4, fun y => (k.2 c y).elim c3 fun y => (by rw [y] at c4; cases c4), g.same c _ c2 c4⟩
theorem TbR.hid {D a : Addr} {p : Nat} {q : Str} {o : HO} (n : D ∈ η) (ne : a ≠ D) (h : TbR T ρ η H a p q) : TbR T ρ η (upd H D o) a p q := by
  obtain ⟨e0, ps, h1, h2, h3⟩ := h
  refine ⟨e0, ps, by rw [upd_ne ne]; exact h1, h2, fun pos cv z => ?_⟩
  obtain ⟨c, c1, c2, c3, c4⟩ := h3 pos cv z
  exact ⟨c, c1, c2, c3, by rw [upd_ne (fun y => c3 (by rw [y]; exact n))]; exact c4⟩
theorem TbR.less {a : Addr} {p : Nat} {q : Str} (l : ∀ b ∈ η', b ∈ η) (h : TbR T ρ η H a p q) : TbR T ρ η' H a p q := by
  obtain ⟨e0, ps, h1, h2, h3⟩ := h
  refine ⟨e0, ps, h1, h2, fun pos cv z => ?_⟩
  obtain ⟨c, c1, c2, c3, c4⟩ := h3 pos cv z
  exact ⟨c, c1, c2, fun y => c3 (l c y), c4⟩
theorem TbR.shift {D a : Addr} {p : Nat} {q : Str} (h : TbR T ρ (D :: η) H a p q) : TbR T (ρ ++ [D]) η H a p q := by
  obtain ⟨e0, ps, h1, h2, h3⟩ := h
  refine ⟨e0, ps, h1, h2, fun pos cv z => ?_⟩
  obtain ⟨c, c1, c2, c3, c4⟩ := h3 pos cv z
  simp only [List.mem_cons, not_or] at c3
  exact ⟨c, c1, by simp [c2, c3.1], c3.2, c4⟩
theorem NR.more {a : Addr} {n : Nd} (g : Grow ρ H ρ' H') (k : Hid η H η') (e : H' a = H a) (h : NR K T ρ η H a n) : NR K T ρ' η' H' a n := by
  cases n with
  | lst xs => obtain ⟨vs, z, r⟩ := h; exact ⟨vs, e.trans z, r.more g k⟩
  | dk kvs => obtain ⟨kv, z, q, r⟩ := h; exact ⟨kv, e.trans z, q, r.more g k⟩
  | lk kvs => obtain ⟨od, kv, z, q, r⟩ := h; exact ⟨od, kv, e.trans z, q, r.more g k⟩
  | ins c fs => obtain ⟨dx, fv, z, q, r⟩ := h; exact ⟨dx, fv, e.trans z, q, r.more g k⟩
  | tb p q => exact TbR.more g k e h
/-- a hidden object is made -/
theorem SR.hide {D : Addr} {o : HO} (s : SR K T ρ η st H) (n : H D = none) (po : plO o = true := by rfl) : SR K T ρ (D :: η) st (upd H D o) := by
  refine ⟨s.nd, s.len, fun a ha => ?_, fun a ha => ?_, fun i nd a e q => ?_⟩
  · rcases List.mem_cons.mp ha with h | h
    · rw [h]; exact s.fresh n
    · exact s.hid a h
  · rcases List.mem_cons.mp ha with h | h
    · exact ⟨o, by rw [h, upd_same], po⟩
    · obtain ⟨u, e, pl⟩ := s.has a h
      exact ⟨u, by rw [upd_ne (ne_of_none e n)]; exact e, pl⟩
  · obtain ⟨u, z⟩ := s.there q
    exact (s.at_ i nd a e q).more (Grow.new n) (hid_new n) (upd_ne (ne_of_none z n))
/-- a hidden object changes: what else stands -/
theorem TupAt.hid {a D : Addr} {o : HO} {vs : List V} (n : D ∈ η) (h : TupAt K ρ η H a vs) : TupAt K ρ η (upd H D o) a vs := by
  have := (h.hide (o := o) (.inr n)).less (η' := η) fun b hb => List.mem_cons_of_mem _ hb
  exact this
theorem VR.hid {D : Addr} {o : HO} (n : D ∈ η) {w : W} {v : V} (h : VR K ρ η H w v) : VR K ρ η (upd H D o) w v := (h.hide (o := o) (.inr n)).less fun b hb => List.mem_cons_of_mem _ hb
theorem VRs.hid {D : Addr} {o : HO} (n : D ∈ η) {w : List W} {v : List V} (h : VRs K ρ η H w v) : VRs K ρ η (upd H D o) w v := (h.hide (o := o) (.inr n)).less fun b hb => List.mem_cons_of_mem _ hb
theorem SR.hid' {D : Addr} {o : HO} (n : D ∈ η) (s : SR K T ρ η st H) (po : plO o = true := by rfl) : SR K T ρ η st (upd H D o) := by
  have nr : D ∉ ρ := s.hid D n
  refine ⟨s.nd, s.len, s.hid, fun a ha => ?_, fun i nd a e q => ?_⟩
  · by_cases z : a = D
    · exact ⟨o, by rw [z, upd_same], po⟩
    · obtain ⟨u, e, pl⟩ := s.has a ha
      exact ⟨u, by rw [upd_ne z]; exact e, pl⟩
  · have ne : a ≠ D := fun z => nr (z ▸ List.mem_of_getElem? q)
    have k := s.at_ i nd a e q
    cases nd with
    | lst xs => obtain ⟨vs, z, r⟩ := k; exact ⟨vs, by rw [upd_ne ne]; exact z, r.hid n⟩
    | dk kvs => obtain ⟨kv, z, q, r⟩ := k; exact ⟨kv, by rw [upd_ne ne]; exact z, q, r.hid n⟩
    | lk kvs => obtain ⟨od, kv, z, q, r⟩ := k; exact ⟨od, kv, by rw [upd_ne ne]; exact z, q, r.hid n⟩
    | ins c fs => obtain ⟨dx, fv, z, q, r⟩ := k; exact ⟨dx, fv, by rw [upd_ne ne]; exact z, q, r.hid n⟩
    | tb p q => exact TbR.hid n ne k
/-- an object that was not there at the start changes -/
theorem Grow.hid {D : Addr} {o : HO} (g : Grow ρ H ρ' H') (n : H D = none) (po : nt o = true := by rfl) : Grow ρ H ρ' (upd H' D o) := by
  obtain ⟨t, e, ht⟩ := g.pre
  refine ⟨⟨t, e, ht⟩, fun a u na h nu => ?_, fun a u h nu => ?_, fun a u x h => by rw [upd_ne (ne_of_none h n)]; exact g.frz a u x h⟩
  · rw [upd_ne (ne_of_none h n)]
    exact g.same a u na h nu
  · by_cases z : a = D
    · exact ⟨o, by rw [z, upd_same], po⟩
    · obtain ⟨u', k, nk⟩ := g.all a u h nu
      exact ⟨u', by rw [upd_ne z]; exact k, nk⟩
/-- the hidden object is let go as a list that stands still -/
theorem SR.unhide {D : Addr} (s : SR K T ρ (D :: η) st H) : SR K T ρ η st H := by
  refine ⟨s.nd, s.len, fun a ha => s.hid a (List.mem_cons_of_mem _ ha), fun a ha => s.has a (List.mem_cons_of_mem _ ha), fun i nd a e q => ?_⟩
  have k := s.at_ i nd a e q
  have l : ∀ b ∈ η, b ∈ D :: η := fun b hb => List.mem_cons_of_mem _ hb
  cases nd with
  | lst xs => obtain ⟨vs, z, r⟩ := k; exact ⟨vs, z, r.less l⟩
  | dk kvs => obtain ⟨kv, z, q, r⟩ := k; exact ⟨kv, z, q, r.less l⟩
  | lk kvs => obtain ⟨od, kv, z, q, r⟩ := k; exact ⟨od, kv, z, q, r.less l⟩
  | ins c fs => obtain ⟨dx, fv, z, q, r⟩ := k; exact ⟨dx, fv, z, q, r.less l⟩
  | tb p q => exact TbR.less l k
/-- a hidden one becomes a place -/
theorem TupAt.shift {a D : Addr} {vs : List V} (h : TupAt K ρ (D :: η) H a vs) : TupAt K (ρ ++ [D]) η H a vs := h.imp (fun h => ⟨by
  have := h.2.1
  simp only [List.mem_cons, not_or] at this
  simp [h.1, this.1], fun z => h.2.1 (List.mem_cons_of_mem _ z), h.2.2⟩) id
theorem LstAt.shift {a D : Addr} {vs : List V} (h : LstAt K ρ (D :: η) H a vs) : LstAt K (ρ ++ [D]) η H a vs := h.imp (fun h => ⟨by
  have := h.2.1
  simp only [List.mem_cons, not_or] at this
  simp [h.1, this.1], fun z => h.2.1 (List.mem_cons_of_mem _ z), h.2.2⟩) id
mutual
theorem VR.shift {D : Addr} : ∀ {w : W} {v : V}, VR K ρ (D :: η) H w v → VR K (ρ ++ [D]) η H w v
  | .non, _, h => h
  | .bl _, _, h => h
  | .int _, _, h => h
  | .str _, _, h => h
  | .ty _, _, h => h
  | .at_ _, _, h => h
  | .fn _ _ _ _, _, h => ⟨h.1, h.2.trans GH.shift⟩
  | .exc a d f w, v, h => by
    simp only [VR] at h ⊢
    obtain ⟨e, d1, d2, fs, u, x1, x2, r⟩ := h
    simp only [List.mem_cons, not_or] at d2
    exact ⟨e, by simp [d1, d2.1], d2.2, fs, u, x1, x2, VR.shift r⟩
  | .ref i, v, h => by
    simp only [VR] at h ⊢
    obtain ⟨a, e, r⟩ := h
    exact ⟨a, by rw [List.getElem?_append_left (List.getElem?_eq_some_iff.mp e).1]; exact e, r⟩
  | .tup xs, v, h => by
    simp only [VR] at h ⊢
    obtain ⟨a, vs, e, t, r⟩ := h
    exact ⟨a, vs, e, t.shift, VRs.shift r⟩
  | .lst xs, v, h => by
    simp only [VR] at h ⊢
    obtain ⟨a, vs, e, ⟨t1, t2, t3⟩, r⟩ := h
    simp only [List.mem_cons, not_or] at t2
    exact ⟨a, vs, e, ⟨by simp [t1, t2.1], t2.2, t3⟩, VRs.shift r⟩
  | .scr xs, v, h => by
    simp only [VR] at h ⊢
    obtain ⟨a, vs, e, t, r⟩ := h
    exact ⟨a, vs, e, t.shift, VRs.shift r⟩
theorem VRs.shift {D : Addr} : ∀ {ws : List W} {vs : List V}, VRs K ρ (D :: η) H ws vs → VRs K (ρ ++ [D]) η H ws vs
  | [], _, h => by simpa only [VRs] using h
  | x :: xs, vs, h => by
    simp only [VRs] at h ⊢
    obtain ⟨v, r, e, h1, h2⟩ := h
    exact ⟨v, r, e, VR.shift h1, VRs.shift h2⟩
end
theorem NR.shift {a D : Addr} {n : Nd} (h : NR K T ρ (D :: η) H a n) : NR K T (ρ ++ [D]) η H a n := by
  cases n with
  | lst xs => obtain ⟨vs, z, r⟩ := h; exact ⟨vs, z, r.shift⟩
  | dk kvs => obtain ⟨kv, z, q, r⟩ := h; exact ⟨kv, z, q, r.shift⟩
  | lk kvs => obtain ⟨od, kv, z, q, r⟩ := h; exact ⟨od, kv, z, q, r.shift⟩
  | ins c fs => obtain ⟨dx, fv, z, q, r⟩ := h; exact ⟨dx, fv, z, q, r.shift⟩
  | tb p q => exact TbR.shift h
theorem SR.shift {D : Addr} {nd : Nd} (s : SR K T ρ (D :: η) st H) (nD : D ∉ η) (k : NR K T (ρ ++ [D]) η H D nd) : SR K T (ρ ++ [D]) η (st ++ [nd]) H := by
  have nr : D ∉ ρ := s.hid D List.mem_cons_self
  refine ⟨?_, by simp [s.len], fun a ha z => ?_, fun a ha => s.has a (List.mem_cons_of_mem _ ha), fun i m a e q => ?_⟩
  · rw [List.nodup_append]
    exact ⟨s.nd, by simp, fun a ha b hb z => by
      rw [List.mem_singleton] at hb
      subst hb; subst z
      exact nr ha⟩
  · rcases List.mem_append.mp z with z | z
    · exact s.hid a (List.mem_cons_of_mem _ ha) z
    · rw [List.mem_singleton] at z
      exact nD (z ▸ ha)
  · by_cases hi : i < st.length
    · rw [List.getElem?_append_left hi] at e
      rw [List.getElem?_append_left (by rw [s.len]; exact hi)] at q
      exact (s.at_ i m a e q).shift
    · have l1 := (List.getElem?_eq_some_iff.mp e).1
      have hi2 : i = st.length := by
        rw [List.length_append, List.length_singleton] at l1
        omega
      subst hi2
      rw [List.getElem?_append_right (Nat.le_refl _)] at e
      rw [List.getElem?_append_right (by rw [s.len]; exact Nat.le_refl _)] at q
      simp at e
      simp [s.len] at q
      subst e; subst q
      exact k
theorem Grow.shift {D : Addr} (g : Grow ρ H ρ' H') (n : H D = none) : Grow ρ H (ρ' ++ [D]) H' := by
  obtain ⟨t, e, ht⟩ := g.pre
  refine ⟨⟨t ++ [D], by rw [e, List.append_assoc], fun a ha => ?_⟩, g.same', g.all, g.frz⟩
  rcases List.mem_append.mp ha with ha | ha
  · exact ht a ha
  · rw [List.mem_singleton] at ha
    rw [ha]; exact ab_of n
theorem gNames_ok {vs : List Nat} : ∀ {is : List Nat} {ws : List W} {us : List V} {env env1 : Ev} {σ : St} {H : Hp} {Q : St → Hp → Prop}, setAll is ws env = some env1 → VRs K ρ η H ws us → ER K ρ η H env σ → (∀ i ∈ is, i ∈ vs) →
    (∀ σ1, ER K ρ η H env1 σ1 → wipe σ1 vs = wipe σ vs → Q σ1 H) → gNames is us σ H Q ∧ us.length = is.length
  | [], [], us, env, env1, σ, H, Q, e, r, er, hv, q => by
    simp only [setAll, Option.some.injEq] at e
    subst e
    simp only [VRs] at r
    subst r
    exact ⟨⟨rfl, q σ er rfl⟩, rfl⟩
  | i :: is, w :: ws, us, env, env1, σ, H, Q, e, r, er, hv, q => by
    simp only [setAll] at e
    simp only [VRs] at r
    obtain ⟨v, rr, e1, r1, r2⟩ := r
    subst e1
    have ih := gNames_ok (Q := Q) e r2 (er.set (i := i) r1) (fun j hj => hv j (List.mem_cons_of_mem _ hj)) fun σ1 e1 e2 => q σ1 e1 (e2.trans (wipe_set (hv i List.mem_cons_self)))
    exact ⟨⟨v, rr, rfl, ih.1⟩, by simp [ih.2]⟩
  | [], w :: ws, us, env, env1, σ, H, Q, e, r, er, hv, q => by simp [setAll] at e
  | i :: is, [], us, env, env1, σ, H, Q, e, r, er, hv, q => by simp [setAll] at e
theorem ct_ok {vs : List Nat} {t : CT} {w : W} {v : V} {env env1 : Ev} {σ : St} {H : Hp} {Q : St → Hp → Prop} (e : t.put w env = some env1) (r : VR K ρ η H w v) (er : ER K ρ η H env σ) (hv : ∀ i ∈ t.ix, i ∈ vs)
    (q : ∀ σ1, ER K ρ η H env1 σ1 → wipe σ1 vs = wipe σ vs → Q σ1 H) : t.tg K v σ H Q := by
  cases t with
  | one i =>
    simp only [CT.put, Option.some.injEq] at e
    subst e
    exact q _ (er.set r) (wipe_set (hv i (by simp [CT.ix])))
  | tup is =>
    simp only [CT.put] at e
    split at e
    · rename_i ws
      simp only [VR] at r
      obtain ⟨a, us, e1, e2, e3⟩ := r
      obtain ⟨h1, h2⟩ := gNames_ok (vs := vs) e e3 er hv q
      exact ⟨a, us, e1, e2.sq, h2, h1⟩
    · cases e
end
section
variable {X : Cx} {T : Nat → Addr} {Wx : WX'} {pos : Pos}
theorem wipe_wipe {σ : St} : ∀ {vs : List Nat}, wipe (wipe σ vs) vs = wipe σ vs := by
  intro vs
  have gt : ∀ (us : List Nat) (σ : St) (j : Nat), (wipe σ us)[j]? = if j ∈ us then (if j < σ.length then some none else none) else σ[j]? := by
    intro us
    induction us with
    | nil => intro σ j; simp [wipe]
    | cons u us ih =>
      intro σ j
      unfold wipe
      rw [List.getElem?_set, wipe_length, ih]
      by_cases e : u = j
      · subst e
        simp
      · have e2 : ¬ j = u := fun z => e z.symm
        rw [if_neg e]
        simp [e2]
  apply List.ext_getElem?
  intro j
  rw [gt, gt, wipe_length]
  split <;> rfl
/-- an expression that is read by t alone -/
def SEt (X : Cx) (T : Nat → Addr) (Wx : WX') (t : TE) (m : M W) : Prop := ∀ ρ η st env σ H Q, SR X.K T ρ η st H → ER X.K ρ η H env σ → After X.K T η (fun ρ H => VR X.K ρ η H) ρ H (m env st) Q (fun c d H' => Wx c d σ H') → t σ H Q
theorem se_T {e : Expr} {t : TE} {m : M W} (h : SEt X T Wx t m) (hp : PE X e t) : SE X T Wx e m := fun ρ η st env σ H Q s er q => ⟨t, hp, h ρ η st env σ H Q s er q⟩
theorem ss_setT {i : Nat} {c : Stmt} {t : TE} {m : M W} (h : SEt X T Wx t m) (hp : PS X c (tAsg t (gName i))) : SSt X T Wx c (sAsg m (gName' i)) := by
  intro ρ η st env σ H D s er q
  refine ⟨_, hp, ?_⟩
  exact h ρ η st env σ H _ s er (q.bind er fun w s1 ρ1 H1 v _ g1 sr1 r1 h2 => h2 ρ1 H1 _ Grow.refl sr1 ((er.mono g1).set r1))
theorem comp_T {fz : Bool} {elt tg iter : Expr} {ifs : List Expr} {scope : Scope} {own : List (Str × Nat)} {mi : MI} {t : CT} {cond : M Bool} {m : M W} (hi : SI X T Wx tg iter mi)
    (hv : ∀ i ∈ t.ix, i ∈ own.map (fun p : Str × Nat => p.2))
    (ht : (ifs = [] ∧ cond = mYes) ∨ ∃ c, ifs = [c] ∧ ∀ (s : Shared) (H : Hp) (C : Addr) (cl : List (Str × Addr)) (fp : List Addr), STt (X.blk s H scope (compEnvC scope cl C X.env) fp) T W0 c cond)
    (he : ∀ (s : Shared) (H : Hp) (C : Addr) (cl : List (Str × Addr)) (fp : List Addr), SE (X.blk s H scope (compEnvC scope cl C X.env) fp) T W0 elt m) :
    ∃ tt te, (∀ (s : Shared) (H : Hp) (C : Addr) (cl : List (Str × Addr)) (fp : List Addr), PTs (X.blk s H scope (compEnvC scope cl C X.env) fp) ifs tt) ∧
      (∀ (s : Shared) (H : Hp) (C : Addr) (cl : List (Str × Addr)) (fp : List Addr), PE (X.blk s H scope (compEnvC scope cl C X.env) fp) elt te) ∧
      SEt X T Wx (tLc (tSI X tg iter) (t.tg X.K) tt te (own.map (fun p : Str × Nat => p.2))) (mComp fz mi (own.map (fun p : Str × Nat => p.2)) t cond m) := by
  -- the test and the element, by what they do in each block
  let tt : TT := fun σ H Q => ∀ (s : Shared) (G : Hp) (C : Addr) (cl : List (Str × Addr)) (fp : List Addr), (∃ u, PTs (X.blk s G scope (compEnvC scope cl C X.env) fp) ifs u ∧ u σ H Q)
  let te : TE := fun σ H Q => ∀ (s : Shared) (G : Hp) (C : Addr) (cl : List (Str × Addr)) (fp : List Addr), (∃ u, PE (X.blk s G scope (compEnvC scope cl C X.env) fp) elt u ∧ u σ H Q)
  refine ⟨tt, te, fun s G C cl fp => ⟨fun pins s' σ' H' Q' I h => ?_⟩, fun s G C cl fp => ⟨fun pins s' σ' H' Q' I h => ?_⟩, ?_⟩
  · obtain ⟨u, h1, h2⟩ := h s G C cl fp
    exact h1.run pins s' σ' H' Q' I h2
  · obtain ⟨u, h1, h2⟩ := h s G C cl fp
    exact h1.run pins s' σ' H' Q' I h2
  intro ρ η st env σ H Q s er q
  refine hi ρ η st env σ H _ s er (q.bind fun src s1 ρ1 H1 J g1 sr1 ok1 h1 => ?_)
  intro D hD
  have D1 : Hid η H1 (D :: η) := hid_new hD
  have er0 : ER X.K ρ1 η H1 (wipeW env (own.map (fun p : Str × Nat => p.2))) (wipe σ (own.map (fun p : Str × Nat => p.2))) := (er.mono g1).wipe _
  refine ⟨fun (i n : Nat) (H' : Hp) => ∃ (ρ' : List Addr) (st' : Sto) (acc : List W) (accv : List V), Grow ρ1 H1 ρ' H' ∧ SR X.K T ρ' (D :: η) st' H' ∧ H' D = some (.lst accv) ∧ VRs X.K ρ' (D :: η) H' acc accv ∧
      After X.K T η (fun ρ H => VR X.K ρ η H) ρ1 H1 ((compS src t cond m (wipeW env (own.map (fun p : Str × Nat => p.2))) n i acc st').bind fun ws st2 => newL fz ws st2) Q (fun c d H' => Wx c d σ H'), ⟨src.fuel, ρ1, s1, [], [], Grow.new hD, sr1.hide hD, upd_same, VRs.nil, h1⟩, ?_⟩
  rintro i n H2 ⟨ρ2, st2, acc, accv, g2, sr2, hD2, rac, h2⟩
  cases n with
  | zero => exact h2.elim
  | succ n =>
    have k := ok1 (D :: η) D1 i ρ2 H2 st2 g2 sr2
    unfold compS at h2
    split at h2
    · rename_i w e
      rw [e] at k
      obtain ⟨k1, k2⟩ := k
      refine .inr ⟨k1, fun (H' : Hp) => ∃ (ρ' : List Addr) (st' : Sto) (acc : List W) (accv : List V), Grow ρ1 H1 ρ' H' ∧ SR X.K T ρ' (D :: η) st' H' ∧ H' D = some (.lst accv) ∧ VRs X.K ρ' (D :: η) H' acc accv ∧
        After X.K T η (fun ρ H => VR X.K ρ η H) ρ1 H1 ((compS src t cond m (wipeW env (own.map (fun p : Str × Nat => p.2))) n (i + 1) acc st').bind fun ws st2 => newL fz ws st2) Q (fun c d H' => Wx c d σ H'), fun H' z => ⟨n, Nat.lt_succ_self n, z⟩, fun x H3 y => ?_⟩
      obtain ⟨g3, sr3, r3⟩ := k2 x H3 y
      have hD3 : H3 D = some (.lst accv) := g3.same D _ (sr2.hid D List.mem_cons_self) hD2
      split at h2
      · rename_i env4 e4
        refine ct_ok (vs := own.map (fun p : Str × Nat => p.2)) e4 r3 (er0.more (g2.trans g3) D1) hv fun σ4 er4 w4 => ?_
        rw [wipe_wipe] at w4
        refine ⟨w4, ?_⟩
        -- the test
        have step : ∀ (b : Bool) (st5 : Sto) (ρ5 : List Addr) (H5 : Hp), Grow ρ2 H3 ρ5 H5 → SR X.K T ρ5 (D :: η) st5 H5 →
            After X.K T η (fun ρ H => VR X.K ρ η H) ρ1 H1 ((match b with
              | true => (match m env4 st5 with
                | .ok v st2 => if acc.length < sizeLine then compS src t cond m (wipeW env (own.map (fun p : Str × Nat => p.2))) n (i + 1) (acc ++ [v]) st2 else .stuck
                | _ => .stuck)
              | false => compS src t cond m (wipeW env (own.map (fun p : Str × Nat => p.2))) n (i + 1) acc st5).bind fun ws st2 => newL fz ws st2) Q (fun c d H' => Wx c d σ H') →
            (if b = true then te σ4 H5 fun y H4 => ∃ acc, H4 D = some (.lst acc) ∧ acc.length < sizeLine ∧ (∃ (ρ' : List Addr) (st' : Sto) (acc' : List W) (accv : List V), Grow ρ1 H1 ρ' (upd H4 D (.lst (acc ++ [y]))) ∧ SR X.K T ρ' (D :: η) st' (upd H4 D (.lst (acc ++ [y]))) ∧ (upd H4 D (.lst (acc ++ [y]))) D = some (.lst accv) ∧ VRs X.K ρ' (D :: η) (upd H4 D (.lst (acc ++ [y]))) acc' accv ∧
              After X.K T η (fun ρ H => VR X.K ρ η H) ρ1 H1 ((compS src t cond m (wipeW env (own.map (fun p : Str × Nat => p.2))) n (i + 1) acc' st').bind fun ws st2 => newL fz ws st2) Q (fun c d H' => Wx c d σ H'))
            else ∃ (ρ' : List Addr) (st' : Sto) (acc : List W) (accv : List V), Grow ρ1 H1 ρ' H5 ∧ SR X.K T ρ' (D :: η) st' H5 ∧ H5 D = some (.lst accv) ∧ VRs X.K ρ' (D :: η) H5 acc accv ∧
              After X.K T η (fun ρ H => VR X.K ρ η H) ρ1 H1 ((compS src t cond m (wipeW env (own.map (fun p : Str × Nat => p.2))) n (i + 1) acc st').bind fun ws st2 => newL fz ws st2) Q (fun c d H' => Wx c d σ H')) := by
          intro b st5 ρ5 H5 g5 sr5 h5
          have hD5 : H5 D = some (.lst accv) := g5.same D _ (sr3.hid D List.mem_cons_self) hD3
          have gA : Grow ρ1 H1 ρ5 H5 := (g2.trans g3).trans g5
          cases b with
          | false => exact iteF ⟨ρ5, st5, acc, accv, gA, sr5, hD5, (rac.mono g3).mono g5, h5⟩
          | true =>
            refine iteT ?_
            intro s' G C cl fp
            refine he s' G C cl fp ρ5 (D :: η) st5 env4 σ4 H5 _ sr5 (er4.mono g5) ?_
            dsimp only at h5
            cases e6 : m env4 st5 with
            | ok v st6 =>
              rw [e6] at h5
              dsimp only at h5
              split at h5
              · rename_i lz
                intro ρ6 H6 y g6 sr6 r6
                have hD6 : H6 D = some (.lst accv) := g6.same D _ (sr5.hid D List.mem_cons_self) hD5
                have rac6 : VRs X.K ρ6 (D :: η) H6 acc accv := ((rac.mono g3).mono g5).mono g6
                refine ⟨accv, hD6, by rw [rac6.len]; exact lz, ρ6, st6, acc ++ [v], accv ++ [y], (gA.trans g6).hid hD, sr6.hid' List.mem_cons_self, upd_same, ?_, h5⟩
                exact (rac6.hid List.mem_cons_self).append (VRs.cons (r6.hid List.mem_cons_self) VRs.nil)
              · exact h5.elim
            | ex x s' => rw [e6] at h5; exact h5.elim
            | stuck => rw [e6] at h5; exact h5.elim
        rcases ht with ⟨z1, z2⟩ | ⟨c, z1, z2⟩
        · subst z2
          intro s' G C cl fp
          refine ⟨tYes, by rw [z1]; exact pts_nil, ?_⟩
          exact step true st2 ρ2 H3 Grow.refl sr3 h2
        · intro s' G C cl fp
          obtain ⟨u, hu1, hu2⟩ := z2 s' G C cl fp ρ2 (D :: η) st2 env4 σ4 H3 (fun (b : Bool) (H3 : Hp) => if b = true then te σ4 H3 fun y H4 => ∃ acc, H4 D = some (.lst acc) ∧ acc.length < sizeLine ∧ (∃ (ρ' : List Addr) (st' : Sto) (acc' : List W) (accv : List V), Grow ρ1 H1 ρ' (upd H4 D (.lst (acc ++ [y]))) ∧ SR X.K T ρ' (D :: η) st' (upd H4 D (.lst (acc ++ [y]))) ∧ (upd H4 D (.lst (acc ++ [y]))) D = some (.lst accv) ∧ VRs X.K ρ' (D :: η) (upd H4 D (.lst (acc ++ [y]))) acc' accv ∧
              After X.K T η (fun ρ H => VR X.K ρ η H) ρ1 H1 ((compS src t cond m (wipeW env (own.map (fun p : Str × Nat => p.2))) n (i + 1) acc' st').bind fun ws st2 => newL fz ws st2) Q (fun c d H' => Wx c d σ H'))
            else ∃ (ρ' : List Addr) (st' : Sto) (acc : List W) (accv : List V), Grow ρ1 H1 ρ' H3 ∧ SR X.K T ρ' (D :: η) st' H3 ∧ H3 D = some (.lst accv) ∧ VRs X.K ρ' (D :: η) H3 acc accv ∧
              After X.K T η (fun ρ H => VR X.K ρ η H) ρ1 H1 ((compS src t cond m (wipeW env (own.map (fun p : Str × Nat => p.2))) n (i + 1) acc st').bind fun ws st2 => newL fz ws st2) Q (fun c d H' => Wx c d σ H')) sr3 er4 (by
            cases e6 : cond env4 st2 with
            | ok b st6 =>
              rw [e6] at h2
              intro ρ6 H6 b' g6 sr6 r6
              subst r6
              refine step b st6 ρ6 H6 g6 sr6 ?_
              cases b <;> exact h2
            | ex x s' => rw [e6] at h2; exact h2.elim
            | stuck => rw [e6] at h2; exact h2.elim)
          exact ⟨u, by rw [z1]; exact pts_one hu1, hu2⟩
      · exact h2.elim
    · rename_i e
      rw [e] at k
      refine .inl ⟨k, ?_⟩
      have h2 : After X.K T η (fun ρ H => VR X.K ρ η H) ρ1 H1 (newL fz acc st2) Q (fun c d H' => Wx c d σ H') := h2
      unfold newL at h2
      have l : ∀ b ∈ η, b ∈ D :: η := fun b hb => List.mem_cons_of_mem _ hb
      have nD : D ∉ η := fun z => by
        obtain ⟨o, e, _⟩ := sr1.has D z
        rw [hD] at e; cases e
      cases fz with
      | true =>
        refine h2 ρ2 H2 _ g2 sr2.unhide ?_
        simp only [VR]
        exact ⟨D, accv, rfl, ⟨sr2.hid D List.mem_cons_self, nD, hD2⟩, rac.less l⟩
      | false =>
        refine h2 (ρ2 ++ [D]) H2 _ (g2.shift hD) (sr2.shift nD ⟨accv, hD2, rac.shift⟩) ?_
        simp only [VR]
        exact ⟨D, by rw [← sr2.len, List.getElem?_append_right (Nat.le_refl _)]; simp, rfl⟩
    · exact h2.elim
theorem se_comp {fz : Bool} {elt tg iter : Expr} {ifs : List Expr} {scope : Scope} {own : List (Str × Nat)} {mi : MI} {t : CT} {cond : M Bool} {m : M W} (hc : X.calm = true) (hN : X.N.Nodup) (hi : SI X T Wx tg iter mi) (ok : BlkOk X.N X.env.scope scope own)
    (hv : ∀ i ∈ t.ix, i ∈ own.map (fun p : Str × Nat => p.2))
    (hg : ∀ (s : Shared) (H : Hp) (C : Addr) (cl : List (Str × Addr)) (fp : List Addr), PG (X.blk s H scope (compEnvC scope cl C X.env) fp) tg (t.tg X.K))
    (ht : (ifs = [] ∧ cond = mYes) ∨ ∃ c, ifs = [c] ∧ ∀ (s : Shared) (H : Hp) (C : Addr) (cl : List (Str × Addr)) (fp : List Addr), STt (X.blk s H scope (compEnvC scope cl C X.env) fp) T W0 c cond)
    (he : ∀ (s : Shared) (H : Hp) (C : Addr) (cl : List (Str × Addr)) (fp : List Addr), SE (X.blk s H scope (compEnvC scope cl C X.env) fp) T W0 elt m) (hs : ∀ x, foldedSetIterable iter X.env x = pure x := by intro _; rfl) :
    SE X T Wx (.ListComp elt [⟨tg, iter, ifs, 0⟩] scope pos) (mComp fz mi (own.map (fun p : Str × Nat => p.2)) t cond m) := by
  obtain ⟨tt, te, h1, h2, h3⟩ := comp_T (fz := fz) (own := own) (Wx := Wx) hi hv ht he
  exact se_T h3 (pe_lc hc hN pi_S ok hg h1 h2 hs)
/-- name = [..], the name not read within another block -/
theorem ss_comp {fz : Bool} {i : Nat} {y : Str} {py spos : Pos} {elt tg iter : Expr} {ifs : List Expr} {scope : Scope} {own : List (Str × Nat)} {mi : MI} {t : CT} {cond : M Bool} {m : M W} (hc : X.calm = true) (hN : X.N.Nodup) (hy : X.N[i]? = some y) (hyl : X.env.scope.names.lookup y = some .local)
    (hsw : swapsWith (.ListComp elt [⟨tg, iter, ifs, 0⟩] scope pos) (some (.Name y py)) spos.line X.env = pure true) (hi : SI X T Wx tg iter mi) (ok : BlkOk X.N X.env.scope scope own)
    (hv : ∀ i ∈ t.ix, i ∈ own.map (fun p : Str × Nat => p.2))
    (hg : ∀ (s : Shared) (H : Hp) (C : Addr) (cl : List (Str × Addr)) (fp : List Addr), PG (X.blk s H scope (compEnvC scope cl C X.env) fp) tg (t.tg X.K))
    (ht : (ifs = [] ∧ cond = mYes) ∨ ∃ c, ifs = [c] ∧ ∀ (s : Shared) (H : Hp) (C : Addr) (cl : List (Str × Addr)) (fp : List Addr), STt (X.blk s H scope (compEnvC scope cl C X.env) fp) T W0 c cond)
    (he : ∀ (s : Shared) (H : Hp) (C : Addr) (cl : List (Str × Addr)) (fp : List Addr), SE (X.blk s H scope (compEnvC scope cl C X.env) fp) T W0 elt m) (hs : ∀ x, foldedSetIterable iter X.env x = pure x := by intro _; rfl) :
    SSt X T Wx (.Assign [.Name y py] (.ListComp elt [⟨tg, iter, ifs, 0⟩] scope pos) spos) (sAsg (mComp fz mi (own.map (fun p : Str × Nat => p.2)) t cond m) (gName' i)) := by
  obtain ⟨tt, te, h1, h2, h3⟩ := comp_T (fz := fz) (own := own) (Wx := Wx) hi hv ht he
  exact ss_setT h3 (ps_setLc hc hN hy hyl hsw pi_S ok hg h1 h2 hs)
end
end Mi
namespace Mi
open PySem L2
/-- what a def does: from its arguments and the store -/
abbrev RunM := List W → Sto → Rs W
/-- the promise of a def that does what run does -/
def spM (K : PySem.W.Frag) (T : Nat → Addr) (n : Nat) (run : RunM) : Sp := fun vs H Q E => ∃ ρ η st ws, SR K T ρ η st H ∧ VRs K ρ η H ws vs ∧ ws.length = n ∧ After K T η (fun ρ H => VR K ρ η H) ρ H (run ws st) Q E
theorem spM_len {K : PySem.W.Frag} {T : Nat → Addr} {n : Nat} {run : RunM} : ∀ vs H Q E, spM K T n run vs H Q E → vs.length = n := fun vs H Q E ⟨_, _, _, _, _, r, l, _⟩ => by rw [r.len, l]
abbrev FnM (P : Program) (w : World) (K : PySem.W.Frag) (mg : Str → Option Value) (base : Heap) (T : Nat → Addr) (k : Nat) (f : Addr) (fd : FuncData) (ps : List Str) (run : RunM) : Prop :=
  FnOk P w K mg base (L2.CX P w) k f fd ps (spM K T ps.length run)
def mCall (run : RunM) (m : M (List W)) : M W := fun env st => (m env st).bind run
def mMake (c : Nat) (run : RunM) (m : M (List W)) : M W := fun env st => (m env st).bind fun ws s1 => (run (.ref s1.length :: ws) (s1 ++ [.ins c []])).bind fun v s2 => match v with
  | .non => .ok (.ref s1.length) s2
  | _ => .stuck
/-- an argument list by its own count -/
structure SAn (X : Cx) (T : Nat → Addr) (Wx : WX') (n : Nat) (es : List Expr) (m : M (List W)) : Prop where
  run : SA X T Wx es m
  len : ArgLen n m
theorem san_nil {X : Cx} {T : Nat → Addr} {Wx : WX'} : SAn X T Wx 0 [] mNil := ⟨sa_nil, len_nil⟩
theorem san_cons {X : Cx} {T : Nat → Addr} {Wx : WX'} {n : Nat} {e : Expr} {es : List Expr} {m : M W} {k : M (List W)} (he : SE X T Wx e m) (hs : SAn X T Wx n es k) (hst : starEach (e :: es) X.env = (false, eval e X.env) :: starEach es X.env := by rfl) : SAn X T Wx (n + 1) (e :: es) (mCons m k) := ⟨sa_cons he hs.run hst, len_cons hs.len⟩
section
variable {X : Cx} {T : Nat → Addr} {Wx : WX'} {pos p apos : Pos} {k : Nat} {f : Addr} {fd : FuncData} {ps : List Str} {run : RunM} {x m : Str} {e o : Expr} {es : List Expr} {ma : M (List W)}
/-- the state behind the arguments is what the callee wants -/
theorem sp_of {ρ η : List Addr} {H : Hp} {st : Sto} {ws : List W} {vs : List V} {n : Nat} {Q : VK} {E : XK} (s : SR X.K T ρ η st H) (r : VRs X.K ρ η H ws vs) (l : ws.length = n) (h : After X.K T η (fun ρ H => VR X.K ρ η H) ρ H (run ws st) Q E) : spM X.K T n run vs H Q E := ⟨ρ, η, st, ws, s, r, l, h⟩
theorem se_call (F : FnM X.prog X.w X.K X.mg X.base T k f fd ps run) (hr : Room k X.A) (tk : Takes X Wx) (hg : Gl X x) (hm : X.mg x = some (.ref f)) (hk : PySem.W.keepIn X.K (.ref f) = true) (hb : Binds X.K fd ps [])
    (ha : SAn X T Wx ps.length (e :: es) ma) (hdb : (x == ("__debug__" : Str)) = false := by decide) (he : starEach (e :: es) X.env = (false, eval e X.env) :: starEach es X.env := by rfl) (hpl : (backTo pos (starEach es X.env)).any (·.1) = false := by rfl) :
    SE X T Wx (.Call (.Name x p) (e :: es) [] pos) (mCall run ma) := by
  intro ρ η st env σ H Q s er q
  refine ⟨_, pe_callS (E := WE Wx) F hr hg hm hk hb (fun σ => passAt tk σ) pa_S hdb he hpl, ?_⟩
  refine ha.run ρ η st env σ H _ s er (After.bindE q fun ws s1 ρ1 H1 vs e1 g1 sr1 r1 h1 => ?_)
  exact sp_of sr1 r1 (ha.len env st ws s1 e1) h1
theorem se_call0 (F : FnM X.prog X.w X.K X.mg X.base T k f fd [] run) (hr : Room k X.A) (tk : Takes X Wx) (hg : Gl X x) (hm : X.mg x = some (.ref f)) (hk : PySem.W.keepIn X.K (.ref f) = true) (hb : Binds X.K fd [] [])
    (hdb : (x == ("__debug__" : Str)) = false := by decide) : SE X T Wx (.Call (.Name x p) [] [] pos) (mCall run mNil) := by
  intro ρ η st env σ H Q s er q
  refine ⟨fun σ' H' Q' => spM X.K T 0 run [] H' Q' (WE Wx σ'), ⟨fun pins s' σ' H' Q' I h => ?_⟩, sp_of s VRs.nil rfl q⟩
  refine wpAny_Call_Name_kw (ld_glob I hg hm (PySem.W.callWith_K0 I.kIn hk ?_) hdb)
  exact run_fnS (us := []) (E := WE Wx) F hr hb (passAt tk σ') I .nil h
/-- a method of an own class -/
structure MethM (X : Cx) (T : Nat → Addr) (k : Nat) (m : Str) (n : Nat) (c : Nat) (run : RunM) : Prop where
  cls : Cls X.K (T c)
  ex : ∃ f fd ps, Meth X.K (T c) m f ∧ FnM X.prog X.w X.K X.mg X.base T k f fd ps run ∧ Binds X.K fd ps [] ∧ ps.length = n + 1
/-- a new instance, ahead of its __init__ -/
theorem make_ok {ρ η : List Addr} {H : Hp} {st : Sto} {ws : List W} {vs : List V} {n c : Nat} {Q : VK} {E : XK} (s : SR X.K T ρ η st H) (r : VRs X.K ρ η H ws vs) (l : ws.length = n)
    (h : After X.K T η (fun ρ H => VR X.K ρ η H) ρ H ((run (.ref st.length :: ws) (st ++ [.ins c []])).bind fun v s2 => match v with | .non => .ok (.ref st.length) s2 | _ => .stuck) Q E)
    (x dx : Addr) (hx : H x = none) (hdx : H dx = none) (ne : dx ≠ x) : spM X.K T (n + 1) run (.ref x :: vs) (upd (upd H dx (.own x)) x (.ins (T c) dx [])) (fun v H2 => v = .non ∧ Q (.ref x) H2) E := by
  have hx1 : (upd H dx (.own x)) x = none := by rw [upd_ne (Ne.symm ne)]; exact hx
  have g : Grow ρ H (ρ ++ [x]) (upd (upd H dx (.own x)) x (.ins (T c) dx [])) := (Grow.new hdx).trans (Grow.node hx1)
  have rx : VR X.K (ρ ++ [x]) η (upd (upd H dx (.own x)) x (.ins (T c) dx [])) (.ref st.length) (.ref x) := by
    simp only [VR]
    exact ⟨x, by rw [← s.len, List.getElem?_append_right (Nat.le_refl _)]; simp, rfl⟩
  refine sp_of (ws := .ref st.length :: ws) ((s.new' hdx).node (nd := .ins c []) hx1 ⟨dx, [], upd_same, rfl, VRs.nil⟩) (VRs.cons rx (r.mono g)) (by rw [List.length_cons, l]) ?_
  refine (After.grow g h).bind fun v s2 ρ2 H2 v' g2 sr2 r2 h2 => ?_
  split at h2
  · simp only [VR] at r2
    exact ⟨r2, h2.ok sr2 (rx.mono g2)⟩
  · exact h2.elim
/-- a new instance is made at these slots -/
theorem run_mk {pins : List (Addr × Obj)} {σ : St} {H : Hp} {s : Shared} {Q : VK} {us : List Value} {vs : List V} {C : Addr} {sp : Sp} {E : XK} (M : Mk X.K C f)
    (F : FnOk X.prog X.w X.K X.mg X.base (L2.CX X.prog X.w) k f fd ps sp) (hr : Room (k + 1) X.A) (hb : Binds X.K fd ps []) (hx : PassesAt (L2.CX X.prog X.w) X σ E) (I : Inv X pins σ H s) (r : Vals vs us)
    (h : ∀ x dx, H x = none → H dx = none → dx ≠ x → sp (.ref x :: vs) (upd (upd H dx (.own x)) x (.ins C dx [])) (fun v H2 => v = .non ∧ Q (.ref x) H2) E) : wpAny (model X.prog X.w) X.A (call (.ref C) us) (EP X pins σ Q) X.xe s := by
  have want := h (s.heap.objs.size + 1) s.heap.objs.size (I.hok.fresh (Nat.le_succ _)) (I.hok.fresh (Nat.le_refl _)) (Nat.ne_of_lt (Nat.lt_succ_self _))
  have J := Inv.made (C := C) I
  have rv : Vals (V.ref (s.heap.objs.size + 1) :: vs) (Value.ref (s.heap.objs.size + 1) :: us) := .cons rfl r
  have len : (Value.ref (s.heap.objs.size + 1) :: us).length = ps.length := rv.length.symm.trans (F.len _ _ _ _ want)
  have bd := hb _ (Value.ref (s.heap.objs.size + 1) :: us) J.kIn (by rw [List.append_nil]; exact len)
  rw [List.append_nil] at bd
  have go := F.run _ X.stack _ _ ⟨Value.ref (s.heap.objs.size + 1) :: us, []⟩ _ _ _ E (hr.make C us []) (J.env0.make C us []) bd rv want
  refine wpAny_call (make_map (f := f) I.kIn M.makes M.init (beq_iff_eq.mp M.fn) (codeAny_mono go fun res s' got => ?_))
  match res, got with
  | .error e, got => exact hx pins _ _ e s' J got
  | .ok (.ret u), got =>
    obtain ⟨v, H', J3, rv3, ev, q3⟩ := J.after got
    subst ev
    exact ⟨rv3, ⟨V.ref (s.heap.objs.size + 1), H', J3, rfl, q3⟩⟩
  | .ok .next, got => exact False.elim got
  | .ok .brk, got => exact False.elim got
  | .ok .cont, got => exact False.elim got
theorem se_make {c : Nat} (M : Mk X.K (T c) f) (F : FnM X.prog X.w X.K X.mg X.base T k f fd ps run) (hr : Room (k + 1) X.A) (tk : Takes X Wx) (hg : Gl X x) (hm : X.mg x = some (.ref (T c))) (hb : Binds X.K fd ps []) {n : Nat} (hn : ps.length = n + 1)
    (ha : SAn X T Wx n (e :: es) ma) (hdb : (x == ("__debug__" : Str)) = false := by decide) (he : starEach (e :: es) X.env = (false, eval e X.env) :: starEach es X.env := by rfl) (hpl : (backTo pos (starEach es X.env)).any (·.1) = false := by rfl) :
    SE X T Wx (.Call (.Name x p) (e :: es) [] pos) (mMake c run ma) := by
  intro ρ η st env σ H Q s er q
  -- what is let out, at these slots alone
  refine ⟨fun σ' H' Q' => tSA X (e :: es) σ' H' fun vs H1 => ∀ x dx, H1 x = none → H1 dx = none → dx ≠ x → spM X.K T (n + 1) run (.ref x :: vs) (upd (upd H1 dx (.own x)) x (.ins (T c) dx [])) (fun v H2 => v = .non ∧ Q' (.ref x) H2) (WE Wx σ'), ⟨fun pins s' σ' H' Q' I h => ?_⟩, ?_⟩
  · refine wpAny_Call_Name_kw (ld_glob I hg hm ?_ hdb)
    refine PySem.W.callWith_K (h₀ := X.base) I.ok.mod.kin M.kp (thn (pa_S.run pos pins s' σ' H' _ I h) fun us s1 ⟨vs, H1, I1, r, q1⟩ => ⟨I1.kIn, ?_⟩) he hpl
    exact run_mk (sp := spM X.K T ps.length run) M F hr hb (passAt tk σ') I1 r (fun x dx h1 h2 h3 => by rw [hn]; exact q1 x dx h1 h2 h3)
  · refine ha.run ρ η st env σ H _ s er (After.bindE q fun ws s1 ρ1 H1 vs e1 g1 sr1 r1 h1 => ?_)
    intro x dx hx hdx ne
    exact make_ok sr1 r1 (ha.len env st ws s1 e1) h1 x dx hx hdx ne
end
end Mi
namespace Mi
open PySem PySem.Spec PyProof.Rows L2
/-! ### a def by its body -/
def outOf (r : SRs) : Rs W := match r with
  | .rt w st => .ok w st
  | .nx _ st => .ok .non st
  | .ex x _ st => .ex x st
  | _ => .stuck
def runOf (n : Nat) (m : MS) : RunM := fun ws st => outOf (m (ws.map some ++ List.replicate (n - ws.length) none) st)
/-- the wish of a def about what leaves it -/
abbrev WD (E : XK) : WX' := fun c d _ H => E c d H
theorem er_start {K : PySem.W.Frag} {ρ η : List Addr} {H : Hp} {ws : List W} {vs : List V} {N : List Str} (r : VRs K ρ η H ws vs) : ER K ρ η H (ws.map some ++ List.replicate (N.length - ws.length) none) (L2.start N vs) := by
  unfold L2.start
  refine ⟨by simp [r.len], fun i w e => ?_⟩
  by_cases hi : i < ws.length
  · rw [List.getElem?_append_left (by simpa using hi), List.getElem?_map] at e
    cases q : ws[i]? with
    | none => rw [q] at e; cases e
    | some u =>
      rw [q] at e
      cases e
      obtain ⟨v, h1, h2⟩ := r.get q
      refine ⟨v, ?_, h2⟩
      rw [List.getElem?_append_left (by rw [List.length_map, r.len]; exact hi), List.getElem?_map, h1]
      rfl
  · rw [List.getElem?_append_right (by simpa using Nat.le_of_not_lt hi), List.getElem?_replicate] at e
    split at e <;> cases e
section
variable {P : Program} {w : World} {K : PySem.W.Frag} {mg : Str → Option Value} {base : Heap} {T : Nat → Addr} {k : Nat}
theorem fn_ok {x qual : Str} {st : Stmt} {f : Addr} {fd : FuncData} {N ps : List Str} {m : MS} (F : Fun K x qual st f fd) (S : FnScope N ps (defScope st))
    (hb : ∀ (cdv : Value) (A : Around) (outer : List Env) (s : Shared) (H : Hp) (E : XK), Room k (A.deeper (envOfC qual (defScope st) s.heap.objs.size f cdv)) →
      SSs (L2.cxOf (L2.CX P w) P w K mg base N qual (defScope st) f cdv A outer s H E) T (WD E) (defBody st) m) : FnM P w K mg base T (k + 1) f fd ps (runOf N.length m) := by
  refine F.okX S (fun vs H Q E h => spM_len vs H Q E h) fun cdv A outer s H vs Q E hr h => ?_
  obtain ⟨ρ, η, sto, ws, sr, r, l, a⟩ := h
  have go := hb cdv A outer s H E hr ρ η sto _ _ H { nx := fun _ H' => Q .non H', rt := Q } sr (er_start (N := N) r) ?_
  · exact go
  · unfold runOf at a
    cases e : m (ws.map some ++ List.replicate (N.length - ws.length) none) sto with
    | nx env s1 => rw [e] at a; exact fun ρ1 H1 σ1 g1 sr1 er1 => a ρ1 H1 _ g1 sr1 (by simp only [VR])
    | rt w1 s1 => rw [e] at a; exact a
    | bk env s1 => rw [e] at a; exact a.elim
    | ct env s1 => rw [e] at a; exact a.elim
    | ex x env s1 => rw [e] at a; exact fun ρ1 H1 σ1 c d g1 sr1 er1 xr => a ρ1 H1 c d g1 sr1 xr
    | stuck => rw [e] at a; exact a
end
/-! ### raise -/
def sRaise (c : Nat) : MS := fun env st => .ex (.plain c) env st
section
variable {X : Cx} {T : Nat → Addr} {Wx : WX'} {pos : Pos}
theorem pmk_own0 {C : Addr} {bmB : List Value} {B newId initId : String} {x : Str} {p : Pos} (F : ExcBaseFacts B newId initId bmB) (q : PySem.W.excIn X.K C bmB newId = true) (gC : X.mg x = some (.ref C)) (kC : PySem.W.keepIn X.K (.ref C) = true)
    (r : Raises X (.ref C)) (hg : Gl X x) (hdb : (x == ("__debug__" : Str)) = false := by decide) : PMk X (.Call (.Name x p) [] [] pos) (fun _ H Q => Q (.ref C) none H) := by
  intro pins s σ H Q I h
  refine wpAny_Call_Name_kw (ld_glob I hg gC (PySem.W.callWith_K0 I.kIn kC ?_) hdb)
  obtain ⟨bm, N, nm, qn, bs, hdct, sn, sub, ab, col, dd, k0, k1, k2, k3, k5, mN, hC, hN, hni, TT⟩ := exc_obj I.kIn q
  exact wpAny_call_exc_subT F TT hC hN hni (fun h' e hm => mk_of I hm r h (I.hok.gone hm.new)) (Nat.zero_le _)
/-- what must be known of an own exception class (over ValueError, no __init__) -/
structure ExcOk (X : Cx) (C : Addr) (x : Str) : Prop where
  ex : PySem.W.excIn X.K C [.type "ValueError", .type "Exception", .type "BaseException", .type "object"] "ValueError.__new__" = true
  mg : X.mg x = some (.ref C)
  kp : PySem.W.keepIn X.K (.ref C) = true
  sub : PySem.W.subIn X.K (.ref C) (.type "BaseException") = some true
  ty : PySem.W.typeIn X.K (.ref C) = some (.type "type")
theorem ss_raise0 {c : Nat} {x : Str} {p p2 : Pos} (hc : X.calm = true) (tk : Takes X Wx) (e : ExcOk X (T c) x) (hg : Gl X x) (hdb : (x == ("__debug__" : Str)) = false := by decide) : SSt X T Wx (.Raise (some (.Call (.Name x p) [] [] p2)) none pos) (sRaise c) := by
  intro ρ η st env σ H D s er h
  refine ⟨_, ps_raise hc tk (pmk_own0 PySem.F.excBase_ValueError e.ex e.mg e.kp (raises_own e.sub e.ty) hg hdb), ?_⟩
  exact h ρ H σ _ _ Grow.refl s er ⟨rfl, rfl⟩
/-! ### stores -/
theorem wset_ok {ρ η : List Addr} {H : Hp} {st st1 : Sto} {o i v : W} {ov iv vv : V} (s : SR X.K T ρ η st H) (ro : VR X.K ρ η H o ov) (ri : VR X.K ρ η H i iv) (rv : VR X.K ρ η H v vv) (e : wSet o i v st = some st1) :
    ∃ (p : Addr) (xs : List V) (k : Int) (j : Nat), ov = .ref p ∧ iv = .int k ∧ H p = some (.lst xs) ∧ ixN xs.length k = some j ∧ Grow ρ H ρ (upd H p (.lst (xs.set j vv))) ∧ SR X.K T ρ η st1 (upd H p (.lst (xs.set j vv))) := by
  unfold wSet at e
  split at e
  · rename_i n
    split at e
    · rename_i xs q
      split at e
      · rename_i k
        split at e
        · rename_i j z
          cases e
          obtain ⟨p, e1, e2, vs, e3, e4⟩ := node_at s ro q
          simp only [VR] at ri
          have g : Grow ρ H ρ (upd H p (.lst (vs.set j vv))) := Grow.write (List.mem_of_getElem? e2) (open_of e3 fun _ _ z => nomatch z)
          exact ⟨p, vs, k, j, e1, ri, e3, by rw [e4.len]; exact z, g, s.write (open_of e3 fun _ _ z => nomatch z) e2 ⟨_, upd_same, (e4.set rv j).mono g⟩⟩
        · cases e
      · cases e
    · cases e
  · cases e
def putKW (kvs : List (Key × W)) (k : Key) (v : W) : List (Key × W) :=
  if (kvs.any fun kv => decide (kv.1 = k)) = true then kvs.map fun kv => if kv.1 = k then (kv.1, v) else kv else kvs ++ [(k, v)]
def dropKW (kvs : List (Key × W)) (k : Key) : List (Key × W) := kvs.filter fun kv => decide (kv.1 ≠ k)
/-- a dict's pairs, here and there -/
def KVs (K : PySem.W.Frag) (ρ η : List Addr) (H : Hp) (kvs : List (Key × W)) (kv : List (Key × V)) : Prop := kv.map (·.1) = kvs.map (·.1) ∧ VRs K ρ η H (kvs.map (·.2)) (kv.map (·.2))
theorem KVs.mono {K : PySem.W.Frag} {ρ ρ' η : List Addr} {H H' : Hp} {kvs : List (Key × W)} {kv : List (Key × V)} (g : Grow ρ H ρ' H') (h : KVs K ρ η H kvs kv) : KVs K ρ' η H' kvs kv := ⟨h.1, h.2.mono g⟩
theorem KVs.nil' {K : PySem.W.Frag} {ρ η : List Addr} {H : Hp} {kv : List (Key × V)} (h : KVs K ρ η H [] kv) : kv = [] := by
  have := h.1
  simpa using this
theorem KVs.cons' {K : PySem.W.Frag} {ρ η : List Addr} {H : Hp} {a : Key} {w : W} {kvs : List (Key × W)} {kv : List (Key × V)} (h : KVs K ρ η H ((a, w) :: kvs) kv) : ∃ v r, kv = (a, v) :: r ∧ VR K ρ η H w v ∧ KVs K ρ η H kvs r := by
  obtain ⟨h1, h2⟩ := h
  cases kv with
  | nil => simp at h1
  | cons p r =>
    obtain ⟨b, v⟩ := p
    simp only [List.map_cons, List.cons.injEq] at h1
    rw [List.map_cons, List.map_cons] at h2
    simp only [VRs] at h2
    obtain ⟨v', r', q1, q2, q3⟩ := h2
    simp only [List.cons.injEq] at q1
    obtain ⟨q1, q4⟩ := q1
    refine ⟨v, r, by rw [h1.1], by rw [q1]; exact q2, h1.2, by rw [q4]; exact q3⟩
theorem KVs.mk' {K : PySem.W.Frag} {ρ η : List Addr} {H : Hp} {a : Key} {w : W} {v : V} {kvs : List (Key × W)} {kv : List (Key × V)} (r : VR K ρ η H w v) (h : KVs K ρ η H kvs kv) : KVs K ρ η H ((a, w) :: kvs) ((a, v) :: kv) :=
  ⟨by simp [h.1], by rw [List.map_cons, List.map_cons]; exact VRs.cons r h.2⟩
theorem KVs.append {K : PySem.W.Frag} {ρ η : List Addr} {H : Hp} : ∀ {kvs ks : List (Key × W)} {kv kw : List (Key × V)}, KVs K ρ η H kvs kv → KVs K ρ η H ks kw → KVs K ρ η H (kvs ++ ks) (kv ++ kw)
  | [], ks, kv, kw, h, k => by
    rw [h.nil']
    exact k
  | (a, w) :: kvs, ks, kv, kw, h, k => by
    obtain ⟨v, r, e, h1, h2⟩ := h.cons'
    subst e
    exact KVs.mk' h1 (h2.append k)
theorem KVs.drop {K : PySem.W.Frag} {ρ η : List Addr} {H : Hp} {k : Key} : ∀ {kvs : List (Key × W)} {kv : List (Key × V)}, KVs K ρ η H kvs kv → KVs K ρ η H (dropKW kvs k) (dropK kv k)
  | [], kv, h => by
    rw [h.nil']
    exact ⟨rfl, VRs.nil⟩
  | (a, w) :: kvs, kv, h => by
    obtain ⟨v, r, e, h1, h2⟩ := h.cons'
    subst e
    have ih := KVs.drop (k := k) h2
    unfold dropKW dropK at ih ⊢
    rw [List.filter_cons, List.filter_cons]
    by_cases z : a = k
    · simp only [z, ne_eq, not_true_eq_false, decide_false, Bool.false_eq_true, if_false]
      simp only [ne_eq] at ih
      exact ih
    · simp only [z, ne_eq, not_false_eq_true, decide_true, if_true]
      simp only [ne_eq] at ih
      exact KVs.mk' h1 ih
theorem KVs.any {K : PySem.W.Frag} {ρ η : List Addr} {H : Hp} {k : Key} : ∀ {kvs : List (Key × W)} {kv : List (Key × V)}, KVs K ρ η H kvs kv → (kvs.any fun x => decide (x.1 = k)) = kv.any fun x => decide (x.1 = k)
  | [], kv, h => by rw [h.nil']; rfl
  | (a, w) :: kvs, kv, h => by
    obtain ⟨v, r, e, h1, h2⟩ := h.cons'
    subst e
    rw [List.any_cons, List.any_cons, KVs.any h2]
theorem KVs.upd {K : PySem.W.Frag} {ρ η : List Addr} {H : Hp} {k : Key} {w : W} {v : V} (r : VR K ρ η H w v) : ∀ {kvs : List (Key × W)} {kv : List (Key × V)}, KVs K ρ η H kvs kv → KVs K ρ η H (kvs.map fun x => if x.1 = k then (x.1, w) else x) (kv.map fun x => if x.1 = k then (x.1, v) else x)
  | [], kv, h => by
    rw [h.nil']
    exact ⟨rfl, VRs.nil⟩
  | (a, u) :: kvs, kv, h => by
    obtain ⟨z, r', e, h1, h2⟩ := h.cons'
    subst e
    have ih := KVs.upd (k := k) r h2
    rw [List.map_cons, List.map_cons]
    by_cases q : a = k
    · rw [if_pos q, if_pos q]
      exact KVs.mk' r ih
    · rw [if_neg q, if_neg q]
      exact KVs.mk' h1 ih
theorem KVs.put {K : PySem.W.Frag} {ρ η : List Addr} {H : Hp} {k : Key} {w : W} {v : V} (r : VR K ρ η H w v) {kvs : List (Key × W)} {kv : List (Key × V)} (h : KVs K ρ η H kvs kv) : KVs K ρ η H (putKW kvs k w) (putK kv k v) := by
  unfold putKW putK
  rw [h.any]
  split
  · exact h.upd r
  · exact h.append (KVs.mk' r ⟨rfl, VRs.nil⟩)
theorem KVs.len {K : PySem.W.Frag} {ρ η : List Addr} {H : Hp} {kvs : List (Key × W)} {kv : List (Key × V)} (h : KVs K ρ η H kvs kv) : kv.length = kvs.length := by
  have := congrArg List.length h.1
  simpa using this
/-- o[i] = v of a dict -/
def wPutD (o i v : W) (st : Sto) : Option Sto := match o with
  | .ref n => match st[n]? with
    | some (.dk kvs) => match keyOf i with
      | some k => if kvs.length < sizeLine then some (st.set n (.dk (putKW kvs k v))) else none
      | none => none
    | _ => none
  | _ => none
def wStore (o i v : W) (st : Sto) : Option Sto := match wSet o i v st with
  | some s => some s
  | none => wPutD o i v st
def gSub' (mo mi : M W) : MG := fun w env st => match mo env st with
  | .ok o s1 => match mi env s1 with
    | .ok i s2 => match wStore o i w s2 with
      | some s3 => some (env, s3)
      | none => none
    | _ => none
  | _ => none
theorem wputd_ok {ρ η : List Addr} {H : Hp} {st st1 : Sto} {o i v : W} {ov iv vv : V} (s : SR X.K T ρ η st H) (ro : VR X.K ρ η H o ov) (ri : VR X.K ρ η H i iv) (rv : VR X.K ρ η H v vv) (e : wPutD o i v st = some st1) :
    ∃ (p : Addr) (H1 : Hp), ov = .ref p ∧ DPut H p iv vv H1 ∧ Grow ρ H ρ H1 ∧ SR X.K T ρ η st1 H1 := by
  unfold wPutD at e
  split at e
  · rename_i n
    split at e
    · rename_i kvs q
      split at e
      · rename_i k z
        split at e
        · rename_i lz
          cases e
          obtain ⟨p, e1, e2, kv, e3, e4, e5⟩ := node_at s ro q
          have kk : KVs X.K ρ η H kvs kv := ⟨e4, e5⟩
          have g : Grow ρ H ρ (upd H p (.dK (putK kv k vv))) := Grow.write (List.mem_of_getElem? e2) (open_of e3 fun _ _ z => nomatch z)
          have k2 := (kk.put (k := k) rv).mono g
          rw [key_ok ri z]
          exact ⟨p, _, e1, DPut.k e3 (by rw [kk.len]; exact lz), g, s.write (open_of e3 fun _ _ z => nomatch z) e2 ⟨_, upd_same, k2.1, k2.2⟩⟩
        · cases e
      · cases e
    · cases e
  · cases e
/-- o[i] = .. -/
theorem sg_sub {o i : Expr} {mo mi : M W} (hu : X.A.units + 1 < cLine) (ho : SE X T W0 o mo) (hi : SE X T W0 i mi)
    (ha : ∀ v, assign (.Subscript o i pos) X.env v = (do
      let ov ← holding [v] (eval o X.env)
      let iv ← holding [v, ov] (eval i X.env)
      standAt pos
      holding [v, ov, iv] (setItem ov iv v)
      release [v, ov, iv] []) := by intro _; rfl) : SGt X T (.Subscript o i pos) (gSub' mo mi) := by
  intro ρ η st env σ H w v Q s er r h
  have pset : PSet X (fun o i v H Q => rSetL o i v H Q ∨ rSetD o i v H Q) := fun pins s σ H o i v ov iv u Q I ro ri rv h => h.elim (fun h => set_list pins s σ H o i v ov iv u Q I ro ri rv h) fun h => set_dict hu pins s σ H o i v ov iv u Q I ro ri rv h
  refine ⟨_, pg_sub pe_S pe_S pset ha, ?_⟩
  unfold gSub' at h
  refine ho ρ η st env σ H _ s er ?_
  cases e1 : mo env st with
  | ok ow s1 =>
    rw [e1] at h
    dsimp only at h
    intro ρ1 H1 ov g1 sr1 r1
    refine hi ρ1 η s1 env σ H1 _ sr1 (er.mono g1) ?_
    cases e2 : mi env s1 with
    | ok iw s2 =>
      rw [e2] at h
      intro ρ2 H2 iv g2 sr2 r2
      dsimp only at h
      have rv := (r.mono g1).mono g2
      have ro := r1.mono g2
      have er2 := (er.mono g1).mono g2
      split at h
      · rename_i s3 e3
        unfold wStore at e3
        split at e3
        · rename_i s4 e4
          cases e3
          obtain ⟨p, xs, k, j, f1, f2, f3, f4, f5, f6⟩ := wset_ok sr2 ro r2 rv e4
          exact .inl ⟨p, xs, k, j, f1, f2, f3, f4, h ρ2 _ σ ((g1.trans g2).trans f5) f6 (er2.mono f5)⟩
        · obtain ⟨p, H3, f1, f2, f3, f4⟩ := wputd_ok sr2 ro r2 rv e3
          exact .inr ⟨p, H3, f1, f2, h ρ2 H3 σ ((g1.trans g2).trans f3) f4 (er2.mono f3)⟩
      · exact h.elim
    | ex x s2 => rw [e2] at h; exact h.elim
    | stuck => rw [e2] at h; exact h.elim
  | ex x s1 => rw [e1] at h; exact h.elim
  | stuck => rw [e1] at h; exact h.elim
/-! ### fields -/
theorem putW_ok {ρ η : List Addr} {H : Hp} {f : Str} {w : W} {v : V} (r : VR X.K ρ η H w v) : ∀ {fs : List (Str × W)} {fv : List (Str × V)}, fv.map (·.1) = fs.map (·.1) → VRs X.K ρ η H (fs.map (·.2)) (fv.map (·.2)) →
    (putF f v fv).map (·.1) = (putW f w fs).map (·.1) ∧ VRs X.K ρ η H ((putW f w fs).map (·.2)) ((putF f v fv).map (·.2))
  | [], [], _, _ => ⟨rfl, VRs.cons r VRs.nil⟩
  | [], p :: fv, e, _ => by simp at e
  | p :: fs, [], e, _ => by simp at e
  | (a, y) :: fs, (b, z) :: fv, e, h => by
    simp only [List.map_cons, List.cons.injEq] at e
    obtain ⟨e1, e2⟩ := e
    subst e1
    rw [List.map_cons, List.map_cons] at h
    simp only [VRs] at h
    obtain ⟨v', r', q1, q2, q3⟩ := h
    simp only [List.cons.injEq] at q1
    obtain ⟨q1, q4⟩ := q1
    subst q1; subst q4
    have ih := putW_ok (f := f) r e2 q3
    unfold putW putF
    by_cases q : b = f
    · rw [if_pos q, if_pos q]
      exact ⟨by simp [e2, q], VRs.cons r q3⟩
    · rw [if_neg q, if_neg q]
      exact ⟨by simp [ih.1], VRs.cons q2 ih.2⟩
theorem wsetf_ok {ρ η : List Addr} {H : Hp} {st st1 : Sto} {cs : List Nat} {f : Str} {o v : W} {ov vv : V} (s : SR X.K T ρ η st H) (ro : VR X.K ρ η H o ov) (rv : VR X.K ρ η H v vv) (e : wSetF cs f o v st = some st1) :
    ∃ (a : Addr) (c : Nat) (dx : Addr) (fs : List (Str × V)), ov = .ref a ∧ H a = some (.ins (T c) dx fs) ∧ c ∈ cs ∧ fs.length < 1000 ∧ Grow ρ H ρ (upd H a (.ins (T c) dx (putF f vv fs))) ∧ SR X.K T ρ η st1 (upd H a (.ins (T c) dx (putF f vv fs))) := by
  unfold wSetF at e
  split at e
  · rename_i n
    split at e
    · rename_i c fs q
      split at e
      · rename_i z
        cases e
        obtain ⟨p, e1, e2, dx, fv, e3, e4, e5⟩ := node_at s ro q
        have g : Grow ρ H ρ (upd H p (.ins (T c) dx (putF f vv fv))) := Grow.write (List.mem_of_getElem? e2) (open_of e3 fun _ _ z => nomatch z)
        have l := congrArg List.length e4
        simp only [List.length_map] at l
        obtain ⟨k1, k2⟩ := putW_ok (f := f) rv e4 e5
        exact ⟨p, c, dx, fv, e1, e3, by simpa using z.1, by rw [l]; exact z.2, g, s.write (open_of e3 fun _ _ z => nomatch z) e2 ⟨dx, _, upd_same, k1, k2.mono g⟩⟩
      · cases e
    · cases e
  · cases e
theorem ss_fld {cs : List Nat} {f : Str} {o e : Expr} {mo m : M W} {pos' : Pos} (ho : SE X T Wx o mo) (he : SE X T Wx e m) (hc : ∀ c ∈ cs, Cls X.K (T c) ∧ NoAttr X.K (T c) f) (hs : swapsWith e (some (.Attribute o f pos')) pos.line X.env = pure false := by rfl) :
    SSt X T Wx (.Assign [.Attribute o f pos'] e pos) (sFld' cs f mo m) := by
  intro ρ η st env σ H D s er q
  refine ⟨_, ps_fld pe_S pe_S hs, ?_⟩
  refine he ρ η st env σ H _ s er (q.bind er fun w s1 ρ1 H1 v _ g1 sr1 r1 h1 => ?_)
  refine ho ρ1 η s1 env σ H1 _ sr1 (er.mono g1) (h1.bind (er.mono g1) fun ow s2 ρ2 H2 ov _ g2 sr2 r2 h2 => ?_)
  split at h2
  · rename_i s3 e3
    obtain ⟨a, c, dx, fs, f1, f2, f3, f4, f5, f6⟩ := wsetf_ok sr2 r2 (r1.mono g2) e3
    obtain ⟨k1, k2⟩ := hc c f3
    exact ⟨a, T c, dx, fs, f1, f2, k1, k2, f4, h2 ρ2 _ σ f5 f6 (((er.mono g1).mono g2).mono f5)⟩
  · exact h2.elim
end
end Mi
namespace Mi
open PySem PySem.Spec PyProof.Rows L2
abbrev FC := List W → Sto → Rs W
def OkC (K : PySem.W.Frag) (T : Nat → Addr) (f : FC) (r : List V → Hp → VK → Prop) : Prop := ∀ ρ η st H ws vs Q E, SR K T ρ η st H → VRs K ρ η H ws vs → After K T η (fun ρ H => VR K ρ η H) ρ H (f ws st) Q E → r vs H Q
def mFn (f : FC) (m : M (List W)) : M W := fun env st => (m env st).bind f
section
variable {X : Cx} {T : Nat → Addr} {Wx : WX'} {pos p : Pos} {x : Str} {e : Expr} {es : List Expr} {ma : M (List W)} {r : List V → Hp → VK → Prop} {f : FC}
theorem se_blt {id : String} (hr : CallR X (.builtin id) r) (hf : OkC X.K T f r) (hg : Gl X x) (hm : X.mg x = none) (hv : bootBuiltins x = some (.builtin id)) (ha : SA X T Wx (e :: es) ma) (hn : x ≠ "__name__" := by decide) (hdb : (x == ("__debug__" : Str)) = false := by decide)
    (hst : starEach (e :: es) X.env = (false, eval e X.env) :: starEach es X.env := by rfl) (hpl : (backTo pos (starEach es X.env)).any (·.1) = false := by rfl) : SE X T Wx (.Call (.Name x p) (e :: es) [] pos) (mFn f ma) := by
  intro ρ η st env σ H Q s er q
  refine ⟨_, pe_callB hr hg hm hv pa_S hn hdb hst hpl, ?_⟩
  exact ha ρ η st env σ H _ s er (q.bind fun ws s1 ρ1 H1 vs g1 sr1 r1 h1 => hf ρ1 η s1 H1 ws vs Q _ sr1 r1 h1)
theorem se_bty {id : String} (hr : CallR X (.type id) r) (hf : OkC X.K T f r) (hg : Gl X x) (hm : X.mg x = none) (hv : bootBuiltins x = some (.type id)) (ha : SA X T Wx (e :: es) ma) (hn : x ≠ "__name__" := by decide) (hdb : (x == ("__debug__" : Str)) = false := by decide)
    (hst : starEach (e :: es) X.env = (false, eval e X.env) :: starEach es X.env := by rfl) (hpl : (backTo pos (starEach es X.env)).any (·.1) = false := by rfl) : SE X T Wx (.Call (.Name x p) (e :: es) [] pos) (mFn f ma) := by
  intro ρ η st env σ H Q s er q
  refine ⟨_, pe_callTy hr hg hm hv pa_S hn hdb hst hpl, ?_⟩
  exact ha ρ η st env σ H _ s er (q.bind fun ws s1 ρ1 H1 vs g1 sr1 r1 h1 => hf ρ1 η s1 H1 ws vs Q _ sr1 r1 h1)
end
/-! ### by values -/
def fLen : FC := fun ws st => match ws with
  | [w] => match seqL st w with
    | some xs => .ok (.int xs.length) st
    | none => match w with
      | .tup xs => .ok (.int xs.length) st
      | .str z => if z.length ≤ sizeLine then .ok (.int z.length) st else .stuck
      | .ref i => match st[i]? with
        | some (.dk kvs) => .ok (.int kvs.length) st
        | _ => .stuck
      | _ => .stuck
  | _ => .stuck
def fAbs : FC := fun ws st => match ws with
  | [.int i] => .ok (.int (if i < 0 then -i else i)) st
  | _ => .stuck
def fInt : FC := fun ws st => match ws with
  | [.int i] => .ok (.int i) st
  | [.bl k] => .ok (.int (if k = true then 1 else 0)) st
  | _ => .stuck
def fList (fz : Bool) : FC := fun ws st => match ws with
  | [w] => match seqL st w with
    | some xs => newL fz xs st
    | none => match w with
      | .tup xs => newL fz xs st
      | _ => .stuck
  | _ => .stuck
def fTuple : FC := fun ws st => match ws with
  | [w] => match seqL st w with
    | some xs => .ok (.tup xs) st
    | none => match w with
      | .tup xs => .ok (.tup xs) st
      | _ => .stuck
  | _ => .stuck
/-- the name of a built-in value's type -/
def tyOf (st : Sto) : W → Option String
  | .non => some "NoneType"
  | .bl _ => some "bool"
  | .int _ => some "int"
  | .str _ => some "str"
  | .tup _ => some "tuple"
  | .lst _ => some "list"
  | .ref i => match st[i]? with
    | some (.lst _) => some "list"
    | some (.dk _) => some "dict"
    | some (.lk _) => some "dict"
    | _ => none
  | _ => none
/-- isinstance for built-in types; own: for an own class's instance -/
def fIsi (own : Nat → String → Option Bool) : FC := fun ws st => match ws with
  | [w, .ty n] => match tyOf st w with
    | some t => match kitB t n with
      | some b => .ok (.bl b) st
      | none => .stuck
    | none => match w with
      | .ref i => match st[i]? with
        | some (.ins c _) => match own c n with
          | some b => .ok (.bl b) st
          | none => .stuck
        | _ => .stuck
      | _ => .stuck
  | _ => .stuck
def blsOf : List W → Option (List Bool)
  | [] => some []
  | .bl b :: r => (blsOf r).map (b :: ·)
  | _ => none
def fAll : FC := fun ws st => match ws with
  | [w] => match seqL st w with
    | some xs => match blsOf xs with
      | some bs => .ok (.bl (bs.all id)) st
      | none => .stuck
    | none => .stuck
  | _ => .stuck
def fAny : FC := fun ws st => match ws with
  | [w] => match seqL st w with
    | some xs => match blsOf xs with
      | some bs => .ok (.bl (bs.any id)) st
      | none => .stuck
    | none => .stuck
  | _ => .stuck
def intsOf : List W → Option (List Int)
  | [] => some []
  | .int b :: r => (intsOf r).map (b :: ·)
  | _ => none
def sortZ (ns : List Int) : List Int := ns.mergeSort fun a b => decide (a ≤ b)
def fSorted (fz : Bool) : FC := fun ws st => match ws with
  | [w] => match seqL st w with
    | some xs => match intsOf xs with
      | some ns => newL fz ((sortZ ns).map W.int) st
      | none => .stuck
    | none => match dkOf st w with
      | some kvs => match intsOf (kvs.map fun p => match p.1 with | .inl i => W.int i | .inr x => W.str x) with
        | some ns => if ns.length < 64 then newL fz ((sortZ ns).map W.int) st else .stuck
        | none => .stuck
      | none => .stuck
  | _ => .stuck
section
variable {K : PySem.W.Frag} {T : Nat → Addr} {ρ η : List Addr} {H : Hp} {st : Sto}
theorem vrs1 {w : W} {vs : List V} (h : VRs K ρ η H [w] vs) : ∃ v, vs = [v] ∧ VR K ρ η H w v := by
  simp only [VRs] at h
  obtain ⟨v, r, e, h1, h2⟩ := h
  subst h2
  exact ⟨v, e, h1⟩
theorem vrs2 {w u : W} {vs : List V} (h : VRs K ρ η H [w, u] vs) : ∃ v z, vs = [v, z] ∧ VR K ρ η H w v ∧ VR K ρ η H u z := by
  simp only [VRs] at h
  obtain ⟨v, r, e, h1, v2, r2, e2, h2, h3⟩ := h
  subst h3; subst e2
  exact ⟨v, v2, e, h1, h2⟩
theorem okc_len : OkC K T fLen (fun xs H Q => (∃ x n, xs = [x] ∧ LenV K x H n ∧ Q (.int (n : Nat)) H) ∨ ∃ a kvs, xs = [V.ref a] ∧ H a = some (.dK kvs) ∧ Q (.int (kvs.length : Nat)) H) := by
  intro ρ η st H ws vs Q E s r h
  unfold fLen at h
  split at h
  · rename_i w
    obtain ⟨v, e, rr⟩ := vrs1 r
    clear r
    have r := rr
    clear rr
    subst e
    split at h
    · rename_i xs q
      obtain ⟨a, us, e1, e2, e3⟩ := seq_ok s r q
      subst e1
      exact .inl ⟨_, xs.length, rfl, .inl ⟨us, e2, e3.len.symm⟩, h.ok s (by simp only [VR])⟩
    · split at h
      · rename_i xs q
        obtain ⟨a, us, e1, e2, e3⟩ := tup_ok r (show tupL (.tup xs) = some xs from rfl)
        subst e1
        exact .inl ⟨_, xs.length, rfl, .inr ⟨us, e2, e3.len.symm⟩, h.ok s (by simp only [VR])⟩
      · rename_i z q
        split at h
        · rename_i lz
          simp only [VR] at r
          subst r
          exact .inl ⟨_, z.length, rfl, ⟨lz, rfl⟩, h.ok s (by simp only [VR])⟩
        · exact h.elim
      · rename_i i q
        split at h
        · rename_i kvs e
          obtain ⟨a, e1, _, kv, e2, e3, e4⟩ := node_at s r e
          subst e1
          have l := congrArg List.length e3
          simp only [List.length_map] at l
          refine .inr ⟨a, kv, rfl, e2, ?_⟩
          rw [l]
          exact h.ok s (by simp only [VR])
        · exact h.elim
      · exact h.elim
  · exact h.elim
theorem okc_abs : OkC K T fAbs (fun xs H Q => ∃ i, xs = [.int i] ∧ Q (.int (if i < 0 then -i else i)) H) := by
  intro ρ η st H ws vs Q E s r h
  unfold fAbs at h
  split at h
  · obtain ⟨v, e, rr⟩ := vrs1 r
    clear r
    have r := rr
    clear rr
    simp only [VR] at r
    subst r
    exact ⟨_, e, h.ok s (by simp only [VR])⟩
  · exact h.elim
theorem okc_int : OkC K T fInt (fun xs H Q => (∃ i, xs = [.int i] ∧ Q (.int i) H) ∨ ∃ k, xs = [.bl k] ∧ Q (.int (if k then 1 else 0)) H) := by
  intro ρ η st H ws vs Q E s r h
  unfold fInt at h
  split at h
  · obtain ⟨v, e, rr⟩ := vrs1 r
    clear r
    have r := rr
    clear rr
    simp only [VR] at r
    subst r
    exact .inl ⟨_, e, h.ok s (by simp only [VR])⟩
  · obtain ⟨v, e, rr⟩ := vrs1 r
    clear r
    have r := rr
    clear rr
    simp only [VR] at r
    subst r
    exact .inr ⟨_, e, h.ok s (by simp only [VR])⟩
  · exact h.elim
theorem okc_tuple : OkC K T fTuple (fun xs H Q => ∃ p ys, xs = [.ref p] ∧ ((SqL K H p ys ∧ ∀ l, H l = none → Q (.ref l) (upd H l (.tup ys))) ∨ (SqT K H p ys ∧ Q (.ref p) H))) := by
  intro ρ η st H ws vs Q E s r h
  unfold fTuple at h
  split at h
  · rename_i w
    obtain ⟨v, e, rr⟩ := vrs1 r
    clear r
    have r := rr
    clear rr
    subst e
    split at h
    · rename_i xs q
      obtain ⟨a, us, e1, e2, e3⟩ := seq_ok s r q
      subst e1
      exact ⟨a, us, rfl, .inl ⟨e2, fun l hl => newT_ok h s e3 hl⟩⟩
    · split at h
      · rename_i xs q
        obtain ⟨a, us, e1, e2, e3⟩ := tup_ok r (show tupL (.tup xs) = some xs from rfl)
        subst e1
        exact ⟨a, us, rfl, .inr ⟨e2, h.ok s r⟩⟩
      · exact h.elim
  · exact h.elim
theorem ty_ok {w : W} {v : V} {t : String} (s : SR K T ρ η st H) (r : VR K ρ η H w v) (e : tyOf st w = some t) : TyX K H v (.type t) := by
  cases w with
  | non => simp only [VR] at r; subst r; simp only [tyOf, Option.some.injEq] at e; subst e; exact .base .non
  | bl b => simp only [VR] at r; subst r; simp only [tyOf, Option.some.injEq] at e; subst e; exact .base (.bl b)
  | int b => simp only [VR] at r; subst r; simp only [tyOf, Option.some.injEq] at e; subst e; exact .base (.int b)
  | str b => simp only [VR] at r; subst r; simp only [tyOf, Option.some.injEq] at e; subst e; exact .base (.str b)
  | ty n => simp [tyOf] at e
  | at_ n => simp [tyOf] at e
  | fn _ _ _ _ => simp [tyOf] at e
  | exc _ _ _ _ => simp [tyOf] at e
  | scr n => simp [tyOf] at e
  | tup xs =>
    simp only [tyOf, Option.some.injEq] at e
    subst e
    simp only [VR] at r
    obtain ⟨a, vs, e1, e2, e3⟩ := r
    subst e1
    rcases e2 with ⟨_, _, h⟩ | ⟨o, its, n, h1, h2, _⟩
    · rcases h with h | ⟨o, h⟩
      · exact .base (.tup h)
      · exact .fTuple h
    · exact .kTuple h1 h2
  | lst xs =>
    simp only [tyOf, Option.some.injEq] at e
    subst e
    simp only [VR] at r
    obtain ⟨a, vs, e1, e2, e3⟩ := r
    subst e1
    exact .base (.lst e2.2.2)
  | ref i =>
    simp only [tyOf] at e
    split at e
    · rename_i xs q
      cases e
      obtain ⟨a, e1, _, vs, e2, _⟩ := node_at s r q
      subst e1
      exact .base (.lst e2)
    · rename_i xs q
      cases e
      obtain ⟨a, e1, _, vs, e2, _⟩ := node_at s r q
      subst e1
      exact .base (.dK e2)
    · rename_i xs q
      cases e
      obtain ⟨a, e1, _, od, vs, e2, _⟩ := node_at s r q
      subst e1
      exact .fDict e2
    · cases e
/-- what isinstance asks of an own class's instance -/
structure IsiOwn (K : PySem.W.Frag) (C : Addr) : Prop where
  cl : Cls K C
  ha : PySem.W.findIn K (.ref C) "__class__" = some (some (.builtin "object.__class__"))
  hn : PySem.W.specialIn K (.builtin "object.__class__") "__get__" = some (some (.builtin "getset_descriptor.__get__"))
  htk : PySem.W.takesIn K (.builtin "object.__class__") = some true
  hm : PySem.W.mroIn K C (.type "object") = some true
theorem okc_isi {own : Nat → String → Option Bool} (ho : ∀ c n b, own c n = some b → IsiOwn K (T c) ∧ PySem.W.kitOne K (.ref (T c)) (.type n) = some b) : OkC K T (fIsi own) (rIsi K) := by
  intro ρ η st H ws vs Q E s r h
  unfold fIsi at h
  split at h
  · rename_i w n
    obtain ⟨v, z, e, r1, r2⟩ := vrs2 r
    simp only [VR] at r2
    subst r2
    split at h
    · rename_i t q
      split at h
      · rename_i b q2
        exact ⟨v, .ty n, .type t, .type n, b, e, .ty n, ty_ok s r1 q, kit_ty q2, h.ok s (by simp only [VR])⟩
      · exact h.elim
    · split at h
      · rename_i i q
        split at h
        · rename_i c fs q2
          split at h
          · rename_i b q3
            obtain ⟨o1, o2⟩ := ho c n b q3
            obtain ⟨a, e1, _, dx, fv, e2, _⟩ := node_at s r1 q2
            subst e1
            exact ⟨_, .ty n, .ref (T c), .type n, b, e, .ty n, .base (.ins e2 o1.cl o1.ha o1.hn o1.htk o1.hm), o2, h.ok s (by simp only [VR])⟩
          · exact h.elim
        · exact h.elim
      · exact h.elim
  · exact h.elim
theorem bls_ok : ∀ {ws : List W} {vs : List V} {bs : List Bool}, VRs K ρ η H ws vs → blsOf ws = some bs → vs = bs.map V.bl
  | [], vs, bs, r, e => by
    simp only [VRs] at r
    simp only [blsOf, Option.some.injEq] at e
    subst r; subst e; rfl
  | .bl b :: ws, vs, bs, r, e => by
    simp only [VRs, VR] at r
    obtain ⟨v, rr, e1, e2, e3⟩ := r
    simp only [blsOf, Option.map_eq_some_iff] at e
    obtain ⟨cs, e4, e5⟩ := e
    subst e1; subst e2; subst e5
    rw [bls_ok e3 e4, List.map_cons]
  | .non :: ws, vs, bs, r, e => by simp [blsOf] at e
  | .int _ :: ws, vs, bs, r, e => by simp [blsOf] at e
  | .str _ :: ws, vs, bs, r, e => by simp [blsOf] at e
  | .ty _ :: ws, vs, bs, r, e => by simp [blsOf] at e
  | .tup _ :: ws, vs, bs, r, e => by simp [blsOf] at e
  | .lst _ :: ws, vs, bs, r, e => by simp [blsOf] at e
  | .scr _ :: ws, vs, bs, r, e => by simp [blsOf] at e
  | .ref _ :: ws, vs, bs, r, e => by simp [blsOf] at e
  | .at_ _ :: ws, vs, bs, r, e => by simp [blsOf] at e
  | .fn _ _ _ _ :: ws, vs, bs, r, e => by simp [blsOf] at e
  | .exc _ _ _ _ :: ws, vs, bs, r, e => by simp [blsOf] at e
theorem ints_ok : ∀ {ws : List W} {vs : List V} {bs : List Int}, VRs K ρ η H ws vs → intsOf ws = some bs → vs = bs.map V.int
  | [], vs, bs, r, e => by
    simp only [VRs] at r
    simp only [intsOf, Option.some.injEq] at e
    subst r; subst e; rfl
  | .int b :: ws, vs, bs, r, e => by
    simp only [VRs, VR] at r
    obtain ⟨v, rr, e1, e2, e3⟩ := r
    simp only [intsOf, Option.map_eq_some_iff] at e
    obtain ⟨cs, e4, e5⟩ := e
    subst e1; subst e2; subst e5
    rw [ints_ok e3 e4, List.map_cons]
  | .non :: ws, vs, bs, r, e => by simp [intsOf] at e
  | .bl _ :: ws, vs, bs, r, e => by simp [intsOf] at e
  | .str _ :: ws, vs, bs, r, e => by simp [intsOf] at e
  | .ty _ :: ws, vs, bs, r, e => by simp [intsOf] at e
  | .tup _ :: ws, vs, bs, r, e => by simp [intsOf] at e
  | .lst _ :: ws, vs, bs, r, e => by simp [intsOf] at e
  | .scr _ :: ws, vs, bs, r, e => by simp [intsOf] at e
  | .ref _ :: ws, vs, bs, r, e => by simp [intsOf] at e
  | .at_ _ :: ws, vs, bs, r, e => by simp [intsOf] at e
  | .fn _ _ _ _ :: ws, vs, bs, r, e => by simp [intsOf] at e
  | .exc _ _ _ _ :: ws, vs, bs, r, e => by simp [intsOf] at e
theorem okc_all : OkC K T fAll (rAll K) := by
  intro ρ η st H ws vs Q E s r h
  unfold fAll at h
  split at h
  · rename_i w
    obtain ⟨v, e, rr⟩ := vrs1 r
    clear r
    have r := rr
    clear rr
    subst e
    split at h
    · rename_i xs q
      obtain ⟨a, us, e1, e2, e3⟩ := seq_ok s r q
      split at h
      · rename_i bs q2
        have := bls_ok e3 q2
        subst us; subst e1
        exact ⟨a, bs, rfl, e2, h.ok s (by simp only [VR])⟩
      · exact h.elim
    · exact h.elim
  · exact h.elim
theorem okc_any : OkC K T fAny (rAny K) := by
  intro ρ η st H ws vs Q E s r h
  unfold fAny at h
  split at h
  · rename_i w
    obtain ⟨v, e, rr⟩ := vrs1 r
    clear r
    have r := rr
    clear rr
    subst e
    split at h
    · rename_i xs q
      obtain ⟨a, us, e1, e2, e3⟩ := seq_ok s r q
      split at h
      · rename_i bs q2
        have := bls_ok e3 q2
        subst us; subst e1
        exact ⟨a, bs, rfl, e2, h.ok s (by simp only [VR])⟩
      · exact h.elim
    · exact h.elim
  · exact h.elim
theorem sortZ_of {ns ms : List Int} (p : ms.Perm ns) (q : ms.Pairwise (· ≤ ·)) : ms = sortZ ns := by
  have p2 : (sortZ ns).Perm ns := List.mergeSort_perm ns _
  have q2 : (sortZ ns).Pairwise (· ≤ ·) := by
    have := List.pairwise_mergeSort (le := fun a b : Int => decide (a ≤ b)) (by intro a b c; simp; omega) (by intro a b; simp; omega) ns
    exact this.imp (by intro a b; simp)
  exact (p.trans p2.symm).eq_of_pairwise (fun a b _ _ h1 h2 => Int.le_antisymm h1 h2) q q2
theorem vints {ns : List Int} : VRs K ρ η H (ns.map W.int) (ns.map V.int) := by
  refine VRs.of_get (by simp) fun i x v e1 e2 => ?_
  rw [List.getElem?_map] at e1 e2
  cases q : ns[i]? with
  | none => rw [q] at e1; cases e1
  | some n =>
    rw [q] at e1 e2
    cases e1; cases e2
    simp only [VR]
def rSortDI : List V → Hp → VK → Prop := fun xs H Q => ∃ (a : Addr) (kvs : List (Key × V)) (ks : List Int), xs = [.ref a] ∧ Rd H a (.dK kvs) ∧ kvs.map (·.1) = ks.map Sum.inl ∧ ks.length < 64 ∧ ∀ (ys : List Int) (p : Addr), ys.Perm ks → ys.Pairwise (· ≤ ·) → H p = none → Q (.ref p) (upd H p (.lst (ys.map V.int)))
theorem okc_sorted {fz : Bool} : OkC K T (fSorted fz) (fun xs H Q => rSortedI K xs H Q ∨ rSortDI xs H Q) := by
  intro ρ η st H ws vs Q E s r h
  unfold fSorted at h
  split at h
  · rename_i w
    obtain ⟨v, e, rr⟩ := vrs1 r
    clear r
    have r := rr
    clear rr
    subst e
    split at h
    · rename_i xs q
      obtain ⟨a, us, e1, e2, e3⟩ := seq_ok s r q
      split at h
      · rename_i ns q2
        have := ints_ok e3 q2
        subst us; subst e1
        refine .inl ⟨a, ns, rfl, e2, fun ns' p p1 p2 hp => ?_⟩
        rw [sortZ_of p1 p2]
        exact newL_ok h s vints hp
      · exact h.elim
    · split at h
      · rename_i kvs q
        split at h
        · rename_i ns q2
          split at h
          · rename_i lz
            have hs : ∀ {st : Sto} {w : W} {v : V} {kvs : List (Key × W)}, SR K T ρ η st H → VR K ρ η H w v → dkOf st w = some kvs → ∃ a kv, v = .ref a ∧ Rd H a (.dK kv) ∧ kv.map (·.1) = kvs.map (·.1) := by
              intro st w v kvs s r e
              cases w with
              | ref i =>
                simp only [dkOf] at e
                split at e
                · rename_i ks q
                  cases e
                  obtain ⟨a, h1, _, kv, h2, h3, h4⟩ := node_at s r q
                  exact ⟨a, kv, h1, .inl h2, h3⟩
                · rename_i ks q
                  cases e
                  obtain ⟨a, h1, _, od, kv, h2, h3, h4⟩ := node_at s r q
                  exact ⟨a, kv, h1, .inr ⟨od, h2⟩, h3⟩
                · cases e
              | _ => simp [dkOf] at e
            obtain ⟨a, kv, e1, e2, e3⟩ := hs s r q
            have ks : ∀ {kvs : List (Key × W)} {ns : List Int}, intsOf (kvs.map fun p => match p.1 with | .inl i => W.int i | .inr x => W.str x) = some ns → kvs.map (·.1) = ns.map Sum.inl := by
              intro kvs
              induction kvs with
              | nil => intro ns e; simp [intsOf] at e; subst e; rfl
              | cons p kvs ih =>
                intro ns e
                obtain ⟨k, w⟩ := p
                cases k with
                | inl i =>
                  simp only [List.map_cons, intsOf, Option.map_eq_some_iff] at e
                  obtain ⟨ms, e1, e2⟩ := e
                  subst e2
                  rw [List.map_cons, ih e1, List.map_cons]
                | inr x => simp [intsOf] at e
            subst e1
            refine .inr ⟨a, kv, ns, rfl, e2, by rw [e3]; exact ks q2, lz, fun ys p p1 p2 hp => ?_⟩
            rw [sortZ_of p1 p2]
            exact newL_ok h s vints hp
          · exact h.elim
        · exact h.elim
      · exact h.elim
  · exact h.elim
end
end Mi
namespace Mi
open PySem PySem.Spec PyProof.Rows L2
section
variable {X : Cx} {T : Nat → Addr} {Wx : WX'} {pos : Pos}
/-! ### a method of a list -/
abbrev FM := W → List W → Sto → Rs W
def OkM (K : PySem.W.Frag) (T : Nat → Addr) (f : FM) (r : V → List V → Hp → VK → Prop) : Prop := ∀ ρ η st H o ws x vs Q E, SR K T ρ η st H → VR K ρ η H o x → VRs K ρ η H ws vs → After K T η (fun ρ H => VR K ρ η H) ρ H (f o ws st) Q E → r x vs H Q
def mLm (f : FM) (mo : M W) (ma : M (List W)) : M W := fun env st => (mo env st).bind fun o s1 => if (seqL s1 o).isSome = true then (ma env s1).bind fun ws s2 => f o ws s2 else .stuck
theorem se_lm {id : String} {name : Str} {o e : Expr} {es : List Expr} {mo : M W} {ma : M (List W)} {f : FM} {r : V → List V → Hp → VK → Prop} {apos : Pos} (slot : Slot "list" name id) (hty : typeOf (.builtin id) = pure (.type "method_descriptor")) (hm : MtR X id r) (hf : OkM X.K T f r)
    (ho : SE X T Wx o mo) (ha : SA X T Wx (e :: es) ma)
    (hbase : attributeBase o name X.env (eval o X.env) = eval o X.env := by rfl)
    (hfew : ((backTo pos (starEach (e :: es) X.env)).all (fun x => !x.1) && (backToKw pos (keywordEach [] X.env)).all (fun x => x.1.isSome)
      && decide ((e :: es).length + ([] : List Keyword).length + (if ([] : List Keyword).isEmpty then 0 else 1) < 30)) = true := by rfl)
    (hline : (apos.endLine == pos.line) = true := by rfl) (hs : starEach (e :: es) X.env = (false, eval e X.env) :: starEach es X.env := by rfl) (hplain : (backTo pos (starEach es X.env)).any (·.1) = false := by rfl) :
    SE X T Wx (.Call (.Attribute o name apos) (e :: es) [] pos) (mLm f mo ma) := by
  intro ρ η st env σ H Q s er q
  refine ⟨_, pe_bm PySem.F.plainAttrs_list slot hty hm pe_S pa_S hbase hfew hline hs hplain, ?_⟩
  refine ho ρ η st env σ H _ s er (q.bind fun w s1 ρ1 H1 v g1 sr1 r1 h1 => ?_)
  split at h1
  · rename_i z
    obtain ⟨xs, z⟩ := Option.isSome_iff_exists.mp z
    obtain ⟨a, vs, e1, e2, e3⟩ := seq_ok sr1 r1 z
    subst e1
    refine ⟨.inl ⟨rfl, vs, e2⟩, ?_⟩
    exact ha ρ1 η s1 env σ H1 _ sr1 (er.mono g1) (h1.bind fun ws s2 ρ2 H2 us g2 sr2 r2 h2 => hf ρ2 η s2 H2 w ws _ us Q _ sr2 (r1.mono g2) r2 h2)
  · exact h1.elim
end
/-- a place's list -/
def nodL (st : Sto) : W → Option (Nat × List W)
  | .ref i => match st[i]? with
    | some (.lst xs) => some (i, xs)
    | _ => none
  | _ => none
def nodD (st : Sto) : W → Option (Nat × List (Key × W))
  | .ref i => match st[i]? with
    | some (.dk xs) => some (i, xs)
    | _ => none
  | _ => none
def fAppend : FM := fun o ws st => match nodL st o, ws with
  | some (i, xs), [w] => if xs.length < sizeLine then .ok .non (st.set i (.lst (xs ++ [w]))) else .stuck
  | _, _ => .stuck
section
variable {K : PySem.W.Frag} {T : Nat → Addr} {ρ η : List Addr} {H : Hp} {st : Sto}
theorem nodl_ok {w : W} {v : V} {i : Nat} {xs : List W} (s : SR K T ρ η st H) (h : VR K ρ η H w v) (e : nodL st w = some (i, xs)) : ∃ a vs, v = .ref a ∧ ρ[i]? = some a ∧ H a = some (.lst vs) ∧ VRs K ρ η H xs vs := by
  cases w with
  | ref j =>
    simp only [nodL] at e
    split at e
    · rename_i ys q
      cases e
      obtain ⟨a, h1, h0, vs, h2, h3⟩ := node_at s h q
      exact ⟨a, vs, h1, h0, h2, h3⟩
    · cases e
  | _ => simp [nodL] at e
theorem nodd_ok {w : W} {v : V} {i : Nat} {xs : List (Key × W)} (s : SR K T ρ η st H) (h : VR K ρ η H w v) (e : nodD st w = some (i, xs)) : ∃ a kv, v = .ref a ∧ ρ[i]? = some a ∧ H a = some (.dK kv) ∧ KVs K ρ η H xs kv := by
  cases w with
  | ref j =>
    simp only [nodD] at e
    split at e
    · rename_i ys q
      cases e
      obtain ⟨a, h1, h0, vs, h2, h3, h4⟩ := node_at s h q
      exact ⟨a, vs, h1, h0, h2, h3, h4⟩
    · cases e
  | _ => simp [nodD] at e
/-- a place's list becomes another one -/
theorem lst_put {i : Nat} {a : Addr} {vs us : List V} {ys : List W} {w : W} {v : V} {Q : V → Hp → Prop} {E : Value → Option Addr → Hp → Prop} (s : SR K T ρ η st H) (q : ρ[i]? = some a) (e : H a = some (.lst vs)) (r : VRs K ρ η H ys us) (rw : VR K ρ η H w v)
    (h : After K T η (fun ρ H => VR K ρ η H) ρ H (.ok w (st.set i (.lst ys))) Q E) : Q v (upd H a (.lst us)) := by
  have op : Open H a := open_of e fun _ _ z => nomatch z
  have g : Grow ρ H ρ (upd H a (.lst us)) := Grow.write (List.mem_of_getElem? q) op
  exact h ρ _ v g (s.write op q ⟨us, upd_same, r.mono g⟩) (rw.mono g)
theorem dk_put {i : Nat} {a : Addr} {kv kw : List (Key × V)} {ys : List (Key × W)} {w : W} {v : V} {Q : V → Hp → Prop} {E : Value → Option Addr → Hp → Prop} (s : SR K T ρ η st H) (q : ρ[i]? = some a) (e : H a = some (.dK kv)) (r : KVs K ρ η H ys kw) (rw : VR K ρ η H w v)
    (h : After K T η (fun ρ H => VR K ρ η H) ρ H (.ok w (st.set i (.dk ys))) Q E) : Q v (upd H a (.dK kw)) := by
  have op : Open H a := open_of e fun _ _ z => nomatch z
  have g : Grow ρ H ρ (upd H a (.dK kw)) := Grow.write (List.mem_of_getElem? q) op
  have r' := r.mono g
  exact h ρ _ v g (s.write op q ⟨kw, upd_same, r'.1, r'.2⟩) (rw.mono g)
theorem vr_non : VR K ρ η H .non .non := by simp only [VR]
theorem okm_append : OkM K T fAppend rAppend := by
  intro ρ η st H o ws x vs Q E s ro r h
  unfold fAppend at h
  split at h
  · rename_i i xs w q
    obtain ⟨a, us, e1, e2, e3, e4⟩ := nodl_ok s ro q
    obtain ⟨v, e5, r1⟩ := vrs1 r
    split at h
    · rename_i lz
      exact ⟨a, us, v, e1, e5, e3, by rw [e4.len]; exact lz, lst_put s e2 e3 (e4.append (VRs.cons r1 VRs.nil)) vr_non h⟩
    · exact h.elim
  · exact h.elim
end
/-! ### dicts -/
def mDget2 (mo mk md : M W) : M W := fun env st => (mo env st).bind fun o s1 => if (dkOf s1 o).isSome = true then (mk env s1).bind fun k s2 => (md env s2).bind fun d s3 => match dkOf s3 o, keyOf k with
    | some kvs, some k => .ok ((lkW kvs k).getD d) s3
    | _, _ => .stuck else .stuck
def mDset2 (mo mk md : M W) : M W := fun env st => (mo env st).bind fun o s1 => if (dkOf s1 o).isSome = true then (mk env s1).bind fun k s2 => (md env s2).bind fun d s3 => match nodD s3 o, keyOf k with
    | some (i, kvs), some k => if kvs.length < sizeLine then (match lkW kvs k with
      | some w => .ok w s3
      | none => .ok d (s3.set i (.dk (putKW kvs k d)))) else .stuck
    | _, _ => .stuck else .stuck
def mDin (neg : Bool) (mk mo : M W) : M W := fun env st => (mk env st).bind fun k s1 => (mo env s1).bind fun o s2 => match dkOf s2 o, keyOf k with
  | some kvs, some k => .ok (.bl (if neg = true then !(lkW kvs k).isSome else (lkW kvs k).isSome)) s2
  | _, _ => .stuck
section
variable {X : Cx} {T : Nat → Addr} {Wx : WX'} {pos apos : Pos}
theorem m2_of {o e f : Expr} {m : Str} {cpos : Pos} (h1 : attributeBase o m X.env (eval o X.env) = eval o X.env := by rfl) (h2 : ((backTo cpos (starEach [e, f] X.env)).all (fun x => !x.1) && (backToKw cpos (keywordEach [] X.env)).all (fun x => x.1.isSome)
    && decide (([e, f] : List Expr).length + ([] : List Keyword).length + (if ([] : List Keyword).isEmpty then 0 else 1) < 30)) = true := by rfl) (h3 : (apos.endLine == cpos.line) = true := by rfl) (h4 : backTo cpos (starEach [e, f] X.env) = [(false, eval e X.env), (false, eval f X.env)] := by rfl) : M2 X o m apos e f cpos := ⟨h1, h2, h3, h4⟩
theorem se_dget2 {o e f : Expr} {mo mk md : M W} (hu : X.A.units + 1 < cLine) (ho : SE X T Wx o mo) (he : SE X T Wx e mk) (hf : SE X T Wx f md) (m : M2 X o "get" apos e f pos) : SE X T Wx (.Call (.Attribute o "get" apos) [e, f] [] pos) (mDget2 mo mk md) := by
  intro ρ η st env σ H Q s er q
  refine ⟨_, pe_dget2 hu pe_S pe_S pe_S m, ?_⟩
  refine ho ρ η st env σ H _ s er (q.bind fun w s1 ρ1 H1 v g1 sr1 r1 h1 => ?_)
  split at h1
  · rename_i z
    obtain ⟨kvs, z⟩ := Option.isSome_iff_exists.mp z
    obtain ⟨a, kv, e1, e2, _⟩ := dk_ok sr1 r1 z
    refine ⟨a, e1, .inl ⟨kv, e2⟩, ?_⟩
    refine he ρ1 η s1 env σ H1 _ sr1 (er.mono g1) (h1.bind fun k s2 ρ2 H2 kv' g2 sr2 r2 h2 => ?_)
    refine hf ρ2 η s2 env σ H2 _ sr2 ((er.mono g1).mono g2) (h2.bind fun d s3 ρ3 H3 dv g3 sr3 r3 h3 => ?_)
    split at h3
    · rename_i ks k q1 q2
      obtain ⟨a', kw, f1, f2, f3, f4⟩ := dk_ok sr3 (r1.mono (g2.trans g3)) q1
      rw [e1] at f1
      cases f1
      rcases kv_find (k := k) f3 f4 with ⟨z1, z2⟩ | ⟨y, u, z1, z2, z3⟩
      · rw [z1] at h3
        exact ⟨none, .inl ⟨kw, k, f2, key_ok (r2.mono g3) q2, z2.symm⟩, h3.ok sr3 r3⟩
      · rw [z1] at h3
        exact ⟨some u, .inl ⟨kw, k, f2, key_ok (r2.mono g3) q2, z2.symm⟩, h3.ok sr3 z3⟩
    · exact h3.elim
  · exact h1.elim
theorem se_dset2 {o e f : Expr} {mo mk md : M W} (ho : SE X T Wx o mo) (he : SE X T Wx e mk) (hf : SE X T Wx f md) (m : M2 X o "setdefault" apos e f pos) : SE X T Wx (.Call (.Attribute o "setdefault" apos) [e, f] [] pos) (mDset2 mo mk md) := by
  intro ρ η st env σ H Q s er q
  refine ⟨_, pe_dsetd pe_S pe_S pe_S m, ?_⟩
  refine ho ρ η st env σ H _ s er (q.bind fun w s1 ρ1 H1 v g1 sr1 r1 h1 => ?_)
  split at h1
  · rename_i z
    obtain ⟨kvs, z⟩ := Option.isSome_iff_exists.mp z
    obtain ⟨a, kv, e1, e2, _⟩ := dk_ok sr1 r1 z
    refine ⟨a, e1, .inl ⟨kv, e2⟩, ?_⟩
    refine he ρ1 η s1 env σ H1 _ sr1 (er.mono g1) (h1.bind fun k s2 ρ2 H2 kv' g2 sr2 r2 h2 => ?_)
    refine hf ρ2 η s2 env σ H2 _ sr2 ((er.mono g1).mono g2) (h2.bind fun d s3 ρ3 H3 dv g3 sr3 r3 h3 => ?_)
    split at h3
    · rename_i i ks k q1 q2
      obtain ⟨a', kw, f1, f2, f3, f4⟩ := nodd_ok sr3 (r1.mono (g2.trans g3)) q1
      rw [e1] at f1
      cases f1
      split at h3
      · rename_i lz
        refine ⟨kw, k, f3, key_ok (r2.mono g3) q2, by rw [f4.len]; exact lz, fun u z2 => ?_, fun z2 => ?_⟩
        · rcases kv_find (k := k) f4.1 f4.2 with ⟨y1, y2⟩ | ⟨y, u', y1, y2, y3⟩
          · rw [y2] at z2; cases z2
          · rw [y2] at z2
            cases z2
            rw [y1] at h3
            exact h3.ok sr3 y3
        · rcases kv_find (k := k) f4.1 f4.2 with ⟨y1, y2⟩ | ⟨y, u', y1, y2, y3⟩
          · rw [y1] at h3
            exact dk_put sr3 f2 f3 (f4.put r3) r3 h3
          · rw [y2] at z2; cases z2
      · exact h3.elim
    · exact h3.elim
  · exact h1.elim
theorem din_ok {ρ η : List Addr} {H : Hp} {st : Sto} {neg : Bool} {k o : W} {kv ov : V} {Q : V → Hp → Prop} {E : Value → Option Addr → Hp → Prop} (s : SR X.K T ρ η st H) (rk : VR X.K ρ η H k kv) (ro : VR X.K ρ η H o ov)
    (h : After X.K T η (fun ρ H => VR X.K ρ η H) ρ H (match dkOf st o, keyOf k with
      | some kvs, some k => .ok (.bl (if neg = true then !(lkW kvs k).isSome else (lkW kvs k).isSome)) st
      | _, _ => .stuck) Q E) : ∃ a o, ov = .ref a ∧ DGet H a kv o ∧ Q (.bl (if neg = true then !o.isSome else o.isSome)) H := by
  split at h
  · rename_i ks k q1 q2
    obtain ⟨a, kw, f1, f2, f3, f4⟩ := dk_ok s ro q1
    rcases kv_find (k := k) f3 f4 with ⟨z1, z2⟩ | ⟨y, u, z1, z2, z3⟩
    · rw [z1] at h
      exact ⟨a, none, f1, .inl ⟨kw, k, f2, key_ok rk q2, z2.symm⟩, h.ok s (by simp only [VR]; cases neg <;> rfl)⟩
    · rw [z1] at h
      exact ⟨a, some u, f1, .inl ⟨kw, k, f2, key_ok rk q2, z2.symm⟩, h.ok s (by simp only [VR]; cases neg <;> rfl)⟩
  · exact h.elim
theorem st_dnin {i o : Expr} {mi mo : M W} (hu : X.A.units + 1 < cLine) (hi : SE X T Wx i mi) (ho : SE X T Wx o mo) (h1 : behindInMarks .NotIn o = false := by rfl) : STt X T Wx (.Compare i [.NotIn] [o] pos) (mB (mDin true mi mo)) := by
  intro ρ η st env σ H Q s er q
  refine ⟨_, pt_cmp (pc_dnotin hu pe_S pe_S) h1, ?_⟩
  unfold mB mDin at q
  rw [Rs.bind_assoc] at q
  refine hi ρ η st env σ H _ s er (q.bind fun k s1 ρ1 H1 v g1 sr1 r1 h1 => ?_)
  rw [Rs.bind_assoc] at h1
  refine ho ρ1 η s1 env σ H1 _ sr1 (er.mono g1) (h1.bind fun w s2 ρ2 H2 u g2 sr2 r2 h2 => ?_)
  have := din_ok (X := X) (T := T) (neg := true) (Q := fun v H => ∃ c, v = .bl c ∧ Q c H) (E := fun c d H' => Wx c d σ H') sr2 (r1.mono g2) r2 (h2.bind fun z s3 ρ3 H3 v3 g3 sr3 r3 h3 => toB_ok sr3 r3 h3)
  exact this
/-! ### op= -/
theorem ss_aug {i : Nat} {x : Str} {e : Expr} {op : Operator} {m : M W} {f : Int → Int → Int} {pos' : Pos} (hN : X.N.Nodup) (hi : X.N[i]? = some x) (hx : Loc X.env.scope x) (he : SE X T Wx e m) (ho : PIp X op (ipI f)) (hf : X.fn x = true ∨ X.env.scope.names.lookup x = some .local := by first | exact .inl rfl | exact .inr rfl) :
    SSt X T Wx (.AugAssign (.Name x pos') op e pos) (sAug i (fun a b st => match a, b with | .int p, .int q => .ok (.int (f p q)) st | _, _ => .stuck) m) := by
  intro ρ η st env σ H D s er q
  refine ⟨_, ps_aug hN hi hx pe_S ho hf, ?_⟩
  unfold sAug at q
  split at q
  · rename_i w e1
    obtain ⟨v, e2, r⟩ := er.2 i w e1
    refine ⟨v, e2, ?_⟩
    refine he ρ η st env σ H _ s er (q.bind er fun u s1 ρ1 H1 uv _ g1 sr1 r1 h1 => ?_)
    have r0 := r.mono g1
    cases w <;> cases u <;> first | exact h1.elim | skip
    simp only [VR] at r0 r1
    refine ⟨_, _, r0, r1, ?_⟩
    exact h1 ρ1 H1 _ Grow.refl sr1 ((er.mono g1).set (by simp only [VR]))
  · exact q.elim
end
end Mi
namespace Mi
open PySem PySem.Spec PyProof.Rows L2
/-! ### a dict that is walked -/
def keyW : Key → W
  | .inl i => .int i
  | .inr x => .str x
section
variable {K : PySem.W.Frag} {T : Nat → Addr} {ρ ρ' η : List Addr} {H H' : Hp} {st st' : Sto}
end
section
variable {X : Cx} {T : Nat → Addr} {Wx : WX'} {pos : Pos}
theorem KVs.get {K : PySem.W.Frag} {ρ η : List Addr} {H : Hp} : ∀ {kvs : List (Key × W)} {kv : List (Key × V)} {i : Nat} {k : Key} {w : W}, KVs K ρ η H kvs kv → kvs[i]? = some (k, w) → ∃ v, kv[i]? = some (k, v) ∧ VR K ρ η H w v
  | [], kv, i, k, w, h, e => by simp at e
  | (a, u) :: kvs, kv, i, k, w, h, e => by
    obtain ⟨v, r, e1, h1, h2⟩ := h.cons'
    subst e1
    cases i with
    | zero =>
      simp at e
      obtain ⟨e2, e3⟩ := e
      subst e2; subst e3
      exact ⟨v, rfl, h1⟩
    | succ i =>
      obtain ⟨v', e2, e3⟩ := KVs.get h2 (by simpa using e)
      exact ⟨v', by simpa using e2, e3⟩
theorem KVs.more {K : PySem.W.Frag} {ρ ρ' η η' : List Addr} {H H' : Hp} {kvs : List (Key × W)} {kv : List (Key × V)} (g : Grow ρ H ρ' H') (k : Hid η H η') (h : KVs K ρ η H kvs kv) : KVs K ρ' η' H' kvs kv := ⟨h.1, h.2.more g k⟩
/-! ### enumerate, zip -/
def enumW (s : Src) : Src := ⟨s.fuel, fun i st => match s.at_ i st with
  | some (some w) => some (some (.tup [.int i, w]))
  | some none => some none
  | none => none⟩
def srcOf (st : Sto) : W → Option Src
  | .lst xs => some (fixS xs)
  | .scr xs => some (fixS xs)
  | .ref n => match st[n]? with
    | some (.lst xs) => some (nodS n xs.length)
    | _ => none
  | _ => none
/-- a list to be read at each turn -/
theorem srcOf_ok {ρ η : List Addr} {H : Hp} {st : Sto} {w : W} {v : V} {src : Src} (s : SR X.K T ρ η st H) (r : VR X.K ρ η H w v) (e : srcOf st w = some src) :
    ∃ a vs, v = .ref a ∧ SqL X.K H a vs ∧ ∀ η', Hid η H η' → ∀ (i : Nat) (ρ' : List Addr) (H' : Hp) (st' : Sto), Grow ρ H ρ' H' → SR X.K T ρ' η' st' H' → match src.at_ i st' with
      | some (some w) => ∃ vs v, SqL X.K H' a vs ∧ vs[i]? = some v ∧ VR X.K ρ' η' H' w v
      | some none => ∃ vs, SqL X.K H' a vs ∧ vs.length ≤ i
      | none => True := by
  have fx : ∀ {a : Addr} {xs : List W} {vs : List V}, (∀ ρ' H', Grow ρ H ρ' H' → SqL X.K H' a vs) → VRs X.K ρ η H xs vs → ∀ η', Hid η H η' → ∀ (i : Nat) (ρ' : List Addr) (H' : Hp) (st' : Sto), Grow ρ H ρ' H' → SR X.K T ρ' η' st' H' → match (fixS xs).at_ i st' with
      | some (some w) => ∃ vs v, SqL X.K H' a vs ∧ vs[i]? = some v ∧ VR X.K ρ' η' H' w v
      | some none => ∃ vs, SqL X.K H' a vs ∧ vs.length ≤ i
      | none => True := by
    intro a xs vs hl r η' k i ρ' H' st' g sr
    show match some xs[i]? with | some (some w) => _ | some none => _ | none => _
    cases e : xs[i]? with
    | none => exact ⟨vs, hl _ _ g, by rw [r.len]; exact List.getElem?_eq_none_iff.mp e⟩
    | some w =>
      obtain ⟨v, e1, e2⟩ := r.get e
      exact ⟨vs, v, hl _ _ g, e1, e2.more g k⟩
  cases w with
  | lst xs =>
    simp only [srcOf, Option.some.injEq] at e
    subst e
    simp only [VR] at r
    obtain ⟨a, vs, e1, e2, e3⟩ := r
    exact ⟨a, vs, e1, SqL.of e2.2.2, fx (lst_at e2) e3⟩
  | scr xs =>
    simp only [srcOf, Option.some.injEq] at e
    subst e
    simp only [VR] at r
    obtain ⟨a, vs, e1, e2, e3⟩ := r
    exact ⟨a, vs, e1, e2.sq, fx (fun ρ' H' g => (e2.mono g).sq) e3⟩
  | ref n =>
    simp only [srcOf] at e
    split at e
    · rename_i xs q
      cases e
      obtain ⟨a, e1, e2, vs, e3, e4⟩ := node_at s r q
      refine ⟨a, vs, e1, SqL.of e3, fun η' k i ρ' H' st' g sr => ?_⟩
      show match (match st'[n]? with | some (.lst xs) => some xs[i]? | _ => none) with | some (some w) => _ | some none => _ | none => True
      cases e : st'[n]? with
      | none => trivial
      | some nd =>
        have q := sr.at_ n nd a e (g.at e2)
        cases nd with
        | lst xs =>
          obtain ⟨vs, q1, q2⟩ := q
          dsimp only
          cases e2 : xs[i]? with
          | none => exact ⟨vs, SqL.of q1, by rw [q2.len]; exact List.getElem?_eq_none_iff.mp e2⟩
          | some w =>
            obtain ⟨v, e3, e4⟩ := q2.get e2
            exact ⟨vs, v, SqL.of q1, e3, e4⟩
        | _ => trivial
    · cases e
  | _ => simp [srcOf] at e
def iE (m : M (List W)) : MI := fun env st => (m env st).bind fun ws s => match ws with
  | [w] => match srcOf s w with
    | some src => .ok (enumW src) s
    | none => .stuck
  | _ => .stuck
theorem si_enum {e : Expr} {m : M (List W)} {p pos tpos : Pos} {elts : List Expr} {kk : Nat} (hg : Gl X "enumerate") (hm : X.mg "enumerate" = none) (h : SA X T Wx [e] m) (hs : starEach [e] X.env = [(false, eval e X.env)] := by rfl) :
    SI X T Wx (.Tuple elts kk tpos) (.Call (.Name "enumerate" p) [e] [] pos) (iE m) := by
  intro ρ η st env σ H Q s er q
  refine ⟨_, pi_enum hg hm pa_S hs, ?_⟩
  refine h ρ η st env σ H _ s er (q.bind fun ws s1 ρ1 H1 vs g1 sr1 r1 h1 => ?_)
  split at h1
  · rename_i w
    obtain ⟨v, e1, r2⟩ := vrs1 r1
    split at h1
    · rename_i src e2
      obtain ⟨a, us, e3, e4, e5⟩ := srcOf_ok sr1 r2 e2
      subst e3
      refine ⟨a, us, e1, e4, h1.ok sr1 ?_⟩
      intro η' k i ρ' H' st' g sr
      have z := e5 η' k i ρ' H' st' g sr
      unfold enumW
      dsimp only
      split at z
      · rename_i w' e6
        obtain ⟨vs', v', z1, z2, z3⟩ := z
        refine ⟨⟨vs', v', z1, z2⟩, fun x H2 y => ?_⟩
        obtain ⟨TT, x', y1, y2, y3, y4⟩ := y
        subst y1; subst y3
        have := y4 vs' z1
        rw [z2] at this
        cases this
        refine ⟨Grow.new y2, sr.new' y2, ?_⟩
        simp only [VR]
        exact ⟨TT, _, rfl, .inl ⟨sr.fresh y2, sr.freshH y2, .inl upd_same⟩, VRs.cons (by simp only [VR]) (VRs.cons (z3.mono (Grow.new y2)) VRs.nil)⟩
      · exact z
      · trivial
    · exact h1.elim
  · exact h1.elim
end
end Mi
namespace Mi
open PySem PySem.Spec PyProof.Rows L2
/-! ### dicts made of dicts, of pairs -/
def mergeKW (kvs more : List (Key × W)) : List (Key × W) := more.foldl (fun acc kv => putKW acc kv.1 kv.2) kvs
def pairsW : List W → Option (List (Key × W))
  | [] => some []
  | .tup [k, w] :: r => match keyOf k, pairsW r with
    | some k, some ps => some ((k, w) :: ps)
    | _, _ => none
  | _ => none
def newD (kvs : List (Key × W)) (st : Sto) : Rs W := .ok (.ref st.length) (st ++ [.dk kvs])
def fDict : FC := fun ws st => match ws with
  | [w] => match dkOf st w with
    | some kvs => newD kvs st
    | none => match seqL st w with
      | some xs => match pairsW xs with
        | some ps => newD (mergeKW [] ps) st
        | none => .stuck
      | none => .stuck
  | _ => .stuck
section
variable {X : Cx} {T : Nat → Addr} {ρ η : List Addr} {H : Hp} {st : Sto}
theorem KVs.merge : ∀ {more : List (Key × W)} {kw : List (Key × V)} {kvs : List (Key × W)} {kv : List (Key × V)}, KVs X.K ρ η H more kw → KVs X.K ρ η H kvs kv → KVs X.K ρ η H (mergeKW kvs more) (mergeK kv kw)
  | [], kw, kvs, kv, h, k => by
    rw [h.nil']
    exact k
  | (a, w) :: more, kw, kvs, kv, h, k => by
    obtain ⟨v, r, e, h1, h2⟩ := h.cons'
    subst e
    show KVs X.K ρ η H (mergeKW (putKW kvs a w) more) (mergeK (putK kv a v) r)
    exact KVs.merge h2 (k.put h1)
/-! ### equal dicts of flat things -/
end
/-! ### {k: v for ..} -/
section
variable {X : Cx} {T : Nat → Addr} {Wx : WX'} {pos : Pos}
theorem KVs.hid {K : PySem.W.Frag} {ρ η : List Addr} {H : Hp} {D : Addr} {o : HO} (n : D ∈ η) {kvs : List (Key × W)} {kv : List (Key × V)} (h : KVs K ρ η H kvs kv) : KVs K ρ η (L2.upd H D o) kvs kv := ⟨h.1, h.2.hid n⟩
end
end Mi
namespace Mi
open PySem PySem.Spec PyProof.Rows L2
/-- what is not carried, or never reached -/
def sStk : MS := fun _ _ => .stuck
def sPar (i j : Nat) (ma mb : M W) : MS := fun env st => (ma env st).to env fun a s1 => (mb env s1).to env fun b s2 => .nx ((env.set i (some a)).set j (some b)) s2
section
variable {X : Cx} {T : Nat → Addr} {Wx : WX'} {pos : Pos}
theorem ss_stk {c : Stmt} : SSt X T Wx c sStk := fun _ _ _ _ _ _ _ _ _ h => h.elim
/-- a, b = e, f -/
theorem ss_par {i j : Nat} {x y : Str} {a b : Expr} {ma mb : M W} {px py pt : Pos} {kt k2 pt2} (hc : X.calm = true) (hN : X.N.Nodup) (hi : X.N[i]? = some x) (hj : X.N[j]? = some y) (hij : i ≠ j)
    (hx : X.env.scope.names.lookup x = some .local) (hy : X.env.scope.names.lookup y = some .local) (ha : SE X T Wx a ma) (hb : SE X T Wx b mb)
    (hw : swappedStores [.Tuple [.Name x px, .Name y py] kt pt] (.Tuple [a, b] k2 pt2) X.env = pure (some [x, y]))
    (hst : starEach [a, b] X.env = (false, eval a X.env) :: starEach [b] X.env := by rfl) (hst2 : starEach [b] X.env = (false, eval b X.env) :: starEach [] X.env := by rfl) :
    SSt X T Wx (.Assign [.Tuple [.Name x px, .Name y py] kt pt] (.Tuple [a, b] k2 pt2) pos) (sPar i j ma mb) := by
  intro ρ η st env σ H D s er q
  refine ⟨_, ps_par hc hN hi hj hij hx hy (pa_cons pe_S (pa_cons pe_S pa_nil hst2) hst) hw, ?_⟩
  refine ha ρ η st env σ H _ s er (q.bind er fun w s1 ρ1 H1 v _ g1 sr1 r1 h1 => ?_)
  refine hb ρ1 η s1 env σ H1 _ sr1 (er.mono g1) (h1.bind (er.mono g1) fun u s2 ρ2 H2 v2 _ g2 sr2 r2 h2 => ?_)
  exact ⟨v, v2, rfl, h2 ρ2 H2 _ Grow.refl sr2 ((((er.mono g1).mono g2).set (r1.mono g2)).set r2)⟩
end
/-! ### a text, sign by sign -/
def iS (m : M W) : MI := fun env st => (m env st).bind fun w s => match w with
  | .str z => .ok (fixS (z.cps.toList.map fun c => .str ⟨#[c]⟩)) s
  | _ => .stuck
theorem si_str {X : Cx} {T : Nat → Addr} {Wx : WX'} {tg l : Expr} {m : M W} (h : SE X T Wx l m) : SI X T Wx tg l (iS m) := by
  intro ρ η st env σ H Q s er q
  refine ⟨_, pi_str pe_S, ?_⟩
  refine h ρ η st env σ H _ s er (q.bind fun w s1 ρ1 H1 v g1 sr1 r1 h1 => ?_)
  split at h1
  · rename_i z
    simp only [VR] at r1
    refine ⟨z, r1, h1.ok sr1 ?_⟩
    intro η' k i ρ' H' st' g sr
    show match some (z.cps.toList.map fun c => W.str ⟨#[c]⟩)[i]? with | some (some w) => _ | some none => _ | none => _
    rw [List.getElem?_map]
    cases e : z.cps.toList[i]? with
    | none =>
      have := List.getElem?_eq_none_iff.mp e
      show z.cps.size ≤ i
      simpa using this
    | some c =>
      have hi := (List.getElem?_eq_some_iff.mp e).1
      refine ⟨by show i < z.cps.size; simpa using hi, fun x H2 y => ?_⟩
      obtain ⟨y1, c', y2, y3⟩ := y
      subst y1
      have : z.cps[i]? = some c := by rw [← Array.getElem?_toList]; exact e
      rw [y2] at this
      cases this
      exact ⟨Grow.refl, sr, by simp only [VR]; exact y3⟩
  · exact h1.elim
end Mi
namespace Mi
open PySem PySem.Spec PyProof.Rows L2
section
variable {X : Cx} {T : Nat → Addr} {Wx : WX'} {pos : Pos}
theorem se_tupA {es : List Expr} {k : M (List W)} {n : Nat} {x1} (h : SAn X T Wx n es k) (hn : n ≤ 1000 := by decide) : SE X T Wx (.Tuple es x1 pos) (mTup k) := se_tup h.run h.len hn
theorem se_lstA {fz : Bool} {es : List Expr} {k : M (List W)} {n : Nat} (h : SAn X T Wx n es k) (hn : n ≤ 1000 := by decide) : SE X T Wx (.List es pos) (mLst fz k) := se_lst h.run h.len hn
end
end Mi
/-! The mirror: try .. except X: of own classes; the clause's suite raises nothing. -/
namespace Mi
open PySem PySem.Spec PyProof.Rows L2
def calmS (r : SRs) : SRs := match r with
  | .ex _ _ _ => .stuck
  | r => r
theorem SAfter.calm {K : PySem.W.Frag} {T : Nat → Addr} {η ρ : List Addr} {H : Hp} {r : SRs} {D : Ends} {Wx Wy : WX'} (h : SAfter K T η ρ H (calmS r) D Wx) : SAfter K T η ρ H r D Wy := by
  cases r with
  | ex x env st => exact h.elim
  | nx env st => exact h
  | rt w st => exact h
  | bk env st => exact h
  | ct env st => exact h
  | stuck => exact h.elim
theorem lookup_mem {α : Type} : ∀ {tb : List (Nat × α)} {n : Nat} {b : α}, tb.lookup n = some b → (n, b) ∈ tb
  | (m, c) :: tb, n, b, h => by
    rw [List.lookup_cons] at h
    by_cases e : n = m
    · subst e
      simp at h
      subst h
      exact List.mem_cons_self
    · have e' : (n == m) = false := by simpa using e
      rw [e'] at h
      exact List.mem_cons_of_mem _ (lookup_mem h)
/-- what must be known of an own exception class, by the fragment alone -/
structure ExcF (K : PySem.W.Frag) (mg : Str → Option Value) (C : Addr) (x : Str) : Prop where
  ex : PySem.W.excIn K C [.type "ValueError", .type "Exception", .type "BaseException", .type "object"] "ValueError.__new__" = true
  mg : mg x = some (.ref C)
  kp : PySem.W.keepIn K (.ref C) = true
  sub : PySem.W.subIn K (.ref C) (.type "BaseException") = some true
  ty : PySem.W.typeIn K (.ref C) = some (.type "type")
theorem ExcF.ok {X : Cx} {C : Addr} {x : Str} (h : ExcF X.K X.mg C x) : ExcOk X C x := ⟨h.ex, h.mg, h.kp, h.sub, h.ty⟩
end Mi
/-! enumerate of a tuple, from the library's draws -/
namespace PySem
open Sem (wp)
open AutoSeq1 (wpAny_loadPart')
theorem mi_enumerate_newT (l : Addr) (items : Array Value) (n : Nat) (dct : Option Addr) (sl : Array (Option Value)) :
    Meets (Builtin.«enumerate.__new__» ⟨[.type "enumerate", .ref l], []⟩) (fun _ R s => s.heap.get? l = some { cls := .type "tuple", dict := dct, data := .seq items n, slots := sl } ∧
      R (.ok (.ret (.ref (s.heap.push { cls := .type "tuple_iterator", data := .fields #[.ref l, .int 0 0] }).objs.size)))
        { s with heap := (s.heap.push { cls := .type "tuple_iterator", data := .fields #[.ref l, .int 0 0] }).push { cls := .type "enumerate", data := .fields #[.none, .bool false, .ref s.heap.objs.size, rawInt 0, .none, .none] } }) :=
  .of_wp fun prog w A R s h => by
    obtain ⟨hp, g, d, tk, os⟩ := s; obtain ⟨hl, h⟩ := h
    have hsub := sub_enumerate
    have hL : Heap.IsTuple (Shared.heap ⟨hp, g, d, tk, os⟩) l items := ⟨_, hl, rfl, n, rfl⟩
    wp_walk using wpAny_loadPart' hl
    refine wpAny_stack_any fun st => wpAny_pure ?_
    split
    · rename_i c _ _ _ _ _
      cases (c == Value.type "enumerate")
      · wp_walk using wpAny_loadPart' hl, wpAny_pyIter_tuple hL
        exact ⟨_, rfl, h⟩
      · wp_walk using wpAny_loadPart' hl, wpAny_pyIter_tuple hL
        exact ⟨_, rfl, h⟩
    · wp_walk using wpAny_loadPart' hl, wpAny_pyIter_tuple hL
      exact ⟨_, rfl, h⟩
theorem mi_call_enumerate_tup {prog : Program} {w : World} {A : Around} {E : Value → Shared → Prop} {s : Shared} {l : Addr} {items : Array Value} {Q : Value → Shared → Prop} (hL : s.heap.IsTuple l items)
    (h : ∀ h', IsEnum h' (s.heap.objs.size + 1) s.heap.objs.size 0 .none → h'.IsTupleIter s.heap.objs.size l 0 → h'.objs.size = s.heap.objs.size + 2 →
      (∀ b o, s.heap.get? b = some o → h'.get? b = some o) → Q (.ref (s.heap.objs.size + 1)) { s with heap := h' }) :
    wpAny (model prog w) A (call (.type "enumerate") [.ref l]) Q E s := by
  obtain ⟨⟨c, dct, dt, sl⟩, hl, hc, n, hd⟩ := hL
  replace hc : c = .type "tuple" := hc
  replace hd : dt = .seq items n := hd
  subst hc hd
  refine callType_new F.called_enumerate (by decide) (F.typeCall_enumerate_1 _) (F.newCall_enumerate_1 _) (fun obj => F.args_object_init_2 obj _) F.entry_enumerate_new
    (mi_enumerate_newT l items n dct sl) ⟨hl, ?_⟩
  have hz : (s.heap.push { cls := .type "tuple_iterator", data := .fields #[.ref l, .int 0 0] }).objs.size = s.heap.objs.size + 1 := Heap.size_push ..
  show _ ∧ _
  rw [hz]
  have he : IsEnum ((s.heap.push { cls := .type "tuple_iterator", data := .fields #[.ref l, .int 0 0] }).push
      { cls := .type "enumerate", data := .fields #[.none, .bool false, .ref s.heap.objs.size, rawInt 0, .none, .none] }) (s.heap.objs.size + 1) s.heap.objs.size 0 .none := by
    have := Heap.get?_push_size (s.heap.push { cls := .type "tuple_iterator", data := .fields #[.ref l, .int 0 0] })
      (o := { cls := .type "enumerate", data := .fields #[.none, .bool false, .ref s.heap.objs.size, rawInt 0, .none, .none] }) rfl
    rw [hz] at this; exact this
  refine ⟨⟨_, he, rfl⟩, h _ he ⟨_, Heap.get?_push_of_some _ (Heap.get?_push_size _ rfl), rfl, rfl⟩ (by rw [Heap.size_push, hz]) fun b o x => Heap.get?_push_of_some _ (Heap.get?_push_of_some _ x)⟩
end PySem
namespace Mi
open PySem PySem.Spec PyProof.Rows L2
def ItEt (K : PySem.W.Frag) (a : Addr) : It :=
  ⟨fun i H => ∃ (xs : List V) (x : V), SqT K H a xs ∧ xs[i]? = some x, fun i H v H' => ∃ T x, v = .ref T ∧ H T = none ∧ H' = upd H T (.tup [.int (i : Nat), x]) ∧ ∀ xs, SqT K H a xs → xs[i]? = some x, fun i H => ∃ xs : List V, SqT K H a xs ∧ xs.length ≤ i⟩
theorem turn_enumT {P : Program} {w : World} {K : PySem.W.Frag} {elts : List Expr} {kk : Nat} {tpos : Pos} (a e it : Addr) (ea : e ≠ a) (ia : it ≠ a) :
    Turn P w K (.Tuple elts kk tpos) (ItEt K a) [e, it] e (fun i h => (∃ old, IsEnum h e it ((i : Nat) : Int) old) ∧ h.IsTupleIter it a i ∧ e ≠ it) where
  mem := by simp
  obj := fun i h st b hb => by
    obtain ⟨⟨old, he⟩, ⟨o, ho, hc, hd⟩, _⟩ := st
    have e' : b = e ∨ b = it := by simpa using hb
    rcases e' with z | z
    · rw [z]; exact ⟨_, he, fun v q => nomatch q⟩
    · rw [z]; exact ⟨o, ho, fun v q => by rw [hd] at q; cases q⟩
  keep := fun i h h' st k => let ⟨⟨old, he⟩, hi, hne⟩ := st; ⟨⟨old, k e (by simp) _ he⟩, hi.at fun o q => k it (by simp) o q, hne⟩
  item := by
    intro X hP hw hK hc i pins s σ H E I hf st hg
    subst hP hw hK
    obtain ⟨⟨old, he⟩, hit, hne⟩ := st
    obtain ⟨xs, x, hq, hx⟩ := hg
    obtain ⟨its, rv, p, hz⟩ := I.tuple hq
    have p : s.heap.IsTuple a its.toArray := p
    obtain ⟨u, hu, ru⟩ := rv.get hx
    have hel : e < s.heap.objs.size := Heap.lt_size he
    have hil : it < s.heap.objs.size := by obtain ⟨_, q, _⟩ := hit; exact Heap.lt_size q
    have hh : X.A.handled = none := I.ok.hd hc
    have D := Draws.tuple (prog := X.prog) (w := X.w) (A := X.A.in1) hh it a (fun z => ia z.symm) its.toArray
    have hi : i < its.toArray.size := by
      have := (List.getElem?_eq_some_iff.mp hu).1
      simpa using this
    refine wpAny_pyNext_enum_itemD D he ⟨hit, p⟩ hi hne (by simp [hne, ea]) fun x' h' tk hP ho hst' hT hsz hk => ?_
    have hit' := hst'.1
    have ex : x' = u := by
      have h1 : its.toArray[i]? = some u := by simpa using hu
      rw [h1] at hP
      exact (Option.some.inj hP).symm
    subst ex
    refine ⟨_, rfl, wpAny_letOwnedTupleGo_enum (s := { s with heap := h', toks := tk + 1 }) ho fun h'' he' sb => ?_⟩
    have hT2 : h''.get? s.heap.objs.size = some { cls := .type "tuple", data := .seq #[.int i tk, x'] } := (sb.2 _ (Nat.ne_of_gt hel)).trans hT
    have new : ObjOk X.prog X.w (upd H s.heap.objs.size (.tup [.int (i : Nat), x])) h'' s.heap.objs.size (.tup [.int (i : Nat), x]) :=
      ⟨by show 2 ≤ sizeLine; decide, [.int i tk, x'], .cons ⟨_, rfl⟩ (.cons ru .nil), ⟨_, hT2, rfl, _, rfl⟩⟩
    have I1 : Inv X pins σ (upd H s.heap.objs.size (.tup [.int (i : Nat), x])) { s with heap := h'', toks := tk + 1 } :=
      I.turnedNew (ch := [e, it]) (fun b ob hb q => (sb.2 b (fun z => hb (by simp [z]))).trans (hk b ob (fun z => hb (by simp [z])) (fun z => hb (by simp [z])) q)) hf (Nat.le_refl _) new
    refine ⟨.ref s.heap.objs.size, _, I1, rfl, ⟨_, x, rfl, I.hok.fresh (Nat.le_refl _), rfl, fun ys hy => by rw [I.tuple_inj hy hq]; exact hx⟩, ⟨⟨x', ?_⟩, hit'.at fun o q => (sb.2 it (Ne.symm hne)).trans q, hne⟩, fun b hb => ?_⟩
    · have e1 : ((i + 1 : Nat) : Int) = (i : Int) + 1 := by omega
      rw [e1]; exact he'
    · have hb' : b < s.heap.objs.size := by
        have e' : b = e ∨ b = it := by simpa using hb
        rcases e' with z | z
        · rw [z]; exact hel
        · rw [z]; exact hil
      rw [upd_ne (Nat.ne_of_lt hb')]
      exact (hf b hb).1
  done := by
    intro X hP hw hK hc i pins s σ H E I hf st hg
    subst hP hw hK
    obtain ⟨⟨old, he⟩, hit, hne⟩ := st
    obtain ⟨xs, hq, hx⟩ := hg
    obtain ⟨its, rv, p, hz⟩ := I.tuple hq
    have p : s.heap.IsTuple a its.toArray := p
    obtain ⟨f0, f1, f2, f3, f4, f5⟩ := hf it (by simp)
    have hl := rv.length
    have hh : X.A.handled = none := I.ok.hd hc
    have hT : s.TypeIs (.ref e) "enumerate" := ⟨_, he, rfl⟩
    unfold pyNext
    refine wpAny_bind (wpAny_attempt (wpAny_callSpecial?_slot (name := Str.ofString "__next__") hT F.slot_enumerate_next
      (wpAny_call_entry F.slot_enumerate_next hT F.entry_enumerate_next ?_ (F.args_enumerate_next_1 _))))
    show wpAny _ _ (field (.ref e) 2 >>= _) _ _ _
    refine wpAny_bind (wpAny_field he rfl (x := .ref it) rfl ?_)
    refine wpAny_bind (wpAny_nextOf_tuple_end (show X.A.in1.handled = none from hh) hit p (by simp; omega) fun h' x he' hx' => ?_)
    obtain ⟨o, ho, hcc⟩ := hx'
    refine wpAny_bind (wpAny_isInstance (T := "StopIteration") (b := true) ⟨o, ho, hcc⟩ isSubtype_stop ?_)
    exact wpAny_pure ⟨rfl, I.turned (t' := s.toks) (fun b o hb q => he' b o hb q) f0 f1 f3 f4 f5⟩
  self := fun A i s Q E st h => let ⟨⟨_, he⟩, _⟩ := st; wpAny_pyIter_enum he h
def iEnumT (K : PySem.W.Frag) (ta : TA) : TI := fun σ H R => ta σ H fun vs H1 => ∃ a xs, vs = [.ref a] ∧ SqT K H1 a xs ∧ R (ItEt K a) H1
theorem pi_enumT {X : Cx} {e : Expr} {ta : TA} {p pos tpos : Pos} {elts : List Expr} {kk : Nat} (hg : Gl X "enumerate") (hm : X.mg "enumerate" = none) (ha : PA X [e] ta) (hs : starEach [e] X.env = [(false, eval e X.env)] := by rfl) :
    PI X (.Tuple elts kk tpos) (.Call (.Name "enumerate" p) [e] [] pos) (iEnumT X.K ta) := by
  refine ⟨fun pins s σ H R I h => ?_⟩
  refine Call_ (ld_blt I hg hm boot_enumerate (PyProof.Rows.callWith_type1 (thn (ha.run pos pins s σ H _ I h) fun us s1 ⟨vs, H1, I1, r1, q1⟩ => ?_) hs rfl))
  obtain ⟨a, xs, ex, hq, q⟩ := q1
  subst ex
  cases r1 with
  | cons r rr =>
    cases rr
    cases r
    obtain ⟨its, rv, p', hz⟩ := I1.tuple hq
    have p' : s1.heap.IsTuple a its.toArray := p'
    have hal : a < s1.heap.objs.size := by obtain ⟨_, q, _⟩ := p'; exact Heap.lt_size q
    refine mi_call_enumerate_tup p' fun h' he hit hsz hk => wpAny_pyIter_enum he ?_
    have I2 : Inv X pins σ H1 { s1 with heap := h' } := I1.kept (t' := s1.toks) hk
    refine ⟨s1.heap.objs.size + 1, [s1.heap.objs.size + 1, s1.heap.objs.size], _, _, H1, rfl, I2, turn_enumT a (s1.heap.objs.size + 1) s1.heap.objs.size (fun z => absurd (z ▸ hal : s1.heap.objs.size + 1 < s1.heap.objs.size) (by simp)) (fun z => absurd (z ▸ hal : s1.heap.objs.size < s1.heap.objs.size) (by simp)), ⟨⟨.none, he⟩, hit, Nat.succ_ne_self _⟩, fun b hb => ?_, q⟩
    have e' : b = s1.heap.objs.size + 1 ∨ b = s1.heap.objs.size := by simpa using hb
    have hle : s1.heap.objs.size ≤ b := by
      rcases e' with z | z
      · rw [z]; exact Nat.le_add_right _ _
      · rw [z]; exact Nat.le_refl _
    exact I1.fpOk hle (I1.hok.fresh hle)
end Mi
namespace Mi
open PySem PySem.Spec PyProof.Rows L2
theorem units65 {k : Nat} {A : Around} (r : Room k A) : A.units + 65 < cLine := by have := r.un; omega
/-! ### // by great divisors -/
def wDivW : F2 := fun a b st => match a, b with
  | .int i, .int j => if 0 < j ∧ j.natAbs.log2 < 9000 then .ok (.int (i / j)) st else .stuck
  | _, _ => .stuck
section
variable {K : PySem.W.Frag} {T : Nat → Addr}
end
section
variable {X : Cx} {T : Nat → Addr} {Wx : WX'} {pos : Pos}
/-! ### walks over lists and tuples -/
def iA (m : M W) : MI := fun env st => match m env st with
  | .ok (.tup _) _ => iT m env st
  | _ => iL m env st
theorem si_any {tg l : Expr} {m : M W} (h : SE X T Wx l m) : SI X T Wx tg l (iA m) := by
  intro ρ η st env σ H Q s er q
  unfold iA at q
  split at q
  · exact si_tup h ρ η st env σ H Q s er q
  · exact si_list h ρ η st env σ H Q s er q
def iET (m : M (List W)) : MI := fun env st => (m env st).bind fun ws s => match ws with
  | [.tup xs] => .ok (enumW (fixS xs)) s
  | _ => .stuck
theorem si_enumT {e : Expr} {m : M (List W)} {p pos tpos : Pos} {elts : List Expr} {kk : Nat} (hg : Gl X "enumerate") (hm : X.mg "enumerate" = none) (h : SA X T Wx [e] m) (hs : starEach [e] X.env = [(false, eval e X.env)] := by rfl) :
    SI X T Wx (.Tuple elts kk tpos) (.Call (.Name "enumerate" p) [e] [] pos) (iET m) := by
  intro ρ η st env σ H Q s er q
  refine ⟨_, pi_enumT hg hm pa_S hs, ?_⟩
  refine h ρ η st env σ H _ s er (q.bind fun ws s1 ρ1 H1 vs g1 sr1 r1 h1 => ?_)
  split at h1
  · rename_i xs
    obtain ⟨v, e1, r2⟩ := vrs1 r1
    simp only [VR] at r2
    obtain ⟨a, us, e3, e4, e5⟩ := r2
    subst e3
    refine ⟨a, us, e1, e4.sq, h1.ok sr1 ?_⟩
    intro η' k i ρ' H' st' g sr
    have q : SqT X.K H' a us := (e4.mono g).sq
    show match (enumW (fixS xs)).at_ i st' with | some (some w) => _ | some none => _ | none => _
    have e0 : (enumW (fixS xs)).at_ i st' = match xs[i]? with
      | some w => some (some (.tup [.int i, w]))
      | none => some none := by
      show (match some xs[i]? with | some (some w) => _ | some none => _ | none => _) = _
      cases xs[i]? <;> rfl
    rw [e0]
    cases e : xs[i]? with
    | none => exact ⟨us, q, by rw [e5.len]; exact List.getElem?_eq_none_iff.mp e⟩
    | some w =>
      obtain ⟨v, f1, f2⟩ := e5.get e
      refine ⟨⟨us, v, q, f1⟩, fun x H2 y => ?_⟩
      obtain ⟨TT, x', y1, y2, y3, y4⟩ := y
      subst y1; subst y3
      have := y4 us q
      rw [f1] at this
      cases this
      refine ⟨Grow.new y2, sr.new' y2, ?_⟩
      simp only [VR]
      exact ⟨TT, _, rfl, .inl ⟨sr.fresh y2, sr.freshH y2, .inl upd_same⟩, VRs.cons (by simp only [VR]) (VRs.cons ((f2.more g k).mono (Grow.new y2)) VRs.nil)⟩
  · exact h1.elim
def iEA (m : M (List W)) : MI := fun env st => match m env st with
  | .ok [.tup _] _ => iET m env st
  | _ => iE m env st
theorem si_enumA {e : Expr} {m : M (List W)} {p pos tpos : Pos} {elts : List Expr} {kk : Nat} (hg : Gl X "enumerate") (hm : X.mg "enumerate" = none) (h : SA X T Wx [e] m) (hs : starEach [e] X.env = [(false, eval e X.env)] := by rfl) :
    SI X T Wx (.Tuple elts kk tpos) (.Call (.Name "enumerate" p) [e] [] pos) (iEA m) := by
  intro ρ η st env σ H Q s er q
  unfold iEA at q
  split at q
  · exact si_enumT hg hm h hs ρ η st env σ H Q s er q
  · exact si_enum hg hm h hs ρ η st env σ H Q s er q
/-- reversed(x), x a list that stands still or a tuple -/
def iRv (m : M W) : MI := fun env st => (m env st).bind fun w s => match w with
  | .lst xs => .ok (fixS xs.reverse) s
  | .tup xs => .ok (fixS xs.reverse) s
  | _ => .stuck
/-! ### *e in a display -/
def itsW (st : Sto) (w : W) : Option (List W) := match w with
  | .tup xs => some xs
  | w => seqL st w
def mStar (ma : M W) (mr : M (List W)) : M (List W) := fun env st => (ma env st).bind fun a s1 => match itsW s1 a with
  | some xs => (mr env s1).bind fun r s2 => .ok (xs ++ r) s2
  | none => .stuck
theorem its_ok {ρ η : List Addr} {H : Hp} {st : Sto} {w : W} {v : V} {xs : List W} (s : SR X.K T ρ η st H) (h : VR X.K ρ η H w v) (e : itsW st w = some xs) : ∃ a vs, v = .ref a ∧ (SqT X.K H a vs ∨ SqL X.K H a vs) ∧ VRs X.K ρ η H xs vs := by
  unfold itsW at e
  split at e
  · rename_i ys
    cases e
    simp only [VR] at h
    obtain ⟨a, vs, h1, h2, h3⟩ := h
    exact ⟨a, vs, h1, .inl h2.sq, h3⟩
  · obtain ⟨a, vs, h1, h2, h3⟩ := seq_ok s h e
    exact ⟨a, vs, h1, .inr h2, h3⟩
theorem sa_star {e : Expr} {es : List Expr} {p : Pos} {m : M W} {k : M (List W)} (he : SE X T Wx e m) (hr : SA X T Wx es k) (hs : starEach (.Starred e p :: es) X.env = (true, eval e X.env) :: starEach es X.env := by rfl) : SA X T Wx (.Starred e p :: es) (mStar m k) := by
  intro ρ η st env σ H Q s er q
  refine ⟨_, StX.pa_star pe_S pa_S hs, ?_⟩
  refine he ρ η st env σ H _ s er (q.bind fun w s1 ρ1 H1 v g1 sr1 r1 h1 => ?_)
  split at h1
  · rename_i xs e1
    obtain ⟨a, vs, e2, e3, e4⟩ := its_ok sr1 r1 e1
    refine ⟨a, vs, e2, e3, ?_⟩
    refine hr ρ1 η s1 env σ H1 _ sr1 (er.mono g1) (h1.bind fun ws s2 ρ2 H2 us g2 sr2 r2 h2 => ?_)
    exact h2.ok sr2 ((e4.mono g2).append r2)
  · exact h1.elim
def mLstS (fz : Bool) (m : M (List W)) : M W := fun env st => (m env st).bind fun ws s1 => if ws.length ≤ sizeLine then newL fz ws s1 else .stuck
/-! ### isinstance with some types -/
/-! ### min, max of two -/
def fMin2 : FC := fun ws st => match ws with
  | [.int i, .int j] => .ok (.int (if j < i then j else i)) st
  | _ => .stuck
def fMax2 : FC := fun ws st => match ws with
  | [.int i, .int j] => .ok (.int (if j > i then j else i)) st
  | _ => .stuck
theorem okc_max2 {K : PySem.W.Frag} : OkC K T fMax2 (fun xs H Q => ∃ i j, xs = [.int i, .int j] ∧ Q (.int (if j > i then j else i)) H) := by
  intro ρ η st H ws vs Q E s r h
  unfold fMax2 at h
  split at h
  · rename_i i j
    obtain ⟨v, z, e1, r1, r2⟩ := vrs2 r
    simp only [VR] at r1 r2
    subst r1; subst r2
    exact ⟨i, j, e1, h.ok s (by simp only [VR])⟩
  · exact h.elim
end
end Mi
/-! t[::-1] at the library's level -/
namespace HT
open PySem PySem.Spec PyProof.Rows
section
variable {prog : Program} {w : World} {A : Around} {E : Value → Shared → Prop} {s : Shared}
end
end HT
namespace Mi
open PySem PySem.Spec PyProof.Rows L2
section
variable {X : Cx} {T : Nat → Addr} {Wx : WX'} {pos : Pos}
/-! ### x[::-1] -/
def wRevA (fz : Bool) (a : W) (st : Sto) : Rs W := match seqL st a with
  | some xs => newL fz xs.reverse st
  | none => match a with
    | .tup xs => .ok (.tup xs.reverse) st
    | _ => .stuck
def mRev (fz : Bool) (m : M W) : M W := fun env st => (m env st).bind fun a s1 => wRevA fz a s1
/-! ### {k: v, ..} -/
def trsOf (X : Cx) : List (Option Expr) → List Expr → List (TE × TE)
  | some k :: ks, v :: vs => (tS X k, tS X v) :: trsOf X ks vs
  | _, _ => []
def kvsV (kvs : List (Key × V)) : List (V × V) := kvs.map fun kv => (kV kv.1, kv.2)
def SDp (X : Cx) (T : Nat → Addr) (pos : Pos) (Wx : WX') (ks : List (Option Expr)) (vs : List Expr) (m : M (List (Key × W))) : Prop := PPs X pos ks vs (trsOf X ks vs) ∧
  ∀ ρ η st env σ H (Q : List (V × V) → Hp → Prop), SR X.K T ρ η st H → ER X.K ρ η H env σ → After X.K T η (fun ρ H => KVs X.K ρ η H) ρ H (m env st) (fun kvs H' => Q (kvsV kvs) H') (fun c d H' => Wx c d σ H') →
    tPairs (trsOf X ks vs) σ H Q
def mPair (mk mv : M W) (mr : M (List (Key × W))) : M (List (Key × W)) := fun env st => (mk env st).bind fun k s1 => (mv env s1).bind fun v s2 => match keyOf k with
  | some k => (mr env s2).bind fun r s3 => .ok ((k, v) :: r) s3
  | none => .stuck
def mPair0 : M (List (Key × W)) := fun _ st => .ok [] st
theorem sd_nil : SDp X T pos Wx [] [] mPair0 := ⟨pps_nil, fun ρ η st env σ H Q s er h => by
  exact h ρ H [] Grow.refl s ⟨rfl, by simpa using VRs.nil⟩⟩
theorem sd_cons {k v : Expr} {ks : List (Option Expr)} {vs : List Expr} {mk mv : M W} {mr : M (List (Key × W))} (hk : SE X T Wx k mk) (hv : SE X T Wx v mv) (hr : SDp X T pos Wx ks vs mr) : SDp X T pos Wx (some k :: ks) (v :: vs) (mPair mk mv mr) := by
  refine ⟨pps_cons pe_S pe_S hr.1, fun ρ η st env σ H Q s er h => ?_⟩
  show tS X k σ H fun x H1 => tS X v σ H1 fun y H2 => tPairs (trsOf X ks vs) σ H2 fun ps H3 => Q ((x, y) :: ps) H3
  refine hk ρ η st env σ H _ s er (h.bind fun w s1 ρ1 H1 u g1 sr1 r1 h1 => ?_)
  refine hv ρ1 η s1 env σ H1 _ sr1 (er.mono g1) (h1.bind fun w2 s2 ρ2 H2 u2 g2 sr2 r2 h2 => ?_)
  split at h2
  · rename_i kk e
    have ek := key_ok (r1.mono g2) e
    subst ek
    exact hr.2 ρ2 η s2 env σ H2 _ sr2 ((er.mono g1).mono g2) (h2.bind fun r s3 ρ3 H3 kvs g3 sr3 r3 h3 => h3.ok sr3 (KVs.mk' (r2.mono g3) r3))
  · exact h2.elim
def mDisp (m : M (List (Key × W))) : M W := fun env st => match m env st with
  | .ok kvs s1 => if kvs.length ≤ 15 then newD (mergeKW [] kvs) s1 else .stuck
  | _ => .stuck
theorem se_disp {ks : List (Option Expr)} {vs : List Expr} {m : M (List (Key × W))} (h : SDp X T pos Wx ks vs m) (hall : ks.all (·.isSome) = true := by rfl) (hl : ks.length = vs.length := by rfl) (h0 : ks ≠ [] := by simp) (h15 : ks.length ≤ 15 := by decide) : SE X T Wx (.Dict ks vs pos) (mDisp m) := by
  intro ρ η st env σ H Q s er q
  refine ⟨_, pe_disp h.1 hall hl h0 h15, ?_⟩
  intro p hp
  have D1 : Hid η H (p :: η) := hid_new hp
  have g0 : Grow ρ H ρ (upd H p (.dK [])) := Grow.new hp
  refine h.2 ρ (p :: η) st env σ (upd H p (.dK [])) _ (s.hide hp) (er.more g0 D1) ?_
  unfold mDisp at q
  cases e : m env st with
  | ok kvs s1 =>
    rw [e] at q
    simp only at q
    split at q
    · rename_i hlen
      intro ρ' H' kv g sr r
      have hp' : H' p = some (.dK []) := g.same p _ (s.fresh hp) upd_same
      refine ⟨hp', kv, rfl, by rw [r.len]; exact hlen, ?_⟩
      have gA : Grow ρ H ρ' H' := g0.trans g
      have rm : KVs X.K ρ' (p :: η) H' (mergeKW [] kvs) (mergeK [] kv) := r.merge ⟨rfl, VRs.nil⟩
      have nD : p ∉ η := s.freshH hp
      have sr' : SR X.K T ρ' (p :: η) s1 (upd H' p (.dK (mergeK [] kv))) := sr.hid' List.mem_cons_self
      have rm' : KVs X.K ρ' (p :: η) (upd H' p (.dK (mergeK [] kv))) (mergeKW [] kvs) (mergeK [] kv) := rm.hid List.mem_cons_self
      refine q (ρ' ++ [p]) _ _ ((gA.hid hp).shift hp) (sr'.shift nD ⟨_, upd_same, rm'.1, rm'.2.shift⟩) ?_
      simp only [VR]
      exact ⟨p, by rw [← sr'.len, List.getElem?_append_right (Nat.le_refl _)]; simp, rfl⟩
    · exact q.elim
  | ex x s' => rw [e] at q; exact q.elim
  | stuck => rw [e] at q; exact q.elim
end
end Mi
/-! The mirror: try .. except X as e, isinstance(e, C) in its suite. -/
namespace Mi
open PySem PySem.Spec PyProof.Rows L2
end Mi
/-! a dict beside a whole number -/
namespace PySem.SeqAt
open AutoSeq1 (wpAny_loadPart')
end PySem.SeqAt
namespace Mi
open PySem PySem.Spec PyProof.Rows L2
end Mi
/-! dict.pop(k), list.remove of whole numbers, list(range(n)) -/
namespace Mi
open PySem PySem.Spec PyProof.Rows L2
section
variable {K : PySem.W.Frag} {T : Nat → Addr} {ρ η : List Addr} {H : Hp} {st : Sto}
end
section
variable {X : Cx} {T : Nat → Addr} {Wx : WX'} {pos apos : Pos}
end
end Mi
set_option maxHeartbeats 6400000
/-! set(a list of whole numbers) -/
namespace Mi
open PySem PySem.Spec PyProof.Rows L2
/-- the set is made, the other objects stay -/
structure MadeSet (w : World) (h : Heap) (ns : List Int) (h' : Heap) : Prop where
  set : ∃ c, c ≤ ns.length ∧ SetR w h' h.objs.size (fun j => decide (j ∈ ns)) c
  old : ∀ b o, h.get? b = some o → h'.get? b = some o
section
variable {P : Program} {w : World} {A : Around} {E : Value → Shared → Prop} {s : Shared} {l : Addr} {items : Array Value} {ns : List Int}
end
/-- the members, ascending, each once -/
def uniqZ : List Int → List Int
  | [] => []
  | a :: r => if a ∈ r then uniqZ r else a :: uniqZ r
theorem uniqZ_mem {k : Int} : ∀ {ns : List Int}, k ∈ uniqZ ns ↔ k ∈ ns
  | [] => Iff.rfl
  | a :: r => by
    have ih := uniqZ_mem (k := k) (ns := r)
    unfold uniqZ
    split
    · rename_i h
      rw [ih, List.mem_cons]
      exact ⟨.inr, fun z => z.elim (fun e => e ▸ h) id⟩
    · rw [List.mem_cons, List.mem_cons, ih]
theorem uniqZ_nodup : ∀ {ns : List Int}, (uniqZ ns).Nodup
  | [] => .nil
  | a :: r => by
    have ih := uniqZ_nodup (ns := r)
    unfold uniqZ
    split
    · exact ih
    · rename_i h
      exact List.nodup_cons.mpr ⟨fun z => h (uniqZ_mem.mp z), ih⟩
def rSetL (K : PySem.W.Frag) (w : World) : List V → Hp → VK → Prop := fun xs H Q => ∃ (a : Addr) (ns : List Int), xs = [V.ref a] ∧ SqL K H a (ns.map V.int) ∧ ns.length < 64 ∧ ∀ p c, c ≤ ns.length → H p = none → Q (.ref p) (upd H p (SetO w p (fun j => decide (j ∈ ns)) c))
section
variable {X : Cx} {T : Nat → Addr} {Wx : WX'}
end
end Mi
/-! The mirror: a lambda without parameters, handed to a def that calls it. -/
namespace Mi
open PySem PySem.Spec PyProof.Rows L2 LamX
def tbOf (T : Nat → Addr) : Nd → Option (Addr × Str)
  | .tb j q => some (T (1000 + j), q)
  | _ => none
theorem nt_of {o : HO} (h : plO o = true) : nt o = true := by cases o <;> first | rfl | cases h
section
variable {K : PySem.W.Frag} {T : Nat → Addr} {ρ η ρ' η' : List Addr} {H H1 H' : Hp} {st : Sto}
/-- more stands, and tables have more -/
theorem SR.ext (s : SR K T ρ η st H) (x : ExtN H H1) (t : Tabs (st.filterMap (tbOf T)) H1) : Grow ρ H ρ H1 ∧ SR K T ρ η st H1 := by
  have keep : ∀ a o, H a = some o → nt o = true → H1 a = some o := fun a o e n => x a o e (fun ps z => by rw [z] at n; cases n)
  have g : Grow ρ H ρ H1 := ⟨⟨[], by simp, by simp⟩, fun a o _ e n => keep a o e n, fun a o e n => ⟨o, keep a o e n, n⟩, fun a o u e => keep a _ e rfl⟩
  have noR : ∀ a ∈ ρ, ∀ f, H1 a ≠ some (.ext f) := by
    intro a ha f z
    obtain ⟨i, hi⟩ := List.getElem?_of_mem ha
    have hi' : i < st.length := by rw [← s.len]; exact (List.getElem?_eq_some_iff.mp hi).1
    have k := s.at_ i _ a (List.getElem?_eq_getElem hi') hi
    cases e : st[i] with
    | lst xs => rw [e] at k; obtain ⟨vs, y, _⟩ := k; rw [keep a _ y rfl] at z; cases z
    | dk xs => rw [e] at k; obtain ⟨vs, y, _⟩ := k; rw [keep a _ y rfl] at z; cases z
    | lk xs => rw [e] at k; obtain ⟨od, vs, y, _⟩ := k; rw [keep a _ y rfl] at z; cases z
    | ins c xs => rw [e] at k; obtain ⟨dx, vs, y, _⟩ := k; rw [keep a _ y rfl] at z; cases z
    | tb j q =>
      rw [e] at k
      obtain ⟨e0, _⟩ := k
      obtain ⟨ps, m1, _⟩ := t (T (1000 + j), q) (List.mem_filterMap.mpr ⟨_, List.getElem_mem hi', by rw [e]; rfl⟩)
      rw [e0, m1] at z
      cases z
  refine ⟨g, s.nd, s.len, s.hid, fun a ha => ?_, fun i nd a e q => ?_⟩
  · obtain ⟨o, e, p⟩ := s.has a ha
    exact ⟨o, keep a o e (nt_of p), p⟩
  · have k := s.at_ i nd a e q
    cases nd with
    | lst xs => obtain ⟨vs, y, _⟩ := id k; exact NR.mono g ((keep a _ y rfl).trans y.symm) k
    | dk xs => obtain ⟨vs, y, _⟩ := id k; exact NR.mono g ((keep a _ y rfl).trans y.symm) k
    | lk xs => obtain ⟨od, vs, y, _⟩ := id k; exact NR.mono g ((keep a _ y rfl).trans y.symm) k
    | ins c xs => obtain ⟨dx, vs, y, _⟩ := id k; exact NR.mono g ((keep a _ y rfl).trans y.symm) k
    | tb j w =>
      obtain ⟨e0, _⟩ := k
      obtain ⟨ps, m1, m2, m3⟩ := t (T (1000 + j), w) (List.mem_filterMap.mpr ⟨_, List.mem_of_getElem? e, rfl⟩)
      refine ⟨e0, ps, by rw [e0]; exact m1, m2, fun pos cv z => ?_⟩
      obtain ⟨c, c1, c2⟩ := m3 pos cv z
      refine ⟨c, c1, fun hc => noR c hc _ c2, fun hc => ?_, c2⟩
      obtain ⟨o, e1, p⟩ := s.has c hc
      have z := keep c o e1 (nt_of p)
      have c3 : H1 c = some (CodeO c w) := c2
      rw [c3] at z
      cases z
      cases p
end
/-! ### what a call of the parameter does -/
def calmR (r : Rs W) : Rs W := match r with
  | .ex _ _ => .stuck
  | r => r
theorem After.calm {K : PySem.W.Frag} {T : Nat → Addr} {η ρ : List Addr} {H : Hp} {R : List Addr → Hp → W → V → Prop} {r : Rs W} {Q : VK} {E E' : Value → Option Addr → Hp → Prop} (h : After K T η R ρ H (calmR r) Q E) : After K T η R ρ H r Q E' := by
  cases r with
  | ok w s => exact h
  | ex x s => exact h.elim
  | stuck => exact h.elim
section
variable {X : Cx} {T : Nat → Addr} {Wx : WX'}
end
/-! ### a def in which a lambda stands -/
section
variable {P : Program} {w : World} {K : PySem.W.Frag} {mg : Str → Option Value} {base : Heap} {T : Nat → Addr} {k : Nat}
end
end Mi
/-! list.count and list.index of flags -/
namespace Mi
open PySem PySem.Spec PyProof.Rows L2
section
variable {K : PySem.W.Frag} {T : Nat → Addr}
end
end Mi
/-! == of instances of own classes that tell no ==, and of dicts of unlike lengths -/
namespace Mi
open PySem PySem.Spec PyProof.Rows L2
/-! the mirror -/
section
variable {X : Cx} {T : Nat → Addr}
end
end Mi
/-! The mirror: try with several clauses `except X as e`. -/
namespace Mi
open PySem PySem.Spec PyProof.Rows L2
inductive HdsA (X : Cx) : List ExceptHandler → List (Value × Nat × (Addr → Value → Option Addr → TS)) → Prop where
  | nil : HdsA X [] []
  | cons {x nm : Str} {c : Value} {i : Nat} {ts : Addr → Value → Option Addr → TS} {b₀ : Stmt} {suite : List Stmt} {np pos' : Pos} {hds : List ExceptHandler} {l : List (Value × Nat × (Addr → Value → Option Addr → TS))}
    (hi : X.N[i]? = some nm) (hln : X.env.kindOf nm = some .local) (hc : Names X x c)
    (hsu : ∀ (a : Addr) (oe : Obj) (cls : Value) (d : Option Addr) (pn : List (Addr × Obj)), Zc cls d oe → (∃ vs, oe.data = .fields vs) → PSs (X.suite a ((a, oe) :: pn)) (b₀ :: suite) (ts a cls d))
    (r : HdsA X hds l) : HdsA X (.ExceptHandler (some (.Name x np)) (some nm) (b₀ :: suite) pos' :: hds) ((c, i, ts) :: l)
end Mi
namespace Mi
open PySem PySem.Spec PyProof.Rows L2
/-- a clause: which classes it takes, the name's place, its suite -/
abbrev Cls1 := List (Nat × Bool) × Nat × (Nat → Addr → MS)
inductive HdsM (X : Cx) (T : Nat → Addr) : List ExceptHandler → List Cls1 → Prop where
  | nil : HdsM X T [] []
  | cons {x nm : Str} {cv : Value} {i : Nat} {b₀ : Stmt} {suite : List Stmt} {np pos' : Pos} {tb : List (Nat × Bool)} {k : Nat → Addr → MS} {hds : List ExceptHandler} {cs : List Cls1}
    (hi : X.N[i]? = some nm) (hln : X.env.kindOf nm = some .local) (hc : Names X x cv) (ht : ∀ p ∈ tb, PySem.W.exmOne X.K (.ref (T p.1)) cv = some p.2)
    (hsu : ∀ (n : Nat) (a : Addr) (oe : Obj) (pn : List (Addr × Obj)), (∃ b, (n, b) ∈ tb) → Zc (.ref (T n)) none oe → (∃ vs, oe.data = .fields vs) → SSs (X.suite a ((a, oe) :: pn)) T W0 (b₀ :: suite) (k n a))
    (r : HdsM X T hds cs) : HdsM X T (.ExceptHandler (some (.Name x np)) (some nm) (b₀ :: suite) pos' :: hds) ((tb, i, k) :: cs)
section
variable {X : Cx} {T : Nat → Addr} {Wx : WX'}
end
end Mi
/-! a tuple many times over -/
namespace Mi
open PySem PySem.Spec PyProof.Rows L2
section
variable {K : PySem.W.Frag} {T : Nat → Addr} {ρ η : List Addr} {H : Hp}
end
end Mi
/-! zip of two tuples -/
namespace Mi
open PySem PySem.Spec PyProof.Rows L2
section
variable {X : Cx} {T : Nat → Addr} {Wx : WX'}
end
end Mi
/-! range with a step; xs.extend(ys); isinstance(x, C), C an own class -/
namespace Mi
open PySem PySem.Spec PyProof.Rows L2
def mIsC (tb : List (Nat × Bool)) (m : M W) : M W := fun env st => (m env st).bind fun w s => match w with
  | .ref i => match s[i]? with
    | some (.ins c _) => match tb.lookup c with
      | some b => .ok (.bl b) s
      | none => .stuck
    | _ => .stuck
  | _ => .stuck
section
variable {X : Cx} {T : Nat → Addr} {Wx : WX'}
theorem se_isC {e : Expr} {m : M W} {tb : List (Nat × Bool)} {x : Str} {C : Addr} {p p2 pos : Pos} (hE : ∀ q ∈ tb, IsiOwn X.K (T q.1) ∧ PySem.W.kitOne X.K (.ref (T q.1)) (.ref C) = some q.2)
    (hg : Gl X "isinstance") (hm : X.mg "isinstance" = none) (hgC : Gl X x) (hmC : X.mg x = some (.ref C)) (h : SE X T Wx e m)
    (hdx : (x == ("__debug__" : Str)) = false := by decide)
    (s1 : starEach [e, .Name x p2] X.env = (false, eval e X.env) :: starEach [.Name x p2] X.env := by rfl)
    (s2 : starEach [.Name x p2] X.env = (false, eval (.Name x p2) X.env) :: starEach [] X.env := by rfl)
    (hpl : (backTo pos (starEach [.Name x p2] X.env)).any (·.1) = false := by rfl) :
    SE X T Wx (.Call (.Name "isinstance" p) [e, .Name x p2] [] pos) (mIsC tb m) := by
  intro ρ η st env σ H Q s er q
  refine ⟨_, pe_callB call_isi hg hm (by decide +kernel) (pa_cons pe_S (pa_cons (pe_glob (v := .ref C) hgC hmC rfl hdx) pa_nil s2) s1) (by decide) (by decide) s1 hpl, ?_⟩
  refine h ρ η st env σ H _ s er (q.bind fun w s1 ρ1 H1 v g1 sr1 r1 h1 => ?_)
  split at h1
  · rename_i i
    split at h1
    · rename_i c fs q2
      cases el : tb.lookup c with
      | none => rw [el] at h1; exact h1.elim
      | some b =>
        rw [el] at h1
        obtain ⟨o1, o2⟩ := hE _ (lookup_mem el)
        obtain ⟨a, e1, _, dx, fv, e2, _⟩ := node_at sr1 r1 q2
        subst e1
        exact ⟨_, .ref C, .ref (T c), .ref C, b, rfl, .own C, .base (.ins e2 o1.cl o1.ha o1.hn o1.htk o1.hm), o2, h1.ok sr1 (by simp only [VR])⟩
    · exact h1.elim
  · exact h1.elim
end
end Mi
/-! a part of a text -/
namespace Mi
open PySem PySem.Spec PyProof.Rows L2
section
variable {X : Cx} {T : Nat → Addr} {Wx : WX'} {pos : Pos}
end
end Mi
/-! equality of plain data (no flags) -/
namespace Mi
open PySem L2
/-- data without flags, at most so deep -/
def plW : Nat → W → Prop
  | _, .int _ => True
  | _, .non => True
  | _, .str x => (PyData.str x).canLay0 = true
  | 0, _ => False
  | n + 1, .tup xs => ∀ x ∈ xs, plW n x
  | n + 1, .lst xs => ∀ x ∈ xs, plW n x
  | _, _ => False
inductive PlC : Nat → W → Prop
  | int (n : Nat) (i : Int) : PlC n (.int i)
  | non (n : Nat) : PlC n .non
  | str (n : Nat) (x : Str) : PlC n (.str x)
  | tup (n : Nat) (xs : List W) (h : ∀ x ∈ xs, plW n x) : PlC (n + 1) (.tup xs)
  | lst (n : Nat) (xs : List W) (h : ∀ x ∈ xs, plW n x) : PlC (n + 1) (.lst xs)
end Mi
/-! The mirror: try with several clauses `except X`, no names. -/
namespace Mi
open PySem PySem.Spec PyProof.Rows L2
abbrev Cls0 := List (Nat × Bool) × MS
inductive HdsN (X : Cx) (T : Nat → Addr) : List ExceptHandler → List Cls0 → Prop where
  | nil : HdsN X T [] []
  | cons {x : Str} {cv : Value} {b₀ : Stmt} {suite : List Stmt} {np pos' : Pos} {tb : List (Nat × Bool)} {k : MS} {hds : List ExceptHandler} {cs : List Cls0}
    (hc : Names X x cv) (ht : ∀ p ∈ tb, PySem.W.exmOne X.K (.ref (T p.1)) cv = some p.2)
    (hsu : ∀ (a : Addr) (pn : List (Addr × Obj)), SSs (X.suite a pn) T W0 (b₀ :: suite) k)
    (r : HdsN X T hds cs) : HdsN X T (.ExceptHandler (some (.Name x np)) none (b₀ :: suite) pos' :: hds) ((tb, k) :: cs)
section
variable {X : Cx} {T : Nat → Addr} {Wx : WX'}
end
end Mi
/-! a tuple not at all, or thousands of times over -/
namespace Mi
open PySem PySem.Spec PyProof.Rows L2
section
variable {X : Cx}
end
section
variable {K : PySem.W.Frag} {T : Nat → Addr} {ρ η : List Addr} {H : Hp}
end
end Mi
/-! The mirror: a tuple display with a starred part. -/
namespace Mi
open PySem PySem.Spec PyProof.Rows L2
section
variable {X : Cx} {T : Nat → Addr} {Wx : WX'} {pos : Pos}
def mTupS (m : M (List W)) : M W := fun env st => (m env st).bind fun ws s1 => if ws.length ≤ sizeLine then .ok (.tup ws) s1 else .stuck
theorem se_tupS {es : List Expr} {k : M (List W)} {x1} (h : SA X T Wx es k) : SE X T Wx (.Tuple es x1 pos) (mTupS k) := by
  intro ρ η st env σ H Q s er q
  refine ⟨_, pe_tup pa_S, ?_⟩
  refine h ρ η st env σ H _ s er (q.bind fun ws s1 ρ1 H1 vs g1 sr1 r1 h1 => ?_)
  split at h1
  · rename_i hl
    exact ⟨by rw [r1.len]; exact hl, fun p hp => newT_ok h1 sr1 r1 hp⟩
  · exact h1.elim
end
/-! ### in a tuple of things of any depth -/
/-! ### a text many times over -/
instance {x : Str} {n : Int} : Decidable (MulOk x n) := by unfold MulOk; exact inferInstance
end Mi
/-! The mirror: tuple(range(a, b)). -/
namespace Mi
open PySem PySem.Spec PyProof.Rows L2
section
variable {X : Cx} {T : Nat → Addr} {Wx : WX'} {pos : Pos} {K : PySem.W.Frag} {ρ η : List Addr} {H : Hp}
end
end Mi
/-! The mirror: list(d.items()). -/
namespace Mi
open PySem PySem.Spec PyProof.Rows L2 LiI
section
variable {X : Cx} {T : Nat → Addr} {Wx : WX'} {pos : Pos} {K : PySem.W.Frag} {ρ η : List Addr} {H : Hp}
end
end Mi
/-! The mirror: d.update(e), both dicts with plain keys. -/
namespace Mi
open PySem PySem.Spec PyProof.Rows L2
section
variable {X : Cx} {pins : List (Addr × Obj)} {σ : L2.St} {H : Hp} {s : Shared} {a b : Addr} {kvs more : List (Key × V)} {A : Around} {E : Value → Shared → Prop}
end
section
variable {X : Cx} {T : Nat → Addr} {Wx : WX'} {pos apos cpos : Pos} {o e : Expr} {td ty : TE}
end
end Mi
/-! The mirror: a tuple of the module. -/
namespace Mi
open PySem PySem.Spec PyProof.Rows L2
section
variable {X : Cx} {T : Nat → Addr} {Wx : WX'} {pos : Pos}
end
end Mi
/-! The mirror: an exception with one field: raise C(e), except C as x, x.f. -/
namespace Mi
open PySem PySem.Spec PyProof.Rows L2
/-- what C's own __init__(self, f) keeps, which says self.f = f alone -/
def spXi (K : PySem.W.Frag) (f : Str) : Sp := fun vs H Q _ => ∃ (a C : Addr) (v : V), vs = [.ref a, v] ∧ OexC K C ∧ PySem.W.findIn K (.ref C) f = some none ∧ H a = some (exo a C none) ∧
  ∀ d, H d = none → d ≠ a → Q .non (upd (upd H d (exd d [(f, v)])) a (exo a C (some d)))
theorem xinit_ok {P : Program} {w : World} {K : PySem.W.Frag} {mg : Str → Option Value} {base : Heap} {f qual : Str} {st : Stmt} {fI : Addr} {fd : FuncData} {p1 p2 p3 p4 : Pos} (F : L2.Fun K "__init__" qual st fI fd) (S : FnScope ["self", f] ["self", f] (defScope st))
    (hbd : defBody st = [.Assign [.Attribute (.Name "self" p1) f p2] (.Name f p3) p4]) (hv0 : Vis (defScope st) "self") (hv1 : Vis (defScope st) f) (h1 : (f == ("__debug__" : Str)) = false) (h2 : (f == ("__classdict__" : Str)) = false) :
    FnOk P w K mg base L2.CX0 1 fI fd ["self", f] (spXi K f) := by
  refine L2.Fun.ok F S (fun vs H Q E h => ?_) (fun cdv A outer s H vs Q E hr h => ?_)
  · obtain ⟨a, C, v, rfl, _⟩ := h
    rfl
  · rw [hbd]
    refine ⟨_, PSs.nox (pss_one (ps_ost (pv 0 (x := "self") rfl hv0) (pv 1 (x := f) rfl hv1 h1 h2))), ?_⟩
    obtain ⟨a, C, v, rfl, hC, hno, e, hq⟩ := h
    exact ⟨_, rfl, _, rfl, a, C, rfl, hC, hno, .inl ⟨e, fun dx n ne => hq dx n ne⟩⟩
def sRaise1 (c : Nat) (f : Str) (ma : M (List W)) : MS := fun env st => (ma env st).to env fun ws s1 => match ws with
  | [w] => .ex (.one c f w) env s1
  | _ => .stuck
section
variable {X : Cx} {T : Nat → Addr} {Wx : WX'} {pos : Pos}
theorem ss_raise1 {c k : Nat} {x f : Str} {e : Expr} {ma : M (List W)} {fI : Addr} {fd : FuncData} {p p2 : Pos} (hc : X.calm = true) (tk : Takes X Wx) (TO : OexC X.K (T c)) (hno : PySem.W.findIn X.K (.ref (T c)) f = some none)
    (iC : PySem.W.findIn X.K (.ref (T c)) "__init__" = some (some (.ref fI))) (tI : PySem.W.typeIn X.K (.ref fI) = some (.type "function")) (F1 : FnOk X.prog X.w X.K X.mg X.base L2.CX0 k fI fd ["self", f] (spXi X.K f)) (hr : Room (k + 1) X.A)
    (hb : Binds X.K fd ["self", f] []) (hg : Gl X x) (hm : X.mg x = some (.ref (T c))) (ha : SAn X T Wx 1 [e] ma)
    (hdb : (x == ("__debug__" : Str)) = false := by decide) (hst : starEach [e] X.env = (false, eval e X.env) :: starEach [] X.env := by rfl) (hpl : (backTo p2 (starEach [] X.env)).any (·.1) = false := by rfl) :
    SSt X T Wx (.Raise (some (.Call (.Name x p) [e] [] p2)) none pos) (sRaise1 c f ma) := by
  intro ρ η st env σ H D s er h
  refine ⟨_, ps_raise hc tk (pmk_oex TO iC tI F1 hr hb .nil (fun _ _ _ _ _ _ _ z => z.elim) hg hm pa_S hdb hst hpl), ?_⟩
  refine ha.run ρ η st env σ H _ s er (SAfter.bind h er fun ws st1 ρ1 H1 vs _ g s1 r h1 => ?_)
  have er1 := er.mono g
  rcases ws with _ | ⟨w, _ | ⟨w2, ws⟩⟩
  · exact h1.elim
  · obtain ⟨v, rfl, rv⟩ : ∃ v, vs = [v] ∧ VR X.K ρ1 η H1 w v := by
      simp only [VRs] at r
      obtain ⟨v, r', e1, e2, e3⟩ := r
      subst e3
      exact ⟨v, e1, e2⟩
    refine ⟨by simp, fun a ha0 => ⟨a, T c, v, rfl, TO, hno, upd_same, fun d hd ne => ⟨rfl, d, [(f, v)], upd_same, ?_, ?_, ?_⟩⟩⟩
    · rw [upd_ne ne, upd_same]
    · rw [← hd, upd_ne ne]
    · have hd1 : H1 d = none := by rw [← hd, upd_ne ne]
      have eH : upd (del (upd (upd (upd H1 a (exo a (T c) none)) d (exd d [(f, v)])) a (exo a (T c) (some d))) a) d (.xd [(f, v)]) = upd H1 d (.xd [(f, v)]) := by
        funext b
        by_cases b1 : b = d
        · subst b1
          rw [upd_same, upd_same]
        · rw [upd_ne b1, upd_ne b1]
          by_cases b2 : b = a
          · subst b2
            rw [del_same, ha0]
          · rw [del_ne b2, upd_ne b2, upd_ne b1, upd_ne b2]
      rw [eH]
      have np : ∀ (i : Nat) (b : Addr), ρ1[i]? = some b → b ≠ d := fun i b q z => by
        obtain ⟨o, ho⟩ := s1.there q
        rw [z, hd1] at ho
        cases ho
      have dr : d ∉ ρ1 := fun z => by
        obtain ⟨i, hi⟩ := List.getElem?_of_mem z
        exact np i d hi rfl
      have dh : d ∉ η := fun z => by
        obtain ⟨o, ho, _⟩ := s1.has d z
        rw [hd1] at ho
        cases ho
      have gn : Grow ρ1 H1 ρ1 (upd H1 d (.xd [(f, v)])) := Grow.new hd1
      exact h1 ρ1 _ σ _ _ gn (s1.new hd1 np) (er1.mono gn) ⟨rfl, d, rfl, dr, dh, _, v, upd_same, by simp, rv.mono gn⟩
  · exact h1.elim
end
/-! ### try: .. except X as e, with such exceptions -/
end Mi
/-! The mirror: a def of the module handed to a def, which calls it. -/
namespace Mi
open PySem PySem.Spec PyProof.Rows L2
/-- a call of what the i-th name holds, the def at g -/
def mCallV (i : Nat) (g : Addr) (run : RunM) (m : M (List W)) : M W := fun env st => match env[i]? with
  | some (some (.at_ b)) => if b = g then (m env st).bind run else .stuck
  | _ => .stuck
section
variable {X : Cx} {T : Nat → Addr} {Wx : WX'} {pos p pJ : Pos} {k i : Nat} {f g : Addr} {fd : FuncData} {ps : List Str} {run : RunM} {x J : Str} {e : Expr} {es : List Expr} {ma : M (List W)}
theorem se_callV (F : FnM X.prog X.w X.K X.mg X.base T k g fd ps run) (hr : Room k X.A) (tk : Takes X Wx) (hN : X.N[i]? = some x) (hv : Vis X.env.scope x) (hk : PySem.W.keepIn X.K (.ref g) = true) (hb : Binds X.K fd ps [])
    (ha : SAn X T Wx ps.length (e :: es) ma) (hdb : (x == ("__debug__" : Str)) = false := by decide) (hcd : (x == ("__classdict__" : Str)) = false := by decide) (he : starEach (e :: es) X.env = (false, eval e X.env) :: starEach es X.env := by rfl) (hpl : (backTo pos (starEach es X.env)).any (·.1) = false := by rfl) :
    SE X T Wx (.Call (.Name x p) (e :: es) [] pos) (mCallV i g run ma) := by
  intro ρ η st env σ H Q s er q
  unfold mCallV at q
  split at q
  · rename_i b e0
    split at q
    · rename_i eb
      subst eb
      obtain ⟨v, e1, r1⟩ := er.2 i _ e0
      simp only [VR] at r1
      subst r1
      refine ⟨fun σ' H' Q' => σ'[i]? = some (some (.ref b)) ∧ tSA X (e :: es) σ' H' (fun vs H1 => spM X.K T ps.length run vs H1 Q' (WE Wx σ')), ⟨fun pins s' σ' H' Q' I h => ?_⟩, e1, ?_⟩
      · obtain ⟨hs, ht⟩ := h
        refine wpAny_Call_Name_kw (thn ((pe_var (pos := p) hN hv hdb hcd).run pins s' σ' H' (fun v H1 => v = .ref b ∧ H1 = H') I ⟨.ref b, hs, rfl, rfl⟩) fun u s1 ⟨v, H1, I1, r1, q1⟩ => ?_)
        obtain ⟨rfl, rfl⟩ := q1
        cases r1
        refine PySem.W.callWith_K (h₀ := X.base) I.ok.mod.kin hk (thn (pa_S.run pos pins s1 σ' _ _ I1 ht) fun us s2 ⟨vs, H2, I2, r, q⟩ => ⟨I2.kIn, ?_⟩) he hpl
        exact run_fnS F hr hb (passAt tk σ') I2 r q
      · refine ha.run ρ η st env σ H _ s er (After.bindE q fun ws s1 ρ1 H1 vs e1 g1 sr1 r1 h1 => ?_)
        exact sp_of sr1 r1 (ha.len env st ws s1 e1) h1
    · exact q.elim
  · exact q.elim
/-- f(g, e), g a def of the module: r is what the call does, wherever g stands -/
theorem se_callF {r : RunM} {m : M W} (F : FnM X.prog X.w X.K X.mg X.base T k f fd ps run) (hr : Room k X.A) (tk : Takes X Wx) (hg : Gl X x) (hm : X.mg x = some (.ref f)) (hk : PySem.W.keepIn X.K (.ref f) = true) (hb : Binds X.K fd ps [])
    (hgJ : Gl X J) (hmJ : X.mg J = some (.ref g)) (par : ∀ w st, run [.at_ g, w] st = r [w] st) (he : SE X T Wx e m) (hps : ps.length = 2) (hdJ : (J == ("__debug__" : Str)) = false := by decide)
    (hdb : (x == ("__debug__" : Str)) = false := by decide) (h1 : starEach [e] X.env = (false, eval e X.env) :: starEach [] X.env := by rfl) (h2 : starEach [.Name J pJ, e] X.env = (false, eval (.Name J pJ) X.env) :: starEach [e] X.env := by rfl) (hpl : (backTo pos (starEach [e] X.env)).any (·.1) = false := by rfl) :
    SE X T Wx (.Call (.Name x p) [.Name J pJ, e] [] pos) (mCall r (mCons m mNil)) := by
  have h := se_call (pos := pos) (p := p) F hr tk hg hm hk hb (by rw [hps]; exact san_cons (se_c (pe_glob (pos := pJ) (v := .ref g) hgJ hmJ rfl hdJ) (fun _ _ _ => by simp only [VR]) : SE X T Wx (.Name J pJ) (mC (.at_ g))) (san_cons he san_nil h1) h2) hdb h2 hpl
  have e : mCall run (mCons (mC (.at_ g)) (mCons m mNil)) = mCall r (mCons m mNil) := by
    funext env st
    simp only [mCall, mCons, mC, mNil, Rs.bind]
    cases m env st with
    | ok w s1 => exact par w s1
    | ex y s1 => rfl
    | stuck => rfl
  rw [← e]
  exact h
end
theorem callV_at {i : Nat} {g : Addr} {r : RunM} {m : M (List W)} {env : Ev} {st : Sto} (h : env[i]? = some (some (.at_ g))) : mCallV i g r m env st = (m env st).bind r := by
  unfold mCallV
  rw [h]
  exact if_pos rfl
theorem compS_V {s : Src} {r : RunM} {w : W} {g : Addr} : ∀ (n i : Nat) (acc : List W) (st : Sto), compS s (.one 2) mYes (mCallV 0 g r (mCons (mVar 2) mNil)) [some (.at_ g), some w, none] n i acc st = compS s (.one 2) mYes (mCallV 0 0 r (mCons (mVar 2) mNil)) [some (.at_ 0), some w, none] n i acc st
  | 0, _, _, _ => rfl
  | n + 1, i, acc, st => by
    have ih := fun j a t => compS_V (s := s) (r := r) (w := w) (g := g) n j a t
    unfold compS
    cases s.at_ i st with
    | none => rfl
    | some o =>
      cases o with
      | none => rfl
      | some u =>
        have e1 : mCallV 0 g r (mCons (mVar 2) mNil) [some (.at_ g), some w, some u] st = r [u] st := callV_at rfl
        have e2 : mCallV 0 0 r (mCons (mVar 2) mNil) [some (.at_ 0), some w, some u] st = r [u] st := callV_at rfl
        simp only [mYes, CT.put, List.set_cons_succ, List.set_cons_zero, e1, e2, ih]
end Mi
/-! The mirror: what the written part must say of an exception class with one field. -/
namespace Mi
open PySem PySem.Spec PyProof.Rows L2
def oexSl (sl : List (Option Value)) : Bool := match sl with
  | [_, _, _, _, some (.builtin n), _] => n == "ValueError.__new__"
  | _ => false
def oexMro (C : Addr) (mro : List Value) : Bool := match mro with
  | .ref D :: bm => D == C && PySem.HandSPX.refsVE bm
  | _ => false
def oexB (K : PySem.W.Frag) (C : Addr) : Bool := match K.lookup C with
  | some ⟨.type t, _, .cls cd, sl⟩ => t == "type" && (oexMro C cd.mro && (oexSl sl.toList && (cd.hasDict && !cd.hasDel)))
  | _ => false
theorem oexSl_of {l : List (Option Value)} (h : oexSl l = true) : ∃ k0 k1 k2 k3 k5, l = [k0, k1, k2, k3, some (.builtin "ValueError.__new__"), k5] := by
  unfold oexSl at h
  split at h
  · rename_i k0 k1 k2 k3 n k5
    rw [beq_iff_eq] at h
    subst h
    exact ⟨_, _, _, _, _, rfl⟩
  · cases h
theorem oexMro_of {C : Addr} {l : List Value} (h : oexMro C l = true) : ∃ bm, l = .ref C :: bm ∧ PySem.HandSPX.refsVE bm = true := by
  unfold oexMro at h
  split at h
  · rename_i D bm
    rw [Bool.and_eq_true, beq_iff_eq] at h
    obtain ⟨rfl, h2⟩ := h
    exact ⟨bm, rfl, h2⟩
  · cases h
theorem oexC_by {K : PySem.W.Frag} {C : Addr} (h : oexB K C = true) (sa : PySem.W.findIn K (.ref C) "__setattr__" = some (some (.builtin "object.__setattr__"))) (exC : PySem.W.subIn K (.ref C) (.type "BaseException") = some true)
    (tyC : PySem.W.typeIn K (.ref C) = some (.type "type")) (kC : PySem.W.keepIn K (.ref C) = true) : OexC K C := by
  refine ⟨?_, sa, exC, tyC, kC⟩
  unfold oexB at h
  split at h
  · rename_i t dd cd sl lk
    simp only [Bool.and_eq_true, Bool.not_eq_true', beq_iff_eq] at h
    obtain ⟨rfl, h1, h2, h3, h4⟩ := h
    obtain ⟨bm, e1, hb⟩ := oexMro_of h1
    obtain ⟨k0, k1, k2, k3, k5, e2⟩ := oexSl_of h2
    obtain ⟨nm, bs, mro, ns, qn, hd, sn, sub, ab, col, del⟩ := cd
    obtain ⟨l⟩ := sl
    have e1' : mro = .ref C :: bm := e1
    have e2' : l = [k0, k1, k2, k3, some (.builtin "ValueError.__new__"), k5] := e2
    have e3 : hd = true := h3
    have e4 : del = false := h4
    subst e1' e2' e3 e4
    exact ⟨nm, qn, ns, bs, bm, sn, sub, ab, col, dd, k0, k1, k2, k3, k5, lk, hb⟩
  · cases h
end Mi
/-! The mirror: tuple(range(n)), min(d.values(), default=x). -/
namespace Mi
open PySem PySem.Spec PyProof.Rows L2
section
variable {X : Cx} {T : Nat → Addr} {Wx : WX'} {pos : Pos} {K : PySem.W.Frag} {ρ η : List Addr} {H : Hp}
end
end Mi
/-! The mirror: sorted of whole numbers, of texts, of a dict's numbers, by insertion. -/
namespace Mi
open PySem PySem.Spec PyProof.Rows L2
def insZ (a : Int) : List Int → List Int
  | [] => [a]
  | b :: r => if a ≤ b then a :: b :: r else b :: insZ a r
def isZ : List Int → List Int
  | [] => []
  | a :: r => insZ a (isZ r)
theorem insZ_perm (a : Int) : ∀ l, (insZ a l).Perm (a :: l)
  | [] => .refl _
  | b :: r => by
    unfold insZ
    split
    · exact .refl _
    · exact ((insZ_perm a r).cons b).trans (List.Perm.swap a b r)
theorem isZ_perm : ∀ l, (isZ l).Perm l
  | [] => .refl _
  | a :: r => (insZ_perm a (isZ r)).trans ((isZ_perm r).cons a)
theorem insZ_up (a : Int) : ∀ l : List Int, l.Pairwise (· ≤ ·) → (insZ a l).Pairwise (· ≤ ·)
  | [], _ => by simp [insZ]
  | b :: r, h => by
    obtain ⟨h1, h2⟩ := List.pairwise_cons.mp h
    unfold insZ
    split
    · rename_i q
      refine List.pairwise_cons.mpr ⟨fun c hc => ?_, h⟩
      rcases List.mem_cons.mp hc with rfl | hc
      · exact q
      · exact Int.le_trans q (h1 c hc)
    · rename_i q
      refine List.pairwise_cons.mpr ⟨fun c hc => ?_, insZ_up a r h2⟩
      rcases List.mem_cons.mp ((insZ_perm a r).mem_iff.mp hc) with rfl | hc
      · omega
      · exact h1 c hc
theorem isZ_up : ∀ l, (isZ l).Pairwise (· ≤ ·)
  | [] => .nil
  | a :: r => insZ_up a _ (isZ_up r)
theorem isZ_of {ns ms : List Int} (p : ms.Perm ns) (q : ms.Pairwise (· ≤ ·)) : ms = isZ ns := (p.trans (isZ_perm ns).symm).eq_of_pairwise (fun a b _ _ h1 h2 => Int.le_antisymm h1 h2) q (isZ_up ns)
/-- a stands no later than b -/
def leS (a b : Str) : Prop := ltCps b.cps.toList a.cps.toList = false
theorem leS_iff {a b : Str} : leS a b ↔ a.cps.toList ≤ b.cps.toList := by
  unfold leS
  rw [ltCps_eq, decide_eq_false_iff_not]
  exact Iff.rfl
theorem leS_trans {a b c : Str} (h : leS a b) (k : leS b c) : leS a c := leS_iff.mpr (List.le_trans (leS_iff.mp h) (leS_iff.mp k))
theorem leS_anti {a b : Str} (h : leS a b) (k : leS b a) : a = b := by
  have e : a.cps.toList = b.cps.toList := List.le_antisymm (leS_iff.mp h) (leS_iff.mp k)
  cases a
  cases b
  simp only [Str.mk.injEq]
  exact Array.toList_inj.mp e
theorem leS_total {a b : Str} (h : ¬ leS a b) : leS b a := leS_iff.mpr ((List.le_total a.cps.toList b.cps.toList).resolve_left fun z => h (leS_iff.mpr z))
def insS (a : Str) : List Str → List Str
  | [] => [a]
  | b :: r => if ltCps b.cps.toList a.cps.toList = true then b :: insS a r else a :: b :: r
def isS : List Str → List Str
  | [] => []
  | a :: r => insS a (isS r)
theorem insS_perm (a : Str) : ∀ l, (insS a l).Perm (a :: l)
  | [] => .refl _
  | b :: r => by
    unfold insS
    split
    · exact ((insS_perm a r).cons b).trans (List.Perm.swap a b r)
    · exact .refl _
theorem isS_perm : ∀ l, (isS l).Perm l
  | [] => .refl _
  | a :: r => (insS_perm a (isS r)).trans ((isS_perm r).cons a)
theorem insS_up (a : Str) : ∀ l : List Str, l.Pairwise leS → (insS a l).Pairwise leS
  | [], _ => by simp [insS]
  | b :: r, h => by
    obtain ⟨h1, h2⟩ := List.pairwise_cons.mp h
    unfold insS
    split
    · rename_i q
      refine List.pairwise_cons.mpr ⟨fun c hc => ?_, insS_up a r h2⟩
      rcases List.mem_cons.mp ((insS_perm a r).mem_iff.mp hc) with rfl | hc
      · exact leS_total fun z => by rw [leS, q] at z; cases z
      · exact h1 c hc
    · rename_i q
      have q' : leS a b := by simpa [leS] using q
      refine List.pairwise_cons.mpr ⟨fun c hc => ?_, h⟩
      rcases List.mem_cons.mp hc with rfl | hc
      · exact q'
      · exact leS_trans q' (h1 c hc)
theorem isS_up : ∀ l, (isS l).Pairwise leS
  | [] => .nil
  | a :: r => insS_up a _ (isS_up r)
theorem rising_up : ∀ {p : Str} {l : List Str}, risingS p l = true → (p :: l).Pairwise leS
  | p, [], _ => by simp
  | p, x :: r, h => by
    have h' : (!ltCps x.cps.toList p.cps.toList && risingS x r) = true := h
    rw [Bool.and_eq_true, Bool.not_eq_true'] at h'
    have ih := rising_up h'.2
    refine List.pairwise_cons.mpr ⟨fun c hc => ?_, ih⟩
    rcases List.mem_cons.mp hc with rfl | hc
    · exact h'.1
    · exact leS_trans (b := x) h'.1 ((List.pairwise_cons.mp ih).1 c hc)
theorem isS_of {xs ys : List Str} (p : ys.Perm xs) (q : sortedS ys = true) : ys = isS xs := by
  have u : ys.Pairwise leS := by
    cases ys with
    | nil => exact .nil
    | cons x r => exact rising_up q
  exact (p.trans (isS_perm xs).symm).eq_of_pairwise (fun a b _ _ h1 h2 => leS_anti h1 h2) u (isS_up xs)
def strsOf : List W → Option (List Str)
  | [] => some []
  | .str b :: r => (strsOf r).map (b :: ·)
  | _ => none
def fSortedX (fz : Bool) : FC := fun ws st => match ws with
  | [w] => match seqL st w with
    | some xs => match intsOf xs with
      | some ns => newL fz ((isZ ns).map W.int) st
      | none => match strsOf xs with
        | some ys => if ys.length < 64 then newL fz ((isS ys).map W.str) st else .stuck
        | none => .stuck
    | none => match dkOf st w with
      | some kvs => match intsOf (kvs.map fun p => keyW p.1) with
        | some ns => if ns.length < 64 then newL fz ((isZ ns).map W.int) st else .stuck
        | none => .stuck
      | none => .stuck
  | _ => .stuck
section
variable {K : PySem.W.Frag} {T : Nat → Addr} {ρ η : List Addr} {H : Hp} {st : Sto}
theorem strs_ok : ∀ {ws : List W} {vs : List V} {bs : List Str}, VRs K ρ η H ws vs → strsOf ws = some bs → vs = bs.map V.str
  | [], vs, bs, r, e => by
    simp only [VRs] at r
    simp only [strsOf, Option.some.injEq] at e
    subst r
    subst e
    rfl
  | w :: ws, vs, bs, r, e => by
    cases w with
    | str b =>
      simp only [VRs, VR] at r
      obtain ⟨v, rr, e1, e2, e3⟩ := r
      simp only [strsOf, Option.map_eq_some_iff] at e
      obtain ⟨cs, e4, e5⟩ := e
      subst e1
      subst e2
      subst e5
      rw [strs_ok e3 e4, List.map_cons]
    | _ => simp [strsOf] at e
theorem vstrs : ∀ {ns : List Str}, VRs K ρ η H (ns.map W.str) (ns.map V.str)
  | [] => VRs.nil
  | a :: r => VRs.cons (by simp only [VR]) vstrs
theorem okc_sortedX {fz : Bool} : OkC K T (fSortedX fz) (fun xs H Q => (rSortedI K xs H Q ∨ rSortDI xs H Q) ∨ rSortedS K xs H Q) := by
  intro ρ η st H ws vs Q E s r h
  unfold fSortedX at h
  split at h
  · rename_i w
    obtain ⟨v, e, rr⟩ := vrs1 r
    subst e
    split at h
    · rename_i xs q
      obtain ⟨a, us, e1, e2, e3⟩ := seq_ok s rr q
      subst e1
      split at h
      · rename_i ns q2
        have := ints_ok e3 q2
        subst this
        refine .inl (.inl ⟨a, ns, rfl, e2, fun ns' p p1 p2 hp => ?_⟩)
        rw [isZ_of p1 p2]
        exact newL_ok h s vints hp
      · split at h
        · rename_i ys q3
          have := strs_ok e3 q3
          subst this
          split at h
          · rename_i lz
            refine .inr ⟨a, ys, rfl, e2, lz, fun ys' p p1 p2 hp => ?_⟩
            rw [isS_of p1 p2]
            exact newL_ok h s vstrs hp
          · exact h.elim
        · exact h.elim
    · split at h
      · rename_i kvs q
        split at h
        · rename_i ns q2
          split at h
          · rename_i lz
            have ef : ∀ f : Key × W → W, (∀ p, f p = keyW p.1) → intsOf (kvs.map f) = some ns := fun f hf => by rw [show f = fun p => keyW p.1 from funext hf]; exact q2
            have k := okc_sorted (K := K) (T := T) (fz := fz) ρ η st H [w] [v] Q E s r ?_
            · exact .inl k
            · unfold fSorted
              simp only
              rename_i sq _ _
              rw [sq]
              simp only
              rw [q]
              simp only
              rw [ef _ (fun p => by cases p.1 <;> rfl)]
              simp only
              rw [if_pos lz]
              have e : sortZ ns = isZ ns := isZ_of (List.mergeSort_perm ns _) (by
                have := List.pairwise_mergeSort (le := fun a b : Int => decide (a ≤ b)) (by intro a b c; simp; omega) (by intro a b; simp; omega) ns
                exact this.imp (by intro a b; simp))
              rw [e]
              exact h
          · exact h.elim
        · exact h.elim
      · exact h.elim
  · exact h.elim
end
end Mi
/-! The mirror: names bound to a list's items. -/
namespace Mi
open PySem PySem.Spec PyProof.Rows L2
def gLst' (gs : List MG) : MG := fun w env st => match seqL st w with
  | some ws => gAll gs ws env st
  | none => none
theorem gAll_len : ∀ {gs : List MG} {ws : List W} {env : Ev} {st : Sto}, (gAll gs ws env st).isSome = true → ws.length = gs.length
  | [], [], _, _, _ => rfl
  | [], _ :: _, _, _, z => by simp [gAll] at z
  | _ :: _, [], _, _, z => by simp [gAll] at z
  | g :: gs, w :: ws, env, st, z => by
    unfold gAll at z
    split at z
    · rw [List.length_cons, List.length_cons, gAll_len z]
    · cases z
theorem sg_lst {X : Cx} {T : Nat → Addr} {pos : Pos} {es : List Expr} {k : Nat} {gs : List MG} (hc : X.calm = true) (h : SGs X T es gs) (hn : (assignEach es X.env).length = gs.length := by rfl) (hst : (assignEach es X.env).findIdx? (·.1) = none := by rfl) : SGt X T (.Tuple es k pos) (gLst' gs) := by
  intro ρ η st env σ H w v Q s er r q
  refine ⟨_, pg_lst hc pgs_S hn hst, ?_⟩
  unfold gLst' at q
  cases e : seqL st w with
  | none => rw [e] at q; exact q.elim
  | some ws =>
    rw [e] at q
    obtain ⟨a, vs, e1, e2, e3⟩ := seq_ok s r e
    refine ⟨a, vs, e1, e2, ?_, h ρ η st env σ H ws vs Q s er e3 q⟩
    rw [e3.len]
    refine gAll_len (env := env) (st := st) ?_
    cases z : gAll gs ws env st with
    | none => simp only [z] at q; exact q.elim
    | some p => rfl
end Mi
/-! The mirror: what a call of a handed lambda told, or the field of the error that it raised. -/
namespace Mi
open PySem PySem.Spec PyProof.Rows L2
theorem outOf_to {r : Rs W} {e1 e2 : Ev} : outOf (r.to e1 fun w s => .rt w s) = outOf (r.to e2 fun w s => .rt w s) := by cases r <;> rfl
end Mi
/-! The mirror: min(d.values(), default=x). -/
namespace Mi
open PySem PySem.Spec PyProof.Rows L2
section
variable {X : Cx}
end
end Mi
/-! The mirror: places that nothing names any more are let go of behind a call. -/
namespace Mi
open PySem PySem.Spec PyProof.Rows L2
mutual
/-- no place from n on is named -/
def blW (n : Nat) : W → Bool
  | .ref i => decide (i < n)
  | .tup xs => blWs n xs
  | .lst xs => blWs n xs
  | .scr xs => blWs n xs
  | .fn _ _ _ _ => false
  | .exc _ _ _ _ => false
  | _ => true
def blWs (n : Nat) : List W → Bool
  | [] => true
  | x :: xs => blW n x && blWs n xs
end
def blN (n : Nat) : Nd → Bool
  | .lst xs => blWs n xs
  | .dk kvs => blWs n (kvs.map (·.2))
  | .lk kvs => blWs n (kvs.map (·.2))
  | .ins _ fs => blWs n (fs.map (·.2))
  | .tb _ _ => true
def mGc (m : M W) : M W := fun env st => match m env st with
  | .ok w s => if (blW st.length w && (s.take st.length).all (blN st.length)) = true then .ok w (s.take st.length) else .stuck
  | r => r
section
variable {K : PySem.W.Frag} {T : Nat → Addr} {ρ t η : List Addr} {H : Hp}
mutual
theorem VR.lower : ∀ {w : W} {v : V}, VR K (ρ ++ t) η H w v → blW ρ.length w = true → VR K ρ η H w v
  | .non, _, h, _ => by simpa only [VR] using h
  | .bl _, _, h, _ => by simpa only [VR] using h
  | .int _, _, h, _ => by simpa only [VR] using h
  | .str _, _, h, _ => by simpa only [VR] using h
  | .ty _, _, h, _ => by simpa only [VR] using h
  | .at_ _, _, h, _ => by simpa only [VR] using h
  | .fn _ _ _ _, _, _, b => by simp [blW] at b
  | .exc _ _ _ _, _, _, b => by simp [blW] at b
  | .ref i, v, h, b => by
    simp only [VR] at h ⊢
    simp only [blW, decide_eq_true_eq] at b
    obtain ⟨a, e, r⟩ := h
    rw [List.getElem?_append_left b] at e
    exact ⟨a, e, r⟩
  | .tup xs, v, h, b => by
    simp only [VR] at h ⊢
    simp only [blW] at b
    obtain ⟨a, vs, e, k, r⟩ := h
    exact ⟨a, vs, e, k.imp (fun k => ⟨fun z => k.1 (List.mem_append_left _ z), k.2⟩) id, VRs.lower r b⟩
  | .lst xs, v, h, b => by
    simp only [VR] at h ⊢
    simp only [blW] at b
    obtain ⟨a, vs, e, ⟨k1, k2⟩, r⟩ := h
    exact ⟨a, vs, e, ⟨fun z => k1 (List.mem_append_left _ z), k2⟩, VRs.lower r b⟩
  | .scr xs, v, h, b => by
    simp only [VR] at h ⊢
    simp only [blW] at b
    obtain ⟨a, vs, e, k, r⟩ := h
    exact ⟨a, vs, e, k.imp (fun k => ⟨fun z => k.1 (List.mem_append_left _ z), k.2⟩) id, VRs.lower r b⟩
theorem VRs.lower : ∀ {ws : List W} {vs : List V}, VRs K (ρ ++ t) η H ws vs → blWs ρ.length ws = true → VRs K ρ η H ws vs
  | [], _, h, _ => by simpa only [VRs] using h
  | x :: xs, vs, h, b => by
    simp only [VRs] at h ⊢
    simp only [blWs, Bool.and_eq_true] at b
    obtain ⟨v, r, e, h1, h2⟩ := h
    exact ⟨v, r, e, VR.lower h1 b.1, VRs.lower h2 b.2⟩
end
theorem NR.lower {a : Addr} {n : Nd} (h : NR K T (ρ ++ t) η H a n) (b : blN ρ.length n = true) : NR K T ρ η H a n := by
  cases n with
  | lst xs => obtain ⟨vs, e, r⟩ := h; exact ⟨vs, e, r.lower b⟩
  | dk kvs => obtain ⟨kv, e, q, r⟩ := h; exact ⟨kv, e, q, r.lower b⟩
  | lk kvs => obtain ⟨od, kv, e, q, r⟩ := h; exact ⟨od, kv, e, q, r.lower b⟩
  | ins c fs => obtain ⟨dx, fv, e, q, r⟩ := h; exact ⟨dx, fv, e, q, r.lower b⟩
  | tb p q =>
    obtain ⟨e, ps, h1, h2, h3⟩ := h
    refine ⟨e, ps, h1, h2, fun pos cv z => ?_⟩
    obtain ⟨c, c1, c2, c3⟩ := h3 pos cv z
    exact ⟨c, c1, fun z => c2 (List.mem_append_left _ z), c3⟩
theorem SR.lower {st : Sto} (h : SR K T (ρ ++ t) η st H) (b : (st.take ρ.length).all (blN ρ.length) = true) : SR K T ρ η (st.take ρ.length) H := by
  refine ⟨(List.nodup_append.mp h.nd).1, ?_, fun a ha z => h.hid a ha (List.mem_append_left _ z), h.has, fun i n a e q => ?_⟩
  · have := h.len
    rw [List.length_append] at this
    rw [List.length_take]
    omega
  · have bn := List.all_eq_true.mp b n (List.mem_of_getElem? e)
    have hi : i < ρ.length := (List.getElem?_eq_some_iff.mp q).1
    rw [List.getElem?_take_of_lt hi] at e
    exact (h.at_ i n a e (by rw [List.getElem?_append_left hi]; exact q)).lower bn
end
theorem se_gc {X : Cx} {T : Nat → Addr} {Wx : WX'} {e : Expr} {m : M W} (h : SE X T Wx e m) : SE X T Wx e (mGc m) := by
  intro ρ η st env σ H Q s er q
  refine h ρ η st env σ H Q s er ?_
  unfold mGc at q
  cases z : m env st with
  | stuck => rw [z] at q; exact q
  | ex y s1 => rw [z] at q; exact q
  | ok w s1 =>
    rw [z] at q
    simp only at q
    split at q
    · rename_i b
      rw [Bool.and_eq_true, ← s.len] at b
      intro ρ' H' v g sr r
      obtain ⟨t, e1, _⟩ := id g.pre
      subst e1
      have g' : Grow ρ H ρ H' := ⟨⟨[], by simp, by simp⟩, g.same', g.all, g.frz⟩
      rw [← s.len] at q
      exact q ρ H' v g' (sr.lower b.2) (r.lower b.1)
    · exact q.elim
end Mi
/-! The mirror: min, max of a list of whole numbers. -/
namespace Mi
open PySem PySem.Spec PyProof.Rows L2
section
variable {K : PySem.W.Frag} {T : Nat → Addr}
end
end Mi
/-! The mirror: places let go of behind a suite; statements taken together. -/
namespace Mi
open PySem PySem.Spec PyProof.Rows L2
def evBl (n : Nat) (env : Ev) : Bool := env.all fun o => match o with
  | some w => blW n w
  | none => true
def sGc (is : List Nat) (m : MS) : MS := fun env st => match m env st with
  | .nx env1 st1 => if (evBl st.length (wipeW env1 is) && (st1.take st.length).all (blN st.length)) = true then .nx (wipeW env1 is) (st1.take st.length) else .stuck
  | r => r
section
variable {K : PySem.W.Frag} {T : Nat → Addr} {ρ t η : List Addr} {H : Hp}
theorem ER.forget {env : Ev} {σ : L2.St} (h : ER K ρ η H env σ) : ∀ vs : List Nat, ER K ρ η H (wipeW env vs) σ
  | [] => h
  | v :: vs => by
    obtain ⟨h1, h2⟩ := ER.forget h vs
    refine ⟨by simp only [wipeW, List.length_set]; exact h1, fun j u e => ?_⟩
    unfold wipeW at e
    rw [List.getElem?_set] at e
    split at e
    · split at e <;> cases e
    · exact h2 j u e
theorem ER.lower {env : Ev} {σ : L2.St} (h : ER K (ρ ++ t) η H env σ) (b : evBl ρ.length env = true) : ER K ρ η H env σ := ⟨h.1, fun i w e => by
  obtain ⟨v, e1, r⟩ := h.2 i w e
  have bw := List.all_eq_true.mp b (some w) (List.mem_of_getElem? e)
  exact ⟨v, e1, r.lower bw⟩⟩
end
section
variable {X : Cx} {T : Nat → Addr} {Wx : WX'}
theorem SAfter.gc {η ρ : List Addr} {H : Hp} {st : Sto} {is : List Nat} {m : MS} {env : Ev} {D : Ends} (s : SR X.K T ρ η st H) (q : SAfter X.K T η ρ H (sGc is m env st) D Wx) : SAfter X.K T η ρ H (m env st) D Wx := by
  unfold sGc at q
  cases z : m env st with
  | stuck => rw [z] at q; exact q
  | ex y e1 s1 => rw [z] at q; exact q
  | rt w s1 => rw [z] at q; exact q
  | bk e1 s1 => rw [z] at q; exact q
  | ct e1 s1 => rw [z] at q; exact q
  | nx e1 s1 =>
    rw [z] at q
    simp only at q
    split at q
    · rename_i b
      rw [Bool.and_eq_true, ← s.len] at b
      intro ρ' H' σ' g sr er
      obtain ⟨t, e2, _⟩ := id g.pre
      subst e2
      have g' : Grow ρ H ρ H' := ⟨⟨[], by simp, by simp⟩, g.same', g.all, g.frz⟩
      rw [← s.len] at q
      exact q ρ H' σ' g' (sr.lower b.2) ((er.forget is).lower b.1)
    · exact q.elim
theorem sss_gc {c : List Stmt} {m : MS} {is : List Nat} (h : SSs X T Wx c m) : SSs X T Wx c (sGc is m) := fun ρ η st env σ H D s er q => h ρ η st env σ H D s er (SAfter.gc s q)
theorem execs_both (a b : List Stmt) (env : Env) : execs (a ++ b) env = (execs a env >>= fun f => match f with
    | .next => execs b env
    | f => pure f) := by
  induction a with
  | nil => exact (pure_bind (m := Sem) Flow.next (fun f => match f with | .next => execs b env | f => pure f)).symm
  | cons s a ih =>
    rw [List.cons_append, execs_cons, execs_cons, bind_assoc]
    congr 1
    funext f
    cases f with
    | next => exact ih
    | ret v => exact (pure_bind (m := Sem) (Flow.ret v) (fun f => match f with | .next => execs b env | f => pure f)).symm
    | brk => exact (pure_bind (m := Sem) Flow.brk (fun f => match f with | .next => execs b env | f => pure f)).symm
    | cont => exact (pure_bind (m := Sem) Flow.cont (fun f => match f with | .next => execs b env | f => pure f)).symm
theorem pss_both {a b : List Stmt} {t u : TS} (h1 : PSs X a t) (h2 : PSs X b u) : PSs X (a ++ b) (tSeq t u) := by
  refine ⟨fun pins s σ H D I h => ?_⟩
  rw [execs_both]
  refine wpAny_bind (thn (h1.run pins s σ H { D with nx := u D } I h) fun f s1 q => ?_)
  cases f with
  | next =>
    obtain ⟨σ', H', I', q⟩ := q
    exact h2.run pins s1 σ' H' D I' q
  | ret v => exact wpAny_pure q
  | brk => exact wpAny_pure q
  | cont => exact wpAny_pure q
theorem sss_both {a b : List Stmt} {m k : MS} (h1 : SSs X T Wx a m) (h2 : SSs X T Wx b k) : SSs X T Wx (a ++ b) (sSeq m k) := by
  intro ρ η st env σ H D s er q
  refine ⟨_, pss_both pss_S pss_S, ?_⟩
  refine h1 ρ η st env σ H _ s er ?_
  unfold sSeq at q
  cases z : m env st with
  | nx e1 s1 => rw [z] at q; exact fun ρ' H' σ' g sr er' => h2 ρ' η s1 e1 σ' H' D sr er' (q.grow g)
  | rt w s1 => rw [z] at q; exact q
  | bk e1 s1 => rw [z] at q; exact q
  | ct e1 s1 => rw [z] at q; exact q
  | ex y e1 s1 => rw [z] at q; exact q
  | stuck => rw [z] at q; exact q
theorem sss_bothN {c : List Stmt} {m k : MS} (n : Nat) (h1 : SSs X T Wx (c.take n) m) (h2 : SSs X T Wx (c.drop n) k) : SSs X T Wx c (sSeq m k) := by
  have h := sss_both h1 h2
  rwa [List.take_append_drop] at h
end
end Mi
/-! The mirror: isinstance of a caught error with one field. -/
namespace L2
open PySem PySem.Spec PySem.Calls PyProof.Rows
section
open PySem.W
variable {prog : Program} {w : World} {A : Around} {E : Value → Shared → Prop} {s : Shared} {K : Frag} {x D : Addr} {ox : Obj} {od : Option Obj}
end
end L2
namespace Mi
open PySem PySem.Spec PyProof.Rows L2
end Mi
/-! Values that a set or a dict can hold: texts, tuples of such values. -/
namespace L2
open PySem PySem.Spec PyProof.Rows
/-- the tuples of h stay in h' -/
def TupStay (h h' : Heap) : Prop := ∀ a o, h.get? a = some o → o.cls = .type "tuple" → h'.get? a = some o
theorem TupStay.of {h h' : Heap} (k : ∀ a o, h.get? a = some o → h'.get? a = some o) : TupStay h h' := fun a o e _ => k a o e
structure HKd (P : Program) (w : World) (K : Type) [DecidableEq K] where
  is : Heap → K → Value → Prop
  ok : K → K → Prop
  hash : K → Int
  draws : K → Nat
  need : Nat
  dep : Nat
  inj : ∀ {h : Heap} {x y : K} {v : Value}, is h x v → is h y v → x = y
  keep : ∀ {h h' : Heap} {x : K} {v : Value}, is h x v → TupStay h h' → is h' x v
  pyHash : ∀ {A : Around} {E : Value → Shared → Prop} {s : Shared} {k : K} {v : Value} {Q : Int → Shared → Prop}, A.units + need < cLine → is s.heap k v → Q (hash k) { s with toks := s.toks + draws k } → wpAny (model P w) A (PySem.pyHash v) Q E s
  eqBool : ∀ {A : Around} {E : Value → Shared → Prop} {s : Shared} {x y : K} {u v : Value} {Q : Bool → Shared → Prop}, A.units + need < cLine → ok x y → is s.heap x u → is s.heap y v → Q (decide (x = y)) s → wpAny (model P w) A (PySem.eqBool u v) Q E s
  quiet : ∀ {A : Around} {E : Value → Shared → Prop} {s : Shared} {k : K} {v : Value} {Q : Bool → Shared → Prop} (n : Nat), dep ≤ n → is s.heap k v → Q true s → wpAny (model P w) A (eqIsQuiet n v) Q E s
  hashBy : ∀ {A : Around} {E : Value → Shared → Prop} {s : Shared} {k : K} {v : Value} {Q : Bool → Shared → Prop} (n : Nat), dep ≤ n → is s.heap k v → (∀ b, Q b s) → wpAny (model P w) A (hashByValue n v) Q E s
  ofCls : ∀ {A : Around} {E : Value → Shared → Prop} {s : Shared} {k : K} {v : Value} {Q : Bool → Shared → Prop} (n : Nat), dep ≤ n → is s.heap k v → Q false s → wpAny (model P w) A (ofAClassStatement n v) Q E s
variable {P : Program} {w : World}
/-! ### texts -/
theorem hashBy_strv (n : Nat) (x : Str) (t : Tok) : hashByValue n (.str x t) = pure false := by cases n <;> rfl
theorem ofCls_strv (n : Nat) (x : Str) (t : Tok) : ofAClassStatement n (.str x t) = pure false := by cases n <;> rfl
def strHKd (P : Program) (w : World) : HKd P w Str where
  is := fun _ k v => Value.isStrOf k v = true
  ok := fun _ _ => True
  hash := hashStr w
  draws := fun _ => 1
  need := 0
  dep := 0
  inj := fun {h x y v} a b => (PySem.strKind P w).inj v x y a b
  keep := fun h _ => h
  pyHash := fun _ h q => (PySem.strKind P w).pyHash h q
  eqBool := fun _ _ h h' q => (PySem.strKind P w).eqBool h h' q
  quiet := fun n _ h q => by
    obtain ⟨t, rfl⟩ := Value.isStrOf_shape h
    rw [eqIsQuiet_byValue n rfl]
    exact wpAny_pure q
  hashBy := fun n _ h q => by
    obtain ⟨t, rfl⟩ := Value.isStrOf_shape h
    rw [hashBy_strv]
    exact wpAny_pure (q false)
  ofCls := fun n _ h q => by
    obtain ⟨t, rfl⟩ := Value.isStrOf_shape h
    rw [ofCls_strv]
    exact wpAny_pure q
/-! ### one of two kinds -/
def sumHKd {K1 K2 : Type} [DecidableEq K1] [DecidableEq K2] (V1 : HKd P w K1) (V2 : HKd P w K2) (apart : ∀ {h : Heap} {x : K1} {y : K2} {v : Value}, V1.is h x v → V2.is h y v → False) : HKd P w (K1 ⊕ K2) where
  is := fun h k v => match k with | .inl x => V1.is h x v | .inr y => V2.is h y v
  ok := fun k k' => match k, k' with | .inl x, .inl y => V1.ok x y | .inr x, .inr y => V2.ok x y | _, _ => False
  hash := fun k => match k with | .inl x => V1.hash x | .inr y => V2.hash y
  draws := fun k => match k with | .inl x => V1.draws x | .inr y => V2.draws y
  need := max V1.need V2.need
  dep := max V1.dep V2.dep
  inj := fun {h x y v} a b => by
    cases x <;> cases y
    · exact congrArg _ (V1.inj a b)
    · exact (apart a b).elim
    · exact (apart b a).elim
    · exact congrArg _ (V2.inj a b)
  keep := fun {h h' x v} a k => by
    cases x
    · exact V1.keep a k
    · exact V2.keep a k
  pyHash := fun {A E s k v Q} hu a q => by
    cases k
    · exact V1.pyHash (by omega) a q
    · exact V2.pyHash (by omega) a q
  eqBool := fun {A E s x y u v Q} hu o a b q => by
    cases x <;> cases y
    · exact V1.eqBool (by omega) o a b (by simpa using q)
    · exact o.elim
    · exact o.elim
    · exact V2.eqBool (by omega) o a b (by simpa using q)
  quiet := fun {A E s k v Q} n hn a q => by
    cases k
    · exact V1.quiet n (by omega) a q
    · exact V2.quiet n (by omega) a q
  hashBy := fun {A E s k v Q} n hn a q => by
    cases k
    · exact V1.hashBy n (by omega) a q
    · exact V2.hashBy n (by omega) a q
  ofCls := fun {A E s k v Q} n hn a q => by
    cases k
    · exact V1.ofCls n (by omega) a q
    · exact V2.ofCls n (by omega) a q
/-! ### tuples -/
inductive All2 {K : Type} (R : K → Value → Prop) : List K → List Value → Prop
  | nil : All2 R [] []
  | cons {k : K} {v : Value} {ks : List K} {vs : List Value} : R k v → All2 R ks vs → All2 R (k :: ks) (v :: vs)
theorem All2.mono {K : Type} {R R' : K → Value → Prop} (f : ∀ k v, R k v → R' k v) : ∀ {ks : List K} {vs : List Value}, All2 R ks vs → All2 R' ks vs
  | _, _, .nil => .nil
  | _, _, .cons a r => .cons (f _ _ a) (r.mono f)
theorem All2.len {K : Type} {R : K → Value → Prop} : ∀ {ks : List K} {vs : List Value}, All2 R ks vs → ks.length = vs.length
  | _, _, .nil => rfl
  | _, _, .cons _ r => by simp [r.len]
theorem All2.inj {K : Type} {R : K → Value → Prop} (f : ∀ x y v, R x v → R y v → x = y) : ∀ {xs ys : List K} {vs : List Value}, All2 R xs vs → All2 R ys vs → xs = ys
  | _, _, _, .nil, .nil => rfl
  | _, _, _, .cons a r, .cons b t => by rw [f _ _ _ a b, All2.inj f r t]
theorem All2.each {K : Type} {R : K → Value → Prop} : ∀ {ks : List K} {vs : List Value}, All2 R ks vs → ∀ v ∈ vs, ∃ k, R k v
  | _, _, .nil => fun v h => by cases h
  | _, _, .cons a r => fun v h => by
    rcases List.mem_cons.mp h with rfl | h
    · exact ⟨_, a⟩
    · exact r.each v h
section
variable {K : Type} [DecidableEq K] (V : HKd P w K)
def IsTp (h : Heap) (ks : List K) (a : Addr) : Prop := ∃ o items n, h.get? a = some o ∧ o.cls = .type "tuple" ∧ o.data = .seq items n ∧ All2 (V.is h) ks items.toList
variable {V}
variable {A : Around} {E : Value → Shared → Prop} {s : Shared}
theorem IsTp.typeIs {ks : List K} {a : Addr} (x : IsTp V s.heap ks a) : s.TypeIs (.ref a) "tuple" := let ⟨o, _, _, ho, hc, _⟩ := x; ⟨o, ho, hc⟩
theorem IsTp.inj {h : Heap} {a : Addr} {x y : List K} (hx : IsTp V h x a) (hy : IsTp V h y a) : x = y := by
  obtain ⟨o, items, n, ho, _, hd, hi⟩ := hx
  obtain ⟨o', items', n', ho', _, hd', hi'⟩ := hy
  obtain rfl : o = o' := Option.some.inj (ho.symm.trans ho')
  rw [hd] at hd'
  injection hd' with h1 _
  subst h1
  exact All2.inj (R := V.is h) (fun _ _ _ a b => V.inj a b) hi hi'
theorem IsTp.keep {h h' : Heap} {ks : List K} {a : Addr} (x : IsTp V h ks a) (k : TupStay h h') : IsTp V h' ks a := by
  obtain ⟨o, items, n, ho, hc, hd, hi⟩ := x
  exact ⟨o, items, n, k a o ho hc, hc, hd, hi.mono fun _ _ z => V.keep z k⟩
def tpHash (V : HKd P w K) (ks : List K) : Int := reduceHash (Builtin.Tuple.tupleHashOf (ks.map V.hash))
def tpDraws (V : HKd P w K) (ks : List K) : Nat := (ks.map V.draws).sum + 1
theorem hash_tp {ks : List K} {a : Addr} {Q : Int → Shared → Prop} (hu : A.units + V.need + 1 < cLine) (hk : IsTp V s.heap ks a) (h : Q (tpHash V ks) { s with toks := s.toks + tpDraws V ks }) : wpAny (model P w) A (pyHash (.ref a)) Q E s := by
  have hT := hk.typeIs
  obtain ⟨o, items, n, ho, _, hd, hi⟩ := hk
  unfold pyHash
  first | unfold pyHashByItsType | skip
  first | refine wpAny_bind (wpAny_cRoomFor_or (.inr (by omega)) ?_) | skip
  refine wpAny_bind (wpAny_specialOf hT F.slot_tuple_hash.lookup ?_)
  show wpAny _ _ (if (some (Value.builtin "tuple.__hash__") == some Value.none) = true then _ else _) Q E s
  rw [if_neg (by rw [beq_builtin_none]; exact Bool.false_ne_true)]
  refine wpAny_bind (wpAny_specialOf hT F.slot_tuple_hash.lookup ?_)
  show wpAny _ _ (callSpecialIfBoundUnlessNone? (.ref a) "__hash__" _ >>= _) Q E s
  refine wpAny_bind (wpAny_callSpecialIfBoundUnlessNone?_slot hT F.slot_tuple_hash (wpAny_call_entry F.slot_tuple_hash hT F.entry_tuple_hash ?_ (F.args_tuple_hash_1 _)))
  show wpAny _ _ (Builtin.Tuple.tupleItemsOf (.ref a) >>= _) _ _ s
  refine wpAny_bind (wpAny_tupleItemsOf ho hd ?_)
  refine wpAny_bind ?_
  rw [← Array.forIn_toList]
  refine wpAny_forIn_list _ (fun rest (b : Array Int) s' => ∃ done left, ks = done ++ left ∧ All2 (V.is s.heap) left rest ∧ b.toList = done.map V.hash ∧ s' = { s with toks := s.toks + (done.map V.draws).sum }) _ ?_ ?_ _ _ ⟨[], ks, rfl, hi, rfl, rfl⟩
  · rintro x rest b s' ⟨done, left, rfl, hl, hb, rfl⟩
    cases hl with
    | @cons k _ ks' _ h1 hl' =>
      refine wpAny_bind (V.pyHash ?_ h1 ?_)
      · simp only [Around.in1_units]
        omega
      first
        | exact wpAny_pure ⟨done ++ [k], ks', by simp, hl', by simp [hb], by simp [Nat.add_assoc]⟩
        | exact wpAny_bind (wpAny_pure (wpAny_pure ⟨done ++ [k], ks', by simp, hl', by simp [hb], by simp [Nat.add_assoc]⟩))
  · rintro b s' ⟨done, left, rfl, hl, hb, rfl⟩
    cases hl
    rw [List.append_nil] at h
    show wpAny _ _ (retInt (Builtin.Tuple.tupleHashOf b.toList)) _ _ _
    rw [hb]
    refine wpAny_ret_mkInt ?_
    show wpAny _ _ (if (decide (-(2 : Int) ^ 63 ≤ Builtin.Tuple.tupleHashOf (done.map V.hash)) && decide (Builtin.Tuple.tupleHashOf (done.map V.hash) < 2 ^ 63)) = true then _ else _) Q E _
    unfold tpHash tpDraws reduceHash at h
    by_cases hr : (decide (-(2 : Int) ^ 63 ≤ Builtin.Tuple.tupleHashOf (done.map V.hash)) && decide (Builtin.Tuple.tupleHashOf (done.map V.hash) < 2 ^ 63)) = true
    · rw [if_pos hr]
      rw [if_pos hr] at h
      exact wpAny_pure (by simpa [Nat.add_assoc] using h)
    · rw [if_neg hr]
      rw [if_neg hr] at h
      exact wpAny_bind (wpAny_rule (wpAny_pure (by simpa [Nat.add_assoc] using h)))
def tpOk (V : HKd P w K) (xs ys : List K) : Prop := ∀ p ∈ xs.zip ys, V.ok p.1 p.2
theorem eqTree_tp {x y : List K} {a b : Addr} {R : PySem.Fin → Shared → Prop} (hu : A.units + V.need < cLine) (hok : tpOk V x y) (hx : IsTp V s.heap x a) (hy : IsTp V s.heap y b) (h : R (.done (.ret (.bool (decide (x = y))))) s) :
    wpAny (model P w) A (Builtin.«tuple.__eq__» ⟨[.ref a, .ref b], []⟩) R E s := by
  have hTb := hy.typeIs
  obtain ⟨oa, xs, na, hoa, _, hda, hia⟩ := hx
  obtain ⟨ob, ys, nb, hob, _, hdb, hib⟩ := hy
  show wpAny _ _ (isInstance (.ref b) (.type "tuple") >>= _) _ _ s
  refine wpAny_bind (wpAny_isInstance hTb isSubtype_tuple_tuple ?_)
  simp only [Bool.not_true, Bool.false_eq_true, if_false]
  refine wpAny_bind (wpAny_tupleItemsOf hoa hda (wpAny_bind (wpAny_tupleItemsOf hob hdb (wpAny_bind ?_))))
  refine wpAny_forIn_list _
    (fun rest r s' => r.1 = none ∧ s' = s ∧ ∃ x' y' xs' ys', rest = List.zip xs' ys' ∧ All2 (V.is s.heap) x' xs' ∧ All2 (V.is s.heap) y' ys' ∧ tpOk V x' y' ∧ decide (x' = y') = decide (x = y) ∧ (xs'.length == ys'.length) = (xs.size == ys.size))
    _ ?_ ?_ _ _ ⟨rfl, rfl, x, y, xs.toList, ys.toList, rfl, hia, hib, hok, rfl, by simp⟩
  · rintro ⟨u, v⟩ rest r s' ⟨hr, rfl, x', y', xs', ys', hz, hx', hy', ho, hdec, hlen⟩
    cases hx' with
    | nil => simp at hz
    | @cons k1 u' x'' xs'' h1 hx'' =>
      cases hy' with
      | nil => simp at hz
      | @cons k2 v' y'' ys'' h2 hy'' =>
        simp only [List.zip_cons_cons, List.cons.injEq, Prod.mk.injEq] at hz
        obtain ⟨⟨rfl, rfl⟩, rfl⟩ := hz
        refine wpAny_bind (V.eqBool hu (ho (k1, k2) (by simp)) h1 h2 ?_)
        by_cases hk : k1 = k2
        · rw [decide_eq_true hk]
          simp only [Bool.not_true, Bool.false_eq_true, if_false]
          refine wpAny_pure ⟨rfl, rfl, x'', y'', xs'', ys'', rfl, hx'', hy'', fun p hp => ho p (by simp [hp]), ?_, by simpa using hlen⟩
          rw [← hdec]
          simp [hk]
        · rw [decide_eq_false hk]
          simp only [Bool.not_false, if_true]
          have hf : decide (x = y) = false := by rw [← hdec]; simp [hk]
          rw [hf] at h
          exact wpAny_bind (wpAny_pure (wpAny_pure (wpAny_pure h)))
  · rintro ⟨r1, r2⟩ s' ⟨hr, rfl, x', y', xs', ys', hz, hx', hy', _, hdec, hlen⟩
    simp only at hr
    subst hr
    refine wpAny_pure ?_
    have hfin : (xs.size == ys.size) = decide (x = y) := by
      rw [← hdec, ← hlen]
      cases hx' with
      | nil => cases hy' <;> simp
      | cons _ _ =>
        cases hy' with
        | nil => simp
        | cons _ _ => simp at hz
    show R (.done (.ret (.bool (xs.size == ys.size)))) s'
    rw [hfin]
    exact h
theorem eq_tp {x y : List K} {a b : Addr} {Q : Bool → Shared → Prop} (hu : A.units + (V.need + 3) < cLine) (hok : tpOk V x y) (hx : IsTp V s.heap x a) (hy : IsTp V s.heap y b) (h : Q (decide (x = y)) s) :
    wpAny (model P w) A (eqBool (.ref a) (.ref b)) Q E s := by
  unfold eqBool
  try with_reducible refine wpAny_holding ?_
  show wpAny _ _ (if (Value.ref a == Value.ref b) = true then _ else _) Q E s
  by_cases hab : (Value.ref a == Value.ref b) = true
  · rw [if_pos hab]
    have e : a = b := Value.ref.inj (eq_of_beq hab)
    subst e
    obtain rfl := hx.inj hy
    exact wpAny_bind (wpAny_rule (wpAny_pure (by simpa using h)))
  · rw [if_neg hab]
    refine wpAny_bind (wpAny_richCompare_same_room (op := .Eq) hx.typeIs hy.typeIs F.slot_tuple_eq
      (wpAny_call_entry F.slot_tuple_eq hx.typeIs F.entry_tuple_eq (eqTree_tp ?_ hok hx hy ⟨_, rfl, (fun e => nomatch e), wpAny_truthy_bool h⟩) (F.args_tuple_eq_2 _ _)) (by omega))
    simp only [Around.in1_units]
    omega
theorem quiet_tp {ks : List K} {a : Addr} {Q : Bool → Shared → Prop} (n : Nat) (hn : V.dep + 1 ≤ n) (hk : IsTp V s.heap ks a) (h : Q true s) : wpAny (model P w) A (eqIsQuiet n (.ref a)) Q E s := by
  obtain ⟨m, rfl⟩ : ∃ m, n = m + 1 := ⟨n - 1, by omega⟩
  have hT := hk.typeIs
  obtain ⟨o, items, n, ho, _, hd, hi⟩ := hk
  unfold eqIsQuiet
  refine wpAny_bind (wpAny_specialOf hT F.slot_tuple_eq.lookup ?_)
  show wpAny _ _ (isInstance (.ref a) (.type "tuple") >>= _) _ _ s
  refine wpAny_bind (wpAny_isInstance hT isSubtype_tuple_tuple ?_)
  simp only [Bool.not_true, Bool.false_eq_true, if_false]
  refine wpAny_bind (wpAny_seqItems ho hd (wpAny_bind ?_))
  show wpAny _ _ (forIn items _ _) _ _ s
  rw [← Array.forIn_toList]
  refine wpAny_forIn_list _ (fun rest r s' => r.1 = none ∧ s' = s ∧ ∀ v ∈ rest, ∃ k, V.is s.heap k v) _ ?_ ?_ _ _ ⟨rfl, rfl, hi.each⟩
  · rintro v rest r s' ⟨hr, rfl, hall⟩
    obtain ⟨k, hv⟩ := hall v List.mem_cons_self
    refine wpAny_bind (V.quiet m (by omega) hv ?_)
    simp only [Bool.not_true, Bool.false_eq_true, if_false]
    exact wpAny_pure ⟨rfl, rfl, fun u hu' => hall u (List.mem_cons_of_mem _ hu')⟩
  · rintro ⟨r1, r2⟩ s' ⟨hr, rfl, _⟩
    simp only at hr
    subst hr
    exact wpAny_pure h
theorem hashBy_tp {ks : List K} {a : Addr} {Q : Bool → Shared → Prop} (n : Nat) (hn : V.dep + 1 ≤ n) (hk : IsTp V s.heap ks a) (h : ∀ b, Q b s) : wpAny (model P w) A (hashByValue n (.ref a)) Q E s := by
  obtain ⟨m, rfl⟩ : ∃ m, n = m + 1 := ⟨n - 1, by omega⟩
  have hT := hk.typeIs
  obtain ⟨o, items, n, ho, _, hd, hi⟩ := hk
  unfold hashByValue
  refine wpAny_bind (wpAny_specialOf hT F.slot_tuple_hash.lookup ?_)
  show wpAny _ _ (seqItems? (.ref a) >>= _) _ _ s
  refine wpAny_bind (wpAny_seqItems ho hd (wpAny_bind ?_))
  show wpAny _ _ (forIn items _ _) _ _ s
  rw [← Array.forIn_toList]
  refine wpAny_forIn_list _ (fun rest r s' => r.1 = none ∧ s' = s ∧ ∀ v ∈ rest, ∃ k, V.is s.heap k v) _ ?_ ?_ _ _ ⟨rfl, rfl, hi.each⟩
  · rintro v rest r s' ⟨hr, rfl, hall⟩
    obtain ⟨k, hv⟩ := hall v List.mem_cons_self
    refine wpAny_bind (V.hashBy m (by omega) hv fun b => ?_)
    cases b
    · simp only [Bool.not_false, if_true]
      exact wpAny_pure (wpAny_pure (h false))
    · simp only [Bool.not_true, Bool.false_eq_true, if_false]
      exact wpAny_pure ⟨rfl, rfl, fun u hu' => hall u (List.mem_cons_of_mem _ hu')⟩
  · rintro ⟨r1, r2⟩ s' ⟨hr, rfl, _⟩
    simp only at hr
    subst hr
    exact wpAny_pure (h true)
theorem ofCls_tp {ks : List K} {a : Addr} {Q : Bool → Shared → Prop} (n : Nat) (hn : V.dep + 1 ≤ n) (hk : IsTp V s.heap ks a) (h : Q false s) : wpAny (model P w) A (ofAClassStatement n (.ref a)) Q E s := by
  obtain ⟨m, rfl⟩ : ∃ m, n = m + 1 := ⟨n - 1, by omega⟩
  have hT := hk.typeIs
  obtain ⟨o, items, n, ho, _, hd, hi⟩ := hk
  unfold ofAClassStatement
  refine wpAny_bind (wpAny_typeOf hT ?_)
  dsimp only
  have e : (("tuple" : String) == "tuple") = true := by decide
  simp only [e, if_true, Bool.not_true, Bool.false_eq_true, if_false]
  try refine wpAny_bind (wpAny_pure ?_)
  try simp only [Bool.not_true, Bool.false_eq_true, if_false]
  show wpAny _ _ (seqItems? (.ref a) >>= _) _ _ s
  refine wpAny_bind (wpAny_seqItems ho hd ?_)
  dsimp only
  refine wpAny_bind ?_
  show wpAny _ _ (forIn items _ _) _ _ s
  rw [← Array.forIn_toList]
  refine wpAny_forIn_list _ (fun rest r s' => r.1 = none ∧ s' = s ∧ ∀ v ∈ rest, ∃ k, V.is s.heap k v) _ ?_ ?_ _ _ ⟨rfl, rfl, hi.each⟩
  · rintro v rest r s' ⟨hr, rfl, hall⟩
    obtain ⟨k, hv⟩ := hall v List.mem_cons_self
    refine wpAny_bind (V.ofCls m (by omega) hv ?_)
    simp only [Bool.false_eq_true, if_false]
    exact wpAny_pure ⟨rfl, rfl, fun u hu' => hall u (List.mem_cons_of_mem _ hu')⟩
  · rintro ⟨r1, r2⟩ s' ⟨hr, rfl, _⟩
    simp only at hr
    subst hr
    exact wpAny_pure h
end
/-- tuples of a kind -/
def tupHKd {K : Type} [DecidableEq K] (V : HKd P w K) : HKd P w (List K) where
  is := fun h ks v => ∃ a, v = .ref a ∧ IsTp V h ks a
  ok := tpOk V
  hash := tpHash V
  draws := tpDraws V
  need := V.need + 3
  dep := V.dep + 1
  inj := fun ⟨a, e, x⟩ ⟨b, e', y⟩ => by
    subst e
    injection e' with e'
    subst e'
    exact x.inj y
  keep := fun ⟨a, e, x⟩ k => ⟨a, e, x.keep k⟩
  pyHash := fun hu ⟨a, e, x⟩ q => by
    subst e
    exact hash_tp (by omega) x q
  eqBool := fun hu o ⟨a, e, x⟩ ⟨b, e', y⟩ q => by
    subst e e'
    exact eq_tp hu o x y q
  quiet := fun n hn ⟨a, e, x⟩ q => by
    subst e
    exact quiet_tp n hn x q
  hashBy := fun n hn ⟨a, e, x⟩ q => by
    subst e
    exact hashBy_tp n hn x q
  ofCls := fun n hn ⟨a, e, x⟩ q => by
    subst e
    exact ofCls_tp n hn x q
/-- texts or tuples of texts -/
def itemHKd (P : Program) (w : World) : HKd P w (Str ⊕ List Str) := sumHKd (strHKd P w) (tupHKd (strHKd P w)) fun {h x y v} a ⟨b, e, _⟩ => by
  subst e
  obtain ⟨t, z⟩ := Value.isStrOf_shape a
  cases z
/-- tuples of such items: (low, high, own) -/
def rowHKd (P : Program) (w : World) : HKd P w (List (Str ⊕ List Str)) := tupHKd (itemHKd P w)
end L2
/-! A set of at most four objects of a kind: asked, filled. -/
namespace L2
open PySem PySem.Spec PyProof.Rows
section
variable {P : Program} {w : World} {K : Type} [DecidableEq K] (V : HKd P w K)
def entX (L : List (Addr × K)) : List (Int × Value) := L.map fun p => (V.hash p.2, Value.ref p.1)
structure SetX (h : Heap) (a : Addr) (L : List (Addr × K)) (es : Array (Int × Value)) (ep : Nat) (t : SetTable) : Prop where
  ob : ∃ o, h.get? a = some o ∧ o.ExactSet ∧ o.data = .set es ep t
  rows : es.toList = entX V L
  tab : TabOk t (L.map fun p => V.hash p.2)
  m7 : t.mask = 7
  nd : (L.map (·.2)).Nodup
  el : ∀ p ∈ L, V.is h p.2 (.ref p.1)
  led : w.params.followText "set-order" = true ∨ t.led = true
  few : L.length ≤ 4
variable {V}
variable {A : Around} {E : Value → Shared → Prop} {s : Shared} {a : Addr} {L : List (Addr × K)} {es : Array (Int × Value)} {ep : Nat} {t : SetTable}
theorem SetX.size {h : Heap} (R : SetX V h a L es ep t) : es.size = L.length := by
  have q := congrArg List.length R.rows
  simpa [entX] using q
theorem SetX.fits {h : Heap} (R : SetX V h a L es ep t) : t.fits es.size = true := by
  have h1 := R.tab.sz
  rw [List.length_map] at h1
  have h2 := R.size
  have h3 := R.few
  have h4 := R.m7
  unfold SetTable.fits SetTable.fill
  rw [R.tab.dm, Bool.and_eq_true, beq_iff_eq, decide_eq_true_eq]
  show t.place.size = es.size ∧ t.place.size + 0 ≤ t.mask
  omega
theorem SetX.at {h : Heap} (R : SetX V h a L es ep t) {i : Nat} {p : Addr × K} (e : L[i]? = some p) : es[i]? = some (V.hash p.2, Value.ref p.1) := by
  rw [← Array.getElem?_toList, R.rows, entX, List.getElem?_map, e]
  rfl
theorem SetX.wide {h : Heap} (R : SetX V h a L es ep t) : ¬ t.gaveWay = true := by
  unfold SetTable.gaveWay
  rw [mask_odd R.tab.mok]
  decide
/-- such a search shows nothing -/
theorem seenX {x : Addr} {k : K} (hd : V.dep ≤ 8) (hx : V.is s.heap k (.ref x)) {ys : List Value} (hy : ∀ y ∈ ys, ∃ k' c, y = Value.ref c ∧ V.is s.heap k' (.ref c)) {Q : Bool → Shared → Prop} (h : Q false s) : wpAny (model P w) A (searchCouldBeSeen (.ref x) ys) Q E s := by
  unfold searchCouldBeSeen
  refine wpAny_bind (wpAny_forIn_list _ (fun rest r s' => r.1 = none ∧ s' = s ∧ ∀ y ∈ rest, ∃ k' c, y = Value.ref c ∧ V.is s.heap k' (.ref c)) _ ?_ ?_ _ _ ⟨rfl, rfl, hy⟩)
  · rintro v rest r s' ⟨hr, rfl, hall⟩
    obtain ⟨k', c, rfl, hc⟩ := hall v List.mem_cons_self
    have rest' : ∀ y ∈ rest, ∃ k' c, y = Value.ref c ∧ V.is s'.heap k' (.ref c) := fun u hu' => hall u (List.mem_cons_of_mem _ hu')
    dsimp only
    by_cases hv : (x == c || (carriedByValue (.ref x) && carriedByValue (.ref c))) = true
    · exact wp_if_pos hv (wpAny_pure ⟨rfl, rfl, rest'⟩)
    · refine wp_if_neg hv (wpAny_bind (V.quiet 8 hd hx ?_))
      simp only [Bool.not_true, Bool.false_eq_true, if_false]
      refine wpAny_bind (V.quiet 8 hd hc ?_)
      simp only [Bool.not_true, Bool.false_eq_true, if_false]
      refine wpAny_bind (V.ofCls 8 hd hx ?_)
      simp only [Bool.false_eq_true, if_false]
      refine wpAny_bind (V.ofCls 8 hd hc ?_)
      simp only [Bool.false_eq_true, if_false]
      exact wpAny_pure ⟨rfl, rfl, rest'⟩
  · rintro ⟨r1, r2⟩ s' ⟨hr, rfl, _⟩
    simp only at hr
    subst hr
    exact wpAny_pure h
/-- the way's probe -/
abbrev prb (m : Nat) (h : Int) (c : Nat) : SetTable.Probe := nth m (runAt m (SetTable.bits h % (m + 1)) (SetTable.bits h)) c
theorem prb_dummy (m : Nat) (h : Int) (c : Nat) : (prb m h c).dummy = none := by
  have key : ∀ (n : Nat) (p : SetTable.Probe), p.dummy = none → (nth m p n).dummy = none := by
    intro n
    induction n with
    | zero => exact fun p z => z
    | succ n ih =>
      intro p z
      refine ih (adv m p) ?_
      unfold adv
      split <;> exact z
  exact key c _ rfl
theorem prb_add (m : Nat) (h : Int) (c q : Nat) : nth m (prb m h c) q = prb m h (c + q) := (nth_add m c _ q).symm
theorem search_fromX (R : SetX V s.heap a L es ep t) (hd : V.dep ≤ 8) {x : Addr} {k : K} (hx : V.is s.heap k (.ref x)) (ok : ∀ p ∈ L, V.ok p.2 k) (hu : A.units + V.need < cLine) {J : Nat} (hJf : J < 10 * SetTable.turns t.mask)
    (hJ : way t.mask (V.hash k) J ∉ t.place.toList) (hJb : ∀ c, c < J → way t.mask (V.hash k) c ∈ t.place.toList) {Q : SetFound → Shared → Prop}
    (hin : k ∈ L.map (·.2) → Q (.there none) s) (hout : k ∉ L.map (·.2) → Q (.free (way t.mask (V.hash k) J) false) s) :
    ∀ (f c : Nat) (stand : Option SetTable.Probe), stand.getD (t.probeStart (V.hash k)) = prb t.mask (V.hash k) c → c ≤ J → J - c < f →
      (∀ (i : Nat) p, L[i]? = some p → p.2 = k → ∃ c', c ≤ c' ∧ c' < J ∧ t.place.toList[i]? = some (way t.mask (V.hash k) c')) →
      wpAny (model P w) A (setSearchFrom a (.ref x) (V.hash k) true f stand) Q E s
  | 0, c, stand, _, _, hf, _ => absurd hf (Nat.not_lt_zero _)
  | f + 1, c, stand, hst, hc, hf, hre => by
    obtain ⟨o, ho, hex, hdt⟩ := R.ob
    rw [setSearchFrom_succ]
    refine wpAny_bind (wpAny_setState_of ho hdt R.fits ?_)
    dsimp only
    refine wp_if_neg R.wide ?_
    try refine wpAny_bind (wpAny_pure ?_)
    have e1 : ∀ q, (nth t.mask (prb t.mask (V.hash k) c) q).j = way t.mask (V.hash k) (c + q) := fun q => congrArg SetTable.Probe.j (prb_add _ _ _ _)
    have spec := go_spec t R.tab.ris R.tab.dm (fun i => (es[i]?.map (·.1)).getD 0) (V.hash k) (10 * SetTable.turns t.mask) (J - c) _ (prb_dummy _ _ c) (by omega)
      (fun q hq => by rw [e1]; exact hJb (c + q) (by omega)) (by rw [e1, show c + (J - c) = J by omega]; exact hJ)
    have hashAt : ∀ (i : Nat) p, L[i]? = some p → (fun i => (es[i]?.map (·.1)).getD 0) i = V.hash p.2 := fun i p hp => by
      show (es[i]?.map (·.1)).getD 0 = _
      rw [R.at hp]
      rfl
    rcases spec with ⟨q, i, hq, hi, hh, hno, hpr⟩ | ⟨hno, hpr⟩
    · have hpr' : t.probe (fun i => (es[i]?.map (·.1)).getD 0) (V.hash k) (stand.getD (t.probeStart (V.hash k))) = some (.candidate (way t.mask (V.hash k) (c + q)) i (prb t.mask (V.hash k) (c + (q + 1)))) := by
        rw [hst, ← e1, ← prb_add]
        exact hpr
      rw [hpr']
      dsimp only
      rw [e1] at hi
      have hil : i < L.length := by
        have h1 : i < t.place.toList.length := (List.getElem?_eq_some_iff.mp hi).1
        have h2 := R.tab.sz
        rw [List.length_map] at h2
        rw [Array.length_toList] at h1
        omega
      obtain ⟨p, hp⟩ : ∃ p, L[i]? = some p := ⟨_, List.getElem?_eq_getElem hil⟩
      have hmem : p ∈ L := List.mem_of_getElem? hp
      have rest : wpAny (model P w) A (searchRest a (.ref x) (V.hash k) true f es t (way t.mask (V.hash k) (c + q)) i (prb t.mask (V.hash k) (c + (q + 1)))) Q E s := by
        unfold searchRest
        rw [R.at hp]
        dsimp only
        refine wpAny_bind (wpAny_holding (V.eqBool hu (ok p hmem) (R.el p hmem) hx ?_))
        refine wpAny_bind (wpAny_setState_of ho hdt R.fits ?_)
        dsimp only
        by_cases hkk : p.2 = k
        · exact wp_if_pos (by simp [hkk]) (wpAny_pure (hin (List.mem_map.mpr ⟨p, hmem, hkk⟩)))
        · refine wp_if_neg (by simp [hkk]) ?_
          try refine wpAny_bind (wpAny_pure ?_)
          rw [sameMem]
          dsimp only
          have hsl : t.slot (way t.mask (V.hash k) (c + q)) = .live i := slot_live R.tab.ris hi
          simp only [if_true, hsl, R.at hp]
          refine wpAny_bind (wpAny_isSame_ref_self (wpAny_bind (wpAny_pure ?_)))
          simp only [if_true]
          refine wp_if_neg (by simp [hkk]) ?_
          refine search_fromX R hd hx ok hu hJf hJ hJb hin hout f (c + (q + 1)) _ rfl (by omega) (by omega) fun i0 p0 h0 hk0 => ?_
          obtain ⟨c', a1, a2, a3⟩ := hre i0 p0 h0 hk0
          refine ⟨c', ?_, a2, a3⟩
          rcases Nat.lt_trichotomy c' (c + q) with z | z | z
          · exact absurd ((hashAt i0 p0 h0).trans (congrArg V.hash hk0)) (hno (c' - c) i0 (by omega) (by rw [e1, show c + (c' - c) = c' by omega]; exact a3))
          · subst z
            have s0 := slot_live R.tab.ris a3
            rw [hsl] at s0
            injection s0 with s0
            rw [← s0, hp] at h0
            exact absurd ((congrArg Prod.snd (Option.some.inj h0)).trans hk0) hkk
          · omega
      by_cases hl : t.led = true
      · refine wp_if_neg (by simp [hl]) ?_
        try refine wpAny_bind (wpAny_pure ?_)
        exact rest
      · refine wp_if_pos (by simp [hl]) (wpAny_bind (seenX hd hx (fun y hy => ?_) ?_))
        · obtain ⟨e, he, ee⟩ := List.mem_map.mp hy
          have he1 : e ∈ es ∧ e.1 = V.hash k := by simpa using he
          have he2 : e ∈ es.toList := by simpa using he1.1
          rw [R.rows] at he2
          obtain ⟨p2, hp2, e2⟩ := List.mem_map.mp he2
          exact ⟨p2.2, p2.1, by rw [← ee, ← e2], R.el p2 hp2⟩
        · refine wp_if_neg (by decide) ?_
          try refine wpAny_bind (wpAny_pure ?_)
          exact rest
    · have hpr' : t.probe (fun i => (es[i]?.map (·.1)).getD 0) (V.hash k) (stand.getD (t.probeStart (V.hash k))) = some (.empty (way t.mask (V.hash k) J) none) := by
        have e2 : way t.mask (V.hash k) J = (nth t.mask (prb t.mask (V.hash k) c) (J - c)).j := by rw [e1, show c + (J - c) = J by omega]
        rw [hst, e2]
        exact hpr
      rw [hpr']
      dsimp only
      refine wpAny_pure (hout fun hm => ?_)
      obtain ⟨p0, h0, hk0⟩ := List.mem_map.mp hm
      obtain ⟨i0, hi0, e0⟩ := List.getElem_of_mem h0
      have h00 : L[i0]? = some p0 := by rw [List.getElem?_eq_getElem hi0, e0]
      obtain ⟨c', a1, a2, a3⟩ := hre i0 p0 h00 hk0
      exact hno (c' - c) i0 (by omega) (by rw [e1, show c + (c' - c) = c' by omega]; exact a3) ((hashAt i0 p0 h00).trans (congrArg V.hash hk0))
theorem searchX (R : SetX V s.heap a L es ep t) (hd : V.dep ≤ 8) {x : Addr} {k : K} (hx : V.is s.heap k (.ref x)) (ok : ∀ p ∈ L, V.ok p.2 k) (hu : A.units + V.need < cLine) {Q : SetFound → Shared → Prop}
    (hin : k ∈ L.map (·.2) → Q (.there none) s)
    (hout : ∀ J, k ∉ L.map (·.2) → way t.mask (V.hash k) J ∉ t.place.toList → (∀ c, c < J → way t.mask (V.hash k) c ∈ t.place.toList) → Q (.free (way t.mask (V.hash k) J) false) s) :
    wpAny (model P w) A (setSearch a (.ref x) (V.hash k) true) Q E s := by
  have hf := R.few
  have h7 := R.m7
  obtain ⟨J, hJf, hJ, hJb⟩ := R.tab.first (by rw [List.length_map]; omega) (V.hash k)
  have hbig : J < 100000 := by
    have : 10 * SetTable.turns t.mask ≤ 1420 := by
      unfold SetTable.turns
      omega
    omega
  unfold setSearch
  refine search_fromX R hd hx ok hu hJf hJ hJb hin (fun hn => hout J hn hJ hJb) 100000 0 none rfl (Nat.zero_le _) (by omega) fun i p hp hk => ?_
  have hi : (L.map fun p => V.hash p.2)[i]? = some (V.hash k) := by rw [List.getElem?_map, hp, ← hk]; rfl
  have hil : i < t.place.toList.length := by
    have h1 : i < L.length := (List.getElem?_eq_some_iff.mp hp).1
    have h2 := R.tab.sz
    rw [List.length_map] at h2
    rw [Array.length_toList]
    omega
  have hj := List.getElem?_eq_getElem hil
  obtain ⟨c, hc, e⟩ := R.tab.before hJ hi hj
  exact ⟨c, Nat.zero_le _, hc, by rw [hj, e]⟩
end
end L2
/-! One put into a set of objects of a kind. -/
namespace L2
open PySem PySem.Spec PyProof.Rows
section
variable {P : Program} {w : World} {K : Type} [DecidableEq K] {V : HKd P w K}
variable {A : Around} {E : Value → Shared → Prop} {s : Shared} {a : Addr} {L : List (Addr × K)} {es : Array (Int × Value)} {ep : Nat} {t : SetTable}
theorem stayX {h h' : Heap} {a : Addr} {o : Obj} {es : Array (Int × Value)} {ep : Nat} {t : SetTable} (ho : h.get? a = some o) (hex : o.ExactSet) (hs : Heap.SameBut a h h') : TupStay h h' := fun b u e c => by
  have ne : b ≠ a := by
    rintro rfl
    obtain rfl : u = o := Option.some.inj (e.symm.trans ho)
    have := hex.1
    rw [c] at this
    exact absurd this (by decide)
  exact (hs.2 b ne).trans e
theorem tabOk_plain {t : SetTable} {hs : List Int} (T : TabOk t hs) (b : Bool) : TabOk { t with plain := b } hs := ⟨T.ris, T.dm, T.sz, T.mok, T.bd, T.reach⟩
theorem addX (R : SetX V s.heap a L es ep t) (hd : V.dep ≤ 8) {x : Addr} {k : K} (hx : V.is s.heap k (.ref x)) (ok : ∀ p ∈ L, V.ok p.2 k) (hu : A.units + V.need < cLine) (hfew : L.length < 4) {Q : Bool → Shared → Prop}
    (hQ : ∀ b h' L' es' ep' t', Heap.SameBut a s.heap h' → TupStay s.heap h' → SetX V h' a L' es' ep' t' → (k ∈ L.map (·.2) → L' = L) → (k ∉ L.map (·.2) → L'.Perm ((x, k) :: L)) → Q b { s with heap := h' }) :
    wpAny (model P w) A (setAddHashed a (.ref x) (V.hash k)) Q E s := by
  obtain ⟨o, ho, hex, hdt⟩ := R.ob
  have hsl := R.size
  unfold setAddHashed
  refine wpAny_holding ?_
  rw [show (100000 : Nat) = 99999 + 1 from rfl, setAddHashedIn_succ]
  refine wpAny_bind (wpAny_setState_of ho hdt R.fits ?_)
  dsimp only
  refine wp_if_neg (by simp [byScan, Value.scannable]) ?_
  try refine wpAny_bind (wpAny_pure ?_)
  refine wpAny_bind (searchX R hd hx ok hu (fun hm => ?_) fun J hm hJ hb => ?_)
  · dsimp only
    exact wpAny_pure (hQ false s.heap L es ep t (Heap.SameBut.refl a s.heap) (fun _ _ e _ => e) R (fun _ => rfl) fun z => absurd hm z)
  · dsimp only
    refine wpAny_bind (wpAny_setState_of ho hdt R.fits ?_)
    dsimp only
    obtain ⟨q1, q2, q3, q4, q5, q6, q7, q8, q9⟩ := R.tab.put hJ hb
    generalize hpt : t.put (way t.mask (V.hash k) J) = pt at q1 q3 q4 q5 q6 q7 q8 q9 ⊢
    obtain ⟨t1, p⟩ := pt
    dsimp only at q1 q3 q4 q5 q6 q7 q8 q9 ⊢
    subst q1
    have hin : (SetTable.insertAt es (SetTable.below t.place (way t.mask (V.hash k) J)) (V.hash k, Value.ref x)).toList = entX V (L.take (SetTable.below t.place (way t.mask (V.hash k) J)) ++ (x, k) :: L.drop (SetTable.below t.place (way t.mask (V.hash k) J))) := by
      rw [SetTable.toList_insertAt, R.rows]
      simp [entX, List.map_take, List.map_drop]
    generalize hpp : SetTable.below t.place (way t.mask (V.hash k) J) = p at q2 q3 hin ⊢
    have pm := put_perm L p (x, k)
    have hlen : (L.take p ++ (x, k) :: L.drop p).length = L.length + 1 := pm.length_eq
    have hhs : (L.take p ++ (x, k) :: L.drop p).map (fun p => V.hash p.2) = (L.map fun p => V.hash p.2).take p ++ V.hash k :: (L.map fun p => V.hash p.2).drop p := by
      rw [List.map_append, List.map_cons, List.map_take, List.map_drop]
    rw [← hhs] at q3
    have nd1 : ((L.take p ++ (x, k) :: L.drop p).map (·.2)).Nodup := by
      refine (pm.map (·.2)).nodup_iff.mpr ?_
      rw [List.map_cons]
      exact List.nodup_cons.mpr ⟨hm, R.nd⟩
    have hes : (SetTable.insertAt es p (V.hash k, Value.ref x)).size = L.length + 1 := by
      have h := congrArg List.length hin
      rw [Array.length_toList] at h
      rw [h]
      simp only [entX, List.length_map]
      exact hlen
    generalize SetTable.insertAt es p (V.hash k, Value.ref x) = es1 at hin hes ⊢
    generalize L.take p ++ (x, k) :: L.drop p = L1 at pm hlen q3 nd1 hin
    have h7 : t1.mask = 7 := q4.trans R.m7
    have led1 : w.params.followText "set-order" = true ∨ t1.led = true := by rw [q5]; exact R.led
    -- whatever the table says of its members
    have fin : ∀ t2 : SetTable, t2.tooFull = false → TabOk t2 (L1.map fun p => V.hash p.2) → t2.mask = 7 → (w.params.followText "set-order" = true ∨ t2.led = true) →
        wpAny (model P w) A (do
          storeSet a es1 t2
          if (!false && t2.tooFull) = true then setRelay a (SetTable.grown (es.size + 1))
          return true) Q E s := fun t2 f2 T2 m2 l2 => by
      refine wpAny_bind (wpAny_storeSet_of ho hdt ?_ (by rw [hes, sizeLine_eq]; omega))
      have sb : Heap.SameBut a s.heap (s.heap.update a (Obj.putSet es1 t2)) := Heap.SameBut.update ..
      have ho1 := store_at (es' := es1) (t' := t2) ho hdt
      generalize s.heap.update a (Obj.putSet es1 t2) = h1 at sb ho1 ⊢
      have ts : TupStay s.heap h1 := stayX (es := es) (ep := ep) (t := t) ho hex sb
      first
        | refine wp_if_neg (by simp [f2]) ?_
        | (refine wpAny_bind ?_; refine wp_if_neg (by simp [f2]) ?_; refine wpAny_pure ?_)
      refine wpAny_pure (hQ true h1 L1 es1 (ep + 1) t2 sb ts ⟨⟨_, ho1, ⟨hex.1, hex.2.1, hex.2.2⟩, rfl⟩, hin, T2, m2, nd1, fun p hp => ?_, l2, by omega⟩ (fun z => absurd z hm) fun _ => pm)
      rcases List.mem_cons.mp (pm.mem_iff.mp hp) with e | hp
      · rw [e]; exact V.keep hx ts
      · exact V.keep (R.el p hp) ts
    have full1 : t1.tooFull = false := by
      unfold SetTable.tooFull
      rw [decide_eq_false_iff_not, q9, List.length_map, h7]
      omega
    have go : ∀ b : Bool, wpAny (model P w) A (do
          storeSet a es1 (if b = true then t1 else { t1 with plain := false })
          if (!false && (if b = true then t1 else { t1 with plain := false }).tooFull) = true then setRelay a (SetTable.grown (es.size + 1))
          return true) Q E s := fun b => by
      cases b
      · exact fin { t1 with plain := false } full1 (tabOk_plain q3 false) h7 led1
      · exact fin t1 full1 q3 h7 led1
    by_cases hp : t1.plain = true
    · first
        | (refine wpAny_bind ?_; refine wp_if_pos hp ?_; exact V.hashBy 8 hd hx go)
        | exact wp_if_pos hp (wpAny_bind (V.hashBy 8 hd hx go))
    · first
        | (refine wpAny_bind ?_; refine wp_if_neg hp ?_; exact wpAny_pure (go true))
        | exact wp_if_neg hp (wpAny_bind (wpAny_pure (go true)))
end
end L2
set_option maxHeartbeats 6400000
/-! set(a list of at most four objects of a kind) -/
namespace L2
open PySem PySem.Spec PyProof.Rows
/-- L holds what the first i of ks are, once each -/
structure GotX {K : Type} (ks : List (Addr × K)) (i : Nat) (L : List (Addr × K)) : Prop where
  sub : ∀ p ∈ L, p ∈ ks.take i
  all : ∀ p ∈ ks.take i, p.2 ∈ L.map (·.2)
  len : L.length ≤ i
theorem GotX.zero {K : Type} (ks : List (Addr × K)) : GotX ks 0 [] := ⟨fun p h => (by cases h), fun p h => (by simp at h), Nat.le_refl _⟩
theorem GotX.next {K : Type} {ks L L' : List (Addr × K)} {i : Nat} {x : Addr × K} (g : GotX ks i L) (h : ks[i]? = some x) (c1 : x.2 ∈ L.map (·.2) → L' = L) (c2 : x.2 ∉ L.map (·.2) → L'.Perm (x :: L)) : GotX ks (i + 1) L' := by
  have tk : ks.take (i + 1) = ks.take i ++ [x] := take_next h
  rcases Classical.em (x.2 ∈ L.map (·.2)) with c | c
  · rw [c1 c]
    refine ⟨fun p hp => by rw [tk]; exact List.mem_append_left _ (g.sub p hp), fun p hp => ?_, Nat.le_succ_of_le g.len⟩
    rw [tk] at hp
    rcases List.mem_append.mp hp with z | z
    · exact g.all p z
    · rw [List.mem_singleton.mp z]; exact c
  · have pm := c2 c
    refine ⟨fun p hp => ?_, fun p hp => ?_, by rw [pm.length_eq, List.length_cons]; exact Nat.succ_le_succ g.len⟩
    · rw [tk]
      rcases List.mem_cons.mp (pm.mem_iff.mp hp) with z | z
      · exact List.mem_append_right _ (List.mem_singleton.mpr z)
      · exact List.mem_append_left _ (g.sub p z)
    · rw [tk] at hp
      refine (pm.map (·.2)).mem_iff.mpr ?_
      rcases List.mem_append.mp hp with z | z
      · exact List.mem_cons_of_mem _ (g.all p z)
      · rw [List.mem_singleton.mp z]; exact List.mem_cons_self
section
variable {P : Program} {w : World} {K : Type} [DecidableEq K] {V : HKd P w K}
variable {A : Around} {E : Value → Shared → Prop} {s : Shared}
/-- a set as it is made -/
abbrev set0 (w : World) : Obj := { cls := .type "set", dict := none, data := .set #[] 0 (.fresh 0 0 (!w.params.followText "set-order")) }
theorem SetX.keep {h h' : Heap} {a : Addr} {L : List (Addr × K)} {es : Array (Int × Value)} {ep : Nat} {t : SetTable} (R : SetX V h a L es ep t) (ha : ∀ o, h.get? a = some o → h'.get? a = some o) (ht : TupStay h h') : SetX V h' a L es ep t := by
  obtain ⟨o, ho, r⟩ := R.ob
  exact ⟨⟨o, ha o ho, r⟩, R.rows, R.tab, R.m7, R.nd, fun p hp => V.keep (R.el p hp) ht, R.led, R.few⟩
theorem setX_new {h : Heap} {a : Addr} (ho : h.get? a = some (set0 w)) : SetX V h a [] #[] 0 (.fresh 0 0 (!w.params.followText "set-order")) where
  ob := ⟨_, ho, ⟨rfl, rfl, rfl⟩, rfl⟩
  rows := rfl
  tab := ⟨List.Pairwise.nil, rfl, rfl, .inl rfl, fun x hx => (by cases hx), fun i h j hi => (by simp at hi)⟩
  m7 := rfl
  nd := List.nodup_nil
  el := fun p hp => (by cases hp)
  led := by
    show _ ∨ (!w.params.followText "set-order") = true
    cases w.params.followText "set-order"
    · exact .inr rfl
    · exact .inl rfl
  few := Nat.zero_le _
theorem updateX {I : Addr} {fp wr : List Addr} {G : Array GenState → Array GenState → Prop} {n : Nat} {Pv : Nat → Value → Prop} {St : Nat → Shared → Prop} {R : Result → Shared → Prop}
    (W : WalksS P w A.in1 I fp wr G n Pv St) (S : Addr) (hSf : S ∉ fp) (ks : List (Addr × K)) (hn : n = ks.length) (hfew : ks.length ≤ 4) (hd : V.dep ≤ 8) (hval : ∀ i v, Pv i v → ∃ p, ks[i]? = some p ∧ v = .ref p.1)
    (h0 : Heap) (hk : ∀ p ∈ ks, V.is h0 p.2 (.ref p.1)) (ok : ∀ p ∈ ks, ∀ q ∈ ks, V.ok p.2 q.2) (hS0 : h0.get? S = none) (hw0 : ∀ b ∈ wr, h0.get? b = none) (hu : A.in1.units + V.need < cLine) :
    ∀ (k i : Nat) (s : Shared), n - i = k → i ≤ n → St i s → (∀ b o, h0.get? b = some o → s.heap.get? b = some o) → (∃ L es ep t, SetX V s.heap S L es ep t ∧ GotX ks i L) →
      (∀ s' L es ep t, Moved (S :: wr) G s s' → SetX V s'.heap S L es ep t → GotX ks n L → (∀ b o, h0.get? b = some o → s'.heap.get? b = some o) → R (.ok (.ret .none)) s') →
      codeAny (model P w) A (.builtin "set.update.loop" ⟨[.ref S, .ref I], []⟩) R s := by
  have hSw : S ∉ wr := fun h => hSf (W.sub _ h)
  have hsub : ∀ b ∈ wr, b ∈ S :: wr := fun b hb => List.mem_cons_of_mem _ hb
  have keepM : ∀ {s s' : Shared}, Moved wr G s s' → (∀ b o, h0.get? b = some o → s.heap.get? b = some o) → ∀ b o, h0.get? b = some o → s'.heap.get? b = some o := fun hm hkp b o e =>
    hm.heap b o (fun hb => by rw [hw0 b hb] at e; cases e) (hkp b o e)
  intro k
  induction k with
  | zero =>
    intro i s hk' hi hst hkp ⟨L, es, ep, t, hS, g⟩ hR
    obtain rfl : i = n := by omega
    refine codeAny_builtin F.entry_set_update_loop ?_
    rw [Around.under_plainId F.plain_set_update_loop _]
    show wpAny _ A.in1 (pyNext (.ref I) >>= _) _ _ s
    refine wpAny_bind (W.done s _ _ hst fun s' hm => ?_)
    show wpAny _ A.in1 (ret Value.none) _ _ s'
    have hkp' := keepM hm hkp
    obtain ⟨o, ho, r⟩ := hS.ob
    exact wpAny_pure (hR s' L es ep t (hm.mono hsub) ⟨⟨o, hm.heap S o hSw ho, r⟩, hS.rows, hS.tab, hS.m7, hS.nd, fun p hp => V.keep (hk p (List.mem_of_mem_take (g.sub p hp))) (TupStay.of hkp'), hS.led, hS.few⟩ g hkp')
  | succ k ih =>
    intro i s hk' hi hst hkp ⟨L, es, ep, t, hS, g⟩ hR
    have hlt : i < n := by omega
    refine codeAny_builtin F.entry_set_update_loop ?_
    rw [Around.under_plainId F.plain_set_update_loop _]
    show wpAny _ A.in1 (pyNext (.ref I) >>= _) _ _ s
    refine wpAny_bind (W.item i s _ _ hlt hst fun v s' hP hst' hm => ?_)
    obtain ⟨p, hp, rfl⟩ := hval i v hP
    have hkp' := keepM hm hkp
    have inK : ∀ q ∈ L, q ∈ ks := fun q hq => List.mem_of_mem_take (g.sub q hq)
    have hS' : SetX V s'.heap S L es ep t := by
      obtain ⟨o, ho, r⟩ := hS.ob
      exact ⟨⟨o, hm.heap S o hSw ho, r⟩, hS.rows, hS.tab, hS.m7, hS.nd, fun q hq => V.keep (hk q (inK q hq)) (TupStay.of hkp'), hS.led, hS.few⟩
    have hx : V.is s'.heap p.2 (.ref p.1) := V.keep (hk p (List.mem_of_getElem? hp)) (TupStay.of hkp')
    show wpAny _ A.in1 (holding [Value.ref p.1] (setAdd S (.ref p.1)) >>= _) _ _ s'
    refine wpAny_bind (wpAny_holding ?_)
    unfold setAdd
    refine wpAny_holding (wpAny_bind (V.pyHash hu hx ?_))
    refine addX (s := { s' with toks := s'.toks + V.draws p.2 }) hS' hd hx (fun q hq => ok q (inK q hq) p (List.mem_of_getElem? hp)) hu (by have := g.len; omega) fun b h' L' es' ep' t' hsb hts hS2 c1 c2 => ?_
    have g' : GotX ks (i + 1) L' := g.next hp c1 c2
    have hkp2 : ∀ b o, h0.get? b = some o → h'.get? b = some o := fun b o e => (hsb.2 b (fun z => by rw [z, hS0] at e; cases e)).trans (hkp' b o e)
    refine wpAny_pure ⟨plainId_quiet F.plain_set_update_loop _, ih (i + 1) _ (by omega) hlt (W.frame _ s' _ _ hst' (Nat.le_add_right _ _) fun b hb o e => ?_) hkp2 ⟨L', es', ep', t', hS2, g'⟩ fun s'' L2 es2 ep2 t2 hm'' hS'' g'' hkp'' => ?_⟩
    · rw [hsb.2 b (fun h : b = S => hSf (by rw [← h]; exact hb))]; exact e
    · refine hR s'' L2 es2 ep2 t2 (Moved.trans W.gtrans ((hm.mono hsub).then_heap (Nat.le_add_right _ _) fun b o hb e => ?_) hm'') hS'' g'' hkp''
      rw [hsb.2 b (fun h : b = S => hb (by rw [h]; exact List.mem_cons_self))]; exact e
/-- set(xs), xs a list -/
theorem call_setX {l : Addr} {items : Array Value} (ks : List (Addr × K)) {Q : Value → Shared → Prop} (hh : A.handled = none) (hl : s.heap.IsList l items) (hit : items.toList = ks.map fun p => Value.ref p.1)
    (hk : ∀ p ∈ ks, V.is s.heap p.2 (.ref p.1)) (ok : ∀ p ∈ ks, ∀ q ∈ ks, V.ok p.2 q.2) (hfew : ks.length ≤ 4) (hd : V.dep ≤ 8) (hu : A.units + V.need + 4 < cLine)
    (h : ∀ (h' : Heap) (tk : Nat) L es ep t, SetX V h' s.heap.objs.size L es ep t → GotX ks ks.length L → (∀ b o, s.heap.get? b = some o → h'.get? b = some o) → Q (.ref s.heap.objs.size) { s with heap := h', toks := tk }) :
    wpAny (model P w) A (call (.type "set") [.ref l]) Q E s := by
  have hisz : items.size = ks.length := by
    have q := congrArg List.length hit
    simpa using q
  obtain ⟨c, tl, hmro⟩ := F.called_set.mro
  have hmade := F.called_set.made
  have hsub := F.called_set.sub
  refine wpAny_call (codeAny_of_tree ?_)
  show wpAny _ _ (callAny (.type "set") _) _ _ _
  refine wpAny_pure ⟨Code.quiet_builtin _ (by decide +kernel), codeAny_builtin F.entry_type_call ?_⟩
  rw [Around.under_plain (weight_type_call_type "set" [.ref l] []) rfl]
  have h1 := F.called_set.notType
  have h2 := F.called_set.canCreate
  have hct := F.typeCall_set_1 (.ref l)
  repeat (any_goals (first | assumption | wp_step))
  refine codeAny_mono (code_set_led1 (.ref l) (E := E) (Q₁ := fun obj s₁ => obj = .ref s.heap.objs.size ∧ s₁ = { s with heap := s.heap.push (set0 w) }) ⟨rfl, rfl⟩) fun r s₁ hr => ?_
  rcases r with e | fl
  · exact hr
  cases fl
  case ret obj =>
    obtain ⟨rfl, rfl⟩ := hr
    have hS : (s.heap.push (set0 w)).get? s.heap.objs.size = some (set0 w) := Heap.get?_push_size _ rfl
    have hT : Shared.TypeIs { s with heap := s.heap.push (set0 w) } (.ref s.heap.objs.size) "set" := ⟨_, hS, rfl⟩
    have hli := F.called_set.init.lookup
    have hbi := F.called_set.init.bind (.ref s.heap.objs.size)
    repeat (any_goals (first | assumption | wp_step))
    refine codeAny_mono (codeAny_call_builtin (R := wants (fun r s₂ => r = .none ∧ ∃ h' tk L es ep t, s₂ = { s with heap := h', toks := tk } ∧ SetX V h' s.heap.objs.size L es ep t ∧ GotX ks ks.length L ∧
        (∀ b o, s.heap.get? b = some o → h'.get? b = some o)) E) F.called_set.init.plain F.entry_set_init (check_set_init_1 hT ?_)) fun r₂ s₂ hr₂ => ?_
    · obtain ⟨ol, hol, hcl, nl, hdl⟩ := hl
      obtain ⟨ocls, odict, odata, oslots⟩ := ol
      simp only at hcl hdl
      subst hcl; subst hdl
      have hl1' := Heap.get?_push_of_some (set0 w) hol
      have hsls := F.sub_list_set
      have hslf := F.sub_list_frozenset
      have hne : (Value.type "list" == Value.type "dict") = false := by decide
      have hl1 : (s.heap.push (set0 w)).IsList l items := ⟨_, hl1', rfl, nl, rfl⟩
      unfold Builtin.«set.__init__» noKeywords Builtin.Frozenset.updateFrom
      generalize hPI : pyIter = PI
      wp_walk
      subst hPI
      refine wpAny_pyIter_list hl1 ?_
      refine wpAny_bind (wpAny_runValue ?_)
      have hlS : l < s.heap.objs.size := Heap.lt_size hol
      have hh3 : A.in1.in1.in1.handled = none := by simp [hh]
      have hneI : l ≠ (s.heap.push (set0 w)).objs.size := by
        rw [Heap.size_push]; exact Nat.ne_of_lt (Nat.lt_succ_of_lt hlS)
      have hSf : s.heap.objs.size ∉ [(s.heap.push (set0 w)).objs.size, l] := by
        rw [Heap.size_push]; simp only [List.mem_cons, List.mem_singleton, List.not_mem_nil, or_false, not_or]
        exact ⟨Nat.ne_of_lt (Nat.lt_succ_self _), Nat.ne_of_gt hlS⟩
      have hval : ∀ (i : Nat) (v : Value), items[i]? = some v → ∃ p, ks[i]? = some p ∧ v = .ref p.1 := fun i v hv => by
        have q : items.toList[i]? = some v := by rw [Array.getElem?_toList]; exact hv
        rw [hit, List.getElem?_map] at q
        cases hq : ks[i]? with
        | none => rw [hq] at q; cases q
        | some p =>
          rw [hq] at q
          exact ⟨p, rfl, (Option.some.inj q).symm⟩
      have none_of : ∀ b, s.heap.objs.size ≤ b → s.heap.get? b = none := fun b hb => by
        cases q : s.heap.get? b with
        | none => rfl
        | some o => exact absurd (Nat.lt_of_lt_of_le (Heap.lt_size q) hb) (Nat.lt_irrefl _)
      refine updateX (V := V) ((Walks.list hh3 _ l hneI items).toS) s.heap.objs.size
        hSf ks hisz hfew hd hval s.heap hk ok (none_of _ (Nat.le_refl _)) (fun b hb => none_of b (by
          rw [List.mem_singleton.mp hb, Heap.size_push]
          exact Nat.le_succ _)) (by simp only [Around.in1_units]; omega) (items.size - 0) 0 _ (by omega) (Nat.zero_le _)
        ⟨⟨_, Heap.get?_push_size _ rfl, rfl, rfl⟩, (hl1.push _)⟩ (fun b o e => Heap.get?_push_of_some _ (Heap.get?_push_of_some _ e)) ?hS0 ?hR
      case hS0 => exact ⟨[], #[], 0, _, setX_new (Heap.get?_push_of_some _ hS), GotX.zero ks⟩
      case hR =>
        intro s' L es ep t hm hS' g' hkp
        obtain ⟨h', g2, d', tk', os'⟩ := s'
        have eg : g2 = s.gens := hm.gens
        have ed : d' = s.drawn := hm.drawn
        have eo : os' = s.os := hm.os
        subst eg; subst ed; subst eo
        show wpAny _ _ _ _ _ _
        refine wpAny_pure ?_
        show wpAny _ _ (ret Value.none) _ _ _
        rw [hisz] at g'
        exact wpAny_pure ⟨rfl, h', tk', L, es, ep, t, rfl, hS', g', hkp⟩
    · rcases r₂ with e | fl₂
      · exact hr₂
      cases fl₂
      case ret r =>
        obtain ⟨rfl, h', tk, L, es, ep, t, rfl, hS', g', hk'⟩ := hr₂
        repeat (any_goals (first | assumption | wp_step))
        exact h _ _ _ _ _ _ hS' g' hk'
      all_goals exact hr₂.elim
  all_goals exact hr.elim
end
end L2
set_option maxHeartbeats 1000000
/-! sorted(a set of objects of a kind) -/
namespace L2
open PySem PySem.Spec PyProof.Rows
section
variable {P : Program} {w : World} {K : Type} [DecidableEq K] {V : HKd P w K}
variable {A : Around} {E : Value → Shared → Prop} {s : Shared} {a : Addr} {L : List (Addr × K)} {es : Array (Int × Value)} {ep : Nat} {t : SetTable}
theorem each_refs {L1 : List (Addr × K)} : PySem.W.EachIs (fun (v : Value) (p : Addr × K) => v = .ref p.1) (L1.map fun p => Value.ref p.1) L1 := by
  induction L1 with
  | nil => exact .nil
  | cons p l ih => exact .cons rfl ih
theorem each_on {α β : Type} {R R' : α → β → Prop} : ∀ {as : List α} {bs : List β}, PySem.W.EachIs R as bs → (∀ a b, b ∈ bs → R a b → R' a b) → PySem.W.EachIs R' as bs
  | _, _, .nil, _ => .nil
  | _, _, .cons h t, f => .cons (f _ _ List.mem_cons_self h) (each_on t fun a b hb => f a b (List.mem_cons_of_mem _ hb))
/-- the values are the addresses of members, in some order -/
theorem order_of : ∀ vs : List Value, (∀ v ∈ vs, ∃ q ∈ L, v = Value.ref q.1) → ∃ L1 : List (Addr × K), vs = L1.map (fun q => Value.ref q.1) ∧ ∀ q ∈ L1, q ∈ L
  | [], _ => ⟨[], rfl, fun q hq => (by cases hq)⟩
  | v :: vs, hv => by
    obtain ⟨q, hq, e⟩ := hv v List.mem_cons_self
    obtain ⟨L1, e1, hs⟩ := order_of vs fun u hu => hv u (List.mem_cons_of_mem _ hu)
    exact ⟨q :: L1, by rw [List.map_cons, e, e1], fun r hr => by
      rcases List.mem_cons.mp hr with z | z
      · rw [z]; exact hq
      · exact hs r z⟩
theorem sort_rows {l : Addr} {vs : List Value} {L1 : List (Addr × K)} {n : Nat} (toD : K → PyData) {Q : Value → Shared → Prop} (ho : s.heap.get? l = some (seqObj "list" vs.toArray n)) (hl : vs.length ≤ sizeLine)
    (er : PySem.W.EachIs (fun (v : Value) (p : Addr × K) => v = .ref p.1) vs L1)
    (rds : ∀ h' : Heap, (∀ b o, b ≠ l → s.heap.get? b = some o → h'.get? b = some o) → PySem.W.EachIs (fun (v : Value) (q : Addr × K) => ∃ as, Reads h' v (toD q.2) as) vs L1)
    (hal : PySem.W.AllAlike (L1.map fun q => toD q.2)) (hsk : PySem.W.Sortable (L1.map fun q => toD q.2)) (hu : ∀ d, d ∈ (L1.map fun q => toD q.2) → A.in1.units + d.depth < cLine)
    (h : ∀ out : Array Value, PySem.W.EachIs (fun (v : Value) (p : Addr × K) => v = .ref p.1) out.toList (L1.mergeSort (PySem.W.dataLe false fun q => toD q.2)) → Q .none { s with heap := sortedHeap s.heap l vs out }) :
    wpAny (model P w) A (call (.builtin "list.sort") [.ref l]) Q E s := by
  have rd' := rds (PySem.W.sortingHeap s.heap l vs) fun b o hb e => PySem.W.sortingHeap_old hb e
  have S : PySem.W.SortsAt P w A.in1 { s with heap := PySem.W.sortingHeap s.heap l vs } (PySem.W.dataKind (PySem.W.sortingHeap s.heap l vs) (L1.map fun q => toD q.2)) vs :=
    PySem.W.SortsAt.data (s := { s with heap := PySem.W.sortingHeap s.heap l vs }) (PySem.W.each_map (R := fun v d => ∃ as, Reads (PySem.W.sortingHeap s.heap l vs) v d as) (fun q : Addr × K => toD q.2) rd') hal hsk hu
  have so := PySem.W.sortVals_data (R := fun (v : Value) (q : Addr × K) => v = .ref q.1) (enc := fun q : Addr × K => toD q.2) false er rd' hal
  refine wpAny_call_entry slot_list_sort ⟨_, ho, rfl⟩ entry_list_sort (PySem.W.list_sort_vals ho S hl ⟨_, rfl, ?_⟩) (args_list_sort _)
  exact h _ (by rw [List.toList_toArray]; exact so)
theorem sortedX (R : SetX V s.heap a L es ep t) (hh : A.handled = none) (toD : K → PyData) (rd : ∀ {h : Heap} {k : K} {v : Value}, V.is h k v → ∃ as, Reads h v (toD k) as)
    (hal : ∀ p ∈ L, ∀ q ∈ L, PySem.W.alike (toD p.2) (toD q.2) = true) (hsk : ∀ p ∈ L, ∃ x r, toD p.2 = .tuple (x :: r)) (hu : ∀ p ∈ L, A.units + 4 + (toD p.2).depth < cLine) {Q : Value → Shared → Prop}
    (hQ : ∀ s' p (out : Array Value) (c : Nat) (L1 : List (Addr × K)), (∀ b o, s.heap.get? b = some o → s'.heap.get? b = some o) → s'.gens = s.gens → s'.os = s.os → s.heap.objs.size ≤ p → L1.Perm L →
      s'.heap.get? p = some (seqObj "list" out c) → out.toList = (L1.mergeSort (PySem.W.dataLe false fun q => toD q.2)).map (fun q => Value.ref q.1) → Q (.ref p) s') :
    wpAny (model P w) A (call (.builtin "sorted") [.ref a]) Q E s := by
  obtain ⟨o, ho, hex, hd⟩ := R.ob
  have hsz := R.size
  have hfew := R.few
  refine Calls.call_function_entry kind_sorted plain_sorted entry_sorted (args_sorted1 _) ?_
  unfold Builtin.«sorted»
  refine wpAny_bind (m := checkCount "sorted" 1 1 _) (wpAny_pure ?_)
  refine wpAny_bind (collect_set (A := A.in1) hh ⟨o, ho, hex.1, hd⟩ R.fits (by unfold scanBound; omega) R.tab.ris R.led fun s1 vs k1 hz g1 o1 pm => ?_)
  have hes : es.toList.map (·.2) = L.map fun q => Value.ref q.1 := by
    rw [R.rows, entX, List.map_map]
    rfl
  rw [hes] at pm
  obtain ⟨L1, e1, hs1⟩ := order_of (L := L) vs fun v hv => by
    obtain ⟨q, hq, e⟩ := List.mem_map.mp (pm.mem_iff.mp hv)
    exact ⟨q, hq, e.symm⟩
  subst e1
  have one : ∀ q ∈ L, ∀ r ∈ L, q.1 = r.1 → q = r := fun q hq r hr e => by
    have a1 := R.el q hq
    have a2 := R.el r hr
    rw [e] at a1
    exact Prod.ext e (V.inj a1 a2)
  have pL : L1.Perm L := by
    have nL : L.Nodup := nodup_of_map R.nd
    have nref : (L.map fun q => Value.ref q.1).Nodup := by
      refine List.pairwise_map.mpr (List.Pairwise.imp_of_mem (fun {q r} hq hr hne e => ?_) nL)
      injection e with e
      exact hne (one q hq r hr e)
    have n1 : L1.Nodup := nodup_of_map (pm.nodup_iff.mpr nref)
    refine (List.perm_ext_iff_of_nodup n1 nL).mpr fun q => ⟨hs1 q, fun hq => ?_⟩
    obtain ⟨r, hr, e⟩ := List.mem_map.mp (pm.mem_iff.mpr (List.mem_map.mpr ⟨q, hq, rfl⟩))
    injection e with e
    rw [← one r (hs1 r hr) q hq e]
    exact hr
  have hl1 : L1.length ≤ 4 := by rw [pL.length_eq]; exact hfew
  refine wpAny_bind (wpAny_newList ?_ (by rw [List.length_map, sizeLine_eq]; omega))
  have hoL : (s1.heap.push (seqObj "list" (L1.map fun q => Value.ref q.1).toArray 0)).get? s1.heap.objs.size = some (seqObj "list" (L1.map fun q => Value.ref q.1).toArray 0) := Heap.get?_push_size _ rfl
  have alL : PySem.W.AllAlike (L1.map fun q => toD q.2) := by
    intro d hd d' hd'
    obtain ⟨p, hp, rfl⟩ := List.mem_map.mp hd
    obtain ⟨q, hq, rfl⟩ := List.mem_map.mp hd'
    exact hal p (hs1 p hp) q (hs1 q hq)
  -- the rows read as data, while the list is sorted
  have rds : ∀ h' : Heap, TupStay s.heap h' → PySem.W.EachIs (fun (v : Value) (q : Addr × K) => ∃ as, Reads h' v (toD q.2) as) (L1.map fun q => Value.ref q.1) L1 := fun h' ts => each_on each_refs fun v q hq e => by
    subst e
    exact rd (V.keep (R.el q (hs1 q hq)) ts)
  have hoL2 := hoL
  generalize hvs : (L1.map fun q => Value.ref q.1) = vs at hoL2 pm ⊢
  have er : PySem.W.EachIs (fun (v : Value) (p : Addr × K) => v = .ref p.1) vs L1 := by rw [← hvs]; exact each_refs
  have hvl : vs.length ≤ sizeLine := by rw [← hvs, List.length_map, sizeLine_eq]; omega
  refine wpAny_bind (wpAny_holding (sort_rows (s := { s1 with heap := s1.heap.push (seqObj "list" vs.toArray 0) }) toD hoL2 hvl er (fun h' k => ?_) alL (.inl fun d hd => ?_) (fun d hd => ?_) fun out eo' => ?_))
  · have ts : TupStay s.heap h' := fun b u e c => by
      have q := k1 b u e
      exact k b u (Nat.ne_of_lt (Heap.lt_size q)) (Heap.get?_push_of_some _ q)
    rw [← hvs]
    exact rds h' ts
  · obtain ⟨p, hp, rfl⟩ := List.mem_map.mp hd
    exact hsk p (hs1 p hp)
  · obtain ⟨p, hp, rfl⟩ := List.mem_map.mp hd
    have := hu p (hs1 p hp)
    simp only [Around.in1_units]
    omega
  · obtain ⟨c, hc⟩ := sortedHeap_at (vs := vs) (out := out) hoL2
    have eo : ∀ {vs : List Value} {M : List (Addr × K)}, PySem.W.EachIs (fun (v : Value) (q : Addr × K) => v = .ref q.1) vs M → vs = M.map fun q => Value.ref q.1 := by
      intro vs M h
      induction h with
      | nil => rfl
      | cons h1 _ ih => rw [h1, ih]; rfl
    refine wpAny_pure ⟨_, rfl, hQ _ s1.heap.objs.size out c L1 (fun b u e => ?_) g1 o1 hz pL hc (eo eo')⟩
    have q := k1 b u e
    have hlt := Heap.lt_size q
    show (sortedHeap (s1.heap.push (seqObj "list" vs.toArray 0)) s1.heap.objs.size vs out).get? b = some u
    rw [sortedHeap_old (Nat.ne_of_lt hlt) (by rw [size_push']; exact Nat.lt_succ_of_lt hlt)]
    exact Heap.get?_push_of_some _ q
end
end L2
set_option maxHeartbeats 1000000
/-! Rows (low, high, own): the facts that the rules of sets ask of them. -/
namespace L2
open PySem PySem.Spec PyProof.Rows
abbrev TRow := Str × Str × List Str
def rowK (r : TRow) : List (Str ⊕ List Str) := [.inl r.1, .inl r.2.1, .inr r.2.2]
theorem rowK_inj {a b : TRow} (h : rowK a = rowK b) : a = b := by
  obtain ⟨a1, a2, a3⟩ := a
  obtain ⟨b1, b2, b3⟩ := b
  simp only [rowK, List.cons.injEq, Sum.inl.injEq, Sum.inr.injEq, and_true] at h
  obtain ⟨rfl, rfl, rfl⟩ := h
  rfl
def itemD : Str ⊕ List Str → PyData
  | .inl x => .str x
  | .inr ys => .tuple (ys.map .str)
def rowD (k : List (Str ⊕ List Str)) : PyData := .tuple (k.map itemD)
section
variable {P : Program} {w : World}
theorem row_ok (a b : TRow) : (rowHKd P w).ok (rowK a) (rowK b) := by
  intro p hp
  simp only [rowK, List.zip_cons_cons, List.zip_nil_right, List.mem_cons, List.not_mem_nil, or_false] at hp
  rcases hp with rfl | rfl | rfl
  · trivial
  · trivial
  · exact fun _ _ => trivial
theorem reads_strs {h : Heap} : ∀ {ys : List Str} {vs : List Value}, All2 (fun (x : Str) (v : Value) => Value.isStrOf x v = true) ys vs → ∃ as, ReadsAll h vs (ys.map .str) as
  | _, _, .nil => ⟨[], .nil⟩
  | _, _, .cons h1 r => by
    obtain ⟨t, rfl⟩ := Value.isStrOf_shape h1
    obtain ⟨as, h2⟩ := reads_strs r
    exact ⟨[] ++ as, .cons (.str _ t) h2⟩
theorem reads_item {h : Heap} {k : Str ⊕ List Str} {v : Value} (x : (itemHKd P w).is h k v) : ∃ as, Reads h v (itemD k) as := by
  cases k with
  | inl y =>
    obtain ⟨t, rfl⟩ := Value.isStrOf_shape x
    exact ⟨[], .str y t⟩
  | inr ys =>
    obtain ⟨a, rfl, o, items, n, ho, hc, hd, hi⟩ := x
    obtain ⟨as, r⟩ := reads_strs (h := h) hi
    exact ⟨as, .tuple ho hc hd r⟩
theorem reads_items {h : Heap} : ∀ {ks : List (Str ⊕ List Str)} {vs : List Value}, All2 ((itemHKd P w).is h) ks vs → ∃ as, ReadsAll h vs (ks.map itemD) as
  | _, _, .nil => ⟨[], .nil⟩
  | _, _, .cons h1 r => by
    obtain ⟨as, h2⟩ := reads_item h1
    obtain ⟨bs, h3⟩ := reads_items r
    exact ⟨as ++ bs, .cons h2 h3⟩
theorem reads_row {h : Heap} {k : List (Str ⊕ List Str)} {v : Value} (x : (rowHKd P w).is h k v) : ∃ as, Reads h v (rowD k) as := by
  obtain ⟨a, rfl, o, items, n, ho, hc, hd, hi⟩ := x
  obtain ⟨as, r⟩ := reads_items (P := P) (w := w) (h := h) hi
  exact ⟨as, .tuple ho hc hd r⟩
theorem alike_strs : ∀ xs ys : List Str, PySem.W.alikeAll (xs.map .str) (ys.map .str) = true
  | [], _ => by simp [PySem.W.alikeAll]
  | _ :: _, [] => by simp [PySem.W.alikeAll]
  | x :: xs, y :: ys => by simp [PySem.W.alikeAll, PySem.W.alike, alike_strs xs ys]
theorem alike_row (a b : TRow) : PySem.W.alike (rowD (rowK a)) (rowD (rowK b)) = true := by
  simp [rowD, rowK, itemD, PySem.W.alike, PySem.W.alikeAll, alike_strs]
theorem depth_strs : ∀ xs : List Str, PyData.depthAll (xs.map .str) = 0
  | [] => by simp [PyData.depthAll]
  | x :: xs => by simp [PyData.depthAll, PyData.depth, depth_strs xs]
theorem depth_row (a : TRow) : (rowD (rowK a)).depth ≤ 2 := by
  simp [rowD, rowK, itemD, PyData.depth, PyData.depthAll, depth_strs]
theorem need_row : (rowHKd P w).need = 6 := rfl
theorem dep_row : (rowHKd P w).dep = 2 := rfl
end
end L2
set_option maxHeartbeats 1000000
/-! Rows in order: the one list that sorted(set(rows)) gives. -/
namespace L2
open PySem PySem.Spec PyProof.Rows
abbrev keyR (r : TRow) : List (Int ⊕ List Nat) := PySem.W.keyToks (rowD (rowK r))
def leR (a b : TRow) : Bool := PySem.W.sortLe (listOrd itemOrd) false keyR a b
theorem leR_trans (a b c : TRow) (h : leR a b = true) (k : leR b c = true) : leR a c = true := (PySem.W.sortLe_total (listOrd itemOrd) false keyR).trans a b c h k
theorem toksAll_inj : ∀ (xs ys : List Str) (l m : List (Int ⊕ List Nat)), PySem.W.keyToksAll (xs.map .str) ++ l = PySem.W.keyToksAll (ys.map .str) ++ m → xs = ys ∧ l = m
  | [], [], l, m, h => by
    simp only [List.map_nil, PySem.W.keyToksAll, List.cons_append, List.nil_append, List.cons.injEq, true_and] at h
    exact ⟨rfl, h⟩
  | [], y :: ys, l, m, h => by simp [PySem.W.keyToksAll] at h
  | x :: xs, [], l, m, h => by simp [PySem.W.keyToksAll] at h
  | x :: xs, y :: ys, l, m, h => by
    simp only [List.map_cons, PySem.W.keyToksAll, PySem.W.keyToks, List.cons_append, List.nil_append, List.cons.injEq, Sum.inr.injEq, true_and] at h
    obtain ⟨h1, h2⟩ := h
    obtain ⟨h3, h4⟩ := toksAll_inj xs ys l m h2
    exact ⟨by rw [PySem.W.str_of_cps h1, h3], h4⟩
theorem keyR_inj {a b : TRow} (h : keyR a = keyR b) : a = b := by
  obtain ⟨a1, a2, a3⟩ := a
  obtain ⟨b1, b2, b3⟩ := b
  simp only [keyR, rowD, rowK, itemD, List.map_cons, List.map_nil, PySem.W.keyToks, PySem.W.keyToksAll, List.cons_append, List.nil_append, List.cons.injEq, Sum.inr.injEq, true_and] at h
  obtain ⟨h1, h2, h3⟩ := h
  obtain ⟨h4, _⟩ := toksAll_inj a3 b3 _ _ h3
  rw [PySem.W.str_of_cps h1, PySem.W.str_of_cps h2, h4]
theorem leR_anti (a b : TRow) (h : leR a b = true) (k : leR b a = true) : a = b := by
  unfold leR PySem.W.sortLe at h k
  simp only [cond_false, Bool.not_eq_true'] at h k
  exact keyR_inj ((listOrd itemOrd).total _ _ k h)
theorem leR_total (a b : TRow) (h : leR a b = false) : leR b a = true := by
  cases q : leR b a with
  | true => rfl
  | false =>
    unfold leR PySem.W.sortLe at h q
    simp only [cond_false, Bool.not_eq_false'] at h q
    have h1 : (listOrd itemOrd).blt (keyR b) (keyR a) = true := h
    have h2 : (listOrd itemOrd).blt (keyR a) (keyR b) = true := q
    have h3 := (listOrd itemOrd).trans _ _ _ h1 h2
    rw [(listOrd itemOrd).irrefl] at h3
    cases h3
/-! ### insertion -/
def insR (x : TRow) : List TRow → List TRow
  | [] => [x]
  | y :: r => if leR x y = true then x :: y :: r else y :: insR x r
def isR : List TRow → List TRow
  | [] => []
  | x :: r => insR x (isR r)
theorem insR_perm (x : TRow) : ∀ l, (insR x l).Perm (x :: l)
  | [] => .refl _
  | y :: r => by
    unfold insR
    split
    · exact .refl _
    · exact ((insR_perm x r).cons y).trans (.swap x y r)
theorem isR_perm : ∀ l, (isR l).Perm l
  | [] => .refl _
  | x :: r => (insR_perm x (isR r)).trans ((isR_perm r).cons x)
theorem insR_up (x : TRow) : ∀ l : List TRow, l.Pairwise (fun a b => leR a b = true) → (insR x l).Pairwise (fun a b => leR a b = true)
  | [], _ => List.pairwise_singleton _ _
  | y :: r, h => by
    obtain ⟨h1, h2⟩ := List.pairwise_cons.mp h
    unfold insR
    split
    · rename_i q
      exact List.pairwise_cons.mpr ⟨fun z hz => by
        rcases List.mem_cons.mp hz with rfl | hz
        · exact q
        · exact leR_trans _ _ _ q (h1 z hz), h⟩
    · rename_i q
      refine List.pairwise_cons.mpr ⟨fun z hz => ?_, insR_up x r h2⟩
      rcases List.mem_cons.mp ((insR_perm x r).mem_iff.mp hz) with rfl | hz
      · exact leR_total _ _ (by simpa using q)
      · exact h1 z hz
theorem isR_up : ∀ l : List TRow, (isR l).Pairwise (fun a b => leR a b = true)
  | [] => .nil
  | x :: r => insR_up x _ (isR_up r)
theorem isR_of {xs ys : List TRow} (p : ys.Perm xs) (q : ys.Pairwise (fun a b => leR a b = true)) : ys = isR xs :=
  List.Perm.eq_of_pairwise (fun a b _ _ h1 h2 => leR_anti a b h1 h2) q (isR_up xs) (p.trans (isR_perm xs).symm)
/-! ### each once -/
def uniqR : List TRow → List TRow
  | [] => []
  | a :: r => if a ∈ r then uniqR r else a :: uniqR r
theorem uniqR_mem {k : TRow} : ∀ {ns : List TRow}, k ∈ uniqR ns ↔ k ∈ ns
  | [] => Iff.rfl
  | a :: r => by
    have ih := uniqR_mem (k := k) (ns := r)
    unfold uniqR
    split
    · rename_i h
      rw [ih, List.mem_cons]
      exact ⟨.inr, fun z => z.elim (fun e => e ▸ h) id⟩
    · rw [List.mem_cons, List.mem_cons, ih]
theorem uniqR_nodup : ∀ {ns : List TRow}, (uniqR ns).Nodup
  | [] => .nil
  | a :: r => by
    have ih := uniqR_nodup (ns := r)
    unfold uniqR
    split
    · exact ih
    · rename_i h
      exact List.nodup_cons.mpr ⟨fun z => h (uniqR_mem.mp z), ih⟩
/-- sorted(set(rows)) -/
def setR (rows : List TRow) : List TRow := isR (uniqR rows)
/-- whatever order the set had -/
theorem setR_of {β : Type} (f : β → TRow) {rows : List TRow} {M : List β} (nd : (M.map f).Nodup) (m : ∀ k, k ∈ M.map f ↔ k ∈ rows) :
    (M.mergeSort (PySem.W.dataLe false fun q => rowD (rowK (f q)))).map f = setR rows := by
  refine isR_of ?_ ?_
  · refine (((List.mergeSort_perm M _).map f)).trans ((List.perm_ext_iff_of_nodup nd uniqR_nodup).mpr fun k => (m k).trans uniqR_mem.symm)
  · rw [List.pairwise_map]
    exact List.pairwise_mergeSort (le := PySem.W.dataLe false fun q => rowD (rowK (f q))) (fun a b c h k => leR_trans (f a) (f b) (f c) h k) (fun a b => by
      show (leR (f a) (f b) || leR (f b) (f a)) = true
      cases q : leR (f a) (f b) with
      | true => rfl
      | false => rw [leR_total _ _ q]; rfl) M
end L2
set_option maxHeartbeats 1000000
/-! set(list of rows), sorted(that set), as calls. -/
namespace L2
open PySem PySem.Spec PyProof.Rows
def SetX0 (P : Program) (w : World) (h : Heap) (a : Addr) (L : List (Addr × TRow)) : Prop := ∃ (es : Array (Int × Value)) (ep : Nat) (t : SetTable), (∃ o, h.get? a = some o ∧ o.ExactSet ∧ o.data = .set es ep t) ∧ es.toList = entX (rowHKd P w) (L.map fun p => (p.1, rowK p.2)) ∧
  TabOk t ((L.map fun p => (p.1, rowK p.2)).map fun p => (rowHKd P w).hash p.2) ∧ t.mask = 7 ∧ (w.params.followText "set-order" = true ∨ t.led = true)
def SetXO (P : Program) (w : World) (a : Addr) (L : List (Addr × TRow)) : HO := .ext fun h => SetX0 P w h a L
theorem setXO_new {P : Program} {w : World} {H : Hp} {h : Heap} {a : Addr} {L : List (Addr × TRow)} (R : SetX0 P w h a L) : ObjOk P w H h a (SetXO P w a L) := by
  have ⟨es, ep, t, ⟨o, ho, r⟩, q⟩ := R
  refine ⟨R, ⟨o, ho⟩, fun h1 h2 p k => ?_⟩
  have ⟨es', ep', t', ⟨o', ho', r'⟩, q'⟩ : SetX0 P w h1 a L := p
  exact ⟨es', ep', t', ⟨o', k o' ho', r'⟩, q'⟩
/-- the tuple (low, high, own) at a -/
def RowH (K : PySem.W.Frag) (H : Hp) (a : Addr) (r : TRow) : Prop := ∃ b, SqT K H a [V.str r.1, V.str r.2.1, V.ref b] ∧ SqT K H b (r.2.2.map V.str)
theorem all2_strs : ∀ {ys : List Str} {us : List Value}, Vals (ys.map V.str) us → All2 (fun (x : Str) (v : Value) => Value.isStrOf x v = true) ys us
  | [], _, .nil => .nil
  | y :: ys, _, .cons r t => by
    obtain ⟨tk, rfl⟩ := r
    exact .cons (by simp [Value.isStrOf]) (all2_strs t)
section
variable {X : Cx}
theorem Inv.rowIs {pins : List (Addr × Obj)} {σ : St} {H : Hp} {s : Shared} {a : Addr} {r : TRow} (I : Inv X pins σ H s) (h : RowH X.K H a r) : (rowHKd X.prog X.w).is s.heap (rowK r) (.ref a) := by
  obtain ⟨b, h1, h2⟩ := h
  obtain ⟨its, r1, ⟨o, ho, hc, n, hd⟩, _⟩ := I.tuple h1
  obtain ⟨its2, r2, ⟨o2, ho2, hc2, n2, hd2⟩, _⟩ := I.tuple h2
  refine ⟨a, rfl, o, its.toArray, n, ho, hc, hd, ?_⟩
  cases r1 with
  | cons x1 r1 =>
    cases r1 with
    | cons x2 r1 =>
      cases r1 with
      | cons x3 r1 =>
        cases r1
        obtain ⟨t1, rfl⟩ := x1
        obtain ⟨t2, rfl⟩ := x2
        cases x3
        refine .cons ?_ (.cons ?_ (.cons ?_ .nil))
        · show Value.isStrOf _ _ = true
          simp [Value.isStrOf]
        · show Value.isStrOf _ _ = true
          simp [Value.isStrOf]
        · exact ⟨b, rfl, o2, its2.toArray, n2, ho2, hc2, hd2, by
            rw [List.toList_toArray]
            exact all2_strs r2⟩
theorem refs_ofX : ∀ {ks : List (Addr × TRow)} {us : List Value}, Vals (ks.map fun p => V.ref p.1) us → us = ks.map fun p => Value.ref p.1
  | [], _, .nil => rfl
  | p :: ks, _, .cons r t => by
    cases r
    rw [refs_ofX t]
    rfl
theorem vals_refsX : ∀ (ks : List (Addr × TRow)), Vals (ks.map fun p => V.ref p.1) (ks.map fun p => Value.ref p.1)
  | [] => .nil
  | p :: ks => .cons rfl (vals_refsX ks)
abbrev kp (ks : List (Addr × TRow)) : List (Addr × List (Str ⊕ List Str)) := ks.map fun p => (p.1, rowK p.2)
/-- set(xs), xs a list of rows -/
def rSetRows (K : PySem.W.Frag) (P : Program) (w : World) : List V → Hp → VK → Prop := fun xs H Q => ∃ (l : Addr) (ks : List (Addr × TRow)), xs = [V.ref l] ∧ SqL K H l (ks.map fun p => V.ref p.1) ∧ (∀ p ∈ ks, RowH K H p.1 p.2) ∧ ks.length ≤ 4 ∧
  ∀ a L, H a = none → (∀ p ∈ L, p ∈ ks) → (∀ p ∈ ks, p.2 ∈ L.map (·.2)) → (L.map (·.2)).Nodup → L.length ≤ 4 → Q (.ref a) (upd H a (SetXO P w a L))
theorem unkp {ks : List (Addr × TRow)} : ∀ {L' : List (Addr × List (Str ⊕ List Str))}, (∀ p ∈ L', p ∈ kp ks) → ∃ L : List (Addr × TRow), L' = kp L ∧ ∀ p ∈ L, p ∈ ks
  | [], _ => ⟨[], rfl, fun p hp => (by cases hp)⟩
  | x :: L', h => by
    obtain ⟨p, hp, e⟩ := List.mem_map.mp (h x List.mem_cons_self)
    obtain ⟨L, e2, hs⟩ := unkp fun y hy => h y (List.mem_cons_of_mem _ hy)
    exact ⟨p :: L, by rw [e2, ← e]; rfl, fun q hq => by
      rcases List.mem_cons.mp hq with rfl | hq
      · exact hp
      · exact hs q hq⟩
theorem cr_setRows (hc : X.calm = true) (hu : X.A.units + 64 < cLine) : CallR X (.type "set") (rSetRows X.K X.prog X.w) := by
  intro pins s σ H xs us Q I r h
  obtain ⟨l, ks, rfl, hs, hk, hf, q⟩ := h
  rw [Vals.ref1 r]
  obtain ⟨its, rv, pl, hz⟩ := I.list hs
  refine call_setX (V := rowHKd X.prog X.w) (kp ks) (I.ok.hd hc) pl.isList (by rw [refs_ofX rv]; simp [kp]) (fun p hp => ?_) (fun p hp q hq => ?_) (by simpa [kp] using hf) (by rw [dep_row]; decide) (by rw [need_row]; omega) fun h' tk L' es ep t R g old => ?_
  · obtain ⟨z, hz, rfl⟩ := List.mem_map.mp hp
    exact I.rowIs (hk z hz)
  · obtain ⟨z, _, rfl⟩ := List.mem_map.mp hp
    obtain ⟨y, _, rfl⟩ := List.mem_map.mp hq
    exact row_ok z.2 y.2
  · obtain ⟨L, rfl, hsub⟩ := unkp (ks := ks) (L' := L') fun p hp => List.mem_of_mem_take (g.sub p hp)
    have n : H s.heap.objs.size = none := I.hok.fresh (Nat.le_refl _)
    have x0 : SetX0 X.prog X.w h' s.heap.objs.size L := ⟨es, ep, t, R.ob, R.rows, R.tab, R.m7, R.led⟩
    have nd : (L.map (·.2)).Nodup := by
      have h1 := R.nd
      rw [List.map_map] at h1
      exact nodup_of_map (f := rowK) (by rw [List.map_map]; exact h1)
    refine ⟨.ref _, _, I.laid (t' := tk) old (Nat.le_refl _) (setXO_new x0), rfl, q _ L n hsub (fun p hp => ?_) nd (by simpa using R.few)⟩
    have h2 := g.all (p.1, rowK p.2) (by rw [List.take_of_length_le (Nat.le_refl _)]; exact List.mem_map.mpr ⟨p, hp, rfl⟩)
    obtain ⟨z, hz, e⟩ := List.mem_map.mp h2
    obtain ⟨y, hy, rfl⟩ := List.mem_map.mp hz
    exact List.mem_map.mpr ⟨y, hy, rowK_inj e⟩
/-- sorted(that set) -/
def rSortedRows (K : PySem.W.Frag) (P : Program) (w : World) : List V → Hp → VK → Prop := fun vs H Q => ∃ (a : Addr) (L : List (Addr × TRow)), vs = [V.ref a] ∧ H a = some (SetXO P w a L) ∧ (∀ p ∈ L, RowH K H p.1 p.2) ∧ (L.map (·.2)).Nodup ∧ L.length ≤ 4 ∧
  ∀ (L1 : List (Addr × TRow)) (p : Addr), L1.Perm L → H p = none → Q (.ref p) (upd H p (.lst ((L1.mergeSort (PySem.W.dataLe false fun q => rowD (rowK q.2))).map fun q => V.ref q.1)))
theorem kp_sort (L1 : List (Addr × TRow)) : (kp L1).mergeSort (PySem.W.dataLe false fun q => rowD q.2) = kp (L1.mergeSort (PySem.W.dataLe false fun q => rowD (rowK q.2))) := by
  refine (List.map_mergeSort (f := fun p : Addr × TRow => (p.1, rowK p.2)) (r := PySem.W.dataLe false fun q => rowD (rowK q.2)) (s := PySem.W.dataLe false fun q => rowD q.2) (fun a _ b _ => rfl)).symm
theorem cr_sortedRows (hc : X.calm = true) (hu : X.A.units + 64 < cLine) : CallR X (.builtin "sorted") (rSortedRows X.K X.prog X.w) := by
  intro pins s σ H vs us Q I r h
  obtain ⟨a, L, rfl, ha, hk, nd, hf, q⟩ := h
  rw [Vals.ref1 r]
  obtain ⟨es, ep, t, ob, rows, tab, m7, led⟩ : SetX0 X.prog X.w s.heap a L := (I.hok a _ ha).1
  have R : SetX (rowHKd X.prog X.w) s.heap a (kp L) es ep t := ⟨ob, rows, tab, m7, by
    have : (kp L).map (·.2) = (L.map (·.2)).map rowK := by simp [kp]
    rw [this]
    exact List.pairwise_map.mpr (nd.imp fun ne e => ne (rowK_inj e)), fun p hp => by
    obtain ⟨z, hz, rfl⟩ := List.mem_map.mp hp
    exact I.rowIs (hk z hz), led, by simpa [kp] using hf⟩
  refine sortedX R (I.ok.hd hc) rowD (fun x => reads_row x) (fun p hp q hq => ?_) (fun p hp => ?_) (fun p hp => ?_) fun s' p out c L1' k g o hp pm hg eo => ?_
  · obtain ⟨z, _, rfl⟩ := List.mem_map.mp hp
    obtain ⟨y, _, rfl⟩ := List.mem_map.mp hq
    exact alike_row z.2 y.2
  · obtain ⟨z, _, rfl⟩ := List.mem_map.mp hp
    exact ⟨_, _, rfl⟩
  · obtain ⟨z, _, rfl⟩ := List.mem_map.mp hp
    have := depth_row z.2
    show X.A.units + 4 + (rowD (rowK z.2)).depth < cLine
    omega
  · obtain ⟨L1, rfl, hsub⟩ := unkp (ks := L) (L' := L1') fun q hq => pm.mem_iff.mp hq
    have p1 : L1.Perm L := by
      have inj : ∀ x y : Addr × TRow, (x.1, rowK x.2) = (y.1, rowK y.2) → x = y := fun x y e => by
        injection e with e1 e2
        exact Prod.ext e1 (rowK_inj e2)
      have n2 : L.Nodup := nodup_of_map nd
      have nk : (kp L).Nodup := List.pairwise_map.mpr (n2.imp fun ne e => ne (inj _ _ e))
      have n1 : L1.Nodup := nodup_of_map (f := fun p : Addr × TRow => (p.1, rowK p.2)) (pm.nodup_iff.mpr nk)
      refine (List.perm_ext_iff_of_nodup n1 n2).mpr fun z => ⟨hsub z, fun hz => ?_⟩
      obtain ⟨y, hy, e⟩ := List.mem_map.mp (pm.mem_iff.mpr (List.mem_map.mpr ⟨z, hz, rfl⟩))
      rw [← inj y z e]
      exact hy
    rw [kp_sort] at eo
    have eo' : out.toList = (L1.mergeSort (PySem.W.dataLe false fun q => rowD (rowK q.2))).map (fun q => Value.ref q.1) := by
      rw [eo]
      simp [kp]
    have hlen : ((L1.mergeSort (PySem.W.dataLe false fun q => rowD (rowK q.2))).map fun q => V.ref q.1).length ≤ sizeLine := by
      rw [List.length_map, List.length_mergeSort, p1.length_eq, sizeLine_eq]
      omega
    have hn : H p = none := I.hok.fresh hp
    have J : Inv X pins σ (upd H p (.lst ((L1.mergeSort (PySem.W.dataLe false fun q => rowD (rowK q.2))).map fun q => V.ref q.1))) { s with heap := s'.heap, gens := s'.gens, drawn := s'.drawn, toks := s'.toks } :=
      I.call (ch := []) (Un.laid k hp hn) (I.hok.laid k hp ⟨hlen, out.toList, c, by rw [eo']; exact vals_refsX _, hg⟩) (by rw [g]; exact I.bare) (fun _ z => nomatch z)
    have e : s' = { s with heap := s'.heap, gens := s'.gens, drawn := s'.drawn, toks := s'.toks } := by
      cases s'
      cases s
      cases o
      rfl
    rw [e]
    exact ⟨.ref p, _, J, rfl, q L1 p p1 hn⟩
end
end L2
set_option maxHeartbeats 1000000
/-! The mirror: sorted(set(a list of rows (low, high, own))). -/
namespace Mi
open PySem PySem.Spec PyProof.Rows L2
def rowW (r : TRow) : W := .tup [.str r.1, .str r.2.1, .tup (r.2.2.map W.str)]
def rowOf : W → Option TRow
  | .tup [.str l, .str h, .tup ys] => (strsOf ys).map fun o => (l, h, o)
  | _ => none
def rowsOf : List W → Option (List TRow)
  | [] => some []
  | w :: ws => match rowOf w, rowsOf ws with
    | some r, some rs => some (r :: rs)
    | _, _ => none
theorem strsOf_eq : ∀ {ws : List W} {bs : List Str}, strsOf ws = some bs → ws = bs.map W.str
  | [], bs, e => by
    simp only [strsOf, Option.some.injEq] at e
    subst e
    rfl
  | w :: ws, bs, e => by
    cases w with
    | str b =>
      simp only [strsOf, Option.map_eq_some_iff] at e
      obtain ⟨cs, e1, rfl⟩ := e
      rw [strsOf_eq e1]
      rfl
    | _ => simp [strsOf] at e
theorem rowOf_eq {w : W} {r : TRow} (e : rowOf w = some r) : w = rowW r := by
  unfold rowOf at e
  split at e
  · rename_i l h ys
    obtain ⟨o, e1, rfl⟩ := Option.map_eq_some_iff.mp e
    rw [strsOf_eq e1]
    rfl
  · cases e
def fSortSetR (fz : Bool) : FC := fun ws st => match ws with
  | [w] => match seqL st w with
    | some xs => match rowsOf xs with
      | some rs => if rs.length ≤ 4 then newL fz ((setR rs).map rowW) st else .stuck
      | none => .stuck
    | none => .stuck
  | _ => .stuck
section
variable {K : PySem.W.Frag} {T : Nat → Addr} {ρ η : List Addr} {H : Hp} {st : Sto}
theorem vstrs_inv : ∀ {bs : List Str} {vs : List V}, VRs K ρ η H (bs.map W.str) vs → vs = bs.map V.str
  | [], vs, r => by simpa only [List.map_nil, VRs] using r
  | b :: bs, vs, r => by
    simp only [List.map_cons, VRs, VR] at r
    obtain ⟨v, rr, rfl, rfl, r2⟩ := r
    rw [vstrs_inv r2]
    rfl
theorem rowH_of {a : Addr} {r : TRow} (h : VR K ρ η H (rowW r) (.ref a)) : RowH K H a r := by
  simp only [rowW, VR, VRs] at h
  obtain ⟨a', vs, e, t, v1, r1, rfl, rfl, v2, r2, rfl, rfl, v3, r3, rfl, ⟨b, us, rfl, t2, r4⟩, rfl⟩ := h
  injection e with e
  subst e
  rw [vstrs_inv r4] at t2
  exact ⟨b, t.sq, t2.sq⟩
theorem rows_ok : ∀ {ws : List W} {vs : List V} {rs : List TRow}, VRs K ρ η H ws vs → rowsOf ws = some rs → ∃ ks : List (Addr × TRow), vs = ks.map (fun p => V.ref p.1) ∧ ks.map (·.2) = rs ∧ ∀ p ∈ ks, VR K ρ η H (rowW p.2) (.ref p.1)
  | [], vs, rs, r, e => by
    simp only [VRs] at r
    simp only [rowsOf, Option.some.injEq] at e
    subst r e
    exact ⟨[], rfl, rfl, fun p hp => by cases hp⟩
  | w :: ws, vs, rs, r, e => by
    simp only [VRs] at r
    obtain ⟨v, rr, rfl, r1, r2⟩ := r
    unfold rowsOf at e
    split at e
    · rename_i x xs e1 e2
      cases e
      obtain ⟨ks, rfl, k2, k3⟩ := rows_ok r2 e2
      have ew := rowOf_eq e1
      subst ew
      obtain ⟨a, rfl⟩ : ∃ a, v = .ref a := by
        simp only [rowW, VR] at r1
        obtain ⟨a, _, e, _⟩ := r1
        exact ⟨a, e⟩
      exact ⟨(a, x) :: ks, rfl, by rw [List.map_cons, k2], fun p hp => by
        rcases List.mem_cons.mp hp with rfl | hp
        · exact r1
        · exact k3 p hp⟩
    · cases e
theorem vrows : ∀ {ks : List (Addr × TRow)}, (∀ p ∈ ks, VR K ρ η H (rowW p.2) (.ref p.1)) → VRs K ρ η H (ks.map fun p => rowW p.2) (ks.map fun p => V.ref p.1)
  | [], _ => by simp only [List.map_nil, VRs]
  | p :: ks, h => by
    simp only [List.map_cons, VRs]
    exact ⟨_, _, rfl, h p List.mem_cons_self, vrows fun q hq => h q (List.mem_cons_of_mem _ hq)⟩
end
section
variable {X : Cx} {T : Nat → Addr} {Wx : WX'}
theorem se_sortsetR {fz : Bool} {a : Expr} {m : M W} {p1 p2 pos1 pos2 : Pos} (hc : X.calm = true) (hu : X.A.units + 64 < cLine) (hg : Gl X "sorted") (hm : X.mg "sorted" = none) (hv : bootBuiltins "sorted" = some (.builtin "sorted")) (hg2 : Gl X "set") (hm2 : X.mg "set" = none) (hv2 : bootBuiltins "set" = some (.type "set")) (ha : SE X T Wx a m)
    (n1 : starEach [a] X.env = (false, eval a X.env) :: starEach [] X.env := by rfl) (n2 : starEach [.Call (.Name "set" p2) [a] [] pos2] X.env = (false, eval (.Call (.Name "set" p2) [a] [] pos2) X.env) :: starEach [] X.env := by rfl) :
    SE X T Wx (.Call (.Name "sorted" p1) [.Call (.Name "set" p2) [a] [] pos2] [] pos1) (mFn (fSortSetR fz) (mCons m mNil)) := by
  intro ρ η st env σ H Q s er q
  refine ⟨_, pe_callB (cr_sortedRows hc hu) hg hm hv (pa_cons (pe_callTy (cr_setRows hc hu) hg2 hm2 hv2 (pa_cons pe_S pa_nil n1) (he := n1)) pa_nil n2) (he := n2), ?_⟩
  unfold mFn mCons at q
  rw [Rs.bind_assoc] at q
  refine ha ρ η st env σ H _ s er (q.bind fun w s1 ρ1 H1 v g1 sr1 r1 h1 => ?_)
  unfold mNil at h1
  simp only [Rs.bind, fSortSetR] at h1
  cases q1 : seqL s1 w with
  | none => rw [q1] at h1; exact h1.elim
  | some xs =>
    rw [q1] at h1
    obtain ⟨b, us, e1, e2, e3⟩ := seq_ok sr1 r1 q1
    cases q2 : rowsOf xs with
    | none => simp only [q2] at h1; exact h1.elim
    | some rs =>
      simp only [q2] at h1
      obtain ⟨ks, rfl, k2, k3⟩ := rows_ok e3 q2
      by_cases lz : rs.length ≤ 4
      · rw [if_pos lz] at h1
        subst e1
        refine ⟨b, ks, rfl, e2, fun p hp => rowH_of (k3 p hp), by rw [← k2, List.length_map] at lz; exact lz, fun p L hp hsub hall hnd hlen => ?_⟩
        have g : Grow ρ1 H1 ρ1 (upd H1 p (SetXO X.prog X.w p L)) := Grow.new hp
        have vL : ∀ z ∈ L, VR X.K ρ1 η (upd H1 p (SetXO X.prog X.w p L)) (rowW z.2) (.ref z.1) := fun z hz => (k3 z (hsub z hz)).mono g
        refine ⟨p, L, rfl, upd_same, fun z hz => rowH_of (vL z hz), hnd, hlen, fun L1 p' pm hp' => ?_⟩
        have e4 : (L1.mergeSort (PySem.W.dataLe false fun q => rowD (rowK q.2))).map (fun q => rowW q.2) = (setR rs).map rowW := by
          rw [← setR_of (fun q : Addr × TRow => q.2) (rows := rs) (M := L1) ((pm.map (·.2)).nodup_iff.mpr hnd) (fun k => ?_), List.map_map]
          · rfl
          · rw [(pm.map (·.2)).mem_iff, ← k2]
            constructor
            · intro z
              obtain ⟨y, hy, rfl⟩ := List.mem_map.mp z
              exact List.mem_map.mpr ⟨y, hsub y hy, rfl⟩
            · intro z
              obtain ⟨y, hy, rfl⟩ := List.mem_map.mp z
              exact hall y hy
        have vs := vrows (K := X.K) (ρ := ρ1) (η := η) (H := upd H1 p (SetXO X.prog X.w p L)) (ks := L1.mergeSort (PySem.W.dataLe false fun q => rowD (rowK q.2))) fun z hz => vL z (pm.mem_iff.mp ((List.mergeSort_perm L1 _).mem_iff.mp hz))
        rw [e4] at vs
        exact newL_ok (h1.grow g) (sr1.new' hp) vs hp'
      · rw [if_neg lz] at h1
        exact h1.elim
end
end Mi
set_option maxHeartbeats 2000000
/-! Sets of texts: filled, from a list. -/
namespace L2
open PySem PySem.Spec PyProof.Rows
def keyS (e : Int × Value) : Str := match e.2 with | .str x _ => x | _ => Str.empty
def GoodS (w : World) (e : Int × Value) : Prop := ∃ x t, e.2 = Value.str x t ∧ e.1 = hashStr w x
structure SetS (w : World) (h : Heap) (a : Addr) (L : List Str) : Prop where
  ex : ∃ (o : Obj) (es : Array (Int × Value)) (ep : Nat) (t : SetTable), h.get? a = some o ∧ o.ExactSet ∧ o.data = .set es ep t ∧ (∀ e ∈ es.toList, GoodS w e) ∧ es.toList.map keyS = L ∧ L.Nodup ∧ es.size < scanBound ∧ t.fits es.size = true ∧ Ris t.place.toList ∧ (w.params.followText "set-order" = true ∨ t.led = true)
section
variable {P : Program} {w : World} {A : Around} {E : Value → Shared → Prop} {s : Shared} {a : Addr} {L : List Str}
theorem SetS.keep {h h' : Heap} (R : SetS w h a L) (k : ∀ o, h.get? a = some o → h'.get? a = some o) : SetS w h' a L := by
  obtain ⟨o, es, ep, t, ho, r⟩ := R.ex
  exact ⟨o, es, ep, t, k o ho, r⟩
theorem isS_str (x : Str) (t : Tok) : (PySem.strKind P w).is x (.str x t) = true := by
  show Value.isStrOf x (.str x t) = true
  simp [Value.isStrOf]
theorem goodS_el {l : List (Int × Value)} (g : ∀ e ∈ l, GoodS w e) : ElemsOf (PySem.strKind P w) l := fun e he => by
  obtain ⟨x, t, h1, h2⟩ := g e he
  exact ⟨⟨x, by rw [h1]; exact isS_str x t, h2⟩, by rw [h1]; rfl⟩
theorem goodS_is {e : Int × Value} (g : GoodS w e) (x : Str) : (PySem.strKind P w).is x e.2 = true ↔ keyS e = x := by
  obtain ⟨y, t, h1, _⟩ := g
  unfold keyS
  rw [h1]
  constructor
  · intro z
    have z' : Value.isStrOf x (.str y t) = true := z
    obtain ⟨t', e⟩ := Value.isStrOf_shape z'
    injection e with e _
  · rintro rfl
    exact isS_str y t
theorem addS_tail {g : Bool → Sem Unit} (hg : ∀ (b : Bool) (s₁ : Shared) (Q' : Unit → Shared → Prop), Q' () s₁ → wpAny (model P w) A (g b) Q' E s₁)
    {o : Obj} {es : Array (Int × Value)} {ep : Nat} {t : SetTable} (ho : s.heap.get? a = some o) (hex : o.ExactSet) (hd : o.data = .set es ep t)
    {es1 : Array (Int × Value)} {t2 : SetTable} (g1 : ∀ e ∈ es1.toList, GoodS w e) (nd1 : (es1.toList.map keyS).Nodup)
    (hb1 : es1.size < scanBound) (hf2 : t2.fits es1.size = true) (hr : Ris t2.place.toList) (hl : w.params.followText "set-order" = true ∨ t2.led = true) {wasDummy : Bool} {R : Option Bool → Shared → Prop}
    (hR : ∀ h' L', Heap.SameBut a s.heap h' → SetS w h' a L' → L'.Perm (es1.toList.map keyS) → R (some true) { s with heap := h' }) :
    wpAny (model P w) A (do
        storeSet a es1 t2
        if (!wasDummy && t2.tooFull) = true then do
            g (relayAll t2 es1 (SetTable.grown es1.size)).2.2
            storeSet a (relayAll t2 es1 (SetTable.grown es1.size)).1 (relayAll t2 es1 (SetTable.grown es1.size)).2.1
            pure (some true)
          else pure (some true)) R E s := by
  refine wpAny_bind (wpAny_storeSet_of ho hd ?_ (fits_of_scanBound hb1))
  have ho1 := store_at (es' := es1) (t' := t2) ho hd
  have sb1 := Heap.SameBut.update s.heap a (Obj.putSet es1 t2)
  split
  · have pm := relayAll_perm t2 es1 (SetTable.grown es1.size)
    have hf3 := relayAll_fits t2 es1 (SetTable.grown es1.size)
    have hr3 := relayAll_ris t2 es1 (SetTable.grown es1.size)
    have hl3 := relayAll_led t2 es1 (SetTable.grown es1.size)
    generalize relayAll t2 es1 (SetTable.grown es1.size) = Z at pm hf3 hr3 hl3 ⊢
    obtain ⟨es2, t3, gave⟩ := Z
    dsimp only at pm hf3 hr3 hl3 ⊢
    have hb2 : es2.size < scanBound := by rw [← Array.length_toList, pm.length_eq, Array.length_toList]; exact hb1
    refine wpAny_bind (hg _ _ _ (wpAny_bind (wpAny_storeSet_of ho1 rfl ?_ (fits_of_scanBound hb2))))
    have ho2 := store_at (es' := es2) (t' := t3) ho1 rfl
    exact wpAny_pure (hR _ (es2.toList.map keyS) (sb1.trans (Heap.SameBut.update _ a _)) ⟨⟨_, es2, _, t3, ho2, hex, rfl, fun e he => g1 e (pm.mem_iff.mp he), rfl, (pm.map keyS).nodup_iff.mpr nd1, hb2, hf3, hr3, hl.imp id fun z => by rw [hl3]; exact z⟩⟩ (pm.map keyS))
  · exact wpAny_pure (hR _ _ sb1 ⟨⟨_, es1, _, t2, ho1, hex, rfl, g1, rfl, nd1, hb1, hf2, hr, hl⟩⟩ (List.Perm.refl _))
theorem addS (R : SetS w s.heap a L) (room : L.length + 1 < scanBound) {x : Str} {tk : Tok} {Q : Bool → Shared → Prop}
    (hQ : ∀ b h' L', Heap.SameBut a s.heap h' → SetS w h' a L' → (x ∈ L → L' = L) → (x ∉ L → L'.Perm (x :: L)) → Q b { s with heap := h' }) :
    wpAny (model P w) A (setAddHashed a (.str x tk) ((PySem.strKind P w).hash x)) Q E s := by
  obtain ⟨o, es, ep, t, ho, hex, hd, g, rfl, nd, hb, hf, hr, hl⟩ := R.ex
  have hkey : (PySem.strKind P w).is x (.str x tk) = true := isS_str x tk
  have hsc : (Value.str x tk).scannable = true := rfl
  have hel : ElemsOf (PySem.strKind P w) es.toList := goodS_el g
  have mem : ∀ k, k ∈ es.toList.map keyS ↔ ∃ e ∈ es.toList, (PySem.strKind P w).is k e.2 = true := fun k => by
    rw [List.mem_map]
    exact ⟨fun ⟨e, he, q⟩ => ⟨e, he, (goodS_is (g e he) k).2 q⟩, fun ⟨e, he, q⟩ => ⟨e, he, (goodS_is (g e he) k).1 q⟩⟩
  unfold setAddHashed setAddHashedIn
  refine wpAny_holding (wpAny_bind (wpAny_setState_of ho hd hf ?_))
  dsimp only
  rw [byScan_of hsc hb hel]
  simp only [↓reduceIte]
  unfold setAddByScan
  refine wpAny_bind (wpAny_bind (wpAny_rule (wpAny_bind (wpAny_setScan_of hkey ho hd hf hel ?_))))
  cases hfi : List.findIdx? (fun e => (PySem.strKind P w).is x e.2) es.toList with
  | some j =>
    dsimp only
    obtain ⟨hj, pj, _⟩ := List.findIdx?_eq_some_iff_getElem.mp hfi
    have hm : x ∈ es.toList.map keyS := (mem x).2 ⟨es.toList[j], List.getElem_mem hj, pj⟩
    exact wpAny_pure (wpAny_pure (hQ false s.heap _ (Heap.SameBut.refl a s.heap) R (fun _ => rfl) fun z => absurd hm z))
  | none =>
    dsimp only
    have hnk : x ∉ es.toList.map keyS := fun z => by
      obtain ⟨e, he, q⟩ := (mem x).1 z
      have c := List.findIdx?_eq_none_iff.mp hfi e he
      rw [q] at c
      cases c
    have hgw : ∀ (b : Bool) {s₁ : Shared} {Q' : Unit → Shared → Prop}, Q' () s₁ → wpAny (model P w) A (match b with | true => rule "set.scan.the-table-gave-way" | false => pure ()) Q' E s₁ :=
      fun b s₁ Q' q => by cases b <;> first | exact wpAny_pure q | exact wpAny_rule q
    have pm := layNew_perm t es ((PySem.strKind P w).hash x) (.str x tk)
    have hf1 := layNew_fits t es ((PySem.strKind P w).hash x) (.str x tk)
    have hr1 := layNew_ris t es ((PySem.strKind P w).hash x) (.str x tk) hr
    have hl1 := layNew_led t es ((PySem.strKind P w).hash x) (.str x tk)
    generalize layNew t es ((PySem.strKind P w).hash x) (.str x tk) = Z at pm hf1 hr1 hl1 ⊢
    obtain ⟨es1, t1, wasDummy, gave⟩ := Z
    dsimp only at pm hf1 hr1 hl1 ⊢
    rw [Array.toList_push] at pm
    have pc : es1.toList.Perm (((PySem.strKind P w).hash x, Value.str x tk) :: es.toList) := pm.trans (List.perm_append_singleton _ _)
    have pk : (es1.toList.map keyS).Perm (x :: es.toList.map keyS) := pc.map keyS
    have g1 : ∀ e ∈ es1.toList, GoodS w e := fun e he => by
      rcases List.mem_cons.mp (pc.mem_iff.mp he) with z | z
      · rw [z]; exact ⟨x, tk, rfl, rfl⟩
      · exact g e z
    have nd1 : (es1.toList.map keyS).Nodup := pk.nodup_iff.mpr (List.nodup_cons.mpr ⟨hnk, nd⟩)
    have hb1 : es1.size < scanBound := by
      have h1 : es1.size = es.size + 1 := by rw [← Array.length_toList, pc.length_eq, List.length_cons, Array.length_toList]
      rw [List.length_map, Array.length_toList] at room
      omega
    have hled : w.params.followText "set-order" = true ∨ t1.led = true := hl.imp id fun z => by rw [hl1]; exact z
    have fin : ∀ h' L', Heap.SameBut a s.heap h' → SetS w h' a L' → L'.Perm (es1.toList.map keyS) → Q true { s with heap := h' } := fun h' L' sb r p => hQ true h' L' sb r (fun z => absurd z hnk) fun _ => p.trans pk
    refine wpAny_bind (hgw _ ?_)
    split
    · refine wpAny_bind ?_
      rw [hashByValue_scannable 8 hsc]
      refine wpAny_pure ?_
      refine addS_tail ?_ ho hex hd g1 nd1 hb1 ?_ ?_ ?_ ?_
      · intro b s₁ Q' q; cases b <;> first | exact wpAny_pure q | exact wpAny_rule q
      · first | (split <;> first | exact hf1 | exact SetTable.fits_plain_off hf1) | exact hf1
      · first | (split <;> exact hr1) | exact hr1
      · first | (split <;> exact hled) | exact hled
      · intro h' L' sb r p; dsimp only; exact wpAny_pure (fin h' L' sb r p)
    · refine wpAny_bind (wpAny_pure ?_)
      simp only [↓reduceIte]
      refine addS_tail ?_ ho hex hd g1 nd1 hb1 hf1 hr1 hled ?_
      · intro b s₁ Q' q; cases b <;> first | exact wpAny_pure q | exact wpAny_rule q
      · intro h' L' sb r p; dsimp only; exact wpAny_pure (fin h' L' sb r p)
theorem setS_new {h : Heap} {a : Addr} (ho : h.get? a = some (set0 w)) : SetS w h a [] :=
  ⟨⟨_, #[], 0, _, ho, ⟨rfl, rfl, rfl⟩, rfl, fun e he => (by cases he), rfl, List.nodup_nil, by unfold scanBound; decide, rfl, List.Pairwise.nil, by
    show _ ∨ (!w.params.followText "set-order") = true
    cases w.params.followText "set-order"
    · exact .inr rfl
    · exact .inl rfl⟩⟩
end
end L2
set_option maxHeartbeats 6400000
/-! set(a list of texts), sorted(that set). -/
namespace L2
open PySem PySem.Spec PyProof.Rows
structure GotS (ks : List Str) (i : Nat) (L : List Str) : Prop where
  sub : ∀ p ∈ L, p ∈ ks.take i
  all : ∀ p ∈ ks.take i, p ∈ L
  len : L.length ≤ i
theorem GotS.zero (ks : List Str) : GotS ks 0 [] := ⟨fun p h => (by cases h), fun p h => (by simp at h), Nat.le_refl _⟩
theorem GotS.next {ks L L' : List Str} {i : Nat} {x : Str} (g : GotS ks i L) (h : ks[i]? = some x) (c1 : x ∈ L → L' = L) (c2 : x ∉ L → L'.Perm (x :: L)) : GotS ks (i + 1) L' := by
  have tk : ks.take (i + 1) = ks.take i ++ [x] := take_next h
  rcases Classical.em (x ∈ L) with c | c
  · rw [c1 c]
    refine ⟨fun p hp => by rw [tk]; exact List.mem_append_left _ (g.sub p hp), fun p hp => ?_, Nat.le_succ_of_le g.len⟩
    rw [tk] at hp
    rcases List.mem_append.mp hp with z | z
    · exact g.all p z
    · rw [List.mem_singleton.mp z]; exact c
  · have pm := c2 c
    refine ⟨fun p hp => ?_, fun p hp => ?_, by rw [pm.length_eq, List.length_cons]; exact Nat.succ_le_succ g.len⟩
    · rw [tk]
      rcases List.mem_cons.mp (pm.mem_iff.mp hp) with z | z
      · exact List.mem_append_right _ (List.mem_singleton.mpr z)
      · exact List.mem_append_left _ (g.sub p z)
    · rw [tk] at hp
      refine pm.mem_iff.mpr ?_
      rcases List.mem_append.mp hp with z | z
      · exact List.mem_cons_of_mem _ (g.all p z)
      · rw [List.mem_singleton.mp z]; exact List.mem_cons_self
theorem strsK : ∀ {us : List Value} {xs : List Str}, StrsAre us xs → ∀ (i : Nat) (v : Value), us[i]? = some v → ∃ x t, xs[i]? = some x ∧ v = .str x t
  | _, _, .nil, i, v, h => by simp at h
  | _, _, .cons x t r, 0, v, h => by
    simp only [List.getElem?_cons_zero, Option.some.injEq] at h
    exact ⟨x, t, rfl, h.symm⟩
  | _, _, .cons x t r, i + 1, v, h => by
    simp only [List.getElem?_cons_succ] at h
    obtain ⟨y, u, a, b⟩ := strsK r i v h
    exact ⟨y, u, by simpa using a, b⟩
section
variable {P : Program} {w : World} {A : Around} {E : Value → Shared → Prop} {s : Shared}
theorem updateS {I : Addr} {fp wr : List Addr} {G : Array GenState → Array GenState → Prop} {n : Nat} {Pv : Nat → Value → Prop} {St : Nat → Shared → Prop} {R : Result → Shared → Prop}
    (W : WalksS P w A.in1 I fp wr G n Pv St) (S : Addr) (hSf : S ∉ fp) (ks : List Str) (hn : n = ks.length) (hfew : ks.length + 1 < scanBound) (hval : ∀ i v, Pv i v → ∃ x t, ks[i]? = some x ∧ v = .str x t)
    (h0 : Heap) (hS0 : h0.get? S = none) (hw0 : ∀ b ∈ wr, h0.get? b = none) :
    ∀ (k i : Nat) (s : Shared), n - i = k → i ≤ n → St i s → (∀ b o, h0.get? b = some o → s.heap.get? b = some o) → (∃ L, SetS w s.heap S L ∧ GotS ks i L) →
      (∀ s' L, Moved (S :: wr) G s s' → SetS w s'.heap S L → GotS ks n L → (∀ b o, h0.get? b = some o → s'.heap.get? b = some o) → R (.ok (.ret .none)) s') →
      codeAny (model P w) A (.builtin "set.update.loop" ⟨[.ref S, .ref I], []⟩) R s := by
  have hSw : S ∉ wr := fun h => hSf (W.sub _ h)
  have hsub : ∀ b ∈ wr, b ∈ S :: wr := fun b hb => List.mem_cons_of_mem _ hb
  have keepM : ∀ {s s' : Shared}, Moved wr G s s' → (∀ b o, h0.get? b = some o → s.heap.get? b = some o) → ∀ b o, h0.get? b = some o → s'.heap.get? b = some o := fun hm hkp b o e =>
    hm.heap b o (fun hb => by rw [hw0 b hb] at e; cases e) (hkp b o e)
  intro k
  induction k with
  | zero =>
    intro i s hk' hi hst hkp ⟨L, hS, g⟩ hR
    obtain rfl : i = n := by omega
    refine codeAny_builtin F.entry_set_update_loop ?_
    rw [Around.under_plainId F.plain_set_update_loop _]
    show wpAny _ A.in1 (pyNext (.ref I) >>= _) _ _ s
    refine wpAny_bind (W.done s _ _ hst fun s' hm => ?_)
    show wpAny _ A.in1 (ret Value.none) _ _ s'
    exact wpAny_pure (hR s' L (hm.mono hsub) (hS.keep fun o e => hm.heap S o hSw e) g (keepM hm hkp))
  | succ k ih =>
    intro i s hk' hi hst hkp ⟨L, hS, g⟩ hR
    have hlt : i < n := by omega
    refine codeAny_builtin F.entry_set_update_loop ?_
    rw [Around.under_plainId F.plain_set_update_loop _]
    show wpAny _ A.in1 (pyNext (.ref I) >>= _) _ _ s
    refine wpAny_bind (W.item i s _ _ hlt hst fun v s' hP hst' hm => ?_)
    obtain ⟨x, tk, hp, rfl⟩ := hval i v hP
    have hkp' := keepM hm hkp
    have hS' : SetS w s'.heap S L := hS.keep fun o e => hm.heap S o hSw e
    show wpAny _ A.in1 (holding [Value.str x tk] (setAdd S (.str x tk)) >>= _) _ _ s'
    refine wpAny_bind (wpAny_holding ?_)
    unfold setAdd
    refine wpAny_holding (wpAny_bind ((PySem.strKind P w).pyHash (isS_str x tk) ?_))
    refine addS (s := { s' with toks := s'.toks + 1 }) hS' (by have := g.len; omega) fun b h' L' hsb hS2 c1 c2 => ?_
    have g' : GotS ks (i + 1) L' := g.next hp c1 c2
    have hkp2 : ∀ b o, h0.get? b = some o → h'.get? b = some o := fun b o e => (hsb.2 b (fun z => by rw [z, hS0] at e; cases e)).trans (hkp' b o e)
    refine wpAny_pure ⟨plainId_quiet F.plain_set_update_loop _, ih (i + 1) _ (by omega) hlt (W.frame _ s' _ _ hst' (Nat.le_add_right _ _) fun b hb o e => ?_) hkp2 ⟨L', hS2, g'⟩ fun s'' L2 hm'' hS'' g'' hkp'' => ?_⟩
    · rw [hsb.2 b (fun h : b = S => hSf (by rw [← h]; exact hb))]; exact e
    · refine hR s'' L2 (Moved.trans W.gtrans ((hm.mono hsub).then_heap (Nat.le_add_right _ _) fun b o hb e => ?_) hm'') hS'' g'' hkp''
      rw [hsb.2 b (fun h : b = S => hb (by rw [h]; exact List.mem_cons_self))]; exact e
theorem call_setS {l : Addr} {items : Array Value} (ks : List Str) {Q : Value → Shared → Prop} (hh : A.handled = none) (hl : s.heap.IsList l items) (hit : StrsAre items.toList ks) (hfew : ks.length + 1 < scanBound)
    (h : ∀ (h' : Heap) (tk : Nat) L, SetS w h' s.heap.objs.size L → GotS ks ks.length L → (∀ b o, s.heap.get? b = some o → h'.get? b = some o) → Q (.ref s.heap.objs.size) { s with heap := h', toks := tk }) :
    wpAny (model P w) A (call (.type "set") [.ref l]) Q E s := by
  have hisz : items.size = ks.length := by
    have q := StrsAre.length hit
    simpa using q
  obtain ⟨c, tl, hmro⟩ := F.called_set.mro
  have hmade := F.called_set.made
  have hsub := F.called_set.sub
  refine wpAny_call (codeAny_of_tree ?_)
  show wpAny _ _ (callAny (.type "set") _) _ _ _
  refine wpAny_pure ⟨Code.quiet_builtin _ (by decide +kernel), codeAny_builtin F.entry_type_call ?_⟩
  rw [Around.under_plain (weight_type_call_type "set" [.ref l] []) rfl]
  have h1 := F.called_set.notType
  have h2 := F.called_set.canCreate
  have hct := F.typeCall_set_1 (.ref l)
  repeat (any_goals (first | assumption | wp_step))
  refine codeAny_mono (code_set_led1 (.ref l) (E := E) (Q₁ := fun obj s₁ => obj = .ref s.heap.objs.size ∧ s₁ = { s with heap := s.heap.push (set0 w) }) ⟨rfl, rfl⟩) fun r s₁ hr => ?_
  rcases r with e | fl
  · exact hr
  cases fl
  case ret obj =>
    obtain ⟨rfl, rfl⟩ := hr
    have hS : (s.heap.push (set0 w)).get? s.heap.objs.size = some (set0 w) := Heap.get?_push_size _ rfl
    have hT : Shared.TypeIs { s with heap := s.heap.push (set0 w) } (.ref s.heap.objs.size) "set" := ⟨_, hS, rfl⟩
    have hli := F.called_set.init.lookup
    have hbi := F.called_set.init.bind (.ref s.heap.objs.size)
    repeat (any_goals (first | assumption | wp_step))
    refine codeAny_mono (codeAny_call_builtin (R := wants (fun r s₂ => r = .none ∧ ∃ h' tk L, s₂ = { s with heap := h', toks := tk } ∧ SetS w h' s.heap.objs.size L ∧ GotS ks ks.length L ∧
        (∀ b o, s.heap.get? b = some o → h'.get? b = some o)) E) F.called_set.init.plain F.entry_set_init (check_set_init_1 hT ?_)) fun r₂ s₂ hr₂ => ?_
    · obtain ⟨ol, hol, hcl, nl, hdl⟩ := hl
      obtain ⟨ocls, odict, odata, oslots⟩ := ol
      simp only at hcl hdl
      subst hcl; subst hdl
      have hl1' := Heap.get?_push_of_some (set0 w) hol
      have hsls := F.sub_list_set
      have hslf := F.sub_list_frozenset
      have hne : (Value.type "list" == Value.type "dict") = false := by decide
      have hl1 : (s.heap.push (set0 w)).IsList l items := ⟨_, hl1', rfl, nl, rfl⟩
      unfold Builtin.«set.__init__» noKeywords Builtin.Frozenset.updateFrom
      generalize hPI : pyIter = PI
      wp_walk
      subst hPI
      refine wpAny_pyIter_list hl1 ?_
      refine wpAny_bind (wpAny_runValue ?_)
      have hlS : l < s.heap.objs.size := Heap.lt_size hol
      have hh3 : A.in1.in1.in1.handled = none := by simp [hh]
      have hneI : l ≠ (s.heap.push (set0 w)).objs.size := by
        rw [Heap.size_push]; exact Nat.ne_of_lt (Nat.lt_succ_of_lt hlS)
      have hSf : s.heap.objs.size ∉ [(s.heap.push (set0 w)).objs.size, l] := by
        rw [Heap.size_push]; simp only [List.mem_cons, List.mem_singleton, List.not_mem_nil, or_false, not_or]
        exact ⟨Nat.ne_of_lt (Nat.lt_succ_self _), Nat.ne_of_gt hlS⟩
      have hval : ∀ (i : Nat) (v : Value), items[i]? = some v → ∃ x t, ks[i]? = some x ∧ v = .str x t := fun i v hv => by
        have q : items.toList[i]? = some v := by rw [Array.getElem?_toList]; exact hv
        exact strsK hit i v q
      have none_of : ∀ b, s.heap.objs.size ≤ b → s.heap.get? b = none := fun b hb => by
        cases q : s.heap.get? b with
        | none => rfl
        | some o => exact absurd (Nat.lt_of_lt_of_le (Heap.lt_size q) hb) (Nat.lt_irrefl _)
      refine updateS ((Walks.list hh3 _ l hneI items).toS) s.heap.objs.size
        hSf ks hisz hfew hval s.heap (none_of _ (Nat.le_refl _)) (fun b hb => none_of b (by
          rw [List.mem_singleton.mp hb, Heap.size_push]
          exact Nat.le_succ _)) (items.size - 0) 0 _ (by omega) (Nat.zero_le _)
        ⟨⟨_, Heap.get?_push_size _ rfl, rfl, rfl⟩, (hl1.push _)⟩ (fun b o e => Heap.get?_push_of_some _ (Heap.get?_push_of_some _ e)) ?hS0 ?hR
      case hS0 => exact ⟨[], setS_new (Heap.get?_push_of_some _ hS), GotS.zero ks⟩
      case hR =>
        intro s' L hm hS' g' hkp
        obtain ⟨h', g2, d', tk', os'⟩ := s'
        have eg : g2 = s.gens := hm.gens
        have ed : d' = s.drawn := hm.drawn
        have eo : os' = s.os := hm.os
        subst eg; subst ed; subst eo
        show wpAny _ _ _ _ _ _
        refine wpAny_pure ?_
        show wpAny _ _ (ret Value.none) _ _ _
        rw [hisz] at g'
        exact wpAny_pure ⟨rfl, h', tk', L, rfl, hS', g', hkp⟩
    · rcases r₂ with e | fl₂
      · exact hr₂
      cases fl₂
      case ret r =>
        obtain ⟨rfl, h', tk, L, rfl, hS', g', hk'⟩ := hr₂
        repeat (any_goals (first | assumption | wp_step))
        exact h _ _ _ hS' g' hk'
      all_goals exact hr₂.elim
  all_goals exact hr.elim
/-- xs.sort() of texts -/
theorem sort_strs {l : Addr} {vs : List Value} {L1 : List Str} {n : Nat} {Q : Value → Shared → Prop} (ho : s.heap.get? l = some (seqObj "list" vs.toArray n)) (hl : vs.length ≤ sizeLine) (er : PySem.W.EachIs (fun (v : Value) (x : Str) => ∃ t, v = .str x t) vs L1) (hu : A.units + 8 < cLine)
    (h : ∀ out : Array Value, PySem.W.EachIs (fun (v : Value) (x : Str) => ∃ t, v = .str x t) out.toList (L1.mergeSort (PySem.W.dataLe false PyData.str)) → Q .none { s with heap := sortedHeap s.heap l vs out }) :
    wpAny (model P w) A (call (.builtin "list.sort") [.ref l]) Q E s := by
  have rd' : ∀ h' : Heap, PySem.W.EachIs (fun (v : Value) (x : Str) => ∃ as, Reads h' v (PyData.str x) as) vs L1 := fun h' => each_on er fun v x _ ⟨t, e⟩ => by
    subst e
    exact ⟨[], .str x t⟩
  have hal : PySem.W.AllAlike (L1.map PyData.str) := PySem.W.AllAlike.of fun b b' => by simp [PySem.W.alike]
  have S : PySem.W.SortsAt P w A.in1 { s with heap := PySem.W.sortingHeap s.heap l vs } (PySem.W.dataKind (PySem.W.sortingHeap s.heap l vs) (L1.map PyData.str)) vs :=
    PySem.W.SortsAt.data (s := { s with heap := PySem.W.sortingHeap s.heap l vs }) (PySem.W.each_map (R := fun v d => ∃ as, Reads (PySem.W.sortingHeap s.heap l vs) v d as) PyData.str (rd' _)) hal (PySem.W.Sortable.others fun b => ⟨(fun e => nomatch e), fun xs e => nomatch e⟩) (fun d hd => by
      obtain ⟨x, _, rfl⟩ := List.mem_map.mp hd
      simp only [Around.in1_units, PyData.depth]
      omega)
  have so := PySem.W.sortVals_data (R := fun (v : Value) (x : Str) => ∃ t, v = .str x t) (enc := PyData.str) false er (rd' (PySem.W.sortingHeap s.heap l vs)) hal
  refine wpAny_call_entry slot_list_sort ⟨_, ho, rfl⟩ entry_list_sort (PySem.W.list_sort_vals ho S hl ⟨_, rfl, ?_⟩) (args_list_sort _)
  exact h _ (by rw [List.toList_toArray]; exact so)
theorem sortedS {a : Addr} {L : List Str} (R : SetS w s.heap a L) (hh : A.handled = none) (hf : L.length < 64) (hu : A.units + 16 < cLine) {Q : Value → Shared → Prop}
    (hQ : ∀ s' p (out : Array Value) (c : Nat) (L1 : List Str), (∀ b o, s.heap.get? b = some o → s'.heap.get? b = some o) → s'.gens = s.gens → s'.os = s.os → s.heap.objs.size ≤ p → L1.Perm L →
      s'.heap.get? p = some (seqObj "list" out c) → PySem.W.EachIs (fun (v : Value) (x : Str) => ∃ t, v = .str x t) out.toList (L1.mergeSort (PySem.W.dataLe false PyData.str)) → Q (.ref p) s') :
    wpAny (model P w) A (call (.builtin "sorted") [.ref a]) Q E s := by
  obtain ⟨o, es, ep, t, ho, hex, hd, g, rfl, nd, hb, hfi, hr, hl⟩ := R.ex
  refine Calls.call_function_entry kind_sorted plain_sorted entry_sorted (args_sorted1 _) ?_
  unfold Builtin.«sorted»
  refine wpAny_bind (m := checkCount "sorted" 1 1 _) (wpAny_pure ?_)
  refine wpAny_bind (collect_set (A := A.in1) hh ⟨o, ho, hex.1, hd⟩ hfi hb hr hl fun s1 vs k1 hz g1 o1 pm => ?_)
  have good : ∀ v ∈ vs, ∃ x t, v = Value.str x t := fun v hv => by
    obtain ⟨e, he, q⟩ := List.mem_map.mp (pm.mem_iff.mp hv)
    obtain ⟨x, t, h1, _⟩ := g e he
    exact ⟨x, t, by rw [← q]; exact h1⟩
  have sv : Value → Str := fun v => keyS (0, v)
  have er : ∀ {ws : List Value}, (∀ v ∈ ws, ∃ x t, v = Value.str x t) → PySem.W.EachIs (fun (v : Value) (x : Str) => ∃ t, v = .str x t) ws (ws.map fun v => keyS (0, v)) := by
    intro ws
    induction ws with
    | nil => intro _; exact .nil
    | cons v ws ih =>
      intro h
      obtain ⟨x, t, rfl⟩ := h v List.mem_cons_self
      exact .cons ⟨t, rfl⟩ (ih fun u hu => h u (List.mem_cons_of_mem _ hu))
  have pL : (vs.map fun v => keyS (0, v)).Perm (es.toList.map keyS) := by
    have q := pm.map fun v => keyS (0, v)
    rw [List.map_map] at q
    exact q
  have hvl : vs.length < 64 := by
    have := pL.length_eq
    rw [List.length_map] at this
    rw [this]
    exact hf
  refine wpAny_bind (wpAny_newList ?_ (by rw [sizeLine_eq]; omega))
  have hoL : (s1.heap.push (seqObj "list" vs.toArray 0)).get? s1.heap.objs.size = some (seqObj "list" vs.toArray 0) := Heap.get?_push_size _ rfl
  refine wpAny_bind (wpAny_holding (sort_strs (s := { s1 with heap := s1.heap.push (seqObj "list" vs.toArray 0) }) hoL (by rw [sizeLine_eq]; omega) (er good) (by simp only [Around.in1_units]; omega) fun out eo => ?_))
  obtain ⟨c, hc⟩ := sortedHeap_at (vs := vs) (out := out) hoL
  refine wpAny_pure ⟨_, rfl, hQ _ s1.heap.objs.size out c _ (fun b u e => ?_) g1 o1 hz pL hc eo⟩
  have q := k1 b u e
  have hlt := Heap.lt_size q
  show (sortedHeap (s1.heap.push (seqObj "list" vs.toArray 0)) s1.heap.objs.size vs out).get? b = some u
  rw [sortedHeap_old (Nat.ne_of_lt hlt) (by rw [size_push']; exact Nat.lt_succ_of_lt hlt)]
  exact Heap.get?_push_of_some _ q
end
end L2
set_option maxHeartbeats 1000000
/-! set(list of texts), sorted(that set), as calls. -/
namespace L2
open PySem PySem.Spec PyProof.Rows
def SetSO (w : World) (a : Addr) (L : List Str) : HO := .ext fun h => SetS w h a L
theorem setSO_new {P : Program} {w : World} {H : Hp} {h : Heap} {a : Addr} {L : List Str} (R : SetS w h a L) : ObjOk P w H h a (SetSO w a L) := by
  have ⟨o, es, ep, t, ho, r⟩ := R.ex
  exact ⟨R, ⟨o, ho⟩, fun h1 h2 p k => SetS.keep p k⟩
theorem strs_vals : ∀ {ys : List Str} {us : List Value}, Vals (ys.map V.str) us → StrsAre us ys
  | [], _, .nil => .nil
  | y :: ys, _, .cons r t => by
    obtain ⟨tk, rfl⟩ := r
    exact .cons y tk (strs_vals t)
theorem vals_each : ∀ {us : List Value} {ys : List Str}, PySem.W.EachIs (fun (v : Value) (x : Str) => ∃ t, v = .str x t) us ys → Vals (ys.map V.str) us
  | _, _, .nil => .nil
  | _, _, .cons ⟨t, e⟩ r => .cons ⟨t, e⟩ (vals_each r)
section
variable {X : Cx}
def rSetStrs (K : PySem.W.Frag) (w : World) : List V → Hp → VK → Prop := fun xs H Q => ∃ (l : Addr) (ks : List Str), xs = [V.ref l] ∧ SqL K H l (ks.map V.str) ∧ ks.length < 64 ∧
  ∀ a L, H a = none → (∀ p ∈ L, p ∈ ks) → (∀ p ∈ ks, p ∈ L) → L.Nodup → L.length < 64 → Q (.ref a) (upd H a (SetSO w a L))
theorem cr_setStrs (hc : X.calm = true) : CallR X (.type "set") (rSetStrs X.K X.w) := by
  intro pins s σ H xs us Q I r h
  obtain ⟨l, ks, rfl, hs, hf, q⟩ := h
  rw [Vals.ref1 r]
  obtain ⟨its, rv, pl, hz⟩ := I.list hs
  refine call_setS ks (I.ok.hd hc) pl.isList (by rw [List.toList_toArray]; exact strs_vals rv) (by unfold scanBound; omega) fun h' tk L R g old => ?_
  have n : H s.heap.objs.size = none := I.hok.fresh (Nat.le_refl _)
  have hl := g.len
  refine ⟨.ref _, _, I.laid (t' := tk) old (Nat.le_refl _) (setSO_new R), rfl, q _ L n (fun p hp => List.mem_of_mem_take (g.sub p hp)) (fun p hp => g.all p (by rw [List.take_length]; exact hp)) ?_ (by omega)⟩
  obtain ⟨o, es, ep, t, _, _, _, _, _, nd, _⟩ := R.ex
  exact nd
def rSortedStrs (w : World) : List V → Hp → VK → Prop := fun vs H Q => ∃ (a : Addr) (L : List Str), vs = [V.ref a] ∧ H a = some (SetSO w a L) ∧ L.length < 64 ∧
  ∀ (L1 : List Str) (p : Addr), L1.Perm L → H p = none → Q (.ref p) (upd H p (.lst ((L1.mergeSort (PySem.W.dataLe false PyData.str)).map V.str)))
theorem cr_sortedStrs (hc : X.calm = true) (hu : X.A.units + 64 < cLine) : CallR X (.builtin "sorted") (rSortedStrs X.w) := by
  intro pins s σ H vs us Q I r h
  obtain ⟨a, L, rfl, ha, hf, q⟩ := h
  rw [Vals.ref1 r]
  have R : SetS X.w s.heap a L := (I.hok a _ ha).1
  refine sortedS R (I.ok.hd hc) hf (by omega) fun s' p out c L1 k g o hp pm hg eo => ?_
  have hlen : ((L1.mergeSort (PySem.W.dataLe false PyData.str)).map V.str).length ≤ sizeLine := by
    rw [List.length_map, List.length_mergeSort, pm.length_eq, sizeLine_eq]
    omega
  have hn : H p = none := I.hok.fresh hp
  have J : Inv X pins σ (upd H p (.lst ((L1.mergeSort (PySem.W.dataLe false PyData.str)).map V.str))) { s with heap := s'.heap, gens := s'.gens, drawn := s'.drawn, toks := s'.toks } :=
    I.call (ch := []) (Un.laid k hp hn) (I.hok.laid k hp ⟨hlen, out.toList, c, vals_each eo, hg⟩) (by rw [g]; exact I.bare) (fun _ z => nomatch z)
  have e : s' = { s with heap := s'.heap, gens := s'.gens, drawn := s'.drawn, toks := s'.toks } := by
    cases s'
    cases s
    cases o
    rfl
  rw [e]
  exact ⟨.ref p, _, J, rfl, q L1 p pm hn⟩
end
end L2
set_option maxHeartbeats 1000000
/-! The mirror: sorted(set(a list of texts)). -/
namespace Mi
open PySem PySem.Spec PyProof.Rows L2
def uniqS : List Str → List Str
  | [] => []
  | a :: r => if a ∈ r then uniqS r else a :: uniqS r
theorem uniqS_mem {k : Str} : ∀ {ns : List Str}, k ∈ uniqS ns ↔ k ∈ ns
  | [] => Iff.rfl
  | a :: r => by
    have ih := uniqS_mem (k := k) (ns := r)
    unfold uniqS
    split
    · rename_i h
      rw [ih, List.mem_cons]
      exact ⟨.inr, fun z => z.elim (fun e => e ▸ h) id⟩
    · rw [List.mem_cons, List.mem_cons, ih]
theorem uniqS_nodup : ∀ {ns : List Str}, (uniqS ns).Nodup
  | [] => .nil
  | a :: r => by
    have ih := uniqS_nodup (ns := r)
    unfold uniqS
    split
    · exact ih
    · rename_i h
      exact List.nodup_cons.mpr ⟨fun z => h (uniqS_mem.mp z), ih⟩
def setStr (ns : List Str) : List Str := isS (uniqS ns)
theorem leS_data (a b : Str) (h : PySem.W.dataLe false PyData.str a b = true) : leS a b := by
  have e : PySem.W.dataLe false PyData.str a b = !PySem.W.dataLt (.str b) (.str a) := rfl
  rw [e, PySem.W.dataLt_str, Bool.not_eq_true', decide_eq_false_iff_not] at h
  exact leS_iff.mpr (List.not_lt.mp h)
theorem data_trans (a b c : Str) (h : PySem.W.dataLe false PyData.str a b = true) (k : PySem.W.dataLe false PyData.str b c = true) : PySem.W.dataLe false PyData.str a c = true := (PySem.W.sortLe_total (listOrd itemOrd) false fun b => PySem.W.keyToks (PyData.str b)).trans a b c h k
theorem data_total (a b : Str) : (PySem.W.dataLe false PyData.str a b || PySem.W.dataLe false PyData.str b a) = true := by
  have e1 : PySem.W.dataLe false PyData.str a b = !PySem.W.dataLt (.str b) (.str a) := rfl
  have e2 : PySem.W.dataLe false PyData.str b a = !PySem.W.dataLt (.str a) (.str b) := rfl
  rw [e1, e2, PySem.W.dataLt_str, PySem.W.dataLt_str, Bool.or_eq_true, Bool.not_eq_true', Bool.not_eq_true', decide_eq_false_iff_not, decide_eq_false_iff_not]
  rcases List.le_total a.cps.toList b.cps.toList with z | z
  · exact .inl (List.not_lt.mpr z)
  · exact .inr (List.not_lt.mpr z)
theorem setStr_of {L1 ks : List Str} (nd : L1.Nodup) (m : ∀ k, k ∈ L1 ↔ k ∈ ks) : L1.mergeSort (PySem.W.dataLe false PyData.str) = setStr ks := by
  have u : (L1.mergeSort (PySem.W.dataLe false PyData.str)).Pairwise leS := (List.pairwise_mergeSort data_trans data_total L1).imp fun h => leS_data _ _ h
  have p : (L1.mergeSort (PySem.W.dataLe false PyData.str)).Perm (uniqS ks) := (List.mergeSort_perm L1 _).trans ((List.perm_ext_iff_of_nodup nd uniqS_nodup).mpr fun k => (m k).trans uniqS_mem.symm)
  exact (p.trans (isS_perm _).symm).eq_of_pairwise (fun a b _ _ h1 h2 => leS_anti h1 h2) u (isS_up _)
def fSortSetS (fz : Bool) : FC := fun ws st => match ws with
  | [w] => match seqL st w with
    | some xs => match strsOf xs with
      | some ns => if ns.length < 64 then newL fz ((setStr ns).map W.str) st else .stuck
      | none => .stuck
    | none => .stuck
  | _ => .stuck
section
variable {X : Cx} {T : Nat → Addr} {Wx : WX'}
theorem se_sortsetS {fz : Bool} {a : Expr} {m : M W} {p1 p2 pos1 pos2 : Pos} (hc : X.calm = true) (hu : X.A.units + 64 < cLine) (hg : Gl X "sorted") (hm : X.mg "sorted" = none) (hv : bootBuiltins "sorted" = some (.builtin "sorted")) (hg2 : Gl X "set") (hm2 : X.mg "set" = none) (hv2 : bootBuiltins "set" = some (.type "set")) (ha : SE X T Wx a m)
    (n1 : starEach [a] X.env = (false, eval a X.env) :: starEach [] X.env := by rfl) (n2 : starEach [.Call (.Name "set" p2) [a] [] pos2] X.env = (false, eval (.Call (.Name "set" p2) [a] [] pos2) X.env) :: starEach [] X.env := by rfl) :
    SE X T Wx (.Call (.Name "sorted" p1) [.Call (.Name "set" p2) [a] [] pos2] [] pos1) (mFn (fSortSetS fz) (mCons m mNil)) := by
  intro ρ η st env σ H Q s er q
  refine ⟨_, pe_callB (cr_sortedStrs hc hu) hg hm hv (pa_cons (pe_callTy (cr_setStrs hc) hg2 hm2 hv2 (pa_cons pe_S pa_nil n1) (he := n1)) pa_nil n2) (he := n2), ?_⟩
  unfold mFn mCons at q
  rw [Rs.bind_assoc] at q
  refine ha ρ η st env σ H _ s er (q.bind fun w s1 ρ1 H1 v g1 sr1 r1 h1 => ?_)
  unfold mNil at h1
  simp only [Rs.bind, fSortSetS] at h1
  cases q1 : seqL s1 w with
  | none => rw [q1] at h1; exact h1.elim
  | some xs =>
    rw [q1] at h1
    obtain ⟨b, us, e1, e2, e3⟩ := seq_ok sr1 r1 q1
    cases q2 : strsOf xs with
    | none => simp only [q2] at h1; exact h1.elim
    | some ns =>
      simp only [q2] at h1
      have eu := strs_ok e3 q2
      by_cases lz : ns.length < 64
      · rw [if_pos lz] at h1
        subst e1
        refine ⟨b, ns, rfl, by rw [← eu]; exact e2, lz, fun p L hp hsub hall hnd hlen => ?_⟩
        refine ⟨p, L, rfl, upd_same, hlen, fun L1 p' pm hp' => ?_⟩
        rw [setStr_of (pm.nodup_iff.mpr hnd) fun k => pm.mem_iff.trans ⟨hsub k, hall k⟩]
        have g : Grow ρ1 H1 ρ1 (upd H1 p (SetSO X.w p L)) := Grow.new hp
        exact newL_ok (h1.grow g) (sr1.new' hp) vstrs hp'
      · rw [if_neg lz] at h1
        exact h1.elim
end
end Mi
/-! The mirror: max(a list of whole numbers, default=x). -/
namespace Mi
open PySem PySem.Spec PyProof.Rows L2
def maxV (y : V) : List Int → V
  | [] => y
  | n :: r => .int (r.foldl max n)
def maxWd (y : W) : List Int → W
  | [] => y
  | n :: r => .int (r.foldl max n)
def rMaxD (K : PySem.W.Frag) : List V → List V → Hp → VK → Prop := fun xs zs H Q => ∃ (a : Addr) (ns : List Int) (y : V), xs = [.ref a] ∧ zs = [y] ∧ SqL K H a (ns.map V.int) ∧ Q (maxV y ns) H
def mMaxD (m md : M W) : M W := fun env st => (m env st).bind fun w s1 => (md env s1).bind fun d s2 => match seqL s2 w with
  | some xs => match intsOf xs with
    | some ns => .ok (maxWd d ns) s2
    | none => .stuck
  | none => .stuck
theorem reads_ints {h : Heap} : ∀ {ns : List Int} {us : List Value}, Vals (ns.map V.int) us → ∃ as, ReadsAll h us (ns.map PyData.int) as
  | [], _, .nil => ⟨[], .nil⟩
  | n :: ns, _, .cons r t => by
    obtain ⟨tk, rfl⟩ := r
    obtain ⟨as, h2⟩ := reads_ints (h := h) t
    exact ⟨[] ++ as, .cons (.int n tk) h2⟩
section
variable {X : Cx}
theorem cr_maxD (hc : X.calm = true) (hu : X.A.units + 64 < cLine) : CallRK X (.builtin "max") ["default"] (rMaxD X.K) := by
  intro pins s σ H xs zs us ws Q I rx rz h
  obtain ⟨a, ns, y, rfl, rfl, hs, q⟩ := h
  rw [Vals.ref1 rx]
  obtain ⟨u, rfl, ru⟩ := rz.one
  obtain ⟨its, rv, pl, hz⟩ := I.list hs
  obtain ⟨as, rd⟩ := reads_ints (h := s.heap) rv
  show wpAny _ _ (call (.builtin "max") [.ref a] [(Str.ofString "default", u)]) _ _ _
  refine PySem.W.max_list_default (I.ok.hd hc) pl.isList (by rw [List.toList_toArray]; exact rd) ⟨fun x hx y hy => by
    obtain ⟨i, _, rfl⟩ := List.mem_map.mp hx
    obtain ⟨j, _, rfl⟩ := List.mem_map.mp hy
    simp [PySem.W.alike], fun x hx => by
    obtain ⟨i, _, rfl⟩ := List.mem_map.mp hx
    exact fun e => nomatch e⟩ (by rw [PySem.W.depth_ints]; omega) (fun e0 h' tk k => ?_) fun y0 ys i v h' tk bs e0 hv r k => ?_
  · have e : ns = [] := by cases ns with
      | nil => rfl
      | cons n r => cases e0
    subst e
    exact ⟨y, H, I.kept (t' := tk) k, ru, q⟩
  · cases ns with
    | nil => cases e0
    | cons n r0 =>
      simp only [List.map_cons, List.cons.injEq] at e0
      obtain ⟨rfl, rfl⟩ := e0
      rw [PySem.W.maxD_ints] at r
      cases r with
      | int i t => exact ⟨.int _, H, I.kept (t' := tk) k, ⟨t, rfl⟩, q⟩
theorem se_maxD {T : Nat → Addr} {Wx : WX'} {e f : Expr} {m md : M W} {p kpos pos : Pos} (hc : X.calm = true) (hu : X.A.units + 64 < cLine) (hg : Gl X "max") (hm : X.mg "max" = none) (ho : SE X T Wx e m) (hf : SE X T Wx f md)
    (hs : starEach [e] X.env = (false, eval e X.env) :: starEach [] X.env := by rfl)
    (he : backTo pos (starEach [e] X.env) = (false, eval e X.env) :: backTo pos (starEach [] X.env) := by rfl)
    (hpl : (backTo pos (starEach [e] X.env)).any (·.1) = false := by rfl)
    (hall : (backToKw pos (keywordEach [⟨some "default", f, kpos⟩] X.env)).all (·.1.isSome) = true := by rfl) (hnone : (backToKw pos (keywordEach [⟨some "default", f, kpos⟩] X.env)).any (·.1.isNone) = false := by rfl)
    (hks : (backToKw pos (keywordEach [⟨some "default", f, kpos⟩] X.env)).filterMap (·.1) = [Str.ofString "default"] := by rfl) :
    SE X T Wx (.Call (.Name "max" p) [e] [⟨some "default", f, kpos⟩] pos) (mMaxD m md) := by
  intro ρ η st env σ H Q s er q
  refine ⟨_, pe_callBK (cr_maxD hc hu) hg hm (by decide +kernel) (pa_cons pe_S pa_nil hs) (pk_cons pe_S pk_nil) (by decide) (by decide) he hpl hall hnone hks, ?_⟩
  refine ho ρ η st env σ H _ s er (q.bind fun w s1 ρ1 H1 v g1 sr1 r1 h1 => ?_)
  refine hf ρ1 η s1 env σ _ _ sr1 (er.mono g1) (h1.bind fun dd s2 ρ2 H2 y g2 sr2 r2 h2 => ?_)
  cases z : seqL s2 w with
  | none => rw [z] at h2; exact h2.elim
  | some xs =>
    rw [z] at h2
    simp only at h2
    cases z3 : intsOf xs with
    | none => rw [z3] at h2; exact h2.elim
    | some ns =>
      rw [z3] at h2
      obtain ⟨a, vs, f1, f2, f3⟩ := seq_ok sr2 (r1.mono g2) z
      subst f1
      have ei := ints_ok f3 z3
      refine ⟨a, ns, y, rfl, rfl, by rw [← ei]; exact f2, After.ok h2 sr2 ?_⟩
      cases ns with
      | nil => exact r2
      | cons n r => simp only [maxWd, maxV, VR]
end
end Mi
/-! The mirror: < of two rows (low, high, own). -/
namespace Mi
open PySem PySem.Spec PyProof.Rows L2
def ltR (a b : TRow) : Bool := PySem.W.dataLt (rowD (rowK a)) (rowD (rowK b))
def rLtRow (K : PySem.W.Frag) : R2 := fun x y H Q => ∃ (a b : Addr) (r q : TRow), x = .ref a ∧ y = .ref b ∧ RowH K H a r ∧ RowH K H b q ∧ Q (.bl (ltR r q)) H
theorem op_ltRow {X : Cx} (hu : X.A.units + 64 < cLine) : OpR X (compareOp .Lt) (rLtRow X.K) := by
  intro pins s σ H x y u v Q I rx ry h
  obtain ⟨a, b, r, q, rfl, rfl, ha, hb, hq⟩ := h
  obtain rfl : u = Value.ref a := rx
  obtain rfl : v = Value.ref b := ry
  obtain ⟨as, r1⟩ := reads_row (I.rowIs ha)
  obtain ⟨bs, r2⟩ := reads_row (I.rowIs hb)
  have d1 := depth_row r
  exact PySem.W.lt_data r1 r2 (alike_row r q) (fun e => nomatch e) (by omega) ⟨.bl (ltR r q), H, I, rfl, hq⟩
def wLtR : F2 := fun a b st => match rowOf a, rowOf b with
  | some r, some q => .ok (.bl (ltR r q)) st
  | _, _ => wCmpS (fun i j => decide (i.cps.toList < j.cps.toList)) (fun i j => decide (i < j)) a b st
theorem ok_ltR {K : PySem.W.Frag} {T : Nat → Addr} : OkR K T wLtR (rOr (rOr (rI0 fun i j => .bl (decide (i < j))) (fun x y H Q => ∃ i j, x = .str i ∧ y = .str j ∧ Q (.bl (decide (i.cps.toList < j.cps.toList))) H)) (rLtRow K)) := by
  intro ρ η st H a b x y Q E s ha hb h
  unfold wLtR at h
  split at h
  · rename_i r q e1 e2
    have ea := rowOf_eq e1
    have eb := rowOf_eq e2
    subst ea eb
    obtain ⟨p, rfl⟩ : ∃ p, x = .ref p := by
      simp only [rowW, VR] at ha
      obtain ⟨p, _, e, _⟩ := ha
      exact ⟨p, e⟩
    obtain ⟨p', rfl⟩ : ∃ p, y = .ref p := by
      simp only [rowW, VR] at hb
      obtain ⟨p, _, e, _⟩ := hb
      exact ⟨p, e⟩
    exact .inr ⟨p, p', r, q, rfl, rfl, rowH_of ha, rowH_of hb, h.ok s (by simp only [VR])⟩
  · exact .inl (ok_cmpS ρ η st H a b x y Q E s ha hb h)
end Mi
/-! The mirror: len(set(a tuple of whole numbers)). -/
namespace Mi
open PySem PySem.Spec PyProof.Rows L2
def rSetTI (K : PySem.W.Frag) (w : World) : List V → Hp → VK → Prop := fun xs H Q => ∃ (a : Addr) (ns : List Int), xs = [V.ref a] ∧ SqT K H a (ns.map V.int) ∧ ns.length < 64 ∧ ∀ p c, c ≤ ns.length → H p = none → Q (.ref p) (upd H p (SetO w p (fun j => decide (j ∈ ns)) c))
def rLenSetI (w : World) : List V → Hp → VK → Prop := fun xs H Q => ∃ (a : Addr) (ns : List Int) (c : Nat), xs = [V.ref a] ∧ H a = some (SetO w a (fun j => decide (j ∈ ns)) c) ∧ Q (.int ((uniqZ ns).length : Nat)) H
def fLenSet : FC := fun ws st => match ws with
  | [w] => match tupL w with
    | some xs => match intsOf xs with
      | some ns => if ns.length < 64 then .ok (.int ((uniqZ ns).length : Nat)) st else .stuck
      | none => .stuck
    | none => .stuck
  | _ => .stuck
section
variable {X : Cx} {T : Nat → Addr} {Wx : WX'}
theorem cr_setTI (hc : X.calm = true) : CallR X (.type "set") (rSetTI X.K X.w) := by
  intro pins s σ H xs us Q I r h
  obtain ⟨a, ns, rfl, hs, h64, q⟩ := h
  rw [Vals.ref1 r]
  obtain ⟨its, rv, pl, hz⟩ := I.tuple hs
  refine call_set_tupI ns (I.ok.hd hc) pl (by simpa using ints_of_vals rv) (by unfold scanBound; omega) fun h' tk c R hcl old => ?_
  have n : H s.heap.objs.size = none := I.hok.fresh (Nat.le_refl _)
  exact ⟨.ref _, _, I.laid (t' := tk) old (Nat.le_refl _) (setO_new R), rfl, q _ c hcl n⟩
theorem cr_lenSetI : CallR X (.builtin "len") (rLenSetI X.w) := by
  intro pins s σ H xs us Q I r h
  obtain ⟨a, ns, c, rfl, ha, q⟩ := h
  rw [Vals.ref1 r]
  obtain ⟨o, es, ep, t, ho, hex, hd, _, nd, mem, hb, hf, _⟩ := setO_get I ha
  have e : es.size = (uniqZ ns).length := by
    have p : (es.toList.map L2.keyOf).Perm (uniqZ ns) := (List.perm_ext_iff_of_nodup nd uniqZ_nodup).mpr fun k => (mem k).symm.trans (by rw [decide_eq_true_eq, uniqZ_mem])
    have := p.length_eq
    simpa using this
  refine call_len_set ho hex hd hf ?_ ⟨.int ((uniqZ ns).length : Nat), H, I.tok _, ⟨_, by rw [e]⟩, q⟩
  unfold scanBound at hb
  omega
theorem se_lenSetI {a : Expr} {m : M W} {p1 p2 pos1 pos2 : Pos} (hc : X.calm = true) (hg : Gl X "len") (hm : X.mg "len" = none) (hv : bootBuiltins "len" = some (.builtin "len")) (hg2 : Gl X "set") (hm2 : X.mg "set" = none) (hv2 : bootBuiltins "set" = some (.type "set")) (ha : SE X T Wx a m)
    (n1 : starEach [a] X.env = (false, eval a X.env) :: starEach [] X.env := by rfl) (n2 : starEach [.Call (.Name "set" p2) [a] [] pos2] X.env = (false, eval (.Call (.Name "set" p2) [a] [] pos2) X.env) :: starEach [] X.env := by rfl) :
    SE X T Wx (.Call (.Name "len" p1) [.Call (.Name "set" p2) [a] [] pos2] [] pos1) (mFn fLenSet (mCons m mNil)) := by
  intro ρ η st env σ H Q s er q
  refine ⟨_, pe_callB cr_lenSetI hg hm hv (pa_cons (pe_callTy (cr_setTI hc) hg2 hm2 hv2 (pa_cons pe_S pa_nil n1) (he := n1)) pa_nil n2) (he := n2), ?_⟩
  unfold mFn mCons at q
  rw [Rs.bind_assoc] at q
  refine ha ρ η st env σ H _ s er (q.bind fun w s1 ρ1 H1 v g1 sr1 r1 h1 => ?_)
  unfold mNil at h1
  simp only [Rs.bind, fLenSet] at h1
  cases q1 : tupL w with
  | none => rw [q1] at h1; exact h1.elim
  | some xs =>
    rw [q1] at h1
    obtain ⟨b, us, e1, e2, e3⟩ := tup_ok r1 q1
    cases q2 : intsOf xs with
    | none => simp only [q2] at h1; exact h1.elim
    | some ns =>
      simp only [q2] at h1
      have eu := ints_ok e3 q2
      by_cases lz : ns.length < 64
      · rw [if_pos lz] at h1
        subst e1
        refine ⟨b, ns, rfl, by rw [← eu]; exact e2, lz, fun p c hcl hp => ?_⟩
        refine ⟨p, ns, c, rfl, upd_same, ?_⟩
        have g : Grow ρ1 H1 ρ1 (upd H1 p (SetO X.w p (fun j => decide (j ∈ ns)) c)) := Grow.new hp
        exact After.ok (h1.grow g) (sr1.new' hp) (by simp only [VR])
      · rw [if_neg lz] at h1
        exact h1.elim
end
end Mi
namespace Mi
open PySem L2
/-! ### list comprehensions with two `for` -/
section
variable {K : PySem.W.Frag} {T : Nat → Addr} {ρ ρ' η η' : List Addr} {H H' : Hp} {st : Sto}
theorem GH.rdG {a : Addr} {u : HO} (g : GH ρ η H ρ' η' H') (h1 : a ∉ ρ) (h2 : a ∉ η) (h3 : Rd H a u) (n : nt u = true := by rfl) : a ∉ ρ' ∧ a ∉ η' ∧ Rd H' a u := by
  rcases h3 with h | ⟨o, h⟩
  · obtain ⟨x1, x2, x3⟩ := g.2 a _ h1 h2 h n
    exact ⟨x1, x2, .inl x3⟩
  · obtain ⟨x1, x2, x3⟩ := g.2 a _ h1 h2 h rfl
    exact ⟨x1, x2, .inr ⟨o, x3⟩⟩
theorem GH.atG {i : Nat} {a : Addr} (g : GH ρ η H ρ' η' H') (h : ρ[i]? = some a) : ρ'[i]? = some a := by
  obtain ⟨⟨t, e⟩, _⟩ := g
  rw [e, List.getElem?_append_left (List.getElem?_eq_some_iff.mp h).1]
  exact h
theorem TupAt.ghG {a : Addr} {vs : List V} (g : GH ρ η H ρ' η' H') (h : TupAt K ρ η H a vs) : TupAt K ρ' η' H' a vs := by
  rcases h with ⟨h1, h2, h3⟩ | h
  · exact .inl (g.rdG h1 h2 h3)
  · exact .inr h
theorem LstAt.ghG {a : Addr} {vs : List V} (g : GH ρ η H ρ' η' H') (h : LstAt K ρ η H a vs) : LstAt K ρ' η' H' a vs := by
  rcases h with ⟨h1, h2, h3⟩ | h
  · exact .inl (g.rdG h1 h2 h3)
  · exact .inr h
mutual
theorem VR.ghG (g : GH ρ η H ρ' η' H') : ∀ {w : W} {v : V}, VR K ρ η H w v → VR K ρ' η' H' w v
  | .non, _, h => h
  | .bl _, _, h => h
  | .int _, _, h => h
  | .str _, _, h => h
  | .ty _, _, h => h
  | .at_ _, _, h => h
  | .fn _ _ _ _, _, h => ⟨h.1, h.2.trans g⟩
  | .exc a d f w, v, h => by
    simp only [VR] at h ⊢
    obtain ⟨e, d1, d2, fs, u, x1, x2, r⟩ := h
    obtain ⟨y1, y2, y3⟩ := g.2 d _ d1 d2 x1 rfl
    exact ⟨e, y1, y2, fs, u, y3, x2, VR.ghG g r⟩
  | .ref i, v, h => by
    simp only [VR] at h ⊢
    obtain ⟨a, e, r⟩ := h
    exact ⟨a, g.atG e, r⟩
  | .tup xs, v, h => by
    simp only [VR] at h ⊢
    obtain ⟨a, vs, e, t, r⟩ := h
    exact ⟨a, vs, e, t.ghG g, VRs.ghG g r⟩
  | .lst xs, v, h => by
    simp only [VR] at h ⊢
    obtain ⟨a, vs, e, ⟨t1, t2, t3⟩, r⟩ := h
    exact ⟨a, vs, e, g.2 a _ t1 t2 t3 rfl, VRs.ghG g r⟩
  | .scr xs, v, h => by
    simp only [VR] at h ⊢
    obtain ⟨a, vs, e, t, r⟩ := h
    exact ⟨a, vs, e, t.ghG g, VRs.ghG g r⟩
theorem VRs.ghG (g : GH ρ η H ρ' η' H') : ∀ {ws : List W} {vs : List V}, VRs K ρ η H ws vs → VRs K ρ' η' H' ws vs
  | [], _, h => by simpa only [VRs] using h
  | x :: xs, vs, h => by
    simp only [VRs] at h ⊢
    obtain ⟨v, r, e, h1, h2⟩ := h
    exact ⟨v, r, e, VR.ghG g h1, VRs.ghG g h2⟩
end
theorem ER.ghG {env : Ev} {σ : St} (g : GH ρ η H ρ' η' H') (h : ER K ρ η H env σ) : ER K ρ' η' H' env σ := ⟨h.1, fun i w e => by
  obtain ⟨v, q, r⟩ := h.2 i w e
  exact ⟨v, q, r.ghG g⟩⟩
theorem GH.updG {D : Addr} {o : HO} (n : D ∈ η) : GH ρ η H ρ η (upd H D o) := (GH.hide (.inr n)).trans (GH.less fun _ hb => List.mem_cons_of_mem _ hb)
end
/-- a source that lives on what stands still, or on a place -/
def SrcG (K : PySem.W.Frag) (T : Nat → Addr) (ρ η : List Addr) (H : Hp) (s : Src) (J : It) : Prop := ∀ (i : Nat) (ρ' η' : List Addr) (H' : Hp) (st' : Sto), GH ρ η H ρ' η' H' → SR K T ρ' η' st' H' →
  match s.at_ i st' with
  | some (some w) => J.go i H' ∧ ∀ x H2, J.yld i H' x H2 → Grow ρ' H' ρ' H2 ∧ SR K T ρ' η' st' H2 ∧ VR K ρ' η' H2 w x
  | some none => J.stop i H'
  | none => True
def SIG (X : Cx) (T : Nat → Addr) (Wx : WX') (tg iter : Expr) (m : MI) : Prop := ∀ ρ η st env σ H (Q : It → Hp → Prop), SR X.K T ρ η st H → ER X.K ρ η H env σ → After X.K T η (fun ρ H s J => SrcG X.K T ρ η H s J) ρ H (m env st) Q (fun c d H' => Wx c d σ H') → ∃ t, PI X tg iter t ∧ t σ H Q
/-- the outer loop -/
def compS2 (s : Src) (t : CT) (mi1 : MI) (vs1 : List Nat) (t1 : CT) (elt : M W) (env : Ev) : Nat → Nat → List W → Sto → Rs (List W)
  | 0, _, _, _ => .stuck
  | n + 1, i, acc, st => match s.at_ i st with
    | some (some w) => match t.put w env with
      | some env1 => match mi1 env1 st with
        | .ok s1 st2 => match compS s1 t1 mYes elt (wipeW env1 vs1) s1.fuel 0 acc st2 with
          | .ok acc1 st3 => compS2 s t mi1 vs1 t1 elt env n (i + 1) acc1 st3
          | _ => .stuck
        | _ => .stuck
      | none => .stuck
    | some none => .ok acc st
    | none => .stuck
def mComp2 (fz : Bool) (mi : MI) (vs : List Nat) (t : CT) (mi1 : MI) (vs1 : List Nat) (t1 : CT) (elt : M W) : M W := fun env st => (mi env st).bind fun s st1 => (compS2 s t mi1 vs1 t1 elt (wipeW env vs) s.fuel 0 [] st1).bind fun ws st2 => newL fz ws st2
section
variable {X : Cx} {T : Nat → Addr} {Wx : WX'} {pos : Pos}
theorem srcG_seqL {ρ η : List Addr} {H : Hp} {a : Addr} {xs : List W} {vs : List V} (hl : ∀ ρ' η' H', GH ρ η H ρ' η' H' → SqL X.K H' a vs) (r : VRs X.K ρ η H xs vs) : SrcG X.K T ρ η H (fixS xs) (Itl X.K a) := by
  intro i ρ' η' H' st' g sr
  have q := hl ρ' η' H' g
  show match some xs[i]? with | some (some w) => _ | some none => _ | none => _
  cases e : xs[i]? with
  | none => exact ⟨vs, q, by rw [r.len]; exact List.getElem?_eq_none_iff.mp e⟩
  | some w =>
    obtain ⟨v, e1, e2⟩ := r.get e
    refine ⟨⟨vs, v, q, e1⟩, fun x H2 y => ?_⟩
    obtain ⟨y1, y2⟩ := y
    subst y1
    have := y2 vs q
    rw [e1] at this
    cases this
    exact ⟨Grow.refl, sr, e2.ghG g⟩
theorem srcG_nod {ρ η : List Addr} {H : Hp} {a : Addr} {n len : Nat} (h : ρ[n]? = some a) : SrcG X.K T ρ η H (nodS n len) (Itl X.K a) := by
  intro i ρ' η' H' st' g sr
  show match (match st'[n]? with | some (.lst xs) => some xs[i]? | _ => none) with | some (some w) => _ | some none => _ | none => True
  cases e : st'[n]? with
  | none => trivial
  | some nd =>
    have q := sr.at_ n nd a e (g.atG h)
    cases nd with
    | lst xs =>
      obtain ⟨vs, q1, q2⟩ := q
      dsimp only
      cases e2 : xs[i]? with
      | none => exact ⟨vs, SqL.of q1, by rw [q2.len]; exact List.getElem?_eq_none_iff.mp e2⟩
      | some w =>
        obtain ⟨v, e3, e4⟩ := q2.get e2
        refine ⟨⟨vs, v, SqL.of q1, e3⟩, fun x H2 y => ?_⟩
        obtain ⟨y1, y2⟩ := y
        subst y1
        have := y2 vs (SqL.of q1)
        rw [e3] at this
        cases this
        exact ⟨Grow.refl, sr, e4⟩
    | _ => trivial
theorem sig_list {tg l : Expr} {m : M W} (h : SE X T Wx l m) : SIG X T Wx tg l (iL m) := by
  intro ρ η st env σ H Q s er q
  refine ⟨_, pi_list pe_S, ?_⟩
  refine h ρ η st env σ H _ s er (q.bind fun w s1 ρ1 H1 v g1 sr1 r1 h1 => ?_)
  split at h1
  · rename_i xs
    simp only [VR] at r1
    obtain ⟨a, vs, e1, e2, e3⟩ := r1
    exact ⟨a, e1, ⟨vs, SqL.of e2.2.2⟩, h1.ok sr1 (srcG_seqL (fun ρ' η' H' g => SqL.of (g.2 a _ e2.1 e2.2.1 e2.2.2 rfl).2.2) e3)⟩
  · rename_i xs
    simp only [VR] at r1
    obtain ⟨a, vs, e1, e2, e3⟩ := r1
    exact ⟨a, e1, ⟨vs, e2.sq⟩, h1.ok sr1 (srcG_seqL (fun ρ' η' H' g => (e2.ghG g).sq) e3)⟩
  · exact h1.elim
  · rename_i n
    split at h1
    · rename_i xs e
      obtain ⟨a, e1, e2, vs, e3, e4⟩ := node_at sr1 r1 e
      exact ⟨a, e1, ⟨vs, SqL.of e3⟩, h1.ok sr1 (srcG_nod e2)⟩
    · exact h1.elim
  · exact h1.elim
theorem sig_tup {tg l : Expr} {m : M W} (h : SE X T Wx l m) : SIG X T Wx tg l (iT m) := by
  intro ρ η st env σ H Q s er q
  refine ⟨_, pi_tup pe_S, ?_⟩
  refine h ρ η st env σ H _ s er (q.bind fun w s1 ρ1 H1 v g1 sr1 r1 h1 => ?_)
  split at h1
  · rename_i xs
    simp only [VR] at r1
    obtain ⟨a, vs, e1, e2, e3⟩ := r1
    refine ⟨a, e1, ⟨vs, e2.sq⟩, h1.ok sr1 ?_⟩
    intro i ρ' η' H' st' g sr
    have q : SqT X.K H' a vs := (e2.ghG g).sq
    show match some xs[i]? with | some (some w) => _ | some none => _ | none => _
    cases e : xs[i]? with
    | none => exact ⟨vs, q, by rw [e3.len]; exact List.getElem?_eq_none_iff.mp e⟩
    | some w =>
      obtain ⟨v, f1, f2⟩ := e3.get e
      refine ⟨⟨vs, v, q, f1⟩, fun x H2 y => ?_⟩
      obtain ⟨y1, y2⟩ := y
      subst y1
      have := y2 vs q
      rw [f1] at this
      cases this
      exact ⟨Grow.refl, sr, f2.ghG g⟩
  · exact h1.elim
theorem comp2_T {fz : Bool} {elt tg iter tg1 iter1 : Expr} {scope : Scope} {own : List (Str × Nat)} {vs1 : List Nat} {mi mi1 : MI} {t t1 : CT} {m : M W} (hi : SI X T Wx tg iter mi)
    (hv : ∀ i ∈ t.ix, i ∈ own.map (fun p : Str × Nat => p.2)) (hv1 : ∀ i ∈ t1.ix, i ∈ vs1)
    (hi1 : ∀ (s : Shared) (H : Hp) (C : Addr) (cl : List (Str × Addr)) (fp : List Addr), SIG (X.blk s H scope (compEnvC scope cl C X.env) fp) T W0 tg1 iter1 mi1)
    (he : ∀ (s : Shared) (H : Hp) (C : Addr) (cl : List (Str × Addr)) (fp : List Addr), SE (X.blk s H scope (compEnvC scope cl C X.env) fp) T W0 elt m) :
    ∃ wi1 te, (∀ (s : Shared) (H : Hp) (C : Addr) (cl : List (Str × Addr)) (fp : List Addr), PI (X.blk s H scope (compEnvC scope cl C X.env) fp) tg1 iter1 wi1) ∧
      (∀ (s : Shared) (H : Hp) (C : Addr) (cl : List (Str × Addr)) (fp : List Addr), PE (X.blk s H scope (compEnvC scope cl C X.env) fp) elt te) ∧
      SEt X T Wx (tLc2 (tSI X tg iter) (t.tg X.K) tYes wi1 (t1.tg X.K) tYes te (own.map (fun p : Str × Nat => p.2)) vs1) (mComp2 fz mi (own.map (fun p : Str × Nat => p.2)) t mi1 vs1 t1 m) := by
  let wi1 : TI := fun σ H Q => ∀ (s : Shared) (G : Hp) (C : Addr) (cl : List (Str × Addr)) (fp : List Addr), (∃ u, PI (X.blk s G scope (compEnvC scope cl C X.env) fp) tg1 iter1 u ∧ u σ H Q)
  let te : TE := fun σ H Q => ∀ (s : Shared) (G : Hp) (C : Addr) (cl : List (Str × Addr)) (fp : List Addr), (∃ u, PE (X.blk s G scope (compEnvC scope cl C X.env) fp) elt u ∧ u σ H Q)
  refine ⟨wi1, te, fun s G C cl fp => ⟨fun pins s' σ' H' Q' I h => ?_⟩, fun s G C cl fp => ⟨fun pins s' σ' H' Q' I h => ?_⟩, ?_⟩
  · obtain ⟨u, h1, h2⟩ := h s G C cl fp
    exact h1.run pins s' σ' H' Q' I h2
  · obtain ⟨u, h1, h2⟩ := h s G C cl fp
    exact h1.run pins s' σ' H' Q' I h2
  intro ρ η st env σ H Q s er q
  refine hi ρ η st env σ H _ s er (q.bind fun src s1 ρ1 H1 J g1 sr1 ok1 h1 => ?_)
  intro D hD
  have D1 : Hid η H1 (D :: η) := hid_new hD
  generalize hvs : own.map (fun p : Str × Nat => p.2) = vs at *
  have er0 : ER X.K ρ1 η H1 (wipeW env vs) (wipe σ vs) := (er.mono g1).wipe _
  let A : Rs (List W) → Prop := fun r => After X.K T η (fun ρ H => VR X.K ρ η H) ρ1 H1 (r.bind fun ws st2 => newL fz ws st2) Q (fun c d H' => Wx c d σ H')
  let N : Nat → Nat → Hp → Prop := fun i n H' => ∃ (ρ' : List Addr) (st' : Sto) (acc : List W) (accv : List V), Grow ρ1 H1 ρ' H' ∧ SR X.K T ρ' (D :: η) st' H' ∧ H' D = some (.lst accv) ∧ VRs X.K ρ' (D :: η) H' acc accv ∧
      A (compS2 src t mi1 vs1 t1 m (wipeW env vs) n i acc st')
  refine ⟨N, ⟨src.fuel, ρ1, s1, [], [], Grow.new hD, sr1.hide hD, upd_same, VRs.nil, h1⟩, ?_⟩
  rintro i n H2 ⟨ρ2, st2, acc, accv, g2, sr2, hD2, rac, h2⟩
  cases n with
  | zero => exact h2.elim
  | succ n =>
    have k := ok1 (D :: η) D1 i ρ2 H2 st2 g2 sr2
    simp only [A] at h2
    unfold compS2 at h2
    split at h2
    · rename_i w e
      rw [e] at k
      obtain ⟨k1, k2⟩ := k
      refine .inr ⟨k1, N (i + 1) n, fun H' z => ⟨n, Nat.lt_succ_self n, z⟩, fun x H3 y => ?_⟩
      obtain ⟨g3, sr3, r3⟩ := k2 x H3 y
      have hD3 : H3 D = some (.lst accv) := g3.same D _ (sr2.hid D List.mem_cons_self) hD2
      split at h2
      · rename_i env4 e4
        refine ct_ok (vs := vs) e4 r3 (er0.more (g2.trans g3) D1) hv fun σ4 er4 w4 => ?_
        rw [wipe_wipe] at w4
        refine ⟨w4, ?_⟩
        refine iteT (B := N (i + 1) n H3) ?_
        intro s' G C cl fp
        refine hi1 s' G C cl fp ρ2 (D :: η) st2 env4 σ4 H3 _ sr3 er4 ?_
        cases e6 : mi1 env4 st2 with
        | ex x s' => rw [e6] at h2; exact h2.elim
        | stuck => rw [e6] at h2; exact h2.elim
        | ok src1 st6 =>
          rw [e6] at h2
          intro ρ6 H6 J1 g6 sr6 ok6
          have hD6 : H6 D = some (.lst accv) := g6.same D _ (sr3.hid D List.mem_cons_self) hD3
          have gA : Grow ρ1 H1 ρ6 H6 := (g2.trans g3).trans g6
          have er6 : ER X.K ρ6 (D :: η) H6 (wipeW env4 vs1) (wipe σ4 vs1) := (er4.mono g6).wipe _
          let B : Rs (List W) → Prop := fun r => A (match r with
            | .ok acc1 st3 => compS2 src t mi1 vs1 t1 m (wipeW env vs) n (i + 1) acc1 st3
            | _ => .stuck)
          let M1 : Nat → Nat → Hp → Prop := fun j k H' => ∃ (ρ' : List Addr) (st' : Sto) (acc : List W) (accv : List V), Grow ρ1 H1 ρ' H' ∧ GH ρ6 (D :: η) H6 ρ' (D :: η) H' ∧ SR X.K T ρ' (D :: η) st' H' ∧ H' D = some (.lst accv) ∧ VRs X.K ρ' (D :: η) H' acc accv ∧
            B (compS src1 t1 mYes m (wipeW env4 vs1) k j acc st')
          refine ⟨M1, ⟨src1.fuel, ρ6, st6, acc, accv, gA, GH.refl, sr6, hD6, (rac.mono g3).mono g6, h2⟩, ?_⟩
          rintro j k H7 ⟨ρ7, st7, acc7, accv7, g7, gh7, sr7, hD7, rac7, h7⟩
          cases k with
          | zero => exact h7.elim
          | succ k =>
            have k7 := ok6 j ρ7 (D :: η) H7 st7 gh7 sr7
            simp only [B] at h7
            unfold compS at h7
            cases e7 : src1.at_ j st7 with
            | none => rw [e7] at h7; exact h7.elim
            | some ow =>
              rw [e7] at k7 h7
              cases ow with
              | none => exact .inl ⟨k7, ρ7, st7, acc7, accv7, g7, sr7, hD7, rac7, h7⟩
              | some w7 =>
                obtain ⟨k71, k72⟩ := k7
                refine .inr ⟨k71, M1 (j + 1) k, fun H' z => ⟨k, Nat.lt_succ_self k, z⟩, fun x H8 y => ?_⟩
                obtain ⟨g8, sr8, r8⟩ := k72 x H8 y
                have hD8 : H8 D = some (.lst accv7) := g8.same D _ (sr7.hid D List.mem_cons_self) hD7
                have gh8 : GH ρ6 (D :: η) H6 ρ7 (D :: η) H8 := gh7.trans (GH.of g8)
                dsimp only at h7
                cases e8 : t1.put w7 (wipeW env4 vs1) with
                | none => rw [e8] at h7; exact h7.elim
                | some env8 =>
                  rw [e8] at h7
                  refine ct_ok (vs := vs1) e8 r8 (er6.ghG gh8) hv1 fun σ8 er8 w8 => ?_
                  rw [wipe_wipe] at w8
                  refine ⟨w8, ?_⟩
                  refine iteT (B := M1 (j + 1) k H8) ?_
                  intro s' G C cl fp
                  refine he s' G C cl fp ρ7 (D :: η) st7 env8 σ8 H8 _ sr8 er8 ?_
                  dsimp only [mYes] at h7
                  cases e9 : m env8 st7 with
                  | ex x s' => rw [e9] at h7; exact h7.elim
                  | stuck => rw [e9] at h7; exact h7.elim
                  | ok v st9 =>
                    rw [e9] at h7
                    dsimp only at h7
                    by_cases lz : acc7.length < sizeLine
                    · rw [if_pos lz] at h7
                      intro ρ9 H9 y g9 sr9 r9
                      have hD9 : H9 D = some (.lst accv7) := g9.same D _ (sr8.hid D List.mem_cons_self) hD8
                      have rac9 : VRs X.K ρ9 (D :: η) H9 acc7 accv7 := (rac7.mono g8).mono g9
                      refine ⟨accv7, hD9, by rw [rac9.len]; exact lz, ρ9, st9, acc7 ++ [v], accv7 ++ [y], ((g7.trans g8).trans g9).hid hD, (gh8.trans (GH.of g9)).trans (GH.updG List.mem_cons_self), sr9.hid' List.mem_cons_self, upd_same, ?_, h7⟩
                      exact (rac9.hid List.mem_cons_self).append (VRs.cons (r9.hid List.mem_cons_self) VRs.nil)
                    · rw [if_neg lz] at h7
                      exact h7.elim
      · exact h2.elim
    · rename_i e
      rw [e] at k
      refine .inl ⟨k, ?_⟩
      have h2 : After X.K T η (fun ρ H => VR X.K ρ η H) ρ1 H1 (newL fz acc st2) Q (fun c d H' => Wx c d σ H') := h2
      unfold newL at h2
      have l : ∀ b ∈ η, b ∈ D :: η := fun b hb => List.mem_cons_of_mem _ hb
      have nD : D ∉ η := fun z => by
        obtain ⟨o, e, _⟩ := sr1.has D z
        rw [hD] at e; cases e
      cases fz with
      | true =>
        refine h2 ρ2 H2 _ g2 sr2.unhide ?_
        simp only [VR]
        exact ⟨D, accv, rfl, ⟨sr2.hid D List.mem_cons_self, nD, hD2⟩, rac.less l⟩
      | false =>
        refine h2 (ρ2 ++ [D]) H2 _ (g2.shift hD) (sr2.shift nD ⟨accv, hD2, rac.shift⟩) ?_
        simp only [VR]
        exact ⟨D, by rw [← sr2.len, List.getElem?_append_right (Nat.le_refl _)]; simp, rfl⟩
    · exact h2.elim
theorem se_comp2 {fz : Bool} {elt tg iter tg1 iter1 : Expr} {scope : Scope} {own : List (Str × Nat)} {vs1 : List Nat} {mi mi1 : MI} {t t1 : CT} {m : M W} (hc : X.calm = true) (hN : X.N.Nodup) (hi : SI X T Wx tg iter mi) (ok : BlkOk X.N X.env.scope scope own)
    (hv : ∀ i ∈ t.ix, i ∈ own.map (fun p : Str × Nat => p.2)) (hv1 : ∀ i ∈ t1.ix, i ∈ vs1) (hv2 : ∀ i ∈ vs1, i ∈ own.map (·.2))
    (hg : ∀ (s : Shared) (H : Hp) (C : Addr) (cl : List (Str × Addr)) (fp : List Addr), PG (X.blk s H scope (compEnvC scope cl C X.env) fp) tg (t.tg X.K))
    (hi1 : ∀ (s : Shared) (H : Hp) (C : Addr) (cl : List (Str × Addr)) (fp : List Addr), SIG (X.blk s H scope (compEnvC scope cl C X.env) fp) T W0 tg1 iter1 mi1)
    (hg1 : ∀ (s : Shared) (H : Hp) (C : Addr) (cl : List (Str × Addr)) (fp : List Addr), PG (X.blk s H scope (compEnvC scope cl C X.env) fp) tg1 (t1.tg X.K))
    (he : ∀ (s : Shared) (H : Hp) (C : Addr) (cl : List (Str × Addr)) (fp : List Addr), SE (X.blk s H scope (compEnvC scope cl C X.env) fp) T W0 elt m) (hs : ∀ x, foldedSetIterable iter X.env x = pure x := by intro _; rfl) (hs1 : ∀ env x, foldedSetIterable iter1 env x = pure x := by intro _ _; rfl) :
    SE X T Wx (.ListComp elt [⟨tg, iter, [], 0⟩, ⟨tg1, iter1, [], 0⟩] scope pos) (mComp2 fz mi (own.map (fun p : Str × Nat => p.2)) t mi1 vs1 t1 m) := by
  obtain ⟨wi1, te, h1, h2, h3⟩ := comp2_T (fz := fz) (own := own) (Wx := Wx) hi hv hv1 hi1 he
  exact se_T h3 (pe_lc2 hc hN pi_S ok hv2 hg (fun _ _ _ _ _ => pts_nil) h1 hg1 (fun _ _ _ _ _ => pts_nil) h2 hs hs1)
end
end Mi
/-! dict.pop(k, x); sorted(a dict with text keys) -/
namespace Mi
open PySem PySem.Spec PyProof.Rows L2
def fSortedDS (fz : Bool) : FC := fun ws st => match ws with
  | [w] => match dkOf st w with
    | some kvs => match strsOf (kvs.map fun p => keyW p.1) with
      | some ys => if ys.length < 64 then newL fz ((isS ys).map W.str) st else .stuck
      | none => .stuck
    | none => .stuck
  | _ => .stuck
def rSortDS : List V → Hp → VK → Prop := fun xs H Q => ∃ (a : Addr) (kvs : List (Key × V)) (ks : List Str), xs = [.ref a] ∧ Rd H a (.dK kvs) ∧ kvs.map (·.1) = ks.map Sum.inr ∧ ks.length < 64 ∧
    ∀ ys p, ys.Perm ks → PyProof.Rows.sortedS ys = true → H p = none → Q (.ref p) (upd H p (.lst (ys.map V.str)))
section
variable {K : PySem.W.Frag} {T : Nat → Addr} {ρ η : List Addr} {H : Hp} {st : Sto}
theorem keys_strs : ∀ {kvs : List (Key × W)} {ns : List Str}, strsOf (kvs.map fun p => keyW p.1) = some ns → kvs.map (·.1) = ns.map Sum.inr
  | [], ns, e => by
    simp only [List.map_nil, strsOf, Option.some.injEq] at e
    subst e; rfl
  | (k, w) :: kvs, ns, e => by
    cases k with
    | inl i => simp [keyW, strsOf] at e
    | inr x =>
      simp only [List.map_cons, keyW, strsOf, Option.map_eq_some_iff] at e
      obtain ⟨ms, e1, e2⟩ := e
      subst e2
      rw [List.map_cons, keys_strs e1, List.map_cons]
theorem okc_sortedDS {fz : Bool} : OkC K T (fSortedDS fz) rSortDS := by
  intro ρ η st H ws vs Q E s r h
  unfold fSortedDS at h
  split at h
  · rename_i w
    obtain ⟨v, e, rr⟩ := vrs1 r
    subst e
    split at h
    · rename_i kvs q
      split at h
      · rename_i ys q2
        split at h
        · rename_i lz
          have hs : ∃ a kv, v = .ref a ∧ Rd H a (.dK kv) ∧ kv.map (·.1) = kvs.map (·.1) := by
            cases w with
            | ref i =>
              simp only [dkOf] at q
              split at q
              · rename_i ks q'
                cases q
                obtain ⟨a, h1, _, kv, h2, h3, h4⟩ := node_at s rr q'
                exact ⟨a, kv, h1, .inl h2, h3⟩
              · rename_i ks q'
                cases q
                obtain ⟨a, h1, _, od, kv, h2, h3, h4⟩ := node_at s rr q'
                exact ⟨a, kv, h1, .inr ⟨od, h2⟩, h3⟩
              · cases q
            | _ => simp [dkOf] at q
          obtain ⟨a, kv, e1, e2, e3⟩ := hs
          subst e1
          refine ⟨a, kv, ys, rfl, e2, by rw [e3]; exact keys_strs q2, lz, fun zs p p1 p2 hp => ?_⟩
          rw [isS_of p1 p2]
          exact newL_ok h s vstrs hp
        · exact h.elim
      · exact h.elim
    · exact h.elim
  · exact h.elim
end
section
variable {X : Cx} {T : Nat → Addr} {Wx : WX'} {pos apos : Pos}
end
end Mi
/-! sorted(set(xs)) of a longer list of texts; l.index(k) of whole numbers; != of tuples that hold the same own objects -/
namespace Mi
open PySem PySem.Spec PyProof.Rows L2
section
variable {X : Cx} {T : Nat → Addr} {Wx : WX'} {pos : Pos}
end
end Mi
/-! <<, &, | of whole numbers; xs[k] op= e; sorted(a list of pairs that stand in order) -/
namespace Mi
open PySem PySem.Spec PyProof.Rows L2
def wShl : F2 := fun a b st => match a, b with
  | .int i, .int j => if 0 ≤ j ∧ j.natAbs ≤ 1000000 ∧ i.natAbs < 2 ^ 64 then .ok (.int (i * 2 ^ j.toNat)) st else .stuck
  | _, _ => .stuck
def wBand : F2 := fun a b st => match a, b with
  | .int i, .int j => .ok (.int (Builtin.bitAnd i j)) st
  | _, _ => .stuck
def wBor : F2 := fun a b st => match a, b with
  | .int i, .int j => .ok (.int (Builtin.bitOr i j)) st
  | _, _ => .stuck
section
variable {K : PySem.W.Frag} {T : Nat → Addr}
theorem ok_shl : OkR K T wShl (rI CPow fun i j => .int (i * 2 ^ j.toNat)) := by
  intro ρ η st H a b x y Q E s ha hb h
  unfold wShl at h
  split at h
  · split at h
    · rename_i q
      simp only [VR] at ha hb
      exact ⟨_, _, ha, hb, ⟨q.1, by omega, q.2.2⟩, h.ok s (by simp only [VR])⟩
    · exact h.elim
  · exact h.elim
theorem ok_band : OkR K T wBand (rI0 fun i j => .int (Builtin.bitAnd i j)) := by
  intro ρ η st H a b x y Q E s ha hb h
  unfold wBand at h
  split at h
  · simp only [VR] at ha hb
    exact ⟨_, _, ha, hb, h.ok s (by simp only [VR])⟩
  · exact h.elim
theorem ok_bor : OkR K T wBor (rI0 fun i j => .int (Builtin.bitOr i j)) := by
  intro ρ η st H a b x y Q E s ha hb h
  unfold wBor at h
  split at h
  · simp only [VR] at ha hb
    exact ⟨_, _, ha, hb, h.ok s (by simp only [VR])⟩
  · exact h.elim
end
/-- xs[k] op= e, xs a list of the store, its item a whole number -/
def sAugSub (f : Int → Int → Int) (mo mi m : M W) : MS := fun env st => (mo env st).to env fun o s1 => (mi env s1).to env fun i s2 => match nodL s2 o, i with
  | some (_, xs), .int k => if 0 ≤ k ∧ k.natAbs < 2 ^ 63 then (match xs[k.toNat]? with
    | some (.int a) => (m env s2).to env fun y s3 => match nodL s3 o, y with
      | some (n, ys), .int b => if k.toNat < ys.length then .nx env (s3.set n (.lst (ys.set k.toNat (.int (f a b))))) else .stuck
      | _, _ => .stuck
    | _ => .stuck) else .stuck
  | _, _ => .stuck
def rGetL (K : PySem.W.Frag) : V → V → Hp → VK → Prop := fun x y H Q => ∃ (p : Addr) (xs : List V) (k : Int) (v : V), x = .ref p ∧ y = .int k ∧ SqL K H p xs ∧ (0 ≤ k ∧ k < 2 ^ 63) ∧ xs[k.toNat]? = some v ∧ Q v H
section
variable {X : Cx} {T : Nat → Addr} {Wx : WX'} {pos : Pos}
theorem pget_list : PGet X (rGetL X.K) := by
  intro pins s σ H o i ov iv Q I ro ri h
  obtain ⟨p, xs, k, v, rfl, rfl, hq, h0, he, q⟩ := h
  cases ro
  obtain ⟨t, rfl⟩ := ri
  obtain ⟨its, r, pl, hz⟩ := I.list hq
  obtain ⟨w, ew, rw'⟩ := r.get he
  exact wpAny_getItem_list pl.isList h0.1 h0.2 (by simpa using ew) ⟨v, H, I, rw', q⟩
theorem ixN_nat {n : Nat} {k : Int} (h0 : 0 ≤ k) (h : k.toNat < n) : ixN n k = some k.toNat := by
  unfold ixN
  rw [if_pos h0, if_pos (by omega)]
theorem ss_augsub {o i e : Expr} {mo mi m : M W} {op : Operator} {f : Int → Int → Int} {tip : TIp} {tpos : Pos} (ho : SE X T Wx o mo) (hi : SE X T Wx i mi) (he : SE X T Wx e m) (hp : PIp X op tip) (hf : ∀ i j H Q, Q (.int (f i j)) H → tip (.int i) (.int j) H Q)
    (ha : ∀ ov iv new, augStore i ov iv new = (do holding [new, ov, iv] (setItem ov iv new); release [new, ov, iv] []; pure .next) := by intros; rfl) : SSt X T Wx (.AugAssign (.Subscript o i tpos) op e pos) (sAugSub f mo mi m) := by
  intro ρ η st env σ H D s er q
  refine ⟨_, ps_augS pe_S pe_S pget_list pe_S hp set_list ha, ?_⟩
  refine ho ρ η st env σ H _ s er (q.bind er fun ow s1 ρ1 H1 ov _ g1 sr1 r1 h1 => ?_)
  refine hi ρ1 η s1 env σ H1 _ sr1 (er.mono g1) (h1.bind (er.mono g1) fun iw s2 ρ2 H2 iv _ g2 sr2 r2 h2 => ?_)
  split at h2
  · rename_i n0 xs k q1 q0
    obtain ⟨a, us, e1, e2, e3, e4⟩ := nodl_ok sr2 (r1.mono g2) q1
    simp only [VR] at r2
    subst r2
    split at h2
    · rename_i hk
      split at h2
      · rename_i av q2
        obtain ⟨u, u1, u2⟩ := e4.get q2
        simp only [VR] at u2
        subst u2
        refine ⟨a, us, k, _, e1, rfl, SqL.of e3, ⟨hk.1, by omega⟩, u1, ?_⟩
        have er2 := (er.mono g1).mono g2
        refine he ρ2 η s2 env σ H2 _ sr2 er2 (h2.bind er2 fun yw s3 ρ3 H3 yv _ g3 sr3 r3 h3 => ?_)
        split at h3
        · rename_i n ys b q3 q5
          obtain ⟨a', vs, f1, f2, f3, f4⟩ := nodl_ok sr3 ((r1.mono g2).mono g3) q3
          simp only [VR] at r3
          subst r3
          split at h3
          · rename_i hl
            refine hf _ _ _ _ ?_
            have hl2 : k.toNat < vs.length := by rw [f4.len]; exact hl
            refine ⟨a', vs, k, k.toNat, f1, rfl, f3, ixN_nat hk.1 hl2, ?_⟩
            have opn : Open H3 a' := open_of f3 fun _ _ z => nomatch z
            have g4 : Grow ρ3 H3 ρ3 (upd H3 a' (.lst (vs.set k.toNat (.int (f av b))))) := Grow.write (List.mem_of_getElem? f2) opn
            refine h3 ρ3 _ σ g4 (sr3.write opn f2 ⟨_, upd_same, (f4.set (by simp only [VR]) _).mono g4⟩) ((er2.mono g3).mono g4)
          · exact h3.elim
        · exact h3.elim
      · exact h2.elim
    · exact h2.elim
  · exact h2.elim
/-- sorted(xs), xs a list of pairs of whole numbers that stand in order -/
def rSortPT (K : PySem.W.Frag) : List V → Hp → VK → Prop := fun vs H Q => ∃ (a : Addr) (xs : List V) (ps : List (Int × Int)), vs = [V.ref a] ∧ SqL K H a xs ∧ xs.length = ps.length ∧
  (∀ (j : Nat) (x : V) (p : Int × Int), xs[j]? = some x → ps[j]? = some p → ∃ t, x = V.ref t ∧ SqT K H t [.int p.1, .int p.2]) ∧ ps.Pairwise (fun p q => SrtO.lexB q p = false) ∧ ∀ p, H p = none → Q (.ref p) (upd H p (.lst xs))
open Classical in
theorem cr_sortPT : CallR X (.builtin "sorted") (rSortPT X.K) := by
  intro pins s σ H vs us Q I r h
  obtain ⟨a, xs, ps, rfl, hs, hlen, hx0, hord, q⟩ := h
  let k : V → Int × Int := fun v => if h : ∃ p : Int × Int, ∃ t, v = V.ref t ∧ SqT X.K H t [.int p.1, .int p.2] then h.choose else (0, 0)
  have hk : ∀ (j : Nat) (x : V) (p : Int × Int), xs[j]? = some x → ps[j]? = some p → k x = p := by
    intro j x p e1 e2
    obtain ⟨t, f1, f2⟩ := hx0 j x p e1 e2
    have ex : ∃ p : Int × Int, ∃ t, x = V.ref t ∧ SqT X.K H t [.int p.1, .int p.2] := ⟨p, t, f1, f2⟩
    obtain ⟨t', g1, g2⟩ := ex.choose_spec
    have hkx : k x = ex.choose := dif_pos ex
    rw [f1] at g1
    cases g1
    have := I.tuple_inj f2 g2
    simp only [List.cons.injEq, V.int.injEq, and_true] at this
    rw [hkx]
    exact Prod.ext this.1.symm this.2.symm
  have hx : ∀ x ∈ xs, ∃ t, x = V.ref t ∧ SqT X.K H t [.int (k x).1, .int (k x).2] := by
    intro x hm
    obtain ⟨j, hj, e⟩ := List.getElem_of_mem hm
    have e1 : xs[j]? = some x := by rw [List.getElem?_eq_getElem hj, e]
    have e2 : ps[j]? = some ps[j] := List.getElem?_eq_getElem (by omega)
    obtain ⟨t, f1, f2⟩ := hx0 j x _ e1 e2
    exact ⟨t, f1, by rw [hk j x _ e1 e2]; exact f2⟩
  have srt : SrtO.Srtd (ltP k) xs := by
    refine List.pairwise_iff_getElem.mpr fun i j hi hj hij => ?_
    have a1 := hk i xs[i] _ (List.getElem?_eq_getElem hi) (List.getElem?_eq_getElem (by omega : i < ps.length))
    have a2 := hk j xs[j] _ (List.getElem?_eq_getElem hj) (List.getElem?_eq_getElem (by omega : j < ps.length))
    show SrtO.lexB (k xs[j]) (k xs[i]) = false
    rw [a1, a2]
    exact List.pairwise_iff_getElem.mp hord i j (by omega) (by omega) hij
  obtain ⟨its, rv, hl, hz⟩ := I.list hs
  obtain ⟨u, rfl, ru⟩ := vals1 r
  obtain rfl : u = Value.ref a := ru
  obtain ⟨e1, e2⟩ := refs_back rv fun x m => by
    obtain ⟨t, e, _⟩ := hx x m
    exact ⟨t, e⟩
  refine SrtO.sorted_pairsO (k := fun u => k (backV u)) hl.isList (by rw [← rv.length]; exact hz) (fun v hv => ?_) fun h' d out h1 h2 kp hd hn => ?_
  · obtain ⟨t, rfl⟩ := e2 v hv
    have hm : V.ref t ∈ xs := by rw [e1]; exact List.mem_map.mpr ⟨_, hv, rfl⟩
    obtain ⟨t', e, ht⟩ := hx _ hm
    cases e
    obtain ⟨its2, r2, ⟨o, ho, hc, n, hd⟩, _⟩ := I.tuple ht
    obtain ⟨u1, u2, rfl, ri, rj⟩ := vals2 r2
    obtain ⟨t1, rfl⟩ := ri
    obtain ⟨t2, rfl⟩ := rj
    exact ⟨t, o, t1, t2, n, rfl, ho, hc, hd⟩
  · have h3 : ∀ u ∈ out, ∃ a, u = Value.ref a := fun u hu => e2 u (h2.perm.mem_iff.mp hu)
    obtain ⟨n, hn⟩ := hn
    have hb : SrtO.Stb (ltP k) (out.map backV) xs := by
      rw [e1]
      exact SrtO.Stb.map (ltP_swo k) backV h2
    have same : out.map backV = xs := SrtO.stb_uniq (ltP_swo k) (SrtO.srtd_map h1) srt hb
    have hz' : (out.map backV).length ≤ sizeLine := by rw [same]; exact hz
    have fin := q d (I.hok.fresh hd)
    rw [← same] at fin
    exact ⟨.ref d, upd H d (.lst (out.map backV)), I.laid (t' := s.toks) kp hd ⟨hz', out, n, vals_back h3, hn⟩, rfl, fin⟩
def pairOf : W → Option (Int × Int)
  | .tup [.int i, .int j] => some (i, j)
  | _ => none
def pairsOf : List W → Option (List (Int × Int))
  | [] => some []
  | w :: ws => match pairOf w, pairsOf ws with
    | some p, some ps => some (p :: ps)
    | _, _ => none
def upP : List (Int × Int) → Bool
  | [] => true
  | [_] => true
  | p :: q :: r => SrtO.lexB p q && upP (q :: r)
def fSortedPP (fz : Bool) : FC := fun ws st => match ws with
  | [w] => match seqL st w with
    | some xs => match pairsOf xs with
      | some ps => if upP ps = true then newL fz xs st else .stuck
      | none => .stuck
    | none => .stuck
  | _ => .stuck
theorem lexB_trans {a b c : Int × Int} (h : SrtO.lexB a b = true) (k : SrtO.lexB b c = true) : SrtO.lexB a c = true := by
  have h1 := SrtO.lexB_iff.mp h
  have h2 := SrtO.lexB_iff.mp k
  refine SrtO.lexB_iff.mpr ?_
  omega
theorem upP_pair : ∀ {ps : List (Int × Int)}, upP ps = true → ps.Pairwise (fun p q => SrtO.lexB p q = true)
  | [], _ => .nil
  | [p], _ => List.pairwise_singleton _ _
  | p :: q :: r, h => by
    simp only [upP, Bool.and_eq_true] at h
    have ih := upP_pair h.2
    refine List.pairwise_cons.mpr ⟨fun z hz => ?_, ih⟩
    rcases List.mem_cons.mp hz with rfl | hz
    · exact h.1
    · exact lexB_trans h.1 ((List.pairwise_cons.mp ih).1 z hz)
theorem pairs_at {K : PySem.W.Frag} {ρ η : List Addr} {H : Hp} : ∀ {ws : List W} {vs : List V} {ps : List (Int × Int)}, VRs K ρ η H ws vs → pairsOf ws = some ps → vs.length = ps.length ∧ ∀ (j : Nat) (x : V) (p : Int × Int), vs[j]? = some x → ps[j]? = some p → ∃ t, x = V.ref t ∧ SqT K H t [.int p.1, .int p.2]
  | [], vs, ps, r, e => by
    simp only [VRs] at r
    simp only [pairsOf, Option.some.injEq] at e
    subst r; subst e
    exact ⟨rfl, fun j x p h => by simp at h⟩
  | w :: ws, vs, ps, r, e => by
    simp only [VRs] at r
    obtain ⟨v, rr, e1, r1, r2⟩ := r
    simp only [pairsOf] at e
    split at e
    · rename_i p ps' q1 q2
      cases e
      obtain ⟨i1, i2⟩ := pairs_at r2 q2
      subst e1
      refine ⟨by simp [i1], fun j x p' h1 h2 => ?_⟩
      cases j with
      | zero =>
        simp only [List.getElem?_cons_zero, Option.some.injEq] at h1 h2
        subst h1; subst h2
        unfold pairOf at q1
        split at q1
        · cases q1
          simp only [VR, VRs] at r1
          obtain ⟨a, vs', f1, f2, v1, r1, f3, rfl, v2, r2', f4, rfl, rfl⟩ := r1
          subst f3; subst f4
          exact ⟨a, f1, f2.sq⟩
        · cases q1
      | succ j => exact i2 j x p' (by simpa using h1) (by simpa using h2)
    · cases e
theorem okc_sortedPP {K : PySem.W.Frag} {T : Nat → Addr} {fz : Bool} : OkC K T (fSortedPP fz) (rSortPT K) := by
  intro ρ η st H ws vs Q E s r h
  unfold fSortedPP at h
  split at h
  · rename_i w
    obtain ⟨v, e, rr⟩ := vrs1 r
    subst e
    split at h
    · rename_i xs q
      obtain ⟨a, us, e1, e2, e3⟩ := seq_ok s rr q
      subst e1
      split at h
      · rename_i ps q2
        obtain ⟨l1, l2⟩ := pairs_at e3 q2
        split at h
        · rename_i hu
          refine ⟨a, us, ps, rfl, e2, l1, l2, (upP_pair hu).imp fun {x y} h => ?_, fun p hp => newL_ok h s e3 hp⟩
          cases z : SrtO.lexB y x with
          | false => rfl
          | true =>
            have h1 := SrtO.lexB_iff.mp h
            have h2 := SrtO.lexB_iff.mp z
            omega
        · exact h.elim
      · exact h.elim
    · exact h.elim
  · exact h.elim
end
end Mi
/-! what a run of the mirror comes to -/
namespace Mi
open PySem L2
def wp {α : Type} (r : Rs α) (P : α → Sto → Prop) (E : Xc → Sto → Prop) : Prop := match r with
  | .ok a s => P a s
  | .ex x s => E x s
  | .stuck => False
abbrev KN := Ev → Sto → Prop
abbrev KR := W → Sto → Prop
abbrev KX := Xc → Ev → Sto → Prop
def ws (r : SRs) (N : KN) (R : KR) (B C : KN) (E : KX) : Prop := match r with
  | .nx e s => N e s
  | .rt w s => R w s
  | .bk e s => B e s
  | .ct e s => C e s
  | .ex x e s => E x e s
  | .stuck => False
def NoE : Xc → Sto → Prop := fun _ _ => False
theorem wp_mono {α : Type} {r : Rs α} {P P' : α → Sto → Prop} {E E' : Xc → Sto → Prop} (h : wp r P E) (f : ∀ a s, P a s → P' a s) (g : ∀ x s, E x s → E' x s) : wp r P' E' := by
  cases r with
  | ok a s => exact f a s h
  | ex x s => exact g x s h
  | stuck => exact h
theorem wp_no {α : Type} {r : Rs α} {P P' : α → Sto → Prop} {E' : Xc → Sto → Prop} (h : wp r P NoE) (f : ∀ a s, P a s → P' a s) : wp r P' E' := wp_mono h f fun _ _ z => z.elim
theorem wp_get {α : Type} {r : Rs α} {P : α → Sto → Prop} (h : wp r P NoE) : ∃ a s, r = .ok a s ∧ P a s := by
  cases r with
  | ok a s => exact ⟨a, s, rfl, h⟩
  | ex x s => exact h.elim
  | stuck => exact h.elim
theorem ws_mono {r : SRs} {N N' : KN} {R R' : KR} {B B' C C' : KN} {E E' : KX} (h : ws r N R B C E) (f : ∀ e s, N e s → N' e s) (g : ∀ w s, R w s → R' w s) (b : ∀ e s, B e s → B' e s) (c : ∀ e s, C e s → C' e s) (x : ∀ x e s, E x e s → E' x e s) : ws r N' R' B' C' E' := by
  cases r with
  | nx e s => exact f e s h
  | rt w s => exact g w s h
  | bk e s => exact b e s h
  | ct e s => exact c e s h
  | ex y e s => exact x y e s h
  | stuck => exact h
theorem ws_nx {r : SRs} {N N' : KN} {R : KR} {B C : KN} {E : KX} (h : ws r N R B C E) (f : ∀ e s, N e s → N' e s) : ws r N' R B C E := ws_mono h f (fun _ _ z => z) (fun _ _ z => z) (fun _ _ z => z) (fun _ _ _ z => z)
section
variable {P : W → Sto → Prop} {PB : Bool → Sto → Prop} {PL : List W → Sto → Prop} {E : Xc → Sto → Prop} {env : Ev} {st : Sto}
theorem wp_ok {α : Type} {a : α} {Q : α → Sto → Prop} : wp (.ok a st) Q E ↔ Q a st := Iff.rfl
theorem wp_bind {α β : Type} {r : Rs α} {k : α → Sto → Rs β} {Q : β → Sto → Prop} : wp (r.bind k) Q E ↔ wp r (fun a s => wp (k a s) Q E) E := by cases r <;> exact Iff.rfl
theorem wp_var0 {w : W} {e : Ev} : wp (mVar 0 (some w :: e) st) P E ↔ P w st := Iff.rfl
theorem wp_varS {n : Nat} {o : Option W} {e : Ev} : wp (mVar (n + 1) (o :: e) st) P E ↔ wp (mVar n e st) P E := by
  unfold mVar
  rw [List.getElem?_cons_succ]
theorem wp_c {w : W} : wp (mC w env st) P E ↔ P w st := Iff.rfl
theorem wp_op {f : F2} {a b : M W} : wp (mOp f a b env st) P E ↔ wp (a env st) (fun x s => wp (b env s) (fun y s2 => wp (f x y s2) P E) E) E := by
  unfold mOp; simp only [wp_bind]
theorem wp_neg {a : M W} : wp (mNeg a env st) P E ↔ wp (a env st) (fun x s => wp (match x with | .int i => .ok (.int (-i)) s | _ => .stuck) P E) E := by
  unfold mNeg; simp only [wp_bind] <;> rfl
theorem wp_toB {b : Bool} : wp (toB (.bl b) st) PB E ↔ PB b st := Iff.rfl
theorem wp_mB {a : M W} : wp (mB a env st) PB E ↔ wp (a env st) (fun w s => wp (toB w s) PB E) E := by
  unfold mB; simp only [wp_bind]
def trB (w : W) (s : Sto) : Rs Bool := match trW s w with
  | some b => .ok b s
  | none => .stuck
theorem wp_tr {a : M W} : wp (mTr a env st) PB E ↔ wp (a env st) (fun w s => wp (trB w s) PB E) E := by
  unfold mTr; simp only [wp_bind] <;> rfl
theorem wp_trB_bl {b : Bool} : wp (trB (.bl b) st) PB E ↔ PB b st := Iff.rfl
theorem wp_trB_non : wp (trB .non st) PB E ↔ PB false st := Iff.rfl
theorem wp_trB_int {i : Int} : wp (trB (.int i) st) PB E ↔ PB (i != 0) st := Iff.rfl
theorem wp_not {m : M Bool} : wp (mNot m env st) PB E ↔ wp (m env st) (fun b s => PB (!b) s) E := by
  unfold mNot; simp only [wp_bind, wp_ok]
theorem wp_ite {α : Type} {c : Prop} [Decidable c] {r k : Rs α} {Q : α → Sto → Prop} : wp (if c then r else k) Q E ↔ if c then wp r Q E else wp k Q E := by
  by_cases h : c <;> simp [h]
theorem wp_and {m k : M Bool} : wp (mAnd m k env st) PB E ↔ wp (m env st) (fun b s => if b = true then wp (k env s) PB E else PB false s) E := by
  unfold mAnd; simp only [wp_bind, wp_ite, wp_ok]
theorem wp_or {m k : M Bool} : wp (mOr m k env st) PB E ↔ wp (m env st) (fun b s => if b = true then PB true s else wp (k env s) PB E) E := by
  unfold mOr; simp only [wp_bind, wp_ite, wp_ok]
theorem wp_if {α : Type} {c : M Bool} {a b : M α} {Q : α → Sto → Prop} : wp (mIf c a b env st) Q E ↔ wp (c env st) (fun z s => if z = true then wp (a env s) Q E else wp (b env s) Q E) E := by
  unfold mIf; simp only [wp_bind, wp_ite]
theorem wp_mBl {m : M Bool} : wp (mBl m env st) P E ↔ wp (m env st) (fun b s => P (.bl b) s) E := by
  unfold mBl; simp only [wp_bind, wp_ok]
theorem wp_nil : wp (mNil env st) PL E ↔ PL [] st := Iff.rfl
theorem wp_cons {a : M W} {r : M (List W)} : wp (mCons a r env st) PL E ↔ wp (a env st) (fun x s => wp (r env s) (fun xs s2 => PL (x :: xs) s2) E) E := by
  unfold mCons; simp only [wp_bind, wp_ok]
theorem wp_tup {m : M (List W)} : wp (mTup m env st) P E ↔ wp (m env st) (fun xs s => P (.tup xs) s) E := by
  unfold mTup; simp only [wp_bind, wp_ok]
theorem wp_lst {fz : Bool} {m : M (List W)} : wp (mLst fz m env st) P E ↔ wp (m env st) (fun xs s => wp (newL fz xs s) P E) E := by
  unfold mLst; simp only [wp_bind]
theorem wp_lstS {fz : Bool} {m : M (List W)} : wp (mLstS fz m env st) P E ↔ wp (m env st) (fun xs s => xs.length ≤ sizeLine ∧ wp (newL fz xs s) P E) E := by
  unfold mLstS; simp only [wp_bind]
  constructor
  · intro h
    refine wp_mono h (fun x s h => ?_) (fun _ _ z => z)
    split at h
    · rename_i q; exact ⟨q, h⟩
    · exact h.elim
  · intro h
    refine wp_mono h (fun x s h => ?_) (fun _ _ z => z)
    rw [if_pos h.1]; exact h.2
theorem wp_newL_t {xs : List W} : wp (newL true xs st) P E ↔ P (.lst xs) st := Iff.rfl
theorem wp_newL_f {xs : List W} : wp (newL false xs st) P E ↔ P (.ref st.length) (st ++ [.lst xs]) := Iff.rfl
theorem wp_dict0 : wp (mDict0 env st) P E ↔ P (.ref st.length) (st ++ [.dk []]) := Iff.rfl
theorem wp_chain {f g : F2} {a b c : M W} : wp (mChain f g a b c env st) P E ↔ wp (a env st) (fun x s => wp (b env s) (fun y s2 => wp (f x y s2) (fun z s3 => wp (toB z s3) (fun t s4 => if t = true then wp (c env s4) (fun u s5 => wp (g y u s5) P E) E else P (.bl false) s4) E) E) E) E := by
  unfold mChain; simp only [wp_bind]
  constructor
  · intro h
    refine wp_mono h (fun x s h => wp_mono h (fun y s2 h => wp_mono h (fun z s3 h => ?_) (fun _ _ z => z)) (fun _ _ z => z)) (fun _ _ z => z)
    split at h
    · simpa only [wp_toB, if_true, wp_bind] using h
    · simpa only [wp_toB, if_false, Bool.false_eq_true, wp_ok] using h
    · exact h.elim
  · intro h
    refine wp_mono h (fun x s h => wp_mono h (fun y s2 h => wp_mono h (fun z s3 h => ?_) (fun _ _ z => z)) (fun _ _ z => z)) (fun _ _ z => z)
    cases z with
    | bl t => cases t <;> simpa only [wp_toB, if_true, if_false, Bool.false_eq_true, wp_bind, wp_ok] using h
    | _ => exact h.elim
theorem wp_call {run : RunM} {m : M (List W)} : wp (mCall run m env st) P E ↔ wp (m env st) (fun ws s => wp (run ws s) P E) E := by
  unfold mCall; simp only [wp_bind]
theorem wp_fn {f : FC} {m : M (List W)} : wp (mFn f m env st) P E ↔ wp (m env st) (fun ws s => wp (f ws s) P E) E := by
  unfold mFn; simp only [wp_bind]
theorem wp_sl {fz : Bool} {ma : M W} {ml mh : M (Option Int)} : wp (mSl fz ma ml mh env st) P E ↔ wp (ma env st) (fun a s => wp (ml env s) (fun lo s2 => wp (mh env s2) (fun hi s3 => wp (wSl fz a lo hi s3) P E) E) E) E := by
  unfold mSl; simp only [wp_bind]
theorem wp_noPart {Q : Option Int → Sto → Prop} : wp (mNoPart env st) Q E ↔ Q none st := Iff.rfl
theorem wp_part {Q : Option Int → Sto → Prop} {m : M W} : wp (mPart m env st) Q E ↔ wp (m env st) (fun a s => wp (match a with | .int i => .ok (some i) s | _ => .stuck) Q E) E := by
  unfold mPart; simp only [wp_bind] <;> rfl
theorem wp_fld {cs : List Nat} {f : Str} {m : M W} : wp (mFld cs f m env st) P E ↔ wp (m env st) (fun a s => wp (match a with | .ref i => (match s[i]? with | some (.ins c fs) => (if cs.contains c then (match fs.lookup f with | some w => .ok w s | none => .stuck) else .stuck) | _ => .stuck) | _ => .stuck) P E) E := by
  unfold mFld; simp only [wp_bind] <;> rfl
theorem wp_lm {f : FM} {o : M W} {m : M (List W)} : wp (mLm f o m env st) P E ↔ wp (o env st) (fun x s => (seqL s x).isSome = true ∧ wp (m env s) (fun xs s2 => wp (f x xs s2) P E) E) E := by
  unfold mLm; simp only [wp_bind]
  constructor
  · intro h
    refine wp_mono h (fun x s h => ?_) (fun _ _ z => z)
    split at h
    · rename_i q; exact ⟨q, by simpa only [wp_bind] using h⟩
    · exact h.elim
  · intro h
    refine wp_mono h (fun x s h => ?_) (fun _ _ z => z)
    rw [if_pos h.1]; simpa only [wp_bind] using h.2
theorem wp_comp {fz : Bool} {mi : MI} {vs : List Nat} {t : CT} {cond : M Bool} {elt : M W} : wp (mComp fz mi vs t cond elt env st) P E ↔ wp (mi env st) (fun s st1 => wp (compS s t cond elt (wipeW env vs) s.fuel 0 [] st1) (fun xs st2 => wp (newL fz xs st2) P E) E) E := by
  unfold mComp; simp only [wp_bind]
theorem wp_yes : wp (mYes env st) PB E ↔ PB true st := Iff.rfl
/-! values -/
theorem wp_add {b : Bool} {i j : Int} : wp (wAdd b (.int i) (.int j) st) P E ↔ P (.int (i + j)) st := Iff.rfl
theorem wp_sub {i j : Int} : wp (wSub (.int i) (.int j) st) P E ↔ P (.int (i - j)) st := Iff.rfl
theorem wp_mul {b : Bool} {i j : Int} : wp (wMul b (.int i) (.int j) st) P E ↔ (Mi.small64 i || Mi.small64 j) = true ∧ P (.int (i * j)) st := by
  show wp (if Mi.small64 i || Mi.small64 j then .ok (.int (i * j)) st else .stuck) P E ↔ _
  rw [wp_ite]
  by_cases h : (Mi.small64 i || Mi.small64 j) = true
  · rw [if_pos h]; exact ⟨fun z => ⟨h, z⟩, fun z => z.2⟩
  · rw [if_neg h]; exact ⟨fun z => z.elim, fun z => (h z.1).elim⟩
theorem wp_mod {i j : Int} : wp (wMod (.int i) (.int j) st) P E ↔ j ≠ 0 ∧ P (.int (i.fmod j)) st := by
  show wp (if j ≠ 0 then .ok (.int (i.fmod j)) st else .stuck) P E ↔ _
  rw [wp_ite]
  by_cases h : j ≠ 0
  · rw [if_pos h]; exact ⟨fun z => ⟨h, z⟩, fun z => z.2⟩
  · rw [if_neg h]; exact ⟨fun z => z.elim, fun z => (h z.1).elim⟩
theorem wp_div {i j : Int} : wp (wDiv (.int i) (.int j) st) P E ↔ (j ≠ 0 ∧ j.natAbs < 1073741824) ∧ P (.int (i.fdiv j)) st := by
  show wp (if j ≠ 0 ∧ j.natAbs < 1073741824 then .ok (.int (i.fdiv j)) st else .stuck) P E ↔ _
  rw [wp_ite]
  by_cases h : j ≠ 0 ∧ j.natAbs < 1073741824
  · rw [if_pos h]; exact ⟨fun z => ⟨h, z⟩, fun z => z.2⟩
  · rw [if_neg h]; exact ⟨fun z => z.elim, fun z => (h z.1).elim⟩
theorem wp_divW {i j : Int} : wp (wDivW (.int i) (.int j) st) P E ↔ (0 < j ∧ j.natAbs.log2 < 9000) ∧ P (.int (i / j)) st := by
  show wp (if 0 < j ∧ j.natAbs.log2 < 9000 then .ok (.int (i / j)) st else .stuck) P E ↔ _
  rw [wp_ite]
  by_cases h : 0 < j ∧ j.natAbs.log2 < 9000
  · rw [if_pos h]; exact ⟨fun z => ⟨h, z⟩, fun z => z.2⟩
  · rw [if_neg h]; exact ⟨fun z => z.elim, fun z => (h z.1).elim⟩
theorem wp_pow18 : wp (wPow (.int 10) (.int 18) st) P E ↔ P (.int 1000000000000000000) st := by
  have : wPow (.int 10) (.int 18) st = .ok (.int 1000000000000000000) st := rfl
  rw [this]; exact Iff.rfl
theorem wp_pow17 : wp (wPow (.int 10) (.int 17) st) P E ↔ P (.int 100000000000000000) st := by
  have : wPow (.int 10) (.int 17) st = .ok (.int 100000000000000000) st := rfl
  rw [this]; exact Iff.rfl
theorem wp_pow16 : wp (wPow (.int 10) (.int 16) st) P E ↔ P (.int 10000000000000000) st := by
  have : wPow (.int 10) (.int 16) st = .ok (.int 10000000000000000) st := rfl
  rw [this]; exact Iff.rfl
theorem wp_pow30 : wp (wPow (.int 10) (.int 30) st) P E ↔ P (.int 1000000000000000000000000000000) st := by
  have : wPow (.int 10) (.int 30) st = .ok (.int 1000000000000000000000000000000) st := rfl
  rw [this]; exact Iff.rfl
theorem wp_eqI {i j : Int} : wp (wEq (.int i) (.int j) st) P E ↔ P (.bl (decide (i = j))) st := by
  have : wEq (.int i) (.int j) st = .ok (.bl (decide (i = j))) st := by simp [wEq, eqW, scalV, scal]
  rw [this]; exact Iff.rfl
theorem wp_neI {i j : Int} : wp (wNe (.int i) (.int j) st) P E ↔ P (.bl (!decide (i = j))) st := by
  have : wNe (.int i) (.int j) st = .ok (.bl (!decide (i = j))) st := by simp [wNe, eqW, scalV, scal]
  rw [this]; exact Iff.rfl
theorem wp_cmpI {p : Str → Str → Bool} {q : Int → Int → Bool} {i j : Int} : wp (wCmpS p q (.int i) (.int j) st) P E ↔ P (.bl (q i j)) st := Iff.rfl
theorem wp_cmpT {p : Str → Str → Bool} {q : Int → Int → Bool} {i j : Str} : wp (wCmpS p q (.str i) (.str j) st) P E ↔ P (.bl (p i j)) st := Iff.rfl
theorem wp_isN {a : W} : wp (wIs a .non st) P E ↔ P (.bl (isNon a)) st := Iff.rfl
theorem wp_isNotN {a : W} : wp (wIsNot a .non st) P E ↔ P (.bl (!isNon a)) st := Iff.rfl
theorem wp_lenL {xs : List W} : wp (fLen [.lst xs] st) P E ↔ P (.int xs.length) st := Iff.rfl
theorem wp_lenT {xs : List W} : wp (fLen [.tup xs] st) P E ↔ P (.int xs.length) st := Iff.rfl
theorem wp_lenR {i : Nat} {xs : List W} (e : st[i]? = some (.lst xs)) : wp (fLen [.ref i] st) P E ↔ P (.int xs.length) st := by
  have : fLen [.ref i] st = .ok (.int xs.length) st := by simp [fLen, seqL, e]
  rw [this]; exact Iff.rfl
theorem wp_abs {i : Int} : wp (fAbs [.int i] st) P E ↔ P (.int (if i < 0 then -i else i)) st := Iff.rfl
theorem wp_int {i : Int} : wp (fInt [.int i] st) P E ↔ P (.int i) st := Iff.rfl
theorem wp_min2 {i j : Int} : wp (fMin2 [.int i, .int j] st) P E ↔ P (.int (if j < i then j else i)) st := Iff.rfl
theorem wp_max2 {i j : Int} : wp (fMax2 [.int i, .int j] st) P E ↔ P (.int (if j > i then j else i)) st := Iff.rfl
theorem wp_listL {xs : List W} : wp (fList true [.lst xs] st) P E ↔ P (.lst xs) st := Iff.rfl
theorem wp_listT {xs : List W} : wp (fList true [.tup xs] st) P E ↔ P (.lst xs) st := Iff.rfl
theorem wp_tupleL {xs : List W} : wp (fTuple [.lst xs] st) P E ↔ P (.tup xs) st := Iff.rfl
theorem wp_tupleT {xs : List W} : wp (fTuple [.tup xs] st) P E ↔ P (.tup xs) st := Iff.rfl
theorem wp_tupleR {i : Nat} {xs : List W} (e : st[i]? = some (.lst xs)) : wp (fTuple [.ref i] st) P E ↔ P (.tup xs) st := by
  have : fTuple [.ref i] st = .ok (.tup xs) st := by simp [fTuple, seqL, e]
  rw [this]; exact Iff.rfl
theorem wp_app {i : Nat} {xs : List W} {w : W} (e : st[i]? = some (.lst xs)) (h : xs.length < sizeLine) : wp (fAppend (.ref i) [w] st) P E ↔ P .non (st.set i (.lst (xs ++ [w]))) := by
  have : fAppend (.ref i) [w] st = .ok .non (st.set i (.lst (xs ++ [w]))) := by simp [fAppend, nodL, e, h]
  rw [this]; exact Iff.rfl
theorem wp_ixL {xs : List W} {n : Nat} {w : W} (e : xs[n]? = some w) : wp (wIx (.lst xs) (.int (n : Int)) st) P E ↔ P w st := by
  have h : n < xs.length := (List.getElem?_eq_some_iff.mp e).1
  have q : xs[n] = w := (List.getElem?_eq_some_iff.mp e).2
  have : wIx (.lst xs) (.int (n : Int)) st = .ok w st := by simp [wIx, dkOf, seqL, wNth, atI, ixN, h, q]
  rw [this]; exact Iff.rfl
theorem wp_ixT {xs : List W} {n : Nat} {w : W} (e : xs[n]? = some w) : wp (wIx (.tup xs) (.int (n : Int)) st) P E ↔ P w st := by
  have h : n < xs.length := (List.getElem?_eq_some_iff.mp e).1
  have q : xs[n] = w := (List.getElem?_eq_some_iff.mp e).2
  have : wIx (.tup xs) (.int (n : Int)) st = .ok w st := by simp [wIx, dkOf, seqL, tupL, wNth, atI, ixN, h, q]
  rw [this]; exact Iff.rfl
theorem wp_ixLi {xs : List W} {i : Int} {w : W} (h : 0 ≤ i) (e : xs[i.toNat]? = some w) : wp (wIx (.lst xs) (.int i) st) P E ↔ P w st := by
  have : wp (wIx (.lst xs) (.int (i.toNat : Int)) st) P E ↔ P w st := wp_ixL e
  rwa [Int.toNat_of_nonneg h] at this
theorem wp_ixT0 {w : W} {xs : List W} : wp (wIx (.tup (w :: xs)) (.int 0) st) P E ↔ P w st := wp_ixT (n := 0) rfl
theorem wp_ixT1 {v w : W} {xs : List W} : wp (wIx (.tup (v :: w :: xs)) (.int 1) st) P E ↔ P w st := wp_ixT (n := 1) rfl
theorem wp_ixL0 {w : W} {xs : List W} : wp (wIx (.lst (w :: xs)) (.int 0) st) P E ↔ P w st := wp_ixL (n := 0) rfl
theorem wp_ixR {i n : Nat} {xs : List W} {w : W} (e : st[i]? = some (.lst xs)) (e2 : xs[n]? = some w) : wp (wIx (.ref i) (.int (n : Int)) st) P E ↔ P w st := by
  have h : n < xs.length := (List.getElem?_eq_some_iff.mp e2).1
  have q : xs[n] = w := (List.getElem?_eq_some_iff.mp e2).2
  have : wIx (.ref i) (.int (n : Int)) st = .ok w st := by simp [wIx, dkOf, seqL, e, wNth, atI, ixN, h, q]
  rw [this]; exact Iff.rfl
end
section
variable {N : KN} {R : KR} {B C : KN} {E : KX} {env : Ev} {st : Sto}
theorem ws_to {α : Type} {r : Rs α} {k : α → Sto → SRs} : ws (r.to env k) N R B C E ↔ wp r (fun a s => ws (k a s) N R B C E) (fun x s => E x env s) := by cases r <;> exact Iff.rfl
theorem ws_seq {m k : MS} : ws (sSeq m k env st) N R B C E ↔ ws (m env st) (fun e s => ws (k e s) N R B C E) R B C E := by
  unfold sSeq
  cases m env st <;> exact Iff.rfl
theorem ws_sNx : ws (sNx env st) N R B C E ↔ N env st := Iff.rfl
theorem ws_ret {m : M W} : ws (sRet m env st) N R B C E ↔ wp (m env st) R (fun x s => E x env s) := by
  unfold sRet; rw [ws_to]; exact Iff.rfl
theorem ws_retN : ws (sRetN env st) N R B C E ↔ R .non st := Iff.rfl
theorem ws_expr {m : M W} : ws (sExpr m env st) N R B C E ↔ wp (m env st) (fun _ s => N env s) (fun x s => E x env s) := by
  unfold sExpr; rw [ws_to]; exact Iff.rfl
theorem ws_ite {c : Prop} [Decidable c] {r k : SRs} : ws (if c then r else k) N R B C E ↔ if c then ws r N R B C E else ws k N R B C E := by
  by_cases h : c <;> simp [h]
theorem ws_if {c : M Bool} {m k : MS} : ws (sIf c m k env st) N R B C E ↔ wp (c env st) (fun b s => if b = true then ws (m env s) N R B C E else ws (k env s) N R B C E) (fun x s => E x env s) := by
  unfold sIf; simp only [ws_to, ws_ite]
theorem ws_set {i : Nat} {m : M W} : ws (sAsg m (gName' i) env st) N R B C E ↔ wp (m env st) (fun w s => N (env.set i (some w)) s) (fun x s => E x env s) := by
  unfold sAsg; rw [ws_to]; exact Iff.rfl
def stR (o i w : W) (s : Sto) : Rs Unit := match wStore o i w s with
  | some s3 => .ok () s3
  | none => .stuck
theorem wp_stR {o i w : W} {s s3 : Sto} {P : Unit → Sto → Prop} {E : Xc → Sto → Prop} (e : wStore o i w s = some s3) : wp (stR o i w s) P E ↔ P () s3 := by
  unfold stR; rw [e]; exact Iff.rfl
theorem ws_sub {mo mi : M W} {m : M W} : ws (sAsg m (gSub' mo mi) env st) N R B C E ↔ wp (m env st) (fun w s => wp (mo env s) (fun o s1 => wp (mi env s1) (fun i s2 => wp (stR o i w s2) (fun _ s3 => N env s3) NoE) NoE) NoE) (fun x s => E x env s) := by
  unfold sAsg; rw [ws_to]
  have e : ∀ w s, ws (gDo (gSub' mo mi w env s)) N R B C E ↔ wp (mo env s) (fun o s1 => wp (mi env s1) (fun i s2 => wp (stR o i w s2) (fun _ s3 => N env s3) NoE) NoE) NoE := by
    intro w s
    unfold gSub' stR
    cases h1 : mo env s with
    | ok o s1 =>
      cases h2 : mi env s1 with
      | ok i s2 =>
        cases h3 : wStore o i w s2 with
        | some s3 => simp only [h2, h3, wp]; exact Iff.rfl
        | none => simp only [h2, h3, wp]; exact Iff.rfl
      | ex x s2 => simp only [h2, wp]; exact Iff.rfl
      | stuck => simp only [h2, wp]; exact Iff.rfl
    | ex x s2 => exact Iff.rfl
    | stuck => exact Iff.rfl
  simp only [e]
theorem ws_for {mi : MI} {g : MG} {b : MS} : ws (sFor mi g b env st) N R B C E ↔ wp (mi env st) (fun s st1 => ws (forS s g b s.fuel 0 env st1) N R B C E) (fun x s => E x env s) := by
  unfold sFor; rw [ws_to]
/-- a walk over things that stand still -/
theorem forS_fix {xs : List W} {g : MG} {b : MS} (inv : Nat → KN) (h0 : inv 0 env st)
    (step : ∀ (i : Nat) (w : W), xs[i]? = some w → ∀ env st, inv i env st → ∃ env1 st1, g w env st = some (env1, st1) ∧ ws (b env1 st1) (inv (i + 1)) R N (inv (i + 1)) E)
    (fin : ∀ env st, inv xs.length env st → N env st) : ws (forS (fixS xs) g b (fixS xs).fuel 0 env st) N R B C E := by
  suffices H : ∀ m i env st, xs.length < i + m → i ≤ xs.length → inv i env st → ws (forS (fixS xs) g b m i env st) N R B C E by
    refine H _ _ _ _ ?_ (Nat.zero_le _) h0
    show xs.length < 0 + (xs.length + 1)
    omega
  intro m
  induction m with
  | zero => intro i env st h1 h2; omega
  | succ m ih =>
    intro i env st h1 h2 hi
    show ws (match (some xs[i]? : Option (Option W)) with | some (some w) => _ | some none => _ | none => _) N R B C E
    by_cases e : i = xs.length
    · rw [List.getElem?_eq_none (by omega)]
      subst e
      exact fin env st hi
    · have hl : i < xs.length := by omega
      rw [List.getElem?_eq_getElem hl]
      obtain ⟨env1, st1, e1, q⟩ := step i xs[i] (List.getElem?_eq_getElem hl) env st hi
      simp only [e1]
      cases e2 : b env1 st1 with
      | nx e s => rw [e2] at q; exact ih (i + 1) e s (by omega) (by omega) q
      | ct e s => rw [e2] at q; exact ih (i + 1) e s (by omega) (by omega) q
      | bk e s => rw [e2] at q; exact q
      | rt w s => rw [e2] at q; exact q
      | ex x e s => rw [e2] at q; exact q
      | stuck => rw [e2] at q; exact q
end
section
variable {Q : List W → Sto → Prop} {E : Xc → Sto → Prop} {env : Ev} {st : Sto}
/-- a comprehension over things that stand still -/
theorem compS_fix {xs : List W} {t : CT} {cond : M Bool} {elt : M W} (inv : Nat → List W → Sto → Prop) (h0 : inv 0 [] st) (hl : xs.length ≤ sizeLine)
    (hacc : ∀ i acc st, inv i acc st → acc.length ≤ i)
    (step : ∀ (i : Nat) (w : W), xs[i]? = some w → ∀ acc st, inv i acc st → ∃ env1, t.put w env = some env1 ∧ wp (cond env1 st) (fun c s => if c = true then wp (elt env1 s) (fun v s2 => inv (i + 1) (acc ++ [v]) s2) NoE else inv (i + 1) acc s) NoE)
    (fin : ∀ acc st, inv xs.length acc st → Q acc st) : wp (compS (fixS xs) t cond elt env (fixS xs).fuel 0 [] st) Q E := by
  suffices H : ∀ m i acc st, xs.length < i + m → i ≤ xs.length → inv i acc st → wp (compS (fixS xs) t cond elt env m i acc st) Q E by
    refine H _ _ _ _ ?_ (Nat.zero_le _) h0
    show xs.length < 0 + (xs.length + 1)
    omega
  intro m
  induction m with
  | zero => intro i acc st h1 h2; omega
  | succ m ih =>
    intro i acc st h1 h2 hi
    show wp (match (some xs[i]? : Option (Option W)) with | some (some w) => _ | some none => _ | none => _) Q E
    by_cases e : i = xs.length
    · rw [List.getElem?_eq_none (by omega)]
      subst e
      exact fin acc st hi
    · have hx : i < xs.length := by omega
      rw [List.getElem?_eq_getElem hx]
      obtain ⟨env1, e1, q⟩ := step i xs[i] (List.getElem?_eq_getElem hx) acc st hi
      obtain ⟨c, s, e2, q⟩ := wp_get q
      simp only [e1, e2]
      cases c with
      | false => exact ih (i + 1) acc s (by omega) (by omega) q
      | true =>
        obtain ⟨v, s2, e3, q⟩ := wp_get q
        have := hacc i acc st hi
        simp only [e3]
        rw [if_pos (by omega)]
        exact ih (i + 1) (acc ++ [v]) s2 (by omega) (by omega) q
end
section
variable {P : Src → Sto → Prop} {E : Xc → Sto → Prop} {env : Ev} {st : Sto}
def srcL (w : W) (s : Sto) : Rs Src := match w with
  | .lst xs => .ok (fixS xs) s
  | .scr xs => .ok (fixS xs) s
  | .tup xs => .stuck
  | .ref n => match s[n]? with
    | some (.lst xs) => .ok (nodS n xs.length) s
    | _ => .stuck
  | _ => .stuck
def srcA (w : W) (s : Sto) : Rs Src := match w with
  | .tup xs => .ok (fixS xs) s
  | w => srcL w s
theorem wp_iL {m : M W} : wp (iL m env st) P E ↔ wp (m env st) (fun w s => wp (srcL w s) P E) E := by
  unfold iL; rw [wp_bind] <;> exact Iff.rfl
theorem wp_iT {m : M W} : wp (iT m env st) P E ↔ wp (m env st) (fun w s => wp (match w with | .tup xs => .ok (fixS xs) s | _ => .stuck) P E) E := by
  unfold iT; rw [wp_bind] <;> exact Iff.rfl
theorem wp_iA {m : M W} : wp (iA m env st) P E ↔ wp (m env st) (fun w s => wp (srcA w s) P E) E := by
  unfold iA
  cases e : m env st with
  | ok w s =>
    cases w with
    | tup xs => simp only [wp_iT, e]; exact Iff.rfl
    | _ => simp only [wp_iL, e]; exact Iff.rfl
  | ex x s => simp only [wp_iL, e]; exact Iff.rfl
  | stuck => simp only [wp_iL, e]; exact Iff.rfl
theorem wp_srcL {xs : List W} : wp (srcL (.lst xs) st) P E ↔ P (fixS xs) st := Iff.rfl
theorem wp_srcS {xs : List W} : wp (srcL (.scr xs) st) P E ↔ P (fixS xs) st := Iff.rfl
theorem wp_srcAL {xs : List W} : wp (srcA (.lst xs) st) P E ↔ P (fixS xs) st := Iff.rfl
theorem wp_srcAT {xs : List W} : wp (srcA (.tup xs) st) P E ↔ P (fixS xs) st := Iff.rfl
def rng1 (ws : List W) (s : Sto) : Rs Src := match ws with
  | [.int j] => if small62 j then .ok (fixS (rngW 0 j.toNat)) s else .stuck
  | _ => .stuck
def rng2 (ws : List W) (s : Sto) : Rs Src := match ws with
  | [.int i, .int j] => if small62 i ∧ small62 j then .ok (fixS (rngW i (j - i).toNat)) s else .stuck
  | _ => .stuck
theorem wp_iR1 {m : M (List W)} : wp (iR1 m env st) P E ↔ wp (m env st) (fun w s => wp (rng1 w s) P E) E := by
  unfold iR1; rw [wp_bind] <;> exact Iff.rfl
theorem wp_iR2 {m : M (List W)} : wp (iR2 m env st) P E ↔ wp (m env st) (fun w s => wp (rng2 w s) P E) E := by
  unfold iR2; rw [wp_bind] <;> exact Iff.rfl
theorem wp_rng1 {j : Int} : wp (rng1 [.int j] st) P E ↔ Mi.small62 j = true ∧ P (fixS (rngW 0 j.toNat)) st := by
  show wp (if Mi.small62 j then .ok (fixS (rngW 0 j.toNat)) st else .stuck) P E ↔ _
  rw [wp_ite]
  by_cases h : Mi.small62 j = true
  · rw [if_pos h]; exact ⟨fun z => ⟨h, z⟩, fun z => z.2⟩
  · rw [if_neg h]; exact ⟨fun z => z.elim, fun z => (h z.1).elim⟩
theorem wp_rng2 {i j : Int} : wp (rng2 [.int i, .int j] st) P E ↔ (Mi.small62 i ∧ Mi.small62 j) ∧ P (fixS (rngW i (j - i).toNat)) st := by
  show wp (if small62 i ∧ small62 j then .ok (fixS (rngW i (j - i).toNat)) st else .stuck) P E ↔ _
  rw [wp_ite]
  by_cases h : (Mi.small62 i ∧ Mi.small62 j : Prop)
  · rw [if_pos h]; exact ⟨fun z => ⟨h, z⟩, fun z => z.2⟩
  · rw [if_neg h]; exact ⟨fun z => z.elim, fun z => (h z.1).elim⟩
def srcR (w : W) (s : Sto) : Rs Src := match w with
  | .lst xs => .ok (fixS xs.reverse) s
  | .tup xs => .ok (fixS xs.reverse) s
  | _ => .stuck
theorem wp_iRv {m : M W} : wp (iRv m env st) P E ↔ wp (m env st) (fun w s => wp (srcR w s) P E) E := by
  unfold iRv; rw [wp_bind] <;> exact Iff.rfl
theorem wp_srcRL {xs : List W} : wp (srcR (.lst xs) st) P E ↔ P (fixS xs.reverse) st := Iff.rfl
theorem wp_srcRT {xs : List W} : wp (srcR (.tup xs) st) P E ↔ P (fixS xs.reverse) st := Iff.rfl
/-- what enumerate tells -/
def enL (xs : List W) : List W := (List.range xs.length).map fun (i : Nat) => W.tup [.int i, xs.getD i .non]
theorem enL_at {xs : List W} {i : Nat} {s : Sto} : (enumW (fixS xs)).at_ i s = (fixS (enL xs)).at_ i s := by
  show (match (some xs[i]? : Option (Option W)) with | some (some w) => some (some (.tup [.int i, w])) | some none => some none | none => none) = some (enL xs)[i]?
  unfold enL
  rw [List.getElem?_map]
  by_cases h : i < xs.length
  · rw [List.getElem?_eq_getElem h, List.getElem?_eq_getElem (by simpa using h)]
    simp [List.getD, h]
  · rw [List.getElem?_eq_none (by omega), List.getElem?_eq_none (by simp; omega)]
    rfl
theorem en_src {xs : List W} : enumW (fixS xs) = fixS (enL xs) := by
  have e1 : (enumW (fixS xs)).fuel = (fixS (enL xs)).fuel := by simp [enumW, fixS, enL]
  have e2 : (enumW (fixS xs)).at_ = (fixS (enL xs)).at_ := by funext i s; exact enL_at
  cases h : enumW (fixS xs)
  cases k : fixS (enL xs)
  rw [h, k] at e1 e2
  simp only at e1 e2
  rw [e1, e2]
def srcE (ws : List W) (s : Sto) : Rs Src := match ws with
  | [.tup xs] => .ok (fixS (enL xs)) s
  | [.lst xs] => .ok (fixS (enL xs)) s
  | [.scr xs] => .ok (fixS (enL xs)) s
  | [.ref n] => match s[n]? with
    | some (.lst xs) => .ok (enumW (nodS n xs.length)) s
    | _ => .stuck
  | _ => .stuck
theorem iE_src {m : M (List W)} : iE m env st = (m env st).bind fun ws s => match ws with | [.tup _] => .stuck | ws => srcE ws s := by
  unfold iE
  cases m env st with
  | ok ws s =>
    show (match ws with | [w] => _ | _ => _) = _
    cases ws with
    | nil => rfl
    | cons w r =>
      cases r with
      | nil =>
        cases w with
        | ref n =>
          show (match srcOf s (.ref n) with | some src => Rs.ok (enumW src) s | none => .stuck) = srcE [.ref n] s
          simp only [srcOf, srcE]
          cases s[n]? with
          | none => rfl
          | some nd => cases nd <;> rfl
        | lst xs =>
          show Rs.ok (enumW (fixS xs)) s = srcE [.lst xs] s
          rw [en_src]; rfl
        | scr xs =>
          show Rs.ok (enumW (fixS xs)) s = srcE [.scr xs] s
          rw [en_src]; rfl
        | _ => rfl
      | cons a b => cases w <;> rfl
  | ex x s => rfl
  | stuck => rfl
theorem wp_iEA {m : M (List W)} : wp (iEA m env st) P E ↔ wp (m env st) (fun ws s => wp (srcE ws s) P E) E := by
  unfold iEA
  cases e : m env st with
  | ok ws s =>
    have k : wp (iE m env st) P E ↔ wp (match ws with | [.tup _] => .stuck | ws => srcE ws s) P E := by rw [iE_src, e]; exact Iff.rfl
    have k2 : wp (iET m env st) P E ↔ wp (match ws with | [.tup xs] => .ok (enumW (fixS xs)) s | _ => .stuck) P E := by unfold iET; rw [e]; exact Iff.rfl
    cases ws with
    | nil => exact k
    | cons w r =>
      cases r with
      | cons a b => cases w <;> exact k
      | nil =>
        cases w with
        | tup xs =>
          refine k2.trans ?_
          show P (enumW (fixS xs)) s ↔ P (fixS (enL xs)) s
          rw [en_src]
        | _ => exact k
  | ex x s =>
    show wp (iE m env st) P E ↔ _
    rw [iE_src, e]; exact Iff.rfl
  | stuck =>
    show wp (iE m env st) P E ↔ _
    rw [iE_src, e]; exact Iff.rfl
theorem wp_srcEL {xs : List W} : wp (srcE [.lst xs] st) P E ↔ P (fixS (enL xs)) st := Iff.rfl
theorem wp_srcET {xs : List W} : wp (srcE [.tup xs] st) P E ↔ P (fixS (enL xs)) st := Iff.rfl
end
theorem rng_get {lo : Int} {n i : Nat} {w : W} (e : (rngW lo n)[i]? = some w) : w = .int (lo + i) ∧ i < n := by
  unfold rngW at e
  rw [List.getElem?_map] at e
  by_cases h : i < n
  · rw [List.getElem?_eq_getElem (by simpa using h)] at e
    simp at e
    exact ⟨e.symm, h⟩
  · rw [List.getElem?_eq_none (by simp; omega)] at e
    simp at e
theorem rng_len {lo : Int} {n : Nat} : (rngW lo n).length = n := by simp [rngW]
theorem wp_cut63 {xs : List W} {st : Sto} {P : W → Sto → Prop} {E : Xc → Sto → Prop} : wp (wSl true (.scr xs) none (some 63) st) P E ↔ P (.lst (xs.take 63)) st := by
  have : wSl true (.scr xs) none (some 63) st = .ok (.lst (xs.take 63)) st := by
    simp only [wSl, seqL, newL, cutW, if_true]
    have e1 : HT.sIx xs.length 0 none = 0 := rfl
    have e2 : HT.sIx xs.length xs.length (some 63) = min 63 xs.length := by
      rw [show (63 : Int) = ((63 : Nat) : Int) by rfl, HT.sIx_nat]
    rw [e1, e2]
    simp only [Nat.sub_zero, List.drop_zero]
    by_cases h : 63 ≤ xs.length
    · rw [Nat.min_eq_left h]
    · rw [Nat.min_eq_right (by omega), List.take_of_length_le (Nat.le_refl _), List.take_of_length_le (by omega)]
  rw [this]; exact Iff.rfl
/-- a def's run -/
theorem wp_run {n : Nat} {m : MS} {ws' : List W} {st : Sto} {P : W → Sto → Prop} {E : Xc → Sto → Prop} :
    wp (runOf n m ws' st) P E ↔ ws (m (ws'.map some ++ List.replicate (n - ws'.length) none) st) (fun _ s => P .non s) P (fun _ _ => False) (fun _ _ => False) (fun x _ s => E x s) := by
  unfold runOf outOf
  cases m (ws'.map some ++ List.replicate (n - ws'.length) none) st <;> exact Iff.rfl
end Mi
/-! more of what a run of the mirror comes to -/
namespace Mi
open PySem L2
section
variable {N : KN} {R : KR} {B C : KN} {E : KX} {env : Ev} {st : Sto}
theorem nod_at {p len i : Nat} {st : Sto} {xs : List W} (e : st[p]? = some (.lst xs)) : (nodS p len).at_ i st = some xs[i]? := by
  show (match st[p]? with | some (.lst xs) => some xs[i]? | _ => none) = _
  rw [e]
end
section
variable {Q : List W → Sto → Prop} {E : Xc → Sto → Prop} {env : Ev} {st : Sto}
theorem compS_src {src : Src} {xs : List W} {t : CT} {cond : M Bool} {elt : M W} (inv : Nat → List W → Sto → Prop) (hf : src.fuel = xs.length + 1) (hat : ∀ i acc st, inv i acc st → src.at_ i st = some xs[i]?) (h0 : inv 0 [] st) (hl : xs.length ≤ sizeLine)
    (hacc : ∀ i acc st, inv i acc st → acc.length ≤ i)
    (step : ∀ (i : Nat) (w : W), xs[i]? = some w → ∀ acc st, inv i acc st → ∃ env1, t.put w env = some env1 ∧ wp (cond env1 st) (fun c s => if c = true then wp (elt env1 s) (fun v s2 => inv (i + 1) (acc ++ [v]) s2) NoE else inv (i + 1) acc s) NoE)
    (fin : ∀ acc st, inv xs.length acc st → Q acc st) : wp (compS src t cond elt env src.fuel 0 [] st) Q E := by
  suffices H : ∀ m i acc st, xs.length < i + m → i ≤ xs.length → inv i acc st → wp (compS src t cond elt env m i acc st) Q E by
    refine H _ _ _ _ ?_ (Nat.zero_le _) h0
    rw [hf]
    omega
  intro m
  induction m with
  | zero => intro i acc st h1 h2; omega
  | succ m ih =>
    intro i acc st h1 h2 hi
    show wp (match src.at_ i st with | some (some w) => _ | some none => _ | none => _) Q E
    rw [hat i acc st hi]
    by_cases e : i = xs.length
    · rw [List.getElem?_eq_none (by omega)]
      subst e
      exact fin acc st hi
    · have hx : i < xs.length := by omega
      rw [List.getElem?_eq_getElem hx]
      obtain ⟨env1, e1, q⟩ := step i xs[i] (List.getElem?_eq_getElem hx) acc st hi
      obtain ⟨c, s, e2, q⟩ := wp_get q
      simp only [e1, e2]
      cases c with
      | false => exact ih (i + 1) acc s (by omega) (by omega) q
      | true =>
        obtain ⟨v, s2, e3, q⟩ := wp_get q
        have := hacc i acc st hi
        simp only [e3]
        rw [if_pos (by omega)]
        exact ih (i + 1) (acc ++ [v]) s2 (by omega) (by omega) q
theorem take_next {α : Type} {l : List α} {i : Nat} {x : α} (e : l[i]? = some x) : l.take (i + 1) = l.take i ++ [x] := by
  rw [List.take_add_one, e]; rfl
/-- a comprehension that changes nothing -/
theorem compS_map' {src : Src} {α : Type} {ys : List α} {enc : α → W} {c : α → Bool} {f : α → W} {t : CT} {cond : M Bool} {elt : M W} (hf : src.fuel = ys.length + 1) (hat : ∀ i, src.at_ i st = some (ys.map enc)[i]?) (hl : ys.length ≤ sizeLine)
    (h : ∀ y ∈ ys, ∃ env1, t.put (enc y) env = some env1 ∧ wp (cond env1 st) (fun b s => b = c y ∧ s = st) NoE ∧ (c y = true → wp (elt env1 st) (fun v s => v = f y ∧ s = st) NoE))
    (q : Q ((ys.filter c).map f) st) : wp (compS src t cond elt env src.fuel 0 [] st) Q E := by
  refine compS_src (xs := ys.map enc) (fun i acc s => s = st ∧ acc = ((ys.take i).filter c).map f) (by rw [hf, List.length_map]) (fun i acc s z => by rw [z.1]; exact hat i) ⟨rfl, by simp⟩ (by rw [List.length_map]; exact hl) (fun i acc s z => ?_) (fun i w e acc s z => ?_) (fun acc s z => ?_)
  · rw [z.2, List.length_map]
    exact Nat.le_trans (List.length_filter_le ..) (by rw [List.length_take]; omega)
  · obtain ⟨rfl, rfl⟩ := z
    rw [List.getElem?_map] at e
    cases ey : ys[i]? with
    | none => rw [ey] at e; simp at e
    | some y =>
      rw [ey] at e
      simp only [Option.map_some, Option.some.injEq] at e
      subst e
      obtain ⟨env1, e1, e2, e3⟩ := h y (List.mem_of_getElem? ey)
      refine ⟨env1, e1, wp_mono e2 ?_ (fun _ _ z => z)⟩
      rintro b s' ⟨rfl, rfl⟩
      rw [take_next ey, List.filter_append, List.map_append]
      by_cases hc : c y = true
      · rw [if_pos hc]
        refine wp_mono (e3 hc) ?_ (fun _ _ z => z)
        rintro v s' ⟨rfl, rfl⟩
        exact ⟨rfl, by simp [hc]⟩
      · rw [if_neg hc]
        exact ⟨rfl, by simp [hc]⟩
  · obtain ⟨rfl, rfl⟩ := z
    rw [List.length_map, List.take_of_length_le (Nat.le_refl _)]
    exact q
theorem compS_map {α : Type} {ys : List α} {enc : α → W} (c : α → Bool) (f : α → W) {t : CT} {cond : M Bool} {elt : M W} (hl : ys.length ≤ sizeLine)
    (h : ∀ y ∈ ys, ∃ env1, t.put (enc y) env = some env1 ∧ wp (cond env1 st) (fun b s => b = c y ∧ s = st) NoE ∧ (c y = true → wp (elt env1 st) (fun v s => v = f y ∧ s = st) NoE))
    (q : Q ((ys.filter c).map f) st) : wp (compS (fixS (ys.map enc)) t cond elt env (fixS (ys.map enc)).fuel 0 [] st) Q E :=
  compS_map' (by simp [fixS]) (fun i => rfl) hl h q
end
section
variable {P : W → Sto → Prop} {E : Xc → Sto → Prop} {env : Ev} {st : Sto}
theorem wp_srcAR {p : Nat} {xs : List W} {P : Src → Sto → Prop} (e : st[p]? = some (.lst xs)) : wp (srcA (.ref p) st) P E ↔ P (nodS p xs.length) st := by
  have : srcA (.ref p) st = .ok (nodS p xs.length) st := by simp [srcA, srcL, e]
  rw [this]; exact Iff.rfl
theorem bls_b : ∀ bs : List Bool, blsOf (bs.map W.bl) = some bs
  | [] => rfl
  | b :: bs => by simp only [List.map_cons, blsOf, bls_b bs, Option.map_some]
theorem wp_all {bs : List Bool} : wp (fAll [.lst (bs.map W.bl)] st) P E ↔ P (.bl (bs.all id)) st := by
  have : fAll [.lst (bs.map W.bl)] st = .ok (.bl (bs.all id)) st := by simp only [fAll, seqL, bls_b]
  rw [this]; exact Iff.rfl
theorem wp_any {bs : List Bool} : wp (fAny [.lst (bs.map W.bl)] st) P E ↔ P (.bl (bs.any id)) st := by
  have : fAny [.lst (bs.map W.bl)] st = .ok (.bl (bs.any id)) st := by simp only [fAny, seqL, bls_b]
  rw [this]; exact Iff.rfl
theorem wp_isB {a : W} {c : Bool} : wp (wIs a (.bl c) st) P E ↔ P (.bl (isBl c a)) st := Iff.rfl
theorem wp_isNotB {a : W} {c : Bool} : wp (wIsNot a (.bl c) st) P E ↔ P (.bl (!isBl c a)) st := Iff.rfl
theorem wp_eqB {a b : Bool} : wp (wEq (.bl a) (.bl b) st) P E ↔ P (.bl (decide (a = b))) st := by
  have : wEq (.bl a) (.bl b) st = .ok (.bl (decide (a = b))) st := by cases a <;> cases b <;> rfl
  rw [this]; exact Iff.rfl
theorem wp_neB {a b : Bool} : wp (wNe (.bl a) (.bl b) st) P E ↔ P (.bl (!decide (a = b))) st := by
  have : wNe (.bl a) (.bl b) st = .ok (.bl (!decide (a = b))) st := by cases a <;> cases b <;> rfl
  rw [this]; exact Iff.rfl
/-- slices -/
theorem wp_slT {fz : Bool} {xs : List W} {lo hi : Option Int} : wp (wSl fz (.tup xs) lo hi st) P E ↔ P (.tup (cutW xs lo hi)) st := Iff.rfl
theorem wp_slL {xs : List W} {lo hi : Option Int} : wp (wSl true (.lst xs) lo hi st) P E ↔ P (.lst (cutW xs lo hi)) st := Iff.rfl
theorem wp_rev {fz : Bool} {m : M W} : wp (mRev fz m env st) P E ↔ wp (m env st) (fun a s => wp (wRevA fz a s) P E) E := by
  unfold mRev; simp only [wp_bind]
theorem wp_revT {fz : Bool} {xs : List W} : wp (wRevA fz (.tup xs) st) P E ↔ P (.tup xs.reverse) st := Iff.rfl
theorem wp_revL {xs : List W} : wp (wRevA true (.lst xs) st) P E ↔ P (.lst xs.reverse) st := Iff.rfl
theorem wp_disp {m : M (List (Key × W))} : wp (mDisp m env st) P E ↔ wp (m env st) (fun kvs s => kvs.length ≤ 15 ∧ P (.ref s.length) (s ++ [.dk (mergeKW [] kvs)])) NoE := by
  unfold mDisp
  cases m env st with
  | ok kvs s =>
    show wp (if kvs.length ≤ 15 then newD (mergeKW [] kvs) s else .stuck) P E ↔ _
    rw [wp_ite]
    by_cases h : kvs.length ≤ 15
    · simp only [h, if_true, true_and, wp_ok]; exact Iff.rfl
    · simp only [h, if_false, false_and, wp_ok]; exact Iff.rfl
  | ex x s => exact Iff.rfl
  | stuck => exact Iff.rfl
theorem wp_pair0 {Q : List (Key × W) → Sto → Prop} : wp (mPair0 env st) Q E ↔ Q [] st := Iff.rfl
theorem wp_pair {Q : List (Key × W) → Sto → Prop} {mk mv : M W} {mr : M (List (Key × W))} : wp (mPair mk mv mr env st) Q E ↔ wp (mk env st) (fun k s => wp (mv env s) (fun v s2 => ∃ kk, keyOf k = some kk ∧ wp (mr env s2) (fun r s3 => Q ((kk, v) :: r) s3) E) E) E := by
  unfold mPair; simp only [wp_bind]
  constructor
  · intro h
    refine wp_mono h (fun k s h => wp_mono h (fun v s2 h => ?_) (fun _ _ z => z)) (fun _ _ z => z)
    split at h
    · rename_i kk e; exact ⟨kk, e, by simpa only [wp_bind, wp_ok] using h⟩
    · exact h.elim
  · intro h
    refine wp_mono h (fun k s h => wp_mono h (fun v s2 h => ?_) (fun _ _ z => z)) (fun _ _ z => z)
    obtain ⟨kk, e, h⟩ := h
    rw [e]
    simpa only [wp_bind, wp_ok] using h
end
end Mi
/-! errors in a run of the mirror -/
namespace Mi
open PySem L2
section
variable {N : KN} {R : KR} {B C : KN} {E : KX} {env : Ev} {st : Sto}
end
end Mi
/-! objects, dicts, while loops in a run of the mirror -/
namespace Mi
open PySem L2
/-! objects -/
def fldR (cs : List Nat) (f : Str) (a : W) (s : Sto) : Rs W := match a with
  | .ref i => match s[i]? with
    | some (.ins c fs) => if cs.contains c then (match fs.lookup f with | some w => .ok w s | none => .stuck) else .stuck
    | _ => .stuck
  | _ => .stuck
def setR (cs : List Nat) (f : Str) (o v : W) (s : Sto) : Rs Unit := match wSetF cs f o v s with
  | some s3 => .ok () s3
  | none => .stuck
section
variable {P : W → Sto → Prop} {PB : Bool → Sto → Prop} {PL : List W → Sto → Prop} {E : Xc → Sto → Prop} {env : Ev} {st : Sto}
theorem wp_fldF {cs : List Nat} {f : Str} {m : M W} : wp (mFld cs f m env st) P E ↔ wp (m env st) (fun a s => wp (fldR cs f a s) P E) E := wp_fld
theorem wp_fldR {cs : List Nat} {f : Str} {i c : Nat} {fs : List (Str × W)} {w : W} (e : st[i]? = some (.ins c fs)) (hc : cs.contains c = true) (hl : fs.lookup f = some w) : wp (fldR cs f (.ref i) st) P E ↔ P w st := by
  have : fldR cs f (.ref i) st = .ok w st := by simp only [fldR, e, hc, hl, if_true]
  rw [this]; exact Iff.rfl
theorem wp_setR {cs : List Nat} {f : Str} {o v : W} {s3 : Sto} {PU : Unit → Sto → Prop} (e : wSetF cs f o v st = some s3) : wp (setR cs f o v st) PU E ↔ PU () s3 := by
  unfold setR; rw [e]; exact Iff.rfl
theorem setF_of {cs : List Nat} {f : Str} {v : W} {i c : Nat} {fs : List (Str × W)} (e : st[i]? = some (.ins c fs)) (hc : cs.contains c = true) (hl : fs.length < 1000) : wSetF cs f (.ref i) v st = some (st.set i (.ins c (putW f v fs))) := by
  simp only [wSetF, e, hc, hl, true_and, if_true]
end
section
variable {N : KN} {R : KR} {B C : KN} {E : KX} {env : Ev} {st : Sto}
theorem wp_iff {α : Type} {r : Rs α} {P P' : α → Sto → Prop} {E : Xc → Sto → Prop} (h : ∀ a s, P a s ↔ P' a s) : wp r P E ↔ wp r P' E := by
  cases r with
  | ok a s => exact h a s
  | ex x s => exact Iff.rfl
  | stuck => exact Iff.rfl
theorem ws_fld {cs : List Nat} {f : Str} {mo m : M W} : ws (sFld' cs f mo m env st) N R B C E ↔ wp (m env st) (fun v s => wp (mo env s) (fun o s2 => wp (setR cs f o v s2) (fun _ s3 => N env s3) NoE) (fun x s => E x env s)) (fun x s => E x env s) := by
  unfold sFld'
  rw [ws_to]
  refine wp_iff fun v s => ?_
  rw [ws_to]
  refine wp_iff fun o s2 => ?_
  unfold setR
  cases wSetF cs f o v s2 <;> exact Iff.rfl
/-! while -/
theorem ws_par {i j : Nat} {ma mb : M W} : ws (sPar i j ma mb env st) N R B C E ↔ wp (ma env st) (fun a s => wp (mb env s) (fun b s2 => N ((env.set i (some a)).set j (some b)) s2) (fun x s => E x env s)) (fun x s => E x env s) := by
  unfold sPar
  simp only [ws_to]
  exact Iff.rfl
end
/-! dicts -/
section
variable {P : W → Sto → Prop} {PB : Bool → Sto → Prop} {E : Xc → Sto → Prop} {env : Ev} {st : Sto}
theorem wp_make {c : Nat} {run : RunM} {m : M (List W)} : wp (mMake c run m env st) P E ↔ wp (m env st) (fun ws s => wp (run (.ref s.length :: ws) (s ++ [.ins c []])) (fun v s2 => v = .non ∧ P (.ref s.length) s2) E) E := by
  unfold mMake; simp only [wp_bind]
  constructor
  · intro h
    refine wp_mono h (fun o s h => wp_mono h (fun v s2 h => ?_) (fun _ _ z => z)) (fun _ _ z => z)
    split at h
    · exact ⟨rfl, h⟩
    · exact h.elim
  · intro h
    refine wp_mono h (fun o s h => wp_mono h (fun v s2 h => ?_) (fun _ _ z => z)) (fun _ _ z => z)
    rw [h.1]
    exact h.2
end
end Mi
namespace Lw
open PySem PySem.Spec PyProof.Rows L2 Mi
/-! the text by places -/
def top (i : Nat) : Stmt := PySem.Challenge.pw_wholecommits_k67_whole_lost_updates_and.main.body.getD i (.Pass ⟨0, 0, 0, 0⟩)
abbrev s_law_hand : Stmt := top 51
abbrev N_law_hand : List Str := ["script", "cells", "cell"]
theorem sc_law_hand : FnScope N_law_hand ["script"] (defScope s_law_hand) := ⟨rfl, rfl, rfl, by decide +kernel, rfl, by decide +kernel, by decide +kernel⟩
abbrev s_law_draw : Stmt := top 52
abbrev N_law_draw : List Str := ["hand", "many", "cell", "digit", "number"]
theorem sc_law_draw : FnScope N_law_draw ["hand", "many"] (defScope s_law_draw) := ⟨rfl, rfl, rfl, by decide +kernel, rfl, by decide +kernel, by decide +kernel⟩
abbrev s_is_integer : Stmt := top 9
abbrev N_is_integer : List Str := ["thing"]
theorem sc_is_integer : FnScope N_is_integer ["thing"] (defScope s_is_integer) := ⟨rfl, rfl, rfl, by decide +kernel, rfl, by decide +kernel, by decide +kernel⟩
abbrev s_is_number : Stmt := top 11
abbrev N_is_number : List Str := ["thing"]
theorem sc_is_number : FnScope N_is_number ["thing"] (defScope s_is_number) := ⟨rfl, rfl, rfl, by decide +kernel, rfl, by decide +kernel, by decide +kernel⟩
abbrev s_is_number_for : Stmt := top 39
abbrev N_is_number_for : List Str := ["snapshot", "writes", "thing"]
theorem sc_is_number_for : FnScope N_is_number_for ["snapshot", "writes", "thing"] (defScope s_is_number_for) := ⟨rfl, rfl, rfl, by decide +kernel, rfl, by decide +kernel, by decide +kernel⟩
abbrev s_is_word : Stmt := top 12
abbrev N_is_word : List Str := ["thing", "sign"]
theorem sc_is_word : FnScope N_is_word ["thing"] (defScope s_is_word) := ⟨rfl, rfl, rfl, by decide +kernel, rfl, by decide +kernel, by decide +kernel⟩
abbrev s_is_key : Stmt := top 13
abbrev N_is_key : List Str := ["thing"]
theorem sc_is_key : FnScope N_is_key ["thing"] (defScope s_is_key) := ⟨rfl, rfl, rfl, by decide +kernel, rfl, by decide +kernel, by decide +kernel⟩
abbrev s_is_tuple_of_is_key : Stmt := top 17
abbrev N_is_tuple_of_is_key : List Str := ["judge", "thing", "item"]
theorem sc_is_tuple_of_is_key : FnScope N_is_tuple_of_is_key ["judge", "thing"] (defScope s_is_tuple_of_is_key) := ⟨rfl, rfl, rfl, by decide +kernel, rfl, by decide +kernel, by decide +kernel⟩
abbrev s_is_ascending : Stmt := top 18
abbrev N_is_ascending : List Str := ["row", "at"]
theorem sc_is_ascending : FnScope N_is_ascending ["row"] (defScope s_is_ascending) := ⟨rfl, rfl, rfl, by decide +kernel, rfl, by decide +kernel, by decide +kernel⟩
abbrev s_is_keys : Stmt := top 19
abbrev N_is_keys : List Str := ["thing"]
theorem sc_is_keys : FnScope N_is_keys ["thing"] (defScope s_is_keys) := ⟨rfl, rfl, rfl, by decide +kernel, rfl, by decide +kernel, by decide +kernel⟩
abbrev s_is_tuple : Stmt := top 16
abbrev N_is_tuple : List Str := ["many", "thing"]
theorem sc_is_tuple : FnScope N_is_tuple ["many", "thing"] (defScope s_is_tuple) := ⟨rfl, rfl, rfl, by decide +kernel, rfl, by decide +kernel, by decide +kernel⟩
abbrev s_is_range : Stmt := top 20
abbrev N_is_range : List Str := ["thing", "low", "high", "own", "key"]
theorem sc_is_range : FnScope N_is_range ["thing"] (defScope s_is_range) := ⟨rfl, rfl, rfl, by decide +kernel, rfl, by decide +kernel, by decide +kernel⟩
abbrev s_is_tuple_of_is_range : Stmt := top 17
abbrev N_is_tuple_of_is_range : List Str := ["judge", "thing", "item"]
theorem sc_is_tuple_of_is_range : FnScope N_is_tuple_of_is_range ["judge", "thing"] (defScope s_is_tuple_of_is_range) := ⟨rfl, rfl, rfl, by decide +kernel, rfl, by decide +kernel, by decide +kernel⟩
abbrev s_is_ranges : Stmt := top 21
abbrev N_is_ranges : List Str := ["thing"]
theorem sc_is_ranges : FnScope N_is_ranges ["thing"] (defScope s_is_ranges) := ⟨rfl, rfl, rfl, by decide +kernel, rfl, by decide +kernel, by decide +kernel⟩
abbrev s_is_within : Stmt := top 10
abbrev N_is_within : List Str := ["low", "high", "thing"]
theorem sc_is_within : FnScope N_is_within ["low", "high", "thing"] (defScope s_is_within) := ⟨rfl, rfl, rfl, by decide +kernel, rfl, by decide +kernel, by decide +kernel⟩
abbrev s_is_worth : Stmt := top 14
abbrev N_is_worth : List Str := ["thing"]
theorem sc_is_worth : FnScope N_is_worth ["thing"] (defScope s_is_worth) := ⟨rfl, rfl, rfl, by decide +kernel, rfl, by decide +kernel, by decide +kernel⟩
abbrev s_is_mark : Stmt := top 15
abbrev N_is_mark : List Str := ["thing"]
theorem sc_is_mark : FnScope N_is_mark ["thing"] (defScope s_is_mark) := ⟨rfl, rfl, rfl, by decide +kernel, rfl, by decide +kernel, by decide +kernel⟩
abbrev s_is_write : Stmt := top 22
abbrev N_is_write : List Str := ["thing"]
theorem sc_is_write : FnScope N_is_write ["thing"] (defScope s_is_write) := ⟨rfl, rfl, rfl, by decide +kernel, rfl, by decide +kernel, by decide +kernel⟩
abbrev s_is_tuple_of_is_write : Stmt := top 17
abbrev N_is_tuple_of_is_write : List Str := ["judge", "thing", "item"]
theorem sc_is_tuple_of_is_write : FnScope N_is_tuple_of_is_write ["judge", "thing"] (defScope s_is_tuple_of_is_write) := ⟨rfl, rfl, rfl, by decide +kernel, rfl, by decide +kernel, by decide +kernel⟩
abbrev s_is_writes : Stmt := top 23
abbrev N_is_writes : List Str := ["thing", "row"]
theorem sc_is_writes : FnScope N_is_writes ["thing"] (defScope s_is_writes) := ⟨rfl, rfl, rfl, by decide +kernel, rfl, by decide +kernel, by decide +kernel⟩
abbrev s_Dealing_init : Stmt := inClass (top 32) 0
abbrev N_Dealing_init : List Str := ["self", "snapshot", "number", "gets", "ranges", "writes"]
theorem sc_Dealing_init : FnScope N_Dealing_init ["self", "snapshot", "number", "gets", "ranges", "writes"] (defScope s_Dealing_init) := ⟨rfl, rfl, rfl, by decide +kernel, rfl, by decide +kernel, by decide +kernel⟩
abbrev s_law_made : Stmt := top 60
abbrev N_law_made : List Str := ["parts", "part"]
theorem sc_law_made : FnScope N_law_made ["parts"] (defScope s_law_made) := ⟨rfl, rfl, rfl, by decide +kernel, rfl, by decide +kernel, by decide +kernel⟩
abbrev s_demand_history : Stmt := top 40
abbrev N_demand_history : List Str := ["thing", "last", "index", "dealing"]
theorem sc_demand_history : FnScope N_demand_history ["thing"] (defScope s_demand_history) := ⟨rfl, rfl, rfl, by decide +kernel, rfl, by decide +kernel, by decide +kernel⟩
abbrev s_writes_key : Stmt := top 25
abbrev N_writes_key : List Str := ["dealing", "key", "row"]
theorem sc_writes_key : FnScope N_writes_key ["dealing", "key"] (defScope s_writes_key) := ⟨rfl, rfl, rfl, by decide +kernel, rfl, by decide +kernel, by decide +kernel⟩
abbrev s_saw_key : Stmt := top 26
abbrev N_saw_key : List Str := ["dealing", "key", "low", "high", "own"]
theorem sc_saw_key : FnScope N_saw_key ["dealing", "key"] (defScope s_saw_key) := ⟨rfl, rfl, rfl, by decide +kernel, rfl, by decide +kernel, by decide +kernel⟩
abbrev s_is_tied : Stmt := top 27
abbrev N_is_tied : List Str := ["one", "other", "key", "_"]
theorem sc_is_tied : FnScope N_is_tied ["one", "other"] (defScope s_is_tied) := ⟨rfl, rfl, rfl, by decide +kernel, rfl, by decide +kernel, by decide +kernel⟩
abbrev s_ways_of : Stmt := top 48
abbrev N_ways_of : List Str := ["history", "ways", "one", "first", "other", "second"]
theorem sc_ways_of : FnScope N_ways_of ["history"] (defScope s_ways_of) := ⟨rfl, rfl, rfl, by decide +kernel, rfl, by decide +kernel, by decide +kernel⟩
abbrev s_serial_order : Stmt := top 35
abbrev N_serial_order : List Str := ["history", "ways", "needs", "others", "other", "order", "free", "index"]
theorem sc_serial_order : FnScope N_serial_order ["history"] (defScope s_serial_order) := ⟨rfl, rfl, rfl, by decide +kernel, rfl, by decide +kernel, by decide +kernel⟩
abbrev s_ring_from : Stmt := top 28
abbrev N_ring_from : List Str := ["start", "ways", "met", "paths", "longer", "path", "other"]
theorem sc_ring_from : FnScope N_ring_from ["start", "ways"] (defScope s_ring_from) := ⟨rfl, rfl, rfl, by decide +kernel, rfl, by decide +kernel, by decide +kernel⟩
abbrev s_ring : Stmt := top 36
abbrev N_ring : List Str := ["history", "ways", "best", "index", "found"]
theorem sc_ring : FnScope N_ring ["history"] (defScope s_ring) := ⟨rfl, rfl, rfl, by decide +kernel, rfl, by decide +kernel, by decide +kernel⟩
abbrev s_is_lost : Stmt := top 49
abbrev N_is_lost : List Str := ["first", "second", "row", "other"]
theorem sc_is_lost : FnScope N_is_lost ["first", "second"] (defScope s_is_lost) := ⟨rfl, rfl, rfl, by decide +kernel, rfl, by decide +kernel, by decide +kernel⟩
abbrev s_lost_updates : Stmt := top 38
abbrev N_lost_updates : List Str := ["history", "found", "one", "first", "other", "second"]
theorem sc_lost_updates : FnScope N_lost_updates ["history"] (defScope s_lost_updates) := ⟨rfl, rfl, rfl, by decide +kernel, rfl, by decide +kernel, by decide +kernel⟩
abbrev s_is_row_of_indexes : Stmt := top 42
abbrev N_is_row_of_indexes : List Str := ["history", "thing", "index"]
theorem sc_is_row_of_indexes : FnScope N_is_row_of_indexes ["history", "thing"] (defScope s_is_row_of_indexes) := ⟨rfl, rfl, rfl, by decide +kernel, rfl, by decide +kernel, by decide +kernel⟩
abbrev s_is_order : Stmt := top 43
abbrev N_is_order : List Str := ["history", "thing"]
theorem sc_is_order : FnScope N_is_order ["history", "thing"] (defScope s_is_order) := ⟨rfl, rfl, rfl, by decide +kernel, rfl, by decide +kernel, by decide +kernel⟩
abbrev s_demand_order : Stmt := top 41
abbrev N_demand_order : List Str := ["history", "order"]
theorem sc_demand_order : FnScope N_demand_order ["history", "order"] (defScope s_demand_order) := ⟨rfl, rfl, rfl, by decide +kernel, rfl, by decide +kernel, by decide +kernel⟩
abbrev s_numbers_of : Stmt := top 44
abbrev N_numbers_of : List Str := ["history", "numbers", "dealing", "key", "_"]
theorem sc_numbers_of : FnScope N_numbers_of ["history"] (defScope s_numbers_of) := ⟨rfl, rfl, rfl, by decide +kernel, rfl, by decide +kernel, by decide +kernel⟩
abbrev s_number_at : Stmt := top 45
abbrev N_number_at : List Str := ["numbers", "snapshot", "number"]
theorem sc_number_at : FnScope N_number_at ["numbers", "snapshot"] (defScope s_number_at) := ⟨rfl, rfl, rfl, by decide +kernel, rfl, by decide +kernel, by decide +kernel⟩
abbrev s_failing_key : Stmt := top 47
abbrev N_failing_key : List Str := ["dealing", "numbers", "standing", "key", "_"]
theorem sc_failing_key : FnScope N_failing_key ["dealing", "numbers", "standing"] (defScope s_failing_key) := ⟨rfl, rfl, rfl, by decide +kernel, rfl, by decide +kernel, by decide +kernel⟩
abbrev s_failure_in : Stmt := top 46
abbrev N_failure_in : List Str := ["history", "order", "numbers", "standing", "index", "key", "_"]
theorem sc_failure_in : FnScope N_failure_in ["history", "order"] (defScope s_failure_in) := ⟨rfl, rfl, rfl, by decide +kernel, rfl, by decide +kernel, by decide +kernel⟩
abbrev s_first_failure : Stmt := top 33
abbrev N_first_failure : List Str := ["history", "order"]
theorem sc_first_failure : FnScope N_first_failure ["history", "order"] (defScope s_first_failure) := ⟨rfl, rfl, rfl, by decide +kernel, rfl, by decide +kernel, by decide +kernel⟩
abbrev s_ties : Stmt := top 34
abbrev N_ties : List Str := ["history", "one", "others", "other"]
theorem sc_ties : FnScope N_ties ["history"] (defScope s_ties) := ⟨rfl, rfl, rfl, by decide +kernel, rfl, by decide +kernel, by decide +kernel⟩
abbrev s_many_orders : Stmt := top 37
abbrev N_many_orders : List Str := ["history", "needs", "one", "other", "all_sets", "many", "ahead", "index", "need"]
theorem sc_many_orders : FnScope N_many_orders ["history"] (defScope s_many_orders) := ⟨rfl, rfl, rfl, by decide +kernel, rfl, by decide +kernel, by decide +kernel⟩
abbrev s_law_known_right : Stmt := top 62
abbrev N_law_known_right : List Str := ["x", "y", "skew", "update", "blind", "looker", "third", "back"]
theorem sc_law_known_right : FnScope N_law_known_right ["x", "y"] (defScope s_law_known_right) := ⟨rfl, rfl, rfl, by decide +kernel, rfl, by decide +kernel, by decide +kernel⟩
abbrev s_law_some : Stmt := top 53
abbrev N_law_some : List Str := ["hand", "things", "most", "found", "turn"]
theorem sc_law_some : FnScope N_law_some ["hand", "things", "most"] (defScope s_law_some) := ⟨rfl, rfl, rfl, by decide +kernel, rfl, by decide +kernel, by decide +kernel⟩
abbrev s_law_range : Stmt := top 55
abbrev N_law_range : List Str := ["hand", "keys", "low", "high", "own", "key"]
theorem sc_law_range : FnScope N_law_range ["hand", "keys"] (defScope s_law_range) := ⟨rfl, rfl, rfl, by decide +kernel, rfl, by decide +kernel, by decide +kernel⟩
abbrev s_law_seen : Stmt := top 56
abbrev N_law_seen : List Str := ["hand", "keys", "ranges", "turn"]
theorem sc_law_seen : FnScope N_law_seen ["hand", "keys"] (defScope s_law_seen) := ⟨rfl, rfl, rfl, by decide +kernel, rfl, by decide +kernel, by decide +kernel⟩
abbrev s_law_writes : Stmt := top 57
abbrev N_law_writes : List Str := ["hand", "keys", "most", "found", "key"]
theorem sc_law_writes : FnScope N_law_writes ["hand", "keys", "most"] (defScope s_law_writes) := ⟨rfl, rfl, rfl, by decide +kernel, rfl, by decide +kernel, by decide +kernel⟩
abbrev s_law_history : Stmt := top 59
abbrev N_law_history : List Str := ["hand", "most", "keys", "lag", "found", "last", "turn", "snapshot", "gets", "ranges", "writes", "number"]
theorem sc_law_history : FnScope N_law_history ["hand", "most", "keys", "lag"] (defScope s_law_history) := ⟨rfl, rfl, rfl, by decide +kernel, rfl, by decide +kernel, by decide +kernel⟩
abbrev s_law_keys : Stmt := top 54
abbrev N_law_keys : List Str := []
theorem sc_law_keys : FnScope N_law_keys [] (defScope s_law_keys) := ⟨rfl, rfl, rfl, by decide +kernel, rfl, by decide +kernel, by decide +kernel⟩
abbrev s_law_wrote : Stmt := top 58
abbrev N_law_wrote : List Str := ["part", "key", "worth"]
theorem sc_law_wrote : FnScope N_law_wrote ["part"] (defScope s_law_wrote) := ⟨rfl, rfl, rfl, by decide +kernel, rfl, by decide +kernel, by decide +kernel⟩
abbrev s_law_lost : Stmt := top 61
abbrev N_law_lost : List Str := ["parts", "found", "one", "other", "shared", "key"]
theorem sc_law_lost : FnScope N_law_lost ["parts"] (defScope s_law_lost) := ⟨rfl, rfl, rfl, by decide +kernel, rfl, by decide +kernel, by decide +kernel⟩
abbrev s_law : Stmt := top 63
abbrev N_law : List Str := ["script", "hand", "keys", "low", "high", "phantom", "parts"]
theorem sc_law : FnScope N_law ["script"] (defScope s_law) := ⟨rfl, rfl, rfl, by decide +kernel, rfl, by decide +kernel, by decide +kernel⟩
abbrev s_TooMany_init : Stmt := inClass (top 5) 0
theorem sc_TooMany_init : FnScope ["self", "most"] ["self", "most"] (defScope s_TooMany_init) := ⟨rfl, rfl, rfl, by decide +kernel, rfl, by decide +kernel, by decide +kernel⟩
/-! the mirror -/
def x_own : Nat → String → Option Bool := fun c n => if (c = 3) ∧ (n = "int" ∨ n = "bool" ∨ n = "str" ∨ n = "tuple") then some false else none
noncomputable def m_law_hand : MS := sSeq (sAsg (mComp true (iA (mSl true (mVar 0) (mNoPart) (mPart (mC (.int 63))))) [2] (.one 2) (mYes) (mFn fAbs (mCons (mFn fInt (mCons (mVar 2) (mNil))) (mNil)))) (gName' 1)) (sRet (mLst false (mCons (mVar 1) (mCons (mC (.int 0)) (mCons (mC (.int 0)) (mCons (mOp (wAdd true) (mC (.int 1)) (mFn fLen (mCons (mVar 1) (mNil)))) (mCons (mC (.int 0)) (mNil))))))))
noncomputable def r_law_hand : RunM := runOf 3 m_law_hand
noncomputable def m_law_draw : MS := sSeq (sIf (mAnd (mB (mOp (wEq) (mOp wIx (mVar 0) (mC (.int 2))) (mC (.int 0)))) (mB (mOp (wCmpS (fun i j => decide (i.cps.toList < j.cps.toList)) (fun i j => decide (i < j))) (mOp wIx (mVar 0) (mC (.int 1))) (mFn fLen (mCons (mOp wIx (mVar 0) (mC (.int 0))) (mNil)))))) (sSeq (sAsg (mOp wIx (mOp wIx (mVar 0) (mC (.int 0))) (mOp wIx (mVar 0) (mC (.int 1)))) (gName' 2)) (sSeq (sAsg (mOp (wAdd true) (mOp wIx (mVar 0) (mC (.int 1))) (mC (.int 1))) (gSub' (mVar 0) (mC (.int 1)))) (sSeq (sAsg (mOp (wMod) (mFn fInt (mCons (mOp (wAdd true) (mOp (wAdd true) (mOp (wMul true) (mOp wIx (mVar 0) (mC (.int 3))) (mC (.int 69621))) (mVar 2)) (mC (.int 11))) (mNil))) (mC (.int 2147483629))) (gSub' (mVar 0) (mC (.int 3)))) (sIf (mB (mOp (wCmpS (fun i j => !decide (i.cps.toList < j.cps.toList)) (fun i j => decide (j ≤ i))) (mVar 2) (mOp (wPow) (mC (.int 10)) (mC (.int 18))))) (sAsg (mVar 2) (gSub' (mVar 0) (mC (.int 2)))) (sNx))))) (sNx)) (sSeq (sIf (mB (mOp (wCmpS (fun i j => decide (j.cps.toList < i.cps.toList)) (fun i j => decide (j < i))) (mOp wIx (mVar 0) (mC (.int 2))) (mC (.int 0)))) (sSeq (sAsg (mOp (wMod) (mFn fInt (mCons (mOp wIx (mVar 0) (mC (.int 2))) (mNil))) (mVar 1)) (gName' 3)) (sSeq (sAsg (mOp (wDiv) (mOp wIx (mVar 0) (mC (.int 2))) (mVar 1)) (gSub' (mVar 0) (mC (.int 2)))) (sRet (mVar 3)))) (sNx)) (sSeq (sAsg (mOp (wAdd true) (mOp wIx (mVar 0) (mC (.int 4))) (mC (.int 1))) (gSub' (mVar 0) (mC (.int 4)))) (sSeq (sAsg (mOp (wMod) (mFn fInt (mCons (mOp (wMul true) (mFn fInt (mCons (mOp (wAdd true) (mOp wIx (mVar 0) (mC (.int 3))) (mOp (wMul true) (mC (.int 7919)) (mOp wIx (mVar 0) (mC (.int 4))))) (mNil))) (mC (.int 48271))) (mNil))) (mC (.int 2147483647))) (gName' 4)) (sSeq (sAsg (mOp (wMod) (mFn fInt (mCons (mOp (wMul true) (mVar 4) (mOp (wAdd true) (mOp (wDiv) (mVar 4) (mC (.int 1009))) (mC (.int 69621)))) (mNil))) (mC (.int 2147483647))) (gName' 4)) (sSeq (sAsg (mOp (wMod) (mFn fInt (mCons (mOp (wMul true) (mVar 4) (mOp (wAdd true) (mOp (wDiv) (mVar 4) (mC (.int 2003))) (mC (.int 40692)))) (mNil))) (mC (.int 2147483399))) (gName' 4)) (sRet (mOp (wMod) (mFn fInt (mCons (mOp (wDiv) (mVar 4) (mC (.int 16))) (mNil))) (mVar 1))))))))
noncomputable def r_law_draw : RunM := runOf 5 m_law_draw
noncomputable def m_is_integer : MS := sRet (mBl (mAnd (mB (mFn (fIsi x_own) (mCons (mVar 0) (mCons (mC (.ty "int")) (mNil))))) (mNot (mB (mFn (fIsi x_own) (mCons (mVar 0) (mCons (mC (.ty "bool")) (mNil))))))))
noncomputable def r_is_integer : RunM := runOf 1 m_is_integer
noncomputable def m_is_number : MS := sRet (mBl (mAnd (mB (mCall r_is_integer (mCons (mVar 0) (mNil)))) (mB (mOp (wCmpS (fun i j => !decide (i.cps.toList < j.cps.toList)) (fun i j => decide (j ≤ i))) (mVar 0) (mC (.int 0))))))
noncomputable def r_is_number : RunM := runOf 1 m_is_number
noncomputable def m_is_number_for : MS := sSeq (sIf (mB (mOp (wIs) (mVar 2) (mC .non))) (sRet (mBl (mOr (mNot (mB (mFn (fIsi x_own) (mCons (mVar 1) (mCons (mC (.ty "tuple")) (mNil)))))) (mB (mOp (wEq) (mVar 1) (mTup (mNil))))))) (sNx)) (sRet (mBl (mAnd (mB (mCall r_is_integer (mCons (mVar 2) (mNil)))) (mAnd (mB (mOp (wCmpS (fun i j => decide (j.cps.toList < i.cps.toList)) (fun i j => decide (j < i))) (mVar 2) (mVar 0))) (mB (mOp (wNe) (mVar 1) (mTup (mNil))))))))
noncomputable def r_is_number_for : RunM := runOf 3 m_is_number_for
noncomputable def m_is_word : MS := sSeq (sIf (mOr (mNot (mTr (mFn (fIsi x_own) (mCons (mVar 0) (mCons (mC (.ty "str")) (mNil)))))) (mB (mOp (wCmpS (fun i j => decide (j.cps.toList < i.cps.toList)) (fun i j => decide (j < i))) (mFn fLen (mCons (mVar 0) (mNil))) (mC (.int 12))))) (sRet (mC (.bl false))) (sNx)) (sRet (mFn fAll (mCons (mComp true (iS (mVar 0)) [1] (.one 1) (mYes) (mChain (wCmpS (fun i j => !decide (j.cps.toList < i.cps.toList)) (fun i j => decide (i ≤ j))) (wCmpS (fun i j => !decide (j.cps.toList < i.cps.toList)) (fun i j => decide (i ≤ j))) (mC (.str "a")) (mVar 1) (mC (.str "z")))) (mNil))))
noncomputable def r_is_word : RunM := runOf 2 m_is_word
noncomputable def m_is_key : MS := sRet (mBl (mAnd (mB (mCall r_is_word (mCons (mVar 0) (mNil)))) (mB (mOp (wNe) (mVar 0) (mC (.str ""))))))
noncomputable def r_is_key : RunM := runOf 1 m_is_key
noncomputable def m_is_tuple_of_is_key (g : Addr) : MS := sRet (mBl (mAnd (mB (mFn (fIsi x_own) (mCons (mVar 1) (mCons (mC (.ty "tuple")) (mNil))))) (mB (mFn fAll (mCons (mComp true (iA (mVar 1)) [2] (.one 2) (mYes) (mCallV 0 g r_is_key (mCons (mVar 2) (mNil)))) (mNil))))))
noncomputable def r_is_tuple_of_is_key : RunM := fun ws st => runOf 3 (m_is_tuple_of_is_key 0) (.at_ 0 :: ws) st
noncomputable def m_is_ascending : MS := sRet (mFn fAll (mCons (mComp true (iR1 (mCons (mOp (wSub) (mFn fLen (mCons (mVar 0) (mNil))) (mC (.int 1))) (mNil))) [1] (.one 1) (mYes) (mOp (wLtR) (mOp wIx (mVar 0) (mVar 1)) (mOp wIx (mVar 0) (mOp (wAdd true) (mVar 1) (mC (.int 1)))))) (mNil)))
noncomputable def r_is_ascending : RunM := runOf 2 m_is_ascending
noncomputable def m_is_keys : MS := sRet (mBl (mAnd (mB (mCall r_is_tuple_of_is_key (mCons (mVar 0) mNil))) (mB (mCall r_is_ascending (mCons (mVar 0) (mNil))))))
noncomputable def r_is_keys : RunM := runOf 1 m_is_keys
noncomputable def m_is_tuple : MS := sRet (mBl (mAnd (mB (mFn (fIsi x_own) (mCons (mVar 1) (mCons (mC (.ty "tuple")) (mNil))))) (mB (mOp (wEq) (mFn fLen (mCons (mVar 1) (mNil))) (mVar 0)))))
noncomputable def r_is_tuple : RunM := runOf 2 m_is_tuple
noncomputable def m_is_range : MS := sSeq (sIf (mNot (mTr (mCall r_is_tuple (mCons (mC (.int 3)) (mCons (mVar 0) (mNil)))))) (sRet (mC (.bl false))) (sNx)) (sSeq (sAsg (mVar 0) (gTup' [gName' 1, gName' 2, gName' 3])) (sSeq (sIf (mOr (mNot (mTr (mCall r_is_key (mCons (mVar 1) (mNil))))) (mOr (mNot (mTr (mCall r_is_key (mCons (mVar 2) (mNil))))) (mB (mOp (wCmpS (fun i j => decide (j.cps.toList < i.cps.toList)) (fun i j => decide (j < i))) (mVar 1) (mVar 2))))) (sRet (mC (.bl false))) (sNx)) (sRet (mBl (mAnd (mB (mCall r_is_keys (mCons (mVar 3) (mNil)))) (mB (mFn fAll (mCons (mComp true (iA (mVar 3)) [4] (.one 4) (mYes) (mChain (wCmpS (fun i j => !decide (j.cps.toList < i.cps.toList)) (fun i j => decide (i ≤ j))) (wCmpS (fun i j => !decide (j.cps.toList < i.cps.toList)) (fun i j => decide (i ≤ j))) (mVar 1) (mVar 4) (mVar 2))) (mNil)))))))))
noncomputable def r_is_range : RunM := runOf 5 m_is_range
noncomputable def m_is_tuple_of_is_range (g : Addr) : MS := sRet (mBl (mAnd (mB (mFn (fIsi x_own) (mCons (mVar 1) (mCons (mC (.ty "tuple")) (mNil))))) (mB (mFn fAll (mCons (mComp true (iA (mVar 1)) [2] (.one 2) (mYes) (mCallV 0 g r_is_range (mCons (mVar 2) (mNil)))) (mNil))))))
noncomputable def r_is_tuple_of_is_range : RunM := fun ws st => runOf 3 (m_is_tuple_of_is_range 0) (.at_ 0 :: ws) st
noncomputable def m_is_ranges : MS := sRet (mBl (mAnd (mB (mCall r_is_tuple_of_is_range (mCons (mVar 0) mNil))) (mB (mCall r_is_ascending (mCons (mVar 0) (mNil))))))
noncomputable def r_is_ranges : RunM := runOf 1 m_is_ranges
noncomputable def m_is_within : MS := sRet (mBl (mAnd (mB (mCall r_is_integer (mCons (mVar 2) (mNil)))) (mB (mChain (wCmpS (fun i j => !decide (j.cps.toList < i.cps.toList)) (fun i j => decide (i ≤ j))) (wCmpS (fun i j => !decide (j.cps.toList < i.cps.toList)) (fun i j => decide (i ≤ j))) (mVar 0) (mVar 2) (mVar 1)))))
noncomputable def r_is_within : RunM := runOf 3 m_is_within
noncomputable def m_is_worth : MS := sRet (mCall r_is_within (mCons (mNeg (mC (.int 1000000000000000000))) (mCons (mC (.int 1000000000000000000)) (mCons (mVar 0) (mNil)))))
noncomputable def r_is_worth : RunM := runOf 1 m_is_worth
noncomputable def m_is_mark : MS := sRet (mBl (mOr (mB (mOp (wIs) (mVar 0) (mC .non))) (mB (mCall r_is_worth (mCons (mVar 0) (mNil))))))
noncomputable def r_is_mark : RunM := runOf 1 m_is_mark
noncomputable def m_is_write : MS := sRet (mBl (mAnd (mB (mCall r_is_tuple (mCons (mC (.int 2)) (mCons (mVar 0) (mNil))))) (mAnd (mB (mCall r_is_key (mCons (mOp wIx (mVar 0) (mC (.int 0))) (mNil)))) (mB (mCall r_is_mark (mCons (mOp wIx (mVar 0) (mC (.int 1))) (mNil)))))))
noncomputable def r_is_write : RunM := runOf 1 m_is_write
noncomputable def m_is_tuple_of_is_write (g : Addr) : MS := sRet (mBl (mAnd (mB (mFn (fIsi x_own) (mCons (mVar 1) (mCons (mC (.ty "tuple")) (mNil))))) (mB (mFn fAll (mCons (mComp true (iA (mVar 1)) [2] (.one 2) (mYes) (mCallV 0 g r_is_write (mCons (mVar 2) (mNil)))) (mNil))))))
noncomputable def r_is_tuple_of_is_write : RunM := fun ws st => runOf 3 (m_is_tuple_of_is_write 0) (.at_ 0 :: ws) st
noncomputable def m_is_writes : MS := sRet (mBl (mAnd (mB (mCall r_is_tuple_of_is_write (mCons (mVar 0) mNil))) (mB (mCall r_is_ascending (mCons (mComp true (iA (mVar 0)) [1] (.one 1) (mYes) (mOp wIx (mVar 1) (mC (.int 0)))) (mNil))))))
noncomputable def r_is_writes : RunM := runOf 2 m_is_writes
noncomputable def m_Dealing_init : MS := sSeq (sIf (mNot (mTr (mCall r_is_number (mCons (mVar 1) (mNil))))) (sStk) (sNx)) (sSeq (sIf (mNot (mTr (mCall r_is_number_for (mCons (mVar 1) (mCons (mVar 5) (mCons (mVar 2) (mNil))))))) (sStk) (sNx)) (sSeq (sIf (mNot (mTr (mCall r_is_keys (mCons (mVar 3) (mNil))))) (sStk) (sNx)) (sSeq (sIf (mNot (mTr (mCall r_is_ranges (mCons (mVar 4) (mNil))))) (sStk) (sNx)) (sSeq (sIf (mNot (mTr (mCall r_is_writes (mCons (mVar 5) (mNil))))) (sStk) (sNx)) (sSeq (sFld' [3] "snapshot" (mVar 0) (mVar 1)) (sSeq (sFld' [3] "number" (mVar 0) (mVar 2)) (sSeq (sFld' [3] "gets" (mVar 0) (mVar 3)) (sSeq (sFld' [3] "ranges" (mVar 0) (mVar 4)) (sFld' [3] "writes" (mVar 0) (mVar 5))))))))))
noncomputable def r_Dealing_init : RunM := runOf 6 m_Dealing_init
noncomputable def m_law_made : MS := sRet (mFn fTuple (mCons (mComp true (iA (mVar 0)) [1] (.one 1) (mYes) (mMake 3 r_Dealing_init (mCons (mOp wIx (mVar 1) (mC (.int 0))) (mCons (mOp wIx (mVar 1) (mC (.int 1))) (mCons (mOp wIx (mVar 1) (mC (.int 2))) (mCons (mOp wIx (mVar 1) (mC (.int 3))) (mCons (mOp wIx (mVar 1) (mC (.int 4))) (mNil)))))))) (mNil)))
noncomputable def r_law_made : RunM := runOf 2 m_law_made
noncomputable def m_demand_history : MS := sSeq (sIf (mOr (mNot (mTr (mFn (fIsi x_own) (mCons (mVar 0) (mCons (mC (.ty "tuple")) (mNil)))))) (mB (mOp (wCmpS (fun i j => decide (j.cps.toList < i.cps.toList)) (fun i j => decide (j < i))) (mFn fLen (mCons (mVar 0) (mNil))) (mC (.int 300))))) (sStk) (sNx)) (sSeq (sAsg (mC (.int 0)) (gName' 1)) (sFor (iEA (mCons (mVar 0) (mNil))) (gTup' [gName' 2, gName' 3]) (sSeq (sIf (mOr (mNot (mTr (mIsC [(3, true)] (mVar 3)))) (mB (mOp (wCmpS (fun i j => decide (j.cps.toList < i.cps.toList)) (fun i j => decide (j < i))) (mFld [3] "snapshot" (mVar 3)) (mVar 1)))) (sStk) (sNx)) (sIf (mB (mOp (wIsNot) (mFld [3] "number" (mVar 3)) (mC .non))) (sSeq (sAug 1 (fun a b st => match a, b with | .int p, .int q => .ok (.int (p + q)) st | _, _ => .stuck) (mC (.int 1))) (sIf (mB (mOp (wNe) (mFld [3] "number" (mVar 3)) (mVar 1))) (sStk) (sNx))) (sNx)))))
noncomputable def r_demand_history : RunM := runOf 4 m_demand_history
noncomputable def m_writes_key : MS := sRet (mFn fAny (mCons (mComp true (iA (mFld [3] "writes" (mVar 0))) [2] (.one 2) (mYes) (mOp (wEq) (mOp wIx (mVar 2) (mC (.int 0))) (mVar 1))) (mNil)))
noncomputable def r_writes_key : RunM := runOf 3 m_writes_key
noncomputable def m_saw_key : MS := sSeq (sIf (mB (mOp (wIn false) (mVar 1) (mFld [3] "gets" (mVar 0)))) (sRet (mC (.bl true))) (sNx)) (sRet (mFn fAny (mCons (mComp true (iA (mFld [3] "ranges" (mVar 0))) [2, 3, 4] (.tup [2, 3, 4]) (mYes) (mBl (mAnd (mB (mChain (wCmpS (fun i j => !decide (j.cps.toList < i.cps.toList)) (fun i j => decide (i ≤ j))) (wCmpS (fun i j => !decide (j.cps.toList < i.cps.toList)) (fun i j => decide (i ≤ j))) (mVar 2) (mVar 1) (mVar 3))) (mB (mOp (wIn true) (mVar 1) (mVar 4)))))) (mNil))))
noncomputable def r_saw_key : RunM := runOf 5 m_saw_key
noncomputable def m_is_tied : MS := sSeq (sFor (iA (mFld [3] "writes" (mVar 0))) (gTup' [gName' 2, gName' 3]) (sSeq (sIf (mAnd (mTr (mCall r_writes_key (mCons (mVar 1) (mCons (mVar 2) (mNil))))) (mB (mOp (wCmpS (fun i j => decide (i.cps.toList < j.cps.toList)) (fun i j => decide (i < j))) (mFld [3] "number" (mVar 0)) (mFld [3] "number" (mVar 1))))) (sRet (mC (.bl true))) (sNx)) (sIf (mAnd (mB (mOp (wCmpS (fun i j => !decide (j.cps.toList < i.cps.toList)) (fun i j => decide (i ≤ j))) (mFld [3] "number" (mVar 0)) (mFld [3] "snapshot" (mVar 1)))) (mTr (mCall r_saw_key (mCons (mVar 1) (mCons (mVar 2) (mNil)))))) (sRet (mC (.bl true))) (sNx)))) (sRet (mFn fAny (mCons (mComp true (iA (mFld [3] "writes" (mVar 1))) [2, 3] (.tup [2, 3]) (mYes) (mBl (mAnd (mB (mOp (wCmpS (fun i j => decide (j.cps.toList < i.cps.toList)) (fun i j => decide (j < i))) (mFld [3] "number" (mVar 1)) (mFld [3] "snapshot" (mVar 0)))) (mB (mCall r_saw_key (mCons (mVar 0) (mCons (mVar 2) (mNil)))))))) (mNil))))
noncomputable def r_is_tied : RunM := runOf 4 m_is_tied
noncomputable def m_ways_of : MS := sSeq (sAsg (mLst false (mNil)) (gName' 1)) (sSeq (sFor (iEA (mCons (mVar 0) (mNil))) (gTup' [gName' 2, gName' 3]) (sExpr (mLm fAppend (mVar 1) (mCons (mComp true (iEA (mCons (mVar 0) (mNil))) [4, 5] (.tup [4, 5]) (mAnd (mB (mOp (wNe) (mVar 4) (mVar 2))) (mTr (mCall r_is_tied (mCons (mVar 3) (mCons (mVar 5) (mNil)))))) (mVar 4)) (mNil))))) (sRet (mVar 1)))
noncomputable def r_ways_of : RunM := runOf 6 m_ways_of
noncomputable def m_serial_order : MS := sSeq (sExpr (mCall r_demand_history (mCons (mVar 0) (mNil)))) (sSeq (sAsg (mCall r_ways_of (mCons (mVar 0) (mNil))) (gName' 1)) (sSeq (sAsg (mOp (wMul false) (mLst true (mCons (mC (.int 0)) (mNil))) (mFn fLen (mCons (mVar 1) (mNil)))) (gName' 2)) (sSeq (sFor (iA (mVar 1)) (gName' 3) (sFor (iA (mVar 3)) (gName' 4) (sAugSub (fun p q => p + q) (mVar 2) (mVar 4) (mC (.int 1))))) (sSeq (sAsg (mLst false (mNil)) (gName' 5)) (sSeq (sWhile 1000000 (mB (mOp (wCmpS (fun i j => decide (i.cps.toList < j.cps.toList)) (fun i j => decide (i < j))) (mFn fLen (mCons (mVar 5) (mNil))) (mFn fLen (mCons (mVar 1) (mNil))))) (sSeq (sAsg (mComp false (iR1 (mCons (mFn fLen (mCons (mVar 1) (mNil))) (mNil))) [7] (.one 7) (mB (mOp (wEq) (mOp wIx (mVar 2) (mVar 7)) (mC (.int 0)))) (mVar 7)) (gName' 6)) (sSeq (sIf (mNot (mTr (mVar 6))) (sRet (mC .non)) (sNx)) (sSeq (sExpr (mLm fAppend (mVar 5) (mCons (mOp wIx (mVar 6) (mC (.int 0))) (mNil)))) (sSeq (sAsg (mNeg (mC (.int 1))) (gSub' (mVar 2) (mOp wIx (mVar 6) (mC (.int 0))))) (sFor (iA (mOp wIx (mVar 1) (mOp wIx (mVar 6) (mC (.int 0))))) (gName' 4) (sAugSub (fun p q => p - q) (mVar 2) (mVar 4) (mC (.int 1))))))))) (sRet (mFn fTuple (mCons (mVar 5) (mNil)))))))))
noncomputable def r_serial_order : RunM := runOf 8 m_serial_order
noncomputable def m_ring_from : MS := sSeq (sAsg (mDisp (mPair (mVar 0) (mC (.bl true)) (mPair0))) (gName' 2)) (sSeq (sAsg (mLst true (mCons (mTup (mCons (mVar 0) (mNil))) (mNil))) (gName' 3)) (sSeq (sWhile 1000000 (mTr (mVar 3)) (sSeq (sAsg (mLst false (mNil)) (gName' 4)) (sSeq (sFor (iA (mVar 3)) (gName' 5) (sFor (iA (mFn (fSortedX true) (mCons (mOp wIx (mVar 1) (mOp wIx (mVar 5) (mNeg (mC (.int 1))))) (mNil)))) (gName' 6) (sSeq (sIf (mB (mOp (wEq) (mVar 6) (mVar 0))) (sRet (mVar 5)) (sNx)) (sIf (mB (mDin true (mVar 6) (mVar 2))) (sSeq (sAsg (mC (.bl true)) (gSub' (mVar 2) (mVar 6))) (sExpr (mLm fAppend (mVar 4) (mCons (mTupS (mStar (mVar 5) (mCons (mVar 6) (mNil)))) (mNil))))) (sNx))))) (sAsg (mVar 4) (gName' 3))))) (sRet (mC .non))))
noncomputable def r_ring_from : RunM := runOf 7 m_ring_from
noncomputable def m_ring : MS := sSeq (sIf (mB (mOp (wIsNot) (mCall r_serial_order (mCons (mVar 0) (mNil))) (mC .non))) (sRet (mC .non)) (sNx)) (sSeq (sAsg (mCall r_ways_of (mCons (mVar 0) (mNil))) (gName' 1)) (sSeq (sAsg (mC .non) (gName' 2)) (sSeq (sFor (iR1 (mCons (mFn fLen (mCons (mVar 1) (mNil))) (mNil))) (gName' 3) (sSeq (sAsg (mCall r_ring_from (mCons (mVar 3) (mCons (mVar 1) (mNil)))) (gName' 4)) (sIf (mAnd (mB (mOp (wIsNot) (mVar 4) (mC .non))) (mOr (mB (mOp (wIs) (mVar 2) (mC .non))) (mB (mOp (wCmpS (fun i j => decide (i.cps.toList < j.cps.toList)) (fun i j => decide (i < j))) (mFn fLen (mCons (mVar 4) (mNil))) (mFn fLen (mCons (mVar 2) (mNil))))))) (sAsg (mVar 4) (gName' 2)) (sNx)))) (sRet (mVar 2)))))
noncomputable def r_ring : RunM := runOf 5 m_ring
noncomputable def m_is_lost : MS := sSeq (sIf (mOr (mB (mOp (wIs) (mFld [3] "number" (mVar 0)) (mC .non))) (mB (mOp (wIs) (mFld [3] "number" (mVar 1)) (mC .non)))) (sRet (mC (.bl false))) (sNx)) (sSeq (sIf (mNot (mB (mChain (wCmpS (fun i j => decide (i.cps.toList < j.cps.toList)) (fun i j => decide (i < j))) (wCmpS (fun i j => decide (i.cps.toList < j.cps.toList)) (fun i j => decide (i < j))) (mFld [3] "snapshot" (mVar 1)) (mFld [3] "number" (mVar 0)) (mFld [3] "number" (mVar 1))))) (sRet (mC (.bl false))) (sNx)) (sRet (mFn fAny (mCons (mComp2 true (iA (mFld [3] "writes" (mVar 0))) [2, 3] (.one 2) (iT (mFld [3] "writes" (mVar 1))) [3] (.one 3) (mOp (wEq) (mOp wIx (mVar 2) (mC (.int 0))) (mOp wIx (mVar 3) (mC (.int 0))))) (mNil)))))
noncomputable def r_is_lost : RunM := runOf 4 m_is_lost
noncomputable def m_lost_updates : MS := sSeq (sExpr (mCall r_demand_history (mCons (mVar 0) (mNil)))) (sSeq (sAsg (mLst false (mNil)) (gName' 1)) (sSeq (sFor (iEA (mCons (mVar 0) (mNil))) (gTup' [gName' 2, gName' 3]) (sFor (iEA (mCons (mVar 0) (mNil))) (gTup' [gName' 4, gName' 5]) (sIf (mTr (mCall r_is_lost (mCons (mVar 3) (mCons (mVar 5) (mNil))))) (sExpr (mLm fAppend (mVar 1) (mCons (mTup (mCons (mVar 2) (mCons (mVar 4) (mNil)))) (mNil)))) (sNx)))) (sRet (mVar 1))))
noncomputable def r_lost_updates : RunM := runOf 6 m_lost_updates
noncomputable def m_is_row_of_indexes : MS := sSeq (sIf (mNot (mTr (mFn (fIsi x_own) (mCons (mVar 1) (mCons (mC (.ty "tuple")) (mNil)))))) (sRet (mC (.bl false))) (sNx)) (sSeq (sIf (mNot (mTr (mFn fAll (mCons (mComp true (iA (mVar 1)) [2] (.one 2) (mYes) (mCall r_is_within (mCons (mC (.int 0)) (mCons (mOp (wSub) (mFn fLen (mCons (mVar 0) (mNil))) (mC (.int 1))) (mCons (mVar 2) (mNil)))))) (mNil))))) (sRet (mC (.bl false))) (sNx)) (sRet (mOp (wEq) (mFn fLenSet (mCons (mVar 1) (mNil))) (mFn fLen (mCons (mVar 1) (mNil))))))
noncomputable def r_is_row_of_indexes : RunM := runOf 3 m_is_row_of_indexes
noncomputable def m_is_order : MS := sRet (mBl (mAnd (mB (mCall r_is_row_of_indexes (mCons (mVar 0) (mCons (mVar 1) (mNil))))) (mB (mOp (wEq) (mFn fLen (mCons (mVar 1) (mNil))) (mFn fLen (mCons (mVar 0) (mNil)))))))
noncomputable def r_is_order : RunM := runOf 2 m_is_order
noncomputable def m_demand_order : MS := sSeq (sExpr (mCall r_demand_history (mCons (mVar 0) (mNil)))) (sIf (mNot (mTr (mCall r_is_order (mCons (mVar 0) (mCons (mVar 1) (mNil)))))) (sRaise 0) (sNx))
noncomputable def r_demand_order : RunM := runOf 2 m_demand_order
noncomputable def m_numbers_of : MS := sSeq (sAsg (mDict0) (gName' 1)) (sSeq (sFor (iA (mVar 0)) (gName' 2) (sFor (iA (mFld [3] "writes" (mVar 2))) (gTup' [gName' 3, gName' 4]) (sExpr (mLm fAppend (mDset2 (mVar 1) (mVar 3) (mLst false (mNil))) (mCons (mFld [3] "number" (mVar 2)) (mNil)))))) (sRet (mVar 1)))
noncomputable def r_numbers_of : RunM := runOf 5 m_numbers_of
noncomputable def m_number_at : MS := sRet (mMaxD (mComp true (iA (mVar 0)) [2] (.one 2) (mB (mOp (wCmpS (fun i j => !decide (j.cps.toList < i.cps.toList)) (fun i j => decide (i ≤ j))) (mVar 2) (mVar 1))) (mVar 2)) (mC (.int 0)))
noncomputable def r_number_at : RunM := runOf 3 m_number_at
noncomputable def m_failing_key : MS := sSeq (sFor (iA (mFn (fSortedDS true) (mCons (mVar 1) (mNil)))) (gName' 3) (sIf (mAnd (mTr (mCall r_saw_key (mCons (mVar 0) (mCons (mVar 3) (mNil))))) (mB (mOp (wNe) (mDget2 (mVar 2) (mVar 3) (mC (.int 0))) (mCall r_number_at (mCons (mOp wIx (mVar 1) (mVar 3)) (mCons (mFld [3] "snapshot" (mVar 0)) (mNil))))))) (sRet (mVar 3)) (sNx))) (sSeq (sFor (iA (mFld [3] "writes" (mVar 0))) (gTup' [gName' 3, gName' 4]) (sIf (mB (mOp (wCmpS (fun i j => decide (j.cps.toList < i.cps.toList)) (fun i j => decide (j < i))) (mDget2 (mVar 2) (mVar 3) (mC (.int 0))) (mFld [3] "number" (mVar 0)))) (sRet (mVar 3)) (sNx))) (sRet (mC .non)))
noncomputable def r_failing_key : RunM := runOf 5 m_failing_key
noncomputable def m_failure_in : MS := sSeq (sAsg (mCall r_numbers_of (mCons (mVar 0) (mNil))) (gName' 2)) (sSeq (sAsg (mDict0) (gName' 3)) (sSeq (sFor (iA (mVar 1)) (gName' 4) (sSeq (sAsg (mCall r_failing_key (mCons (mOp wIx (mVar 0) (mVar 4)) (mCons (mVar 2) (mCons (mVar 3) (mNil))))) (gName' 5)) (sSeq (sIf (mB (mOp (wIsNot) (mVar 5) (mC .non))) (sRet (mTup (mCons (mVar 4) (mCons (mVar 5) (mNil))))) (sNx)) (sFor (iA (mFld [3] "writes" (mOp wIx (mVar 0) (mVar 4)))) (gTup' [gName' 5, gName' 6]) (sAsg (mFld [3] "number" (mOp wIx (mVar 0) (mVar 4))) (gSub' (mVar 3) (mVar 5))))))) (sRet (mC .non))))
noncomputable def r_failure_in : RunM := runOf 7 m_failure_in
noncomputable def m_first_failure : MS := sSeq (sExpr (mCall r_demand_order (mCons (mVar 0) (mCons (mVar 1) (mNil))))) (sRet (mCall r_failure_in (mCons (mVar 0) (mCons (mVar 1) (mNil)))))
noncomputable def r_first_failure : RunM := runOf 2 m_first_failure
noncomputable def m_ties : MS := sSeq (sExpr (mCall r_demand_history (mCons (mVar 0) (mNil)))) (sRet (mComp2 true (iEA (mCons (mCall r_ways_of (mCons (mVar 0) (mNil))) (mNil))) [1, 2, 3] (.tup [1, 2]) (iL (mVar 2)) [3] (.one 3) (mTup (mCons (mVar 1) (mCons (mVar 3) (mNil))))))
noncomputable def r_ties : RunM := runOf 4 m_ties
noncomputable def m_many_orders : MS := sSeq (sExpr (mCall r_demand_history (mCons (mVar 0) (mNil)))) (sSeq (sIf (mB (mOp (wCmpS (fun i j => decide (j.cps.toList < i.cps.toList)) (fun i j => decide (j < i))) (mFn fLen (mCons (mVar 0) (mNil))) (mC (.int 14)))) (sRaise1 1 "most" (mCons (mC (.int 14)) (mNil))) (sNx)) (sSeq (sAsg (mOp (wMul false) (mLst true (mCons (mC (.int 0)) (mNil))) (mFn fLen (mCons (mVar 0) (mNil)))) (gName' 1)) (sSeq (sFor (iA (mCall r_ties (mCons (mVar 0) (mNil)))) (gTup' [gName' 2, gName' 3]) (sAugSub (fun p q => Builtin.bitOr p q) (mVar 1) (mVar 3) (mOp (wShl) (mC (.int 1)) (mVar 2)))) (sSeq (sAsg (mOp (wShl) (mC (.int 1)) (mFn fLen (mCons (mVar 0) (mNil)))) (gName' 4)) (sSeq (sAsg (mOp (wAdd false) (mLst true (mCons (mC (.int 1)) (mNil))) (mOp (wMul true) (mLst true (mCons (mC (.int 0)) (mNil))) (mOp (wSub) (mVar 4) (mC (.int 1))))) (gName' 5)) (sSeq (sFor (iR1 (mCons (mVar 4) (mNil))) (gName' 6) (sFor (iEA (mCons (mVar 1) (mNil))) (gTup' [gName' 7, gName' 8]) (sIf (mAnd (mB (mOp (wEq) (mOp (wBand) (mVar 6) (mOp (wShl) (mC (.int 1)) (mVar 7))) (mC (.int 0)))) (mB (mOp (wEq) (mOp (wBand) (mVar 6) (mVar 8)) (mVar 8)))) (sAugSub (fun p q => p + q) (mVar 5) (mOp (wBor) (mVar 6) (mOp (wShl) (mC (.int 1)) (mVar 7))) (mOp wIx (mVar 5) (mVar 6))) (sNx)))) (sRet (mOp wIx (mVar 5) (mNeg (mC (.int 1)))))))))))
noncomputable def r_many_orders : RunM := runOf 9 m_many_orders
noncomputable def m_law_known_right : MS := sSeq (sAsg (mCall r_law_made (mCons (mLst true (mCons (mTup (mCons (mC (.int 0)) (mCons (mC (.int 1)) (mCons (mTup (mCons (mVar 0) (mNil))) (mCons (mTup (mNil)) (mCons (mTup (mCons (mTup (mCons (mVar 1) (mCons (mC (.int 1)) (mNil)))) (mNil))) (mNil))))))) (mCons (mTup (mCons (mC (.int 0)) (mCons (mC (.int 2)) (mCons (mTup (mCons (mVar 1) (mNil))) (mCons (mTup (mNil)) (mCons (mTup (mCons (mTup (mCons (mVar 0) (mCons (mC (.int 2)) (mNil)))) (mNil))) (mNil))))))) (mNil)))) (mNil))) (gName' 2)) (sSeq (sIf (mOr (mB (mOp (wNe) (mCall r_ring (mCons (mVar 2) (mNil))) (mTup (mCons (mC (.int 0)) (mCons (mC (.int 1)) (mNil)))))) (mOr (mB (mOp (wIsNot) (mCall r_serial_order (mCons (mVar 2) (mNil))) (mC .non))) (mB (mOp (wNe) (mCall r_lost_updates (mCons (mVar 2) (mNil))) (mLst true (mNil)))))) (sRet (mC (.bl false))) (sNx)) (sSeq (sIf (mOr (mB (mOp (wNe) (mCall r_first_failure (mCons (mVar 2) (mCons (mTup (mCons (mC (.int 0)) (mCons (mC (.int 1)) (mNil)))) (mNil)))) (mTup (mCons (mC (.int 1)) (mCons (mVar 1) (mNil)))))) (mOr (mB (mOp (wNe) (mCall r_first_failure (mCons (mVar 2) (mCons (mTup (mCons (mC (.int 1)) (mCons (mC (.int 0)) (mNil)))) (mNil)))) (mTup (mCons (mC (.int 0)) (mCons (mVar 0) (mNil)))))) (mB (mOp (wNe) (mCall r_many_orders (mCons (mVar 2) (mNil))) (mC (.int 0)))))) (sRet (mC (.bl false))) (sNx)) (sSeq (sAsg (mCall r_law_made (mCons (mLst true (mCons (mTup (mCons (mC (.int 0)) (mCons (mC (.int 1)) (mCons (mTup (mCons (mVar 0) (mNil))) (mCons (mTup (mNil)) (mCons (mTup (mCons (mTup (mCons (mVar 0) (mCons (mC (.int 1)) (mNil)))) (mNil))) (mNil))))))) (mCons (mTup (mCons (mC (.int 0)) (mCons (mC (.int 2)) (mCons (mTup (mCons (mVar 0) (mNil))) (mCons (mTup (mNil)) (mCons (mTup (mCons (mTup (mCons (mVar 0) (mCons (mC (.int 2)) (mNil)))) (mNil))) (mNil))))))) (mNil)))) (mNil))) (gName' 3)) (sSeq (sIf (mOr (mB (mOp (wNe) (mCall r_ring (mCons (mVar 3) (mNil))) (mTup (mCons (mC (.int 0)) (mCons (mC (.int 1)) (mNil)))))) (mOr (mB (mOp (wNe) (mCall r_lost_updates (mCons (mVar 3) (mNil))) (mLst true (mCons (mTup (mCons (mC (.int 0)) (mCons (mC (.int 1)) (mNil)))) (mNil))))) (mB (mOp (wNe) (mCall r_first_failure (mCons (mVar 3) (mCons (mTup (mCons (mC (.int 1)) (mCons (mC (.int 0)) (mNil)))) (mNil)))) (mTup (mCons (mC (.int 0)) (mCons (mVar 0) (mNil)))))))) (sRet (mC (.bl false))) (sNx)) (sSeq (sAsg (mCall r_law_made (mCons (mLst true (mCons (mTup (mCons (mC (.int 0)) (mCons (mC (.int 1)) (mCons (mTup (mCons (mVar 0) (mNil))) (mCons (mTup (mNil)) (mCons (mTup (mCons (mTup (mCons (mVar 0) (mCons (mC (.int 1)) (mNil)))) (mNil))) (mNil))))))) (mCons (mTup (mCons (mC (.int 0)) (mCons (mC (.int 2)) (mCons (mTup (mNil)) (mCons (mTup (mNil)) (mCons (mTup (mCons (mTup (mCons (mVar 0) (mCons (mC (.int 2)) (mNil)))) (mNil))) (mNil))))))) (mNil)))) (mNil))) (gName' 4)) (sSeq (sIf (mOr (mB (mOp (wIsNot) (mCall r_ring (mCons (mVar 4) (mNil))) (mC .non))) (mOr (mB (mOp (wNe) (mCall r_serial_order (mCons (mVar 4) (mNil))) (mTup (mCons (mC (.int 0)) (mCons (mC (.int 1)) (mNil)))))) (mB (mOp (wNe) (mCall r_lost_updates (mCons (mVar 4) (mNil))) (mLst true (mCons (mTup (mCons (mC (.int 0)) (mCons (mC (.int 1)) (mNil)))) (mNil))))))) (sRet (mC (.bl false))) (sNx)) (sSeq (sAsg (mLst true (mCons (mTup (mCons (mC (.int 0)) (mCons (mC (.int 1)) (mCons (mTup (mCons (mVar 1) (mNil))) (mCons (mTup (mNil)) (mCons (mTup (mCons (mTup (mCons (mVar 1) (mCons (mC (.int 1)) (mNil)))) (mNil))) (mNil))))))) (mCons (mTup (mCons (mC (.int 1)) (mCons (mC .non) (mCons (mTup (mCons (mVar 0) (mCons (mVar 1) (mNil)))) (mCons (mTup (mNil)) (mCons (mTup (mNil)) (mNil))))))) (mNil)))) (gName' 5)) (sSeq (sIf (mOr (mB (mOp (wNe) (mCall r_serial_order (mCons (mCall r_law_made (mCons (mVar 5) (mNil))) (mNil))) (mTup (mCons (mC (.int 0)) (mCons (mC (.int 1)) (mNil)))))) (mB (mOp (wNe) (mCall r_many_orders (mCons (mCall r_law_made (mCons (mVar 5) (mNil))) (mNil))) (mC (.int 1))))) (sRet (mC (.bl false))) (sNx)) (sSeq (sAsg (mOp (wAdd true) (mVar 5) (mLst true (mCons (mTup (mCons (mC (.int 0)) (mCons (mC (.int 2)) (mCons (mTup (mCons (mVar 0) (mCons (mVar 1) (mNil)))) (mCons (mTup (mNil)) (mCons (mTup (mCons (mTup (mCons (mVar 0) (mCons (mC (.int 2)) (mNil)))) (mNil))) (mNil))))))) (mNil)))) (gName' 6)) (sSeq (sIf (mOr (mB (mOp (wNe) (mCall r_ring (mCons (mCall r_law_made (mCons (mVar 6) (mNil))) (mNil))) (mTup (mCons (mC (.int 0)) (mCons (mC (.int 1)) (mCons (mC (.int 2)) (mNil))))))) (mB (mOp (wIsNot) (mCall r_serial_order (mCons (mCall r_law_made (mCons (mVar 6) (mNil))) (mNil))) (mC .non)))) (sRet (mC (.bl false))) (sNx)) (sSeq (sAsg (mLst true (mCons (mTup (mCons (mC (.int 0)) (mCons (mC (.int 1)) (mCons (mTup (mNil)) (mCons (mTup (mNil)) (mCons (mTup (mCons (mTup (mCons (mVar 0) (mCons (mC (.int 1)) (mNil)))) (mNil))) (mNil))))))) (mCons (mTup (mCons (mC (.int 0)) (mCons (mC .non) (mCons (mTup (mCons (mVar 0) (mNil))) (mCons (mTup (mNil)) (mCons (mTup (mNil)) (mNil))))))) (mNil)))) (gName' 7)) (sRet (mBl (mAnd (mB (mOp (wEq) (mCall r_serial_order (mCons (mCall r_law_made (mCons (mVar 7) (mNil))) (mNil))) (mTup (mCons (mC (.int 1)) (mCons (mC (.int 0)) (mNil)))))) (mB (mOp (wEq) (mCall r_first_failure (mCons (mCall r_law_made (mCons (mVar 7) (mNil))) (mCons (mTup (mCons (mC (.int 0)) (mCons (mC (.int 1)) (mNil)))) (mNil)))) (mTup (mCons (mC (.int 1)) (mCons (mVar 0) (mNil))))))))))))))))))))
noncomputable def r_law_known_right : RunM := runOf 8 m_law_known_right
noncomputable def m_law_some : MS := sSeq (sAsg (mLst false (mNil)) (gName' 3)) (sSeq (sFor (iR1 (mCons (mCall r_law_draw (mCons (mVar 0) (mCons (mOp (wAdd true) (mVar 2) (mC (.int 1))) (mNil)))) (mNil))) (gName' 4) (sExpr (mLm fAppend (mVar 3) (mCons (mOp wIx (mVar 1) (mCall r_law_draw (mCons (mVar 0) (mCons (mFn fLen (mCons (mVar 1) (mNil))) (mNil))))) (mNil))))) (sRet (mFn fTuple (mCons (mFn (fSortSetS true) (mCons (mVar 3) (mNil))) (mNil)))))
noncomputable def r_law_some : RunM := runOf 5 m_law_some
noncomputable def m_law_range : MS := sSeq (sAsg (mFn (fSortedX true) (mCons (mLst true (mCons (mOp wIx (mVar 1) (mCall r_law_draw (mCons (mVar 0) (mCons (mFn fLen (mCons (mVar 1) (mNil))) (mNil))))) (mCons (mOp wIx (mVar 1) (mCall r_law_draw (mCons (mVar 0) (mCons (mFn fLen (mCons (mVar 1) (mNil))) (mNil))))) (mNil)))) (mNil))) (gLst' [gName' 2, gName' 3])) (sSeq (sAsg (mFn fTuple (mCons (mComp true (iA (mCall r_law_some (mCons (mVar 0) (mCons (mVar 1) (mCons (mC (.int 1)) (mNil)))))) [5] (.one 5) (mB (mChain (wCmpS (fun i j => !decide (j.cps.toList < i.cps.toList)) (fun i j => decide (i ≤ j))) (wCmpS (fun i j => !decide (j.cps.toList < i.cps.toList)) (fun i j => decide (i ≤ j))) (mVar 2) (mVar 5) (mVar 3))) (mVar 5)) (mNil))) (gName' 4)) (sRet (mTup (mCons (mVar 2) (mCons (mVar 3) (mCons (mVar 4) (mNil)))))))
noncomputable def r_law_range : RunM := runOf 6 m_law_range
noncomputable def m_law_seen : MS := sSeq (sAsg (mComp true (iR1 (mCons (mFn fMax2 (mCons (mC (.int 0)) (mCons (mOp (wSub) (mCall r_law_draw (mCons (mVar 0) (mCons (mC (.int 4)) (mNil)))) (mC (.int 1))) (mNil)))) (mNil))) [3] (.one 3) (mYes) (mCall r_law_range (mCons (mVar 0) (mCons (mVar 1) (mNil))))) (gName' 2)) (sRet (mTup (mCons (mCall r_law_some (mCons (mVar 0) (mCons (mVar 1) (mCons (mC (.int 2)) (mNil))))) (mCons (mFn fTuple (mCons (mFn (fSortSetR true) (mCons (mVar 2) (mNil))) (mNil))) (mNil)))))
noncomputable def r_law_seen : RunM := runOf 4 m_law_seen
noncomputable def m_law_writes : MS := sSeq (sAsg (mLst false (mNil)) (gName' 3)) (sSeq (sFor (iA (mCall r_law_some (mCons (mVar 0) (mCons (mVar 1) (mCons (mVar 2) (mNil)))))) (gName' 4) (sExpr (mLm fAppend (mVar 3) (mCons (mTup (mCons (mVar 4) (mCons (mOp wIx (mLst true (mCons (mC .non) (mCons (mC (.int 0)) (mCons (mC (.int 5)) (mCons (mNeg (mC (.int 7))) (mCons (mOp (wPow) (mC (.int 10)) (mC (.int 18))) (mNil))))))) (mCall r_law_draw (mCons (mVar 0) (mCons (mC (.int 5)) (mNil))))) (mNil)))) (mNil))))) (sRet (mFn fTuple (mCons (mVar 3) (mNil)))))
noncomputable def r_law_writes : RunM := runOf 5 m_law_writes
noncomputable def m_law_history : MS := sSeq (sPar 4 5 (mLst false (mNil)) (mC (.int 0))) (sSeq (sFor (iR1 (mCons (mCall r_law_draw (mCons (mVar 0) (mCons (mOp (wAdd true) (mVar 1) (mC (.int 1))) (mNil)))) (mNil))) (gName' 6) (sSeq (sAsg (mFn fMax2 (mCons (mC (.int 0)) (mCons (mOp (wSub) (mVar 5) (mCall r_law_draw (mCons (mVar 0) (mCons (mOp (wAdd true) (mVar 3) (mC (.int 1))) (mNil))))) (mNil)))) (gName' 7)) (sSeq (sAsg (mCall r_law_seen (mCons (mVar 0) (mCons (mVar 2) (mNil)))) (gTup' [gName' 8, gName' 9])) (sSeq (sAsg (mCall r_law_writes (mCons (mVar 0) (mCons (mVar 2) (mCons (mC (.int 2)) (mNil))))) (gName' 10)) (sSeq (sAsg (mIf (mB (mOp (wCmpS (fun i j => decide (j.cps.toList < i.cps.toList)) (fun i j => decide (j < i))) (mFn fLen (mCons (mVar 10) (mNil))) (mC (.int 0)))) (mOp (wAdd true) (mVar 5) (mC (.int 1))) (mC .non)) (gName' 11)) (sSeq (sExpr (mLm fAppend (mVar 4) (mCons (mTup (mCons (mVar 7) (mCons (mVar 11) (mCons (mVar 8) (mCons (mVar 9) (mCons (mVar 10) (mNil))))))) (mNil)))) (sAsg (mOp (wAdd true) (mVar 5) (mFn fInt (mCons (mOp (wIsNot) (mVar 11) (mC .non)) (mNil)))) (gName' 5)))))))) (sRet (mVar 4)))
noncomputable def r_law_history : RunM := runOf 12 m_law_history
noncomputable def m_law_keys : MS := sRet (mLst true (mCons (mC (.str "a")) (mCons (mC (.str "b")) (mCons (mC (.str "c")) (mCons (mC (.str "d")) (mCons (mC (.str "da")) (mCons (mC (.str "z")) (mNil))))))))
noncomputable def r_law_keys : RunM := runOf 0 m_law_keys
noncomputable def m_law_wrote : MS := sRet (mComp true (iA (mOp wIx (mVar 0) (mC (.int 4)))) [1, 2] (.tup [1, 2]) (mYes) (mVar 1))
noncomputable def r_law_wrote : RunM := runOf 3 m_law_wrote
noncomputable def m_law_lost : MS := sSeq (sAsg (mLst false (mNil)) (gName' 1)) (sSeq (sFor (iR1 (mCons (mFn fLen (mCons (mVar 0) (mNil))) (mNil))) (gName' 2) (sFor (iR1 (mCons (mFn fLen (mCons (mVar 0) (mNil))) (mNil))) (gName' 3) (sIf (mAnd (mB (mOp (wIsNot) (mOp wIx (mOp wIx (mVar 0) (mVar 2)) (mC (.int 1))) (mC .non))) (mAnd (mB (mOp (wIsNot) (mOp wIx (mOp wIx (mVar 0) (mVar 3)) (mC (.int 1))) (mC .non))) (mB (mOp (wCmpS (fun i j => decide (i.cps.toList < j.cps.toList)) (fun i j => decide (i < j))) (mOp wIx (mOp wIx (mVar 0) (mVar 2)) (mC (.int 1))) (mOp wIx (mOp wIx (mVar 0) (mVar 3)) (mC (.int 1))))))) (sSeq (sAsg (mComp true (iA (mCall r_law_wrote (mCons (mOp wIx (mVar 0) (mVar 2)) (mNil)))) [5] (.one 5) (mB (mOp (wIn false) (mVar 5) (mCall r_law_wrote (mCons (mOp wIx (mVar 0) (mVar 3)) (mNil))))) (mVar 5)) (gName' 4)) (sIf (mAnd (mB (mOp (wCmpS (fun i j => decide (j.cps.toList < i.cps.toList)) (fun i j => decide (j < i))) (mFn fLen (mCons (mVar 4) (mNil))) (mC (.int 0)))) (mB (mOp (wCmpS (fun i j => decide (j.cps.toList < i.cps.toList)) (fun i j => decide (j < i))) (mOp wIx (mOp wIx (mVar 0) (mVar 2)) (mC (.int 1))) (mOp wIx (mOp wIx (mVar 0) (mVar 3)) (mC (.int 0)))))) (sExpr (mLm fAppend (mVar 1) (mCons (mTup (mCons (mVar 2) (mCons (mVar 3) (mNil)))) (mNil)))) (sNx))) (sNx)))) (sRet (mFn (fSortedPP true) (mCons (mVar 1) (mNil)))))
noncomputable def r_law_lost : RunM := runOf 6 m_law_lost
noncomputable def m_law : MS := sSeq (sAsg (mCall r_law_hand (mCons (mVar 0) (mNil))) (gName' 1)) (sSeq (sAsg (mOp wIx (mLst true (mCons (mLst true (mCons (mC (.str "a")) (mCons (mC (.str "b")) (mNil)))) (mCons (mLst true (mCons (mC (.str "ab")) (mCons (mC (.str "b")) (mNil)))) (mCons (mLst true (mCons (mC (.str "z")) (mCons (mC (.str "zz")) (mNil)))) (mCons (mLst true (mCons (mC (.str "k")) (mCons (mC (.str "kkkkkkkkkkkk")) (mNil)))) (mNil)))))) (mCall r_law_draw (mCons (mVar 1) (mCons (mC (.int 4)) (mNil))))) (gName' 2)) (sSeq (sIf (mNot (mTr (mGc (mCall r_law_known_right (mCons (mOp wIx (mVar 2) (mC (.int 0))) (mCons (mOp wIx (mVar 2) (mC (.int 1))) (mNil))))))) (sRet (mC (.bl false))) (sNx)) (sSeq (sAsg (mOp wIx (mLst true (mCons (mTup (mCons (mC (.str "a")) (mCons (mC (.str "m")) (mNil)))) (mCons (mTup (mCons (mC (.str "b")) (mCons (mC (.str "b")) (mNil)))) (mCons (mTup (mCons (mC (.str "aa")) (mCons (mC (.str "zz")) (mNil)))) (mNil))))) (mCall r_law_draw (mCons (mVar 1) (mCons (mC (.int 3)) (mNil))))) (gTup' [gName' 3, gName' 4])) (sSeq (sGc [5, 0] (sSeq (sAsg (mLst false (mCons (mTup (mCons (mC (.int 0)) (mCons (mC (.int 1)) (mCons (mTup (mNil)) (mCons (mTup (mCons (mTup (mCons (mVar 3) (mCons (mVar 4) (mCons (mTup (mNil)) (mNil))))) (mNil))) (mCons (mTup (mCons (mTup (mCons (mC (.str "zzz")) (mCons (mC (.int 1)) (mNil)))) (mNil))) (mNil))))))) (mCons (mTup (mCons (mC (.int 0)) (mCons (mC (.int 2)) (mCons (mTup (mCons (mC (.str "zzz")) (mNil))) (mCons (mTup (mNil)) (mCons (mTup (mCons (mTup (mCons (mVar 3) (mCons (mC (.int 2)) (mNil)))) (mNil))) (mNil))))))) (mNil)))) (gName' 5)) (sSeq (sIf (mB (mOp (wNe) (mCall r_ring (mCons (mCall r_law_made (mCons (mVar 5) (mNil))) (mNil))) (mTup (mCons (mC (.int 0)) (mCons (mC (.int 1)) (mNil)))))) (sRet (mC (.bl false))) (sNx)) (sSeq (sAsg (mTup (mCons (mC (.int 0)) (mCons (mC (.int 1)) (mCons (mTup (mNil)) (mCons (mTup (mCons (mTup (mCons (mVar 3) (mCons (mVar 4) (mCons (mTup (mCons (mVar 3) (mNil))) (mNil))))) (mNil))) (mCons (mTup (mCons (mTup (mCons (mC (.str "zzz")) (mCons (mC (.int 1)) (mNil)))) (mNil))) (mNil))))))) (gSub' (mVar 5) (mC (.int 0)))) (sIf (mOr (mB (mOp (wIsNot) (mCall r_ring (mCons (mCall r_law_made (mCons (mVar 5) (mNil))) (mNil))) (mC .non))) (mB (mOp (wNe) (mCall r_serial_order (mCons (mCall r_law_made (mCons (mVar 5) (mNil))) (mNil))) (mTup (mCons (mC (.int 1)) (mCons (mC (.int 0)) (mNil))))))) (sRet (mC (.bl false))) (sNx)))))) (sSeq (sAsg (mCall r_law_history (mCons (mVar 1) (mCons (mC (.int 16)) (mCons (mSl true (mCall r_law_keys mNil) (mNoPart) (mPart (mOp (wAdd true) (mC (.int 2)) (mCall r_law_draw (mCons (mVar 1) (mCons (mC (.int 3)) (mNil))))))) (mCons (mC (.int 4)) (mNil)))))) (gName' 6)) (sRet (mOp (wEq) (mCall r_lost_updates (mCons (mCall r_law_made (mCons (mVar 6) (mNil))) (mNil))) (mCall r_law_lost (mCons (mVar 6) (mNil))))))))))
noncomputable def r_law : RunM := runOf 7 m_law
/-! what stands where -/
structure Tx (K : PySem.W.Frag) (mg : Str → Option Value) where
  C_NoOrder : Addr
  C_TooMany : Addr
  C_BadHistory : Addr
  C_Dealing : Addr
  C_BadDealing : Addr
  C_StoreError : Addr
  a_law_hand : Addr
  d_law_hand : FuncData
  F_law_hand : Fun K "_law_hand" "_law_hand" s_law_hand a_law_hand d_law_hand
  b_law_hand : Binds K d_law_hand ["script"] []
  g_law_hand : mg "_law_hand" = some (.ref a_law_hand)
  a_law_draw : Addr
  d_law_draw : FuncData
  F_law_draw : Fun K "_law_draw" "_law_draw" s_law_draw a_law_draw d_law_draw
  b_law_draw : Binds K d_law_draw ["hand", "many"] []
  g_law_draw : mg "_law_draw" = some (.ref a_law_draw)
  a_is_integer : Addr
  d_is_integer : FuncData
  F_is_integer : Fun K "is_integer" "is_integer" s_is_integer a_is_integer d_is_integer
  b_is_integer : Binds K d_is_integer ["thing"] []
  g_is_integer : mg "is_integer" = some (.ref a_is_integer)
  a_is_number : Addr
  d_is_number : FuncData
  F_is_number : Fun K "is_number" "is_number" s_is_number a_is_number d_is_number
  b_is_number : Binds K d_is_number ["thing"] []
  g_is_number : mg "is_number" = some (.ref a_is_number)
  a_is_number_for : Addr
  d_is_number_for : FuncData
  F_is_number_for : Fun K "is_number_for" "is_number_for" s_is_number_for a_is_number_for d_is_number_for
  b_is_number_for : Binds K d_is_number_for ["snapshot", "writes", "thing"] []
  g_is_number_for : mg "is_number_for" = some (.ref a_is_number_for)
  a_is_word : Addr
  d_is_word : FuncData
  F_is_word : Fun K "is_word" "is_word" s_is_word a_is_word d_is_word
  b_is_word : Binds K d_is_word ["thing"] []
  g_is_word : mg "is_word" = some (.ref a_is_word)
  a_is_key : Addr
  d_is_key : FuncData
  F_is_key : Fun K "is_key" "is_key" s_is_key a_is_key d_is_key
  b_is_key : Binds K d_is_key ["thing"] []
  g_is_key : mg "is_key" = some (.ref a_is_key)
  a_is_tuple_of_is_key : Addr
  d_is_tuple_of_is_key : FuncData
  F_is_tuple_of_is_key : Fun K "is_tuple_of" "is_tuple_of" s_is_tuple_of_is_key a_is_tuple_of_is_key d_is_tuple_of_is_key
  b_is_tuple_of_is_key : Binds K d_is_tuple_of_is_key ["judge", "thing"] []
  g_is_tuple_of_is_key : mg "is_tuple_of" = some (.ref a_is_tuple_of_is_key)
  a_is_ascending : Addr
  d_is_ascending : FuncData
  F_is_ascending : Fun K "is_ascending" "is_ascending" s_is_ascending a_is_ascending d_is_ascending
  b_is_ascending : Binds K d_is_ascending ["row"] []
  g_is_ascending : mg "is_ascending" = some (.ref a_is_ascending)
  a_is_keys : Addr
  d_is_keys : FuncData
  F_is_keys : Fun K "is_keys" "is_keys" s_is_keys a_is_keys d_is_keys
  b_is_keys : Binds K d_is_keys ["thing"] []
  g_is_keys : mg "is_keys" = some (.ref a_is_keys)
  a_is_tuple : Addr
  d_is_tuple : FuncData
  F_is_tuple : Fun K "is_tuple" "is_tuple" s_is_tuple a_is_tuple d_is_tuple
  b_is_tuple : Binds K d_is_tuple ["many", "thing"] []
  g_is_tuple : mg "is_tuple" = some (.ref a_is_tuple)
  a_is_range : Addr
  d_is_range : FuncData
  F_is_range : Fun K "is_range" "is_range" s_is_range a_is_range d_is_range
  b_is_range : Binds K d_is_range ["thing"] []
  g_is_range : mg "is_range" = some (.ref a_is_range)
  a_is_tuple_of_is_range : Addr
  d_is_tuple_of_is_range : FuncData
  F_is_tuple_of_is_range : Fun K "is_tuple_of" "is_tuple_of" s_is_tuple_of_is_range a_is_tuple_of_is_range d_is_tuple_of_is_range
  b_is_tuple_of_is_range : Binds K d_is_tuple_of_is_range ["judge", "thing"] []
  g_is_tuple_of_is_range : mg "is_tuple_of" = some (.ref a_is_tuple_of_is_range)
  a_is_ranges : Addr
  d_is_ranges : FuncData
  F_is_ranges : Fun K "is_ranges" "is_ranges" s_is_ranges a_is_ranges d_is_ranges
  b_is_ranges : Binds K d_is_ranges ["thing"] []
  g_is_ranges : mg "is_ranges" = some (.ref a_is_ranges)
  a_is_within : Addr
  d_is_within : FuncData
  F_is_within : Fun K "is_within" "is_within" s_is_within a_is_within d_is_within
  b_is_within : Binds K d_is_within ["low", "high", "thing"] []
  g_is_within : mg "is_within" = some (.ref a_is_within)
  a_is_worth : Addr
  d_is_worth : FuncData
  F_is_worth : Fun K "is_worth" "is_worth" s_is_worth a_is_worth d_is_worth
  b_is_worth : Binds K d_is_worth ["thing"] []
  g_is_worth : mg "is_worth" = some (.ref a_is_worth)
  a_is_mark : Addr
  d_is_mark : FuncData
  F_is_mark : Fun K "is_mark" "is_mark" s_is_mark a_is_mark d_is_mark
  b_is_mark : Binds K d_is_mark ["thing"] []
  g_is_mark : mg "is_mark" = some (.ref a_is_mark)
  a_is_write : Addr
  d_is_write : FuncData
  F_is_write : Fun K "is_write" "is_write" s_is_write a_is_write d_is_write
  b_is_write : Binds K d_is_write ["thing"] []
  g_is_write : mg "is_write" = some (.ref a_is_write)
  a_is_tuple_of_is_write : Addr
  d_is_tuple_of_is_write : FuncData
  F_is_tuple_of_is_write : Fun K "is_tuple_of" "is_tuple_of" s_is_tuple_of_is_write a_is_tuple_of_is_write d_is_tuple_of_is_write
  b_is_tuple_of_is_write : Binds K d_is_tuple_of_is_write ["judge", "thing"] []
  g_is_tuple_of_is_write : mg "is_tuple_of" = some (.ref a_is_tuple_of_is_write)
  a_is_writes : Addr
  d_is_writes : FuncData
  F_is_writes : Fun K "is_writes" "is_writes" s_is_writes a_is_writes d_is_writes
  b_is_writes : Binds K d_is_writes ["thing"] []
  g_is_writes : mg "is_writes" = some (.ref a_is_writes)
  a_Dealing_init : Addr
  d_Dealing_init : FuncData
  F_Dealing_init : Fun K "__init__" "Dealing.__init__" s_Dealing_init a_Dealing_init d_Dealing_init
  b_Dealing_init : Binds K d_Dealing_init ["self", "snapshot", "number", "gets", "ranges", "writes"] []
  a_law_made : Addr
  d_law_made : FuncData
  F_law_made : Fun K "_law_made" "_law_made" s_law_made a_law_made d_law_made
  b_law_made : Binds K d_law_made ["parts"] []
  g_law_made : mg "_law_made" = some (.ref a_law_made)
  a_demand_history : Addr
  d_demand_history : FuncData
  F_demand_history : Fun K "demand_history" "demand_history" s_demand_history a_demand_history d_demand_history
  b_demand_history : Binds K d_demand_history ["thing"] []
  g_demand_history : mg "demand_history" = some (.ref a_demand_history)
  a_writes_key : Addr
  d_writes_key : FuncData
  F_writes_key : Fun K "writes_key" "writes_key" s_writes_key a_writes_key d_writes_key
  b_writes_key : Binds K d_writes_key ["dealing", "key"] []
  g_writes_key : mg "writes_key" = some (.ref a_writes_key)
  a_saw_key : Addr
  d_saw_key : FuncData
  F_saw_key : Fun K "saw_key" "saw_key" s_saw_key a_saw_key d_saw_key
  b_saw_key : Binds K d_saw_key ["dealing", "key"] []
  g_saw_key : mg "saw_key" = some (.ref a_saw_key)
  a_is_tied : Addr
  d_is_tied : FuncData
  F_is_tied : Fun K "is_tied" "is_tied" s_is_tied a_is_tied d_is_tied
  b_is_tied : Binds K d_is_tied ["one", "other"] []
  g_is_tied : mg "is_tied" = some (.ref a_is_tied)
  a_ways_of : Addr
  d_ways_of : FuncData
  F_ways_of : Fun K "ways_of" "ways_of" s_ways_of a_ways_of d_ways_of
  b_ways_of : Binds K d_ways_of ["history"] []
  g_ways_of : mg "ways_of" = some (.ref a_ways_of)
  a_serial_order : Addr
  d_serial_order : FuncData
  F_serial_order : Fun K "serial_order" "serial_order" s_serial_order a_serial_order d_serial_order
  b_serial_order : Binds K d_serial_order ["history"] []
  g_serial_order : mg "serial_order" = some (.ref a_serial_order)
  a_ring_from : Addr
  d_ring_from : FuncData
  F_ring_from : Fun K "ring_from" "ring_from" s_ring_from a_ring_from d_ring_from
  b_ring_from : Binds K d_ring_from ["start", "ways"] []
  g_ring_from : mg "ring_from" = some (.ref a_ring_from)
  a_ring : Addr
  d_ring : FuncData
  F_ring : Fun K "ring" "ring" s_ring a_ring d_ring
  b_ring : Binds K d_ring ["history"] []
  g_ring : mg "ring" = some (.ref a_ring)
  a_is_lost : Addr
  d_is_lost : FuncData
  F_is_lost : Fun K "is_lost" "is_lost" s_is_lost a_is_lost d_is_lost
  b_is_lost : Binds K d_is_lost ["first", "second"] []
  g_is_lost : mg "is_lost" = some (.ref a_is_lost)
  a_lost_updates : Addr
  d_lost_updates : FuncData
  F_lost_updates : Fun K "lost_updates" "lost_updates" s_lost_updates a_lost_updates d_lost_updates
  b_lost_updates : Binds K d_lost_updates ["history"] []
  g_lost_updates : mg "lost_updates" = some (.ref a_lost_updates)
  a_is_row_of_indexes : Addr
  d_is_row_of_indexes : FuncData
  F_is_row_of_indexes : Fun K "is_row_of_indexes" "is_row_of_indexes" s_is_row_of_indexes a_is_row_of_indexes d_is_row_of_indexes
  b_is_row_of_indexes : Binds K d_is_row_of_indexes ["history", "thing"] []
  g_is_row_of_indexes : mg "is_row_of_indexes" = some (.ref a_is_row_of_indexes)
  a_is_order : Addr
  d_is_order : FuncData
  F_is_order : Fun K "is_order" "is_order" s_is_order a_is_order d_is_order
  b_is_order : Binds K d_is_order ["history", "thing"] []
  g_is_order : mg "is_order" = some (.ref a_is_order)
  a_demand_order : Addr
  d_demand_order : FuncData
  F_demand_order : Fun K "demand_order" "demand_order" s_demand_order a_demand_order d_demand_order
  b_demand_order : Binds K d_demand_order ["history", "order"] []
  g_demand_order : mg "demand_order" = some (.ref a_demand_order)
  a_numbers_of : Addr
  d_numbers_of : FuncData
  F_numbers_of : Fun K "numbers_of" "numbers_of" s_numbers_of a_numbers_of d_numbers_of
  b_numbers_of : Binds K d_numbers_of ["history"] []
  g_numbers_of : mg "numbers_of" = some (.ref a_numbers_of)
  a_number_at : Addr
  d_number_at : FuncData
  F_number_at : Fun K "number_at" "number_at" s_number_at a_number_at d_number_at
  b_number_at : Binds K d_number_at ["numbers", "snapshot"] []
  g_number_at : mg "number_at" = some (.ref a_number_at)
  a_failing_key : Addr
  d_failing_key : FuncData
  F_failing_key : Fun K "failing_key" "failing_key" s_failing_key a_failing_key d_failing_key
  b_failing_key : Binds K d_failing_key ["dealing", "numbers", "standing"] []
  g_failing_key : mg "failing_key" = some (.ref a_failing_key)
  a_failure_in : Addr
  d_failure_in : FuncData
  F_failure_in : Fun K "failure_in" "failure_in" s_failure_in a_failure_in d_failure_in
  b_failure_in : Binds K d_failure_in ["history", "order"] []
  g_failure_in : mg "failure_in" = some (.ref a_failure_in)
  a_first_failure : Addr
  d_first_failure : FuncData
  F_first_failure : Fun K "first_failure" "first_failure" s_first_failure a_first_failure d_first_failure
  b_first_failure : Binds K d_first_failure ["history", "order"] []
  g_first_failure : mg "first_failure" = some (.ref a_first_failure)
  a_ties : Addr
  d_ties : FuncData
  F_ties : Fun K "ties" "ties" s_ties a_ties d_ties
  b_ties : Binds K d_ties ["history"] []
  g_ties : mg "ties" = some (.ref a_ties)
  a_many_orders : Addr
  d_many_orders : FuncData
  F_many_orders : Fun K "many_orders" "many_orders" s_many_orders a_many_orders d_many_orders
  b_many_orders : Binds K d_many_orders ["history"] []
  g_many_orders : mg "many_orders" = some (.ref a_many_orders)
  a_law_known_right : Addr
  d_law_known_right : FuncData
  F_law_known_right : Fun K "_law_known_right" "_law_known_right" s_law_known_right a_law_known_right d_law_known_right
  b_law_known_right : Binds K d_law_known_right ["x", "y"] []
  g_law_known_right : mg "_law_known_right" = some (.ref a_law_known_right)
  a_law_some : Addr
  d_law_some : FuncData
  F_law_some : Fun K "_law_some" "_law_some" s_law_some a_law_some d_law_some
  b_law_some : Binds K d_law_some ["hand", "things", "most"] []
  g_law_some : mg "_law_some" = some (.ref a_law_some)
  a_law_range : Addr
  d_law_range : FuncData
  F_law_range : Fun K "_law_range" "_law_range" s_law_range a_law_range d_law_range
  b_law_range : Binds K d_law_range ["hand", "keys"] []
  g_law_range : mg "_law_range" = some (.ref a_law_range)
  a_law_seen : Addr
  d_law_seen : FuncData
  F_law_seen : Fun K "_law_seen" "_law_seen" s_law_seen a_law_seen d_law_seen
  b_law_seen : Binds K d_law_seen ["hand", "keys"] []
  g_law_seen : mg "_law_seen" = some (.ref a_law_seen)
  a_law_writes : Addr
  d_law_writes : FuncData
  F_law_writes : Fun K "_law_writes" "_law_writes" s_law_writes a_law_writes d_law_writes
  b_law_writes : Binds K d_law_writes ["hand", "keys", "most"] []
  g_law_writes : mg "_law_writes" = some (.ref a_law_writes)
  a_law_history : Addr
  d_law_history : FuncData
  F_law_history : Fun K "_law_history" "_law_history" s_law_history a_law_history d_law_history
  b_law_history : Binds K d_law_history ["hand", "most", "keys", "lag"] []
  g_law_history : mg "_law_history" = some (.ref a_law_history)
  a_law_keys : Addr
  d_law_keys : FuncData
  F_law_keys : Fun K "_law_keys" "_law_keys" s_law_keys a_law_keys d_law_keys
  b_law_keys : Binds K d_law_keys [] []
  g_law_keys : mg "_law_keys" = some (.ref a_law_keys)
  a_law_wrote : Addr
  d_law_wrote : FuncData
  F_law_wrote : Fun K "_law_wrote" "_law_wrote" s_law_wrote a_law_wrote d_law_wrote
  b_law_wrote : Binds K d_law_wrote ["part"] []
  g_law_wrote : mg "_law_wrote" = some (.ref a_law_wrote)
  a_law_lost : Addr
  d_law_lost : FuncData
  F_law_lost : Fun K "_law_lost" "_law_lost" s_law_lost a_law_lost d_law_lost
  b_law_lost : Binds K d_law_lost ["parts"] []
  g_law_lost : mg "_law_lost" = some (.ref a_law_lost)
  a_law : Addr
  d_law : FuncData
  F_law : Fun K "law" "law" s_law a_law d_law
  b_law : Binds K d_law ["script"] []
  g_law : mg "law" = some (.ref a_law)
  bl : ∀ (s : Shared) (u : Value), BindsTo s d_law ⟨[u], []⟩ [("script", u)]
  e_NoOrder : ExcF K mg C_NoOrder "NoOrder"
  gX_TooMany : mg "TooMany" = some (.ref C_TooMany)
  aI_TooMany : Addr
  dI_TooMany : FuncData
  FI_TooMany : Fun K "__init__" "TooMany.__init__" s_TooMany_init aI_TooMany dI_TooMany
  bI_TooMany : Binds K dI_TooMany ["self", "most"] []
  xi_TooMany : PySem.W.findIn K (.ref C_TooMany) "__init__" = some (some (.ref aI_TooMany))
  xt_TooMany : PySem.W.typeIn K (.ref aI_TooMany) = some (.type "function")
  xo_TooMany : OexC K C_TooMany
  xf_TooMany : XfC K C_TooMany
  xn_TooMany : PySem.W.findIn K (.ref C_TooMany) "most" = some none
  cl_Dealing : Cls K C_Dealing
  io_Dealing : IsiOwn K C_Dealing
  ki_Dealing_int : PySem.W.kitOne K (.ref C_Dealing) (.type "int") = some false
  ki_Dealing_bool : PySem.W.kitOne K (.ref C_Dealing) (.type "bool") = some false
  ki_Dealing_str : PySem.W.kitOne K (.ref C_Dealing) (.type "str") = some false
  ki_Dealing_tuple : PySem.W.kitOne K (.ref C_Dealing) (.type "tuple") = some false
  e_StoreError : ExcF K mg C_StoreError "StoreError"
  M_Dealing : Mk K C_Dealing a_Dealing_init
  gC_Dealing : mg "Dealing" = some (.ref C_Dealing)
  nf_gets_Dealing : NoAttr K C_Dealing "gets"
  nf_number_Dealing : NoAttr K C_Dealing "number"
  nf_ranges_Dealing : NoAttr K C_Dealing "ranges"
  nf_snapshot_Dealing : NoAttr K C_Dealing "snapshot"
  nf_writes_Dealing : NoAttr K C_Dealing "writes"
  t_GREATEST : Tok
  c_GREATEST : mg "GREATEST" = some (.int 1000000000000000000 t_GREATEST)
  t_LONGEST_WORD : Tok
  c_LONGEST_WORD : mg "LONGEST_WORD" = some (.int 12 t_LONGEST_WORD)
  t_MOST_COUNTED : Tok
  c_MOST_COUNTED : mg "MOST_COUNTED" = some (.int 14 t_MOST_COUNTED)
  t_MOST_DEALINGS : Tok
  c_MOST_DEALINGS : mg "MOST_DEALINGS" = some (.int 300 t_MOST_DEALINGS)
  z_abs : mg "abs" = none
  z_all : mg "all" = none
  z_any : mg "any" = none
  z_bool : mg "bool" = none
  z_enumerate : mg "enumerate" = none
  z_int : mg "int" = none
  z_isinstance : mg "isinstance" = none
  z_len : mg "len" = none
  z_max : mg "max" = none
  z_range : mg "range" = none
  z_set : mg "set" = none
  z_sorted : mg "sorted" = none
  z_str : mg "str" = none
  z_tuple : mg "tuple" = none
section
variable {P : Program} {w : World} {K : PySem.W.Frag} {mg : Str → Option Value} {base : Heap}
def Tx.T (x : Tx K mg) : Nat → Addr := fun c => if c = 0 then x.C_NoOrder else if c = 1 then x.C_TooMany else if c = 2 then x.C_BadHistory else if c = 3 then x.C_Dealing else if c = 4 then x.C_BadDealing else if c = 5 then x.C_StoreError else 0
theorem Tx.own_ok (x : Tx K mg) : ∀ c n b, x_own c n = some b → IsiOwn K (x.T c) ∧ PySem.W.kitOne K (.ref (x.T c)) (.type n) = some b := fun c n b h => by
  unfold x_own at h; split at h
  · rename_i q; cases h; obtain ⟨q1, q2⟩ := q
    subst q1
    rcases q2 with rfl | rfl | rfl | rfl
    · exact ⟨x.io_Dealing, x.ki_Dealing_int⟩
    · exact ⟨x.io_Dealing, x.ki_Dealing_bool⟩
    · exact ⟨x.io_Dealing, x.ki_Dealing_str⟩
    · exact ⟨x.io_Dealing, x.ki_Dealing_tuple⟩
  · cases h
theorem Tx.f_gets (x : Tx K mg) : ∀ c ∈ ([3] : List Nat), Cls K (x.T c) ∧ NoAttr K (x.T c) "gets" := fun c hc => by
  simp only [List.mem_cons, List.not_mem_nil, or_false] at hc
  rcases hc with rfl
  exact ⟨x.cl_Dealing, x.nf_gets_Dealing⟩
theorem Tx.f_number (x : Tx K mg) : ∀ c ∈ ([3] : List Nat), Cls K (x.T c) ∧ NoAttr K (x.T c) "number" := fun c hc => by
  simp only [List.mem_cons, List.not_mem_nil, or_false] at hc
  rcases hc with rfl
  exact ⟨x.cl_Dealing, x.nf_number_Dealing⟩
theorem Tx.f_ranges (x : Tx K mg) : ∀ c ∈ ([3] : List Nat), Cls K (x.T c) ∧ NoAttr K (x.T c) "ranges" := fun c hc => by
  simp only [List.mem_cons, List.not_mem_nil, or_false] at hc
  rcases hc with rfl
  exact ⟨x.cl_Dealing, x.nf_ranges_Dealing⟩
theorem Tx.f_snapshot (x : Tx K mg) : ∀ c ∈ ([3] : List Nat), Cls K (x.T c) ∧ NoAttr K (x.T c) "snapshot" := fun c hc => by
  simp only [List.mem_cons, List.not_mem_nil, or_false] at hc
  rcases hc with rfl
  exact ⟨x.cl_Dealing, x.nf_snapshot_Dealing⟩
theorem Tx.f_writes (x : Tx K mg) : ∀ c ∈ ([3] : List Nat), Cls K (x.T c) ∧ NoAttr K (x.T c) "writes" := fun c hc => by
  simp only [List.mem_cons, List.not_mem_nil, or_false] at hc
  rcases hc with rfl
  exact ⟨x.cl_Dealing, x.nf_writes_Dealing⟩
theorem fnI_TooMany (x : Tx K mg) : FnOk P w K mg base L2.CX0 1 x.aI_TooMany x.dI_TooMany ["self", "most"] (spXi K "most") := xinit_ok x.FI_TooMany sc_TooMany_init rfl (by first | exact Or.inl rfl | exact Or.inr (Or.inl rfl) | exact Or.inr (Or.inr rfl)) (by first | exact Or.inl rfl | exact Or.inr (Or.inl rfl) | exact Or.inr (Or.inr rfl)) (by decide) (by decide)
theorem fn_law_hand (x : Tx K mg) : FnM P w K mg base x.T 1 x.a_law_hand x.d_law_hand ["script"] r_law_hand := fn_ok x.F_law_hand sc_law_hand fun cdv A outer s H E hr => sss_cons (ss_comp (fz := true) (i := 1) (own := [("cell", 2)]) (t := (.one 2)) rfl sc_law_hand.nd (by rfl) (by rfl) (sw_true rfl rfl rfl (by decide +kernel)) (si_any (se_sl (fz := true) (se_var (by rfl) (by first | exact Or.inl rfl | exact Or.inr (Or.inl rfl) | exact Or.inr (Or.inr rfl))) (sp_none) (sp_some (se_int)))) (blkOk_by (own := [("cell", 2)]) (N := N_law_hand) (sc := (defScope s_law_hand)) (by decide +kernel)) (by decide) (fun _ _ _ _ _ => pg_name (i := 2) sc_law_hand.nd (by rfl) (by first | exact Or.inl rfl | exact Or.inr rfl)) (.inl ⟨rfl, rfl⟩) (fun _ _ _ _ _ => se_blt call_abs okc_abs (by rfl) x.z_abs (by decide +kernel) (SAn.run (san_cons (se_bty call_int1 okc_int (by rfl) x.z_int (by decide +kernel) (SAn.run (san_cons (se_var (by rfl) (by first | exact Or.inl rfl | exact Or.inr (Or.inl rfl) | exact Or.inr (Or.inr rfl))) (san_nil)))) (san_nil))))) (sss_one (ss_ret (se_lstA (fz := false) (n := 5) (san_cons (se_var (by rfl) (by first | exact Or.inl rfl | exact Or.inr (Or.inl rfl) | exact Or.inr (Or.inr rfl))) (san_cons (se_int) (san_cons (se_int) (san_cons (se_op (opr_or op_add (opr_or op_add_str (opr_or op_catA op_cat))) (ok_add (fz := true)) (se_int) (se_blt (CallR.or call_len call_lenD) okc_len (by rfl) x.z_len (by decide +kernel) (SAn.run (san_cons (se_var (by rfl) (by first | exact Or.inl rfl | exact Or.inr (Or.inl rfl) | exact Or.inr (Or.inr rfl))) (san_nil))))) (san_cons (se_int) (san_nil)))))))))
theorem fn_law_draw (x : Tx K mg) : FnM P w K mg base x.T 1 x.a_law_draw x.d_law_draw ["hand", "many"] r_law_draw := fn_ok x.F_law_draw sc_law_draw fun cdv A outer s H E hr => sss_cons (ss_if (st_w (sw_and (st_cmp (opr_or op_eq (op_eqD hr.units)) ok_eq (se_ix (by first | exact hu_of hr | (have zz := hu_of hr; exact zz)) (se_var (by rfl) (by first | exact Or.inl rfl | exact Or.inr (Or.inl rfl) | exact Or.inr (Or.inr rfl))) (se_int)) (se_int) (by rfl)) (sw_and1 (st_cmp (opr_or op_lt op_lt_str) ok_cmpS (se_ix (by first | exact hu_of hr | (have zz := hu_of hr; exact zz)) (se_var (by rfl) (by first | exact Or.inl rfl | exact Or.inr (Or.inl rfl) | exact Or.inr (Or.inr rfl))) (se_int)) (se_blt (CallR.or call_len call_lenD) okc_len (by rfl) x.z_len (by decide +kernel) (SAn.run (san_cons (se_ix (by first | exact hu_of hr | (have zz := hu_of hr; exact zz)) (se_var (by rfl) (by first | exact Or.inl rfl | exact Or.inr (Or.inl rfl) | exact Or.inr (Or.inr rfl))) (se_int)) (san_nil)))) (by rfl))))) (sss_cons (ss_set (i := 2) sc_law_draw.nd (by rfl) (by first | exact Or.inl rfl | exact Or.inr rfl) (se_ix (by first | exact hu_of hr | (have zz := hu_of hr; exact zz)) (se_ix (by first | exact hu_of hr | (have zz := hu_of hr; exact zz)) (se_var (by rfl) (by first | exact Or.inl rfl | exact Or.inr (Or.inl rfl) | exact Or.inr (Or.inr rfl))) (se_int)) (se_ix (by first | exact hu_of hr | (have zz := hu_of hr; exact zz)) (se_var (by rfl) (by first | exact Or.inl rfl | exact Or.inr (Or.inl rfl) | exact Or.inr (Or.inr rfl))) (se_int)))) (sss_cons (ss_asg (se_op (opr_or op_add (opr_or op_add_str (opr_or op_catA op_cat))) (ok_add (fz := true)) (se_ix (by first | exact hu_of hr | (have zz := hu_of hr; exact zz)) (se_var (by rfl) (by first | exact Or.inl rfl | exact Or.inr (Or.inl rfl) | exact Or.inr (Or.inr rfl))) (se_int)) (se_int)) (sg_sub (by first | exact hu_of hr | (have zz := hu_of hr; exact zz)) (se_var (by rfl) (by first | exact Or.inl rfl | exact Or.inr (Or.inl rfl) | exact Or.inr (Or.inr rfl))) (se_int))) (sss_cons (ss_asg (se_op op_modN ok_mod (se_bty call_int1 okc_int (by rfl) x.z_int (by decide +kernel) (SAn.run (san_cons (se_op (opr_or op_add (opr_or op_add_str (opr_or op_catA op_cat))) (ok_add (fz := true)) (se_op (opr_or op_add (opr_or op_add_str (opr_or op_catA op_cat))) (ok_add (fz := true)) (se_op (opr_or op_mul op_rep) (ok_mul (fz := true)) (se_ix (by first | exact hu_of hr | (have zz := hu_of hr; exact zz)) (se_var (by rfl) (by first | exact Or.inl rfl | exact Or.inr (Or.inl rfl) | exact Or.inr (Or.inr rfl))) (se_int)) (se_int)) (se_var (by rfl) (by first | exact Or.inl rfl | exact Or.inr (Or.inl rfl) | exact Or.inr (Or.inr rfl)))) (se_int)) (san_nil)))) (se_int)) (sg_sub (by first | exact hu_of hr | (have zz := hu_of hr; exact zz)) (se_var (by rfl) (by first | exact Or.inl rfl | exact Or.inr (Or.inl rfl) | exact Or.inr (Or.inr rfl))) (se_int))) (sss_one (ss_if (st_cmp (opr_or op_ge op_ge_str) ok_cmpS (se_var (by rfl) (by first | exact Or.inl rfl | exact Or.inr (Or.inl rfl) | exact Or.inr (Or.inr rfl))) (se_op op_pow ok_pow (se_int) (se_int)) (by rfl)) (sss_one (ss_asg (se_var (by rfl) (by first | exact Or.inl rfl | exact Or.inr (Or.inl rfl) | exact Or.inr (Or.inr rfl))) (sg_sub (by first | exact hu_of hr | (have zz := hu_of hr; exact zz)) (se_var (by rfl) (by first | exact Or.inl rfl | exact Or.inr (Or.inl rfl) | exact Or.inr (Or.inr rfl))) (se_int)))) (sss_nil)))))) (sss_nil)) (sss_cons (ss_if (st_cmp (opr_or op_gt op_gt_str) ok_cmpS (se_ix (by first | exact hu_of hr | (have zz := hu_of hr; exact zz)) (se_var (by rfl) (by first | exact Or.inl rfl | exact Or.inr (Or.inl rfl) | exact Or.inr (Or.inr rfl))) (se_int)) (se_int) (by rfl)) (sss_cons (ss_set (i := 3) sc_law_draw.nd (by rfl) (by first | exact Or.inl rfl | exact Or.inr rfl) (se_op op_modN ok_mod (se_bty call_int1 okc_int (by rfl) x.z_int (by decide +kernel) (SAn.run (san_cons (se_ix (by first | exact hu_of hr | (have zz := hu_of hr; exact zz)) (se_var (by rfl) (by first | exact Or.inl rfl | exact Or.inr (Or.inl rfl) | exact Or.inr (Or.inr rfl))) (se_int)) (san_nil)))) (se_var (by rfl) (by first | exact Or.inl rfl | exact Or.inr (Or.inl rfl) | exact Or.inr (Or.inr rfl))))) (sss_cons (ss_asg (se_op op_fdivN ok_div (se_ix (by first | exact hu_of hr | (have zz := hu_of hr; exact zz)) (se_var (by rfl) (by first | exact Or.inl rfl | exact Or.inr (Or.inl rfl) | exact Or.inr (Or.inr rfl))) (se_int)) (se_var (by rfl) (by first | exact Or.inl rfl | exact Or.inr (Or.inl rfl) | exact Or.inr (Or.inr rfl)))) (sg_sub (by first | exact hu_of hr | (have zz := hu_of hr; exact zz)) (se_var (by rfl) (by first | exact Or.inl rfl | exact Or.inr (Or.inl rfl) | exact Or.inr (Or.inr rfl))) (se_int))) (sss_one (ss_ret (se_var (by rfl) (by first | exact Or.inl rfl | exact Or.inr (Or.inl rfl) | exact Or.inr (Or.inr rfl))))))) (sss_nil)) (sss_cons (ss_asg (se_op (opr_or op_add (opr_or op_add_str (opr_or op_catA op_cat))) (ok_add (fz := true)) (se_ix (by first | exact hu_of hr | (have zz := hu_of hr; exact zz)) (se_var (by rfl) (by first | exact Or.inl rfl | exact Or.inr (Or.inl rfl) | exact Or.inr (Or.inr rfl))) (se_int)) (se_int)) (sg_sub (by first | exact hu_of hr | (have zz := hu_of hr; exact zz)) (se_var (by rfl) (by first | exact Or.inl rfl | exact Or.inr (Or.inl rfl) | exact Or.inr (Or.inr rfl))) (se_int))) (sss_cons (ss_set (i := 4) sc_law_draw.nd (by rfl) (by first | exact Or.inl rfl | exact Or.inr rfl) (se_op op_modN ok_mod (se_bty call_int1 okc_int (by rfl) x.z_int (by decide +kernel) (SAn.run (san_cons (se_op (opr_or op_mul op_rep) (ok_mul (fz := true)) (se_bty call_int1 okc_int (by rfl) x.z_int (by decide +kernel) (SAn.run (san_cons (se_op (opr_or op_add (opr_or op_add_str (opr_or op_catA op_cat))) (ok_add (fz := true)) (se_ix (by first | exact hu_of hr | (have zz := hu_of hr; exact zz)) (se_var (by rfl) (by first | exact Or.inl rfl | exact Or.inr (Or.inl rfl) | exact Or.inr (Or.inr rfl))) (se_int)) (se_op (opr_or op_mul op_rep) (ok_mul (fz := true)) (se_int) (se_ix (by first | exact hu_of hr | (have zz := hu_of hr; exact zz)) (se_var (by rfl) (by first | exact Or.inl rfl | exact Or.inr (Or.inl rfl) | exact Or.inr (Or.inr rfl))) (se_int)))) (san_nil)))) (se_int)) (san_nil)))) (se_int))) (sss_cons (ss_set (i := 4) sc_law_draw.nd (by rfl) (by first | exact Or.inl rfl | exact Or.inr rfl) (se_op op_modN ok_mod (se_bty call_int1 okc_int (by rfl) x.z_int (by decide +kernel) (SAn.run (san_cons (se_op (opr_or op_mul op_rep) (ok_mul (fz := true)) (se_var (by rfl) (by first | exact Or.inl rfl | exact Or.inr (Or.inl rfl) | exact Or.inr (Or.inr rfl))) (se_op (opr_or op_add (opr_or op_add_str (opr_or op_catA op_cat))) (ok_add (fz := true)) (se_op op_fdivN ok_div (se_var (by rfl) (by first | exact Or.inl rfl | exact Or.inr (Or.inl rfl) | exact Or.inr (Or.inr rfl))) (se_int)) (se_int))) (san_nil)))) (se_int))) (sss_cons (ss_set (i := 4) sc_law_draw.nd (by rfl) (by first | exact Or.inl rfl | exact Or.inr rfl) (se_op op_modN ok_mod (se_bty call_int1 okc_int (by rfl) x.z_int (by decide +kernel) (SAn.run (san_cons (se_op (opr_or op_mul op_rep) (ok_mul (fz := true)) (se_var (by rfl) (by first | exact Or.inl rfl | exact Or.inr (Or.inl rfl) | exact Or.inr (Or.inr rfl))) (se_op (opr_or op_add (opr_or op_add_str (opr_or op_catA op_cat))) (ok_add (fz := true)) (se_op op_fdivN ok_div (se_var (by rfl) (by first | exact Or.inl rfl | exact Or.inr (Or.inl rfl) | exact Or.inr (Or.inr rfl))) (se_int)) (se_int))) (san_nil)))) (se_int))) (sss_one (ss_ret (se_op op_modN ok_mod (se_bty call_int1 okc_int (by rfl) x.z_int (by decide +kernel) (SAn.run (san_cons (se_op op_fdivN ok_div (se_var (by rfl) (by first | exact Or.inl rfl | exact Or.inr (Or.inl rfl) | exact Or.inr (Or.inr rfl))) (se_int)) (san_nil)))) (se_var (by rfl) (by first | exact Or.inl rfl | exact Or.inr (Or.inl rfl) | exact Or.inr (Or.inr rfl)))))))))))
theorem fn_is_integer (x : Tx K mg) : FnM P w K mg base x.T 1 x.a_is_integer x.d_is_integer ["thing"] r_is_integer := fn_ok x.F_is_integer sc_is_integer fun cdv A outer s H E hr => sss_one (ss_ret (se_and (se_bB (se_blt call_isi (okc_isi x.own_ok) (by rfl) x.z_isinstance (by decide +kernel) (SAn.run (san_cons (se_var (by rfl) (by first | exact Or.inl rfl | exact Or.inr (Or.inl rfl) | exact Or.inr (Or.inr rfl))) (san_cons (se_c (pe_bltn (v := .ty "int") (by rfl) x.z_int (by decide +kernel) rfl) (fun _ _ _ => by simp only [VR])) (san_nil)))))) (se_and1 (se_not (se_bB (se_blt call_isi (okc_isi x.own_ok) (by rfl) x.z_isinstance (by decide +kernel) (SAn.run (san_cons (se_var (by rfl) (by first | exact Or.inl rfl | exact Or.inr (Or.inl rfl) | exact Or.inr (Or.inr rfl))) (san_cons (se_c (pe_bltn (v := .ty "bool") (by rfl) x.z_bool (by decide +kernel) rfl) (fun _ _ _ => by simp only [VR])) (san_nil))))))))))
theorem fn_is_number (x : Tx K mg) : FnM P w K mg base x.T 2 x.a_is_number x.d_is_number ["thing"] r_is_number := fn_ok x.F_is_number sc_is_number fun cdv A outer s H E hr => sss_one (ss_ret (se_and (se_bB (se_call ((fn_is_integer x).mono (by decide)) hr (takes_of rfl rfl rfl rfl) (by rfl) x.g_is_integer x.F_is_integer.kp x.b_is_integer (san_cons (se_var (by rfl) (by first | exact Or.inl rfl | exact Or.inr (Or.inl rfl) | exact Or.inr (Or.inr rfl))) (san_nil)))) (se_and1 (se_bB (se_cmp (opr_or op_ge op_ge_str) ok_cmpS (se_var (by rfl) (by first | exact Or.inl rfl | exact Or.inr (Or.inl rfl) | exact Or.inr (Or.inr rfl))) (se_int) (by rfl))))))
theorem fn_is_number_for (x : Tx K mg) : FnM P w K mg base x.T 2 x.a_is_number_for x.d_is_number_for ["snapshot", "writes", "thing"] r_is_number_for := fn_ok x.F_is_number_for sc_is_number_for fun cdv A outer s H E hr => sss_cons (ss_if (st_cmp (opr_or op_isN op_isF) ok_is (se_var (by rfl) (by first | exact Or.inl rfl | exact Or.inr (Or.inl rfl) | exact Or.inr (Or.inr rfl))) (se_non) (by rfl)) (sss_one (ss_ret (se_or (se_not (se_bB (se_blt call_isi (okc_isi x.own_ok) (by rfl) x.z_isinstance (by decide +kernel) (SAn.run (san_cons (se_var (by rfl) (by first | exact Or.inl rfl | exact Or.inr (Or.inl rfl) | exact Or.inr (Or.inr rfl))) (san_cons (se_c (pe_bltn (v := .ty "tuple") (by rfl) x.z_tuple (by decide +kernel) rfl) (fun _ _ _ => by simp only [VR])) (san_nil))))))) (se_and1 (se_bB (se_cmp (opr_or op_eq (op_eqD hr.units)) ok_eq (se_var (by rfl) (by first | exact Or.inl rfl | exact Or.inr (Or.inl rfl) | exact Or.inr (Or.inr rfl))) (se_tupA (n := 0) (san_nil)) (by rfl))))))) (sss_nil)) (sss_one (ss_ret (se_and (se_bB (se_call ((fn_is_integer x).mono (by decide)) hr (takes_of rfl rfl rfl rfl) (by rfl) x.g_is_integer x.F_is_integer.kp x.b_is_integer (san_cons (se_var (by rfl) (by first | exact Or.inl rfl | exact Or.inr (Or.inl rfl) | exact Or.inr (Or.inr rfl))) (san_nil)))) (se_and (se_bB (se_cmp (opr_or op_gt op_gt_str) ok_cmpS (se_var (by rfl) (by first | exact Or.inl rfl | exact Or.inr (Or.inl rfl) | exact Or.inr (Or.inr rfl))) (se_var (by rfl) (by first | exact Or.inl rfl | exact Or.inr (Or.inl rfl) | exact Or.inr (Or.inr rfl))) (by rfl))) (se_and1 (se_bB (se_cmp (opr_or op_ne (op_neD hr.units)) ok_ne (se_var (by rfl) (by first | exact Or.inl rfl | exact Or.inr (Or.inl rfl) | exact Or.inr (Or.inr rfl))) (se_tupA (n := 0) (san_nil)) (by rfl))))))))
theorem fn_is_word (x : Tx K mg) : FnM P w K mg base x.T 1 x.a_is_word x.d_is_word ["thing"] r_is_word := fn_ok x.F_is_word sc_is_word fun cdv A outer s H E hr => sss_cons (ss_if (st_w (sw_or (st_not (st_tr (se_blt call_isi (okc_isi x.own_ok) (by rfl) x.z_isinstance (by decide +kernel) (SAn.run (san_cons (se_var (by rfl) (by first | exact Or.inl rfl | exact Or.inr (Or.inl rfl) | exact Or.inr (Or.inr rfl))) (san_cons (se_c (pe_bltn (v := .ty "str") (by rfl) x.z_str (by decide +kernel) rfl) (fun _ _ _ => by simp only [VR])) (san_nil))))))) (sw_or1 (st_cmp (opr_or op_gt op_gt_str) ok_cmpS (se_blt (CallR.or call_len call_lenD) okc_len (by rfl) x.z_len (by decide +kernel) (SAn.run (san_cons (se_var (by rfl) (by first | exact Or.inl rfl | exact Or.inr (Or.inl rfl) | exact Or.inr (Or.inr rfl))) (san_nil)))) (se_globI (by rfl) x.c_LONGEST_WORD ⟨_, rfl⟩) (by rfl))))) (sss_one (ss_ret (se_bl))) (sss_nil)) (sss_one (ss_ret (se_blt (cr_all rfl) okc_all (by rfl) x.z_all (by decide +kernel) (SAn.run (san_cons (se_comp (fz := true) (own := [("sign", 1)]) (t := (.one 1)) rfl sc_is_word.nd (si_str (se_var (by rfl) (by first | exact Or.inl rfl | exact Or.inr (Or.inl rfl) | exact Or.inr (Or.inr rfl)))) (blkOk_by (own := [("sign", 1)]) (N := N_is_word) (sc := (defScope s_is_word)) (by decide +kernel)) (by decide) (fun _ _ _ _ _ => pg_name (i := 1) sc_is_word.nd (by rfl) (by first | exact Or.inl rfl | exact Or.inr rfl)) (.inl ⟨rfl, rfl⟩) (fun _ _ _ _ _ => se_chain (opr_or op_le op_le_str) ok_cmpS (opr_or op_le op_le_str) ok_cmpS (se_str) (se_var (by rfl) (by first | exact Or.inl rfl | exact Or.inr (Or.inl rfl) | exact Or.inr (Or.inr rfl))) (se_str))) (san_nil))))))
theorem fn_is_key (x : Tx K mg) : FnM P w K mg base x.T 2 x.a_is_key x.d_is_key ["thing"] r_is_key := fn_ok x.F_is_key sc_is_key fun cdv A outer s H E hr => sss_one (ss_ret (se_and (se_bB (se_call ((fn_is_word x).mono (by decide)) hr (takes_of rfl rfl rfl rfl) (by rfl) x.g_is_word x.F_is_word.kp x.b_is_word (san_cons (se_var (by rfl) (by first | exact Or.inl rfl | exact Or.inr (Or.inl rfl) | exact Or.inr (Or.inr rfl))) (san_nil)))) (se_and1 (se_bB (se_cmp (opr_or op_ne (op_neD hr.units)) ok_ne (se_var (by rfl) (by first | exact Or.inl rfl | exact Or.inr (Or.inl rfl) | exact Or.inr (Or.inr rfl))) (se_str) (by rfl))))))
theorem par_is_tuple_of_is_key (g : Addr) (w : W) (st : Sto) : runOf 3 (m_is_tuple_of_is_key g) [.at_ g, w] st = r_is_tuple_of_is_key [w] st := by
  have h := fun s n i acc st => compS_V (s := s) (r := r_is_key) (w := w) (g := g) n i acc st
  simp [r_is_tuple_of_is_key, runOf, m_is_tuple_of_is_key, sRet, mBl, mAnd, mB, mFn, mCons, mNil, mC, mComp, wipeW, iT, iL, iA, mVar, h]
  exact outOf_to
theorem fn_is_tuple_of_is_key (x : Tx K mg) : FnM P w K mg base x.T 3 x.a_is_tuple_of_is_key x.d_is_tuple_of_is_key ["judge", "thing"] (runOf 3 (m_is_tuple_of_is_key x.a_is_key)) := fn_ok x.F_is_tuple_of_is_key sc_is_tuple_of_is_key fun cdv A outer s H E hr => sss_one (ss_ret (se_and (se_bB (se_blt call_isi (okc_isi x.own_ok) (by rfl) x.z_isinstance (by decide +kernel) (SAn.run (san_cons (se_var (by rfl) (by first | exact Or.inl rfl | exact Or.inr (Or.inl rfl) | exact Or.inr (Or.inr rfl))) (san_cons (se_c (pe_bltn (v := .ty "tuple") (by rfl) x.z_tuple (by decide +kernel) rfl) (fun _ _ _ => by simp only [VR])) (san_nil)))))) (se_and1 (se_bB (se_blt (cr_all rfl) okc_all (by rfl) x.z_all (by decide +kernel) (SAn.run (san_cons (se_comp (fz := true) (own := [("item", 2)]) (t := (.one 2)) rfl sc_is_tuple_of_is_key.nd (si_any (se_var (by rfl) (by first | exact Or.inl rfl | exact Or.inr (Or.inl rfl) | exact Or.inr (Or.inr rfl)))) (blkOk_by (own := [("item", 2)]) (N := N_is_tuple_of_is_key) (sc := (defScope s_is_tuple_of_is_key)) (by decide +kernel)) (by decide) (fun _ _ _ _ _ => pg_name (i := 2) sc_is_tuple_of_is_key.nd (by rfl) (by first | exact Or.inl rfl | exact Or.inr rfl)) (.inl ⟨rfl, rfl⟩) (fun _ _ _ _ _ => se_callV ((fn_is_key x).mono (by decide)) hr takes0 (by rfl) (by first | exact Or.inl rfl | exact Or.inr (Or.inl rfl) | exact Or.inr (Or.inr rfl)) x.F_is_key.kp x.b_is_key (san_cons (se_var (by rfl) (by first | exact Or.inl rfl | exact Or.inr (Or.inl rfl) | exact Or.inr (Or.inr rfl))) (san_nil)))) (san_nil))))))))
theorem fn_is_ascending (x : Tx K mg) : FnM P w K mg base x.T 1 x.a_is_ascending x.d_is_ascending ["row"] r_is_ascending := fn_ok x.F_is_ascending sc_is_ascending fun cdv A outer s H E hr => sss_one (ss_ret (se_blt (cr_all rfl) okc_all (by rfl) x.z_all (by decide +kernel) (SAn.run (san_cons (se_comp (fz := true) (own := [("at", 1)]) (t := (.one 1)) rfl sc_is_ascending.nd (si_range1 (by rfl) x.z_range (SAn.run (san_cons (se_op op_sub ok_sub (se_blt (CallR.or call_len call_lenD) okc_len (by rfl) x.z_len (by decide +kernel) (SAn.run (san_cons (se_var (by rfl) (by first | exact Or.inl rfl | exact Or.inr (Or.inl rfl) | exact Or.inr (Or.inr rfl))) (san_nil)))) (se_int)) (san_nil)))) (blkOk_by (own := [("at", 1)]) (N := N_is_ascending) (sc := (defScope s_is_ascending)) (by decide +kernel)) (by decide) (fun _ _ _ _ _ => pg_name (i := 1) sc_is_ascending.nd (by rfl) (by first | exact Or.inl rfl | exact Or.inr rfl)) (.inl ⟨rfl, rfl⟩) (fun _ _ _ _ _ => se_cmp (opr_or (opr_or op_lt op_lt_str) (op_ltRow (Nat.lt_of_succ_lt (units65 hr)))) ok_ltR (se_ix (by first | exact hu_of hr | (have zz := hu_of hr; exact zz)) (se_var (by rfl) (by first | exact Or.inl rfl | exact Or.inr (Or.inl rfl) | exact Or.inr (Or.inr rfl))) (se_var (by rfl) (by first | exact Or.inl rfl | exact Or.inr (Or.inl rfl) | exact Or.inr (Or.inr rfl)))) (se_ix (by first | exact hu_of hr | (have zz := hu_of hr; exact zz)) (se_var (by rfl) (by first | exact Or.inl rfl | exact Or.inr (Or.inl rfl) | exact Or.inr (Or.inr rfl))) (se_op (opr_or op_add (opr_or op_add_str (opr_or op_catA op_cat))) (ok_add (fz := true)) (se_var (by rfl) (by first | exact Or.inl rfl | exact Or.inr (Or.inl rfl) | exact Or.inr (Or.inr rfl))) (se_int))) (by rfl))) (san_nil)))))
theorem fn_is_keys (x : Tx K mg) : FnM P w K mg base x.T 4 x.a_is_keys x.d_is_keys ["thing"] r_is_keys := fn_ok x.F_is_keys sc_is_keys fun cdv A outer s H E hr => sss_one (ss_ret (se_and (se_bB (se_callF ((fn_is_tuple_of_is_key x).mono (by decide)) hr (takes_of rfl rfl rfl rfl) (by rfl) x.g_is_tuple_of_is_key x.F_is_tuple_of_is_key.kp x.b_is_tuple_of_is_key (by rfl) x.g_is_key (par_is_tuple_of_is_key _) (se_var (by rfl) (by first | exact Or.inl rfl | exact Or.inr (Or.inl rfl) | exact Or.inr (Or.inr rfl))) rfl)) (se_and1 (se_bB (se_call ((fn_is_ascending x).mono (by decide)) hr (takes_of rfl rfl rfl rfl) (by rfl) x.g_is_ascending x.F_is_ascending.kp x.b_is_ascending (san_cons (se_var (by rfl) (by first | exact Or.inl rfl | exact Or.inr (Or.inl rfl) | exact Or.inr (Or.inr rfl))) (san_nil)))))))
theorem fn_is_tuple (x : Tx K mg) : FnM P w K mg base x.T 1 x.a_is_tuple x.d_is_tuple ["many", "thing"] r_is_tuple := fn_ok x.F_is_tuple sc_is_tuple fun cdv A outer s H E hr => sss_one (ss_ret (se_and (se_bB (se_blt call_isi (okc_isi x.own_ok) (by rfl) x.z_isinstance (by decide +kernel) (SAn.run (san_cons (se_var (by rfl) (by first | exact Or.inl rfl | exact Or.inr (Or.inl rfl) | exact Or.inr (Or.inr rfl))) (san_cons (se_c (pe_bltn (v := .ty "tuple") (by rfl) x.z_tuple (by decide +kernel) rfl) (fun _ _ _ => by simp only [VR])) (san_nil)))))) (se_and1 (se_bB (se_cmp (opr_or op_eq (op_eqD hr.units)) ok_eq (se_blt (CallR.or call_len call_lenD) okc_len (by rfl) x.z_len (by decide +kernel) (SAn.run (san_cons (se_var (by rfl) (by first | exact Or.inl rfl | exact Or.inr (Or.inl rfl) | exact Or.inr (Or.inr rfl))) (san_nil)))) (se_var (by rfl) (by first | exact Or.inl rfl | exact Or.inr (Or.inl rfl) | exact Or.inr (Or.inr rfl))) (by rfl))))))
theorem fn_is_range (x : Tx K mg) : FnM P w K mg base x.T 5 x.a_is_range x.d_is_range ["thing"] r_is_range := fn_ok x.F_is_range sc_is_range fun cdv A outer s H E hr => sss_cons (ss_if (st_not (st_tr (se_call ((fn_is_tuple x).mono (by decide)) hr (takes_of rfl rfl rfl rfl) (by rfl) x.g_is_tuple x.F_is_tuple.kp x.b_is_tuple (san_cons (se_int) (san_cons (se_var (by rfl) (by first | exact Or.inl rfl | exact Or.inr (Or.inl rfl) | exact Or.inr (Or.inr rfl))) (san_nil)))))) (sss_one (ss_ret (se_bl))) (sss_nil)) (sss_cons (ss_asg (se_var (by rfl) (by first | exact Or.inl rfl | exact Or.inr (Or.inl rfl) | exact Or.inr (Or.inr rfl))) (sg_tup rfl (sgs_cons (sg_name (i := 1) sc_is_range.nd (by rfl) (by first | exact Or.inl rfl | exact Or.inr rfl)) (sgs_cons (sg_name (i := 2) sc_is_range.nd (by rfl) (by first | exact Or.inl rfl | exact Or.inr rfl)) (sgs_cons (sg_name (i := 3) sc_is_range.nd (by rfl) (by first | exact Or.inl rfl | exact Or.inr rfl)) (sgs_nil)))))) (sss_cons (ss_if (st_w (sw_or (st_not (st_tr (se_call ((fn_is_key x).mono (by decide)) hr (takes_of rfl rfl rfl rfl) (by rfl) x.g_is_key x.F_is_key.kp x.b_is_key (san_cons (se_var (by rfl) (by first | exact Or.inl rfl | exact Or.inr (Or.inl rfl) | exact Or.inr (Or.inr rfl))) (san_nil))))) (sw_or (st_not (st_tr (se_call ((fn_is_key x).mono (by decide)) hr (takes_of rfl rfl rfl rfl) (by rfl) x.g_is_key x.F_is_key.kp x.b_is_key (san_cons (se_var (by rfl) (by first | exact Or.inl rfl | exact Or.inr (Or.inl rfl) | exact Or.inr (Or.inr rfl))) (san_nil))))) (sw_or1 (st_cmp (opr_or op_gt op_gt_str) ok_cmpS (se_var (by rfl) (by first | exact Or.inl rfl | exact Or.inr (Or.inl rfl) | exact Or.inr (Or.inr rfl))) (se_var (by rfl) (by first | exact Or.inl rfl | exact Or.inr (Or.inl rfl) | exact Or.inr (Or.inr rfl))) (by rfl)))))) (sss_one (ss_ret (se_bl))) (sss_nil)) (sss_one (ss_ret (se_and (se_bB (se_call ((fn_is_keys x).mono (by decide)) hr (takes_of rfl rfl rfl rfl) (by rfl) x.g_is_keys x.F_is_keys.kp x.b_is_keys (san_cons (se_var (by rfl) (by first | exact Or.inl rfl | exact Or.inr (Or.inl rfl) | exact Or.inr (Or.inr rfl))) (san_nil)))) (se_and1 (se_bB (se_blt (cr_all rfl) okc_all (by rfl) x.z_all (by decide +kernel) (SAn.run (san_cons (se_comp (fz := true) (own := [("key", 4)]) (t := (.one 4)) rfl sc_is_range.nd (si_any (se_var (by rfl) (by first | exact Or.inl rfl | exact Or.inr (Or.inl rfl) | exact Or.inr (Or.inr rfl)))) (blkOk_by (own := [("key", 4)]) (N := N_is_range) (sc := (defScope s_is_range)) (by decide +kernel)) (by decide) (fun _ _ _ _ _ => pg_name (i := 4) sc_is_range.nd (by rfl) (by first | exact Or.inl rfl | exact Or.inr rfl)) (.inl ⟨rfl, rfl⟩) (fun _ _ _ _ _ => se_chain (opr_or op_le op_le_str) ok_cmpS (opr_or op_le op_le_str) ok_cmpS (se_var (by rfl) (by first | exact Or.inl rfl | exact Or.inr (Or.inl rfl) | exact Or.inr (Or.inr rfl))) (se_var (by rfl) (by first | exact Or.inl rfl | exact Or.inr (Or.inl rfl) | exact Or.inr (Or.inr rfl))) (se_var (by rfl) (by first | exact Or.inl rfl | exact Or.inr (Or.inl rfl) | exact Or.inr (Or.inr rfl))))) (san_nil)))))))))))
theorem par_is_tuple_of_is_range (g : Addr) (w : W) (st : Sto) : runOf 3 (m_is_tuple_of_is_range g) [.at_ g, w] st = r_is_tuple_of_is_range [w] st := by
  have h := fun s n i acc st => compS_V (s := s) (r := r_is_range) (w := w) (g := g) n i acc st
  simp [r_is_tuple_of_is_range, runOf, m_is_tuple_of_is_range, sRet, mBl, mAnd, mB, mFn, mCons, mNil, mC, mComp, wipeW, iT, iL, iA, mVar, h]
  exact outOf_to
theorem fn_is_tuple_of_is_range (x : Tx K mg) : FnM P w K mg base x.T 6 x.a_is_tuple_of_is_range x.d_is_tuple_of_is_range ["judge", "thing"] (runOf 3 (m_is_tuple_of_is_range x.a_is_range)) := fn_ok x.F_is_tuple_of_is_range sc_is_tuple_of_is_range fun cdv A outer s H E hr => sss_one (ss_ret (se_and (se_bB (se_blt call_isi (okc_isi x.own_ok) (by rfl) x.z_isinstance (by decide +kernel) (SAn.run (san_cons (se_var (by rfl) (by first | exact Or.inl rfl | exact Or.inr (Or.inl rfl) | exact Or.inr (Or.inr rfl))) (san_cons (se_c (pe_bltn (v := .ty "tuple") (by rfl) x.z_tuple (by decide +kernel) rfl) (fun _ _ _ => by simp only [VR])) (san_nil)))))) (se_and1 (se_bB (se_blt (cr_all rfl) okc_all (by rfl) x.z_all (by decide +kernel) (SAn.run (san_cons (se_comp (fz := true) (own := [("item", 2)]) (t := (.one 2)) rfl sc_is_tuple_of_is_range.nd (si_any (se_var (by rfl) (by first | exact Or.inl rfl | exact Or.inr (Or.inl rfl) | exact Or.inr (Or.inr rfl)))) (blkOk_by (own := [("item", 2)]) (N := N_is_tuple_of_is_range) (sc := (defScope s_is_tuple_of_is_range)) (by decide +kernel)) (by decide) (fun _ _ _ _ _ => pg_name (i := 2) sc_is_tuple_of_is_range.nd (by rfl) (by first | exact Or.inl rfl | exact Or.inr rfl)) (.inl ⟨rfl, rfl⟩) (fun _ _ _ _ _ => se_callV ((fn_is_range x).mono (by decide)) hr takes0 (by rfl) (by first | exact Or.inl rfl | exact Or.inr (Or.inl rfl) | exact Or.inr (Or.inr rfl)) x.F_is_range.kp x.b_is_range (san_cons (se_var (by rfl) (by first | exact Or.inl rfl | exact Or.inr (Or.inl rfl) | exact Or.inr (Or.inr rfl))) (san_nil)))) (san_nil))))))))
theorem fn_is_ranges (x : Tx K mg) : FnM P w K mg base x.T 7 x.a_is_ranges x.d_is_ranges ["thing"] r_is_ranges := fn_ok x.F_is_ranges sc_is_ranges fun cdv A outer s H E hr => sss_one (ss_ret (se_and (se_bB (se_callF ((fn_is_tuple_of_is_range x).mono (by decide)) hr (takes_of rfl rfl rfl rfl) (by rfl) x.g_is_tuple_of_is_range x.F_is_tuple_of_is_range.kp x.b_is_tuple_of_is_range (by rfl) x.g_is_range (par_is_tuple_of_is_range _) (se_var (by rfl) (by first | exact Or.inl rfl | exact Or.inr (Or.inl rfl) | exact Or.inr (Or.inr rfl))) rfl)) (se_and1 (se_bB (se_call ((fn_is_ascending x).mono (by decide)) hr (takes_of rfl rfl rfl rfl) (by rfl) x.g_is_ascending x.F_is_ascending.kp x.b_is_ascending (san_cons (se_var (by rfl) (by first | exact Or.inl rfl | exact Or.inr (Or.inl rfl) | exact Or.inr (Or.inr rfl))) (san_nil)))))))
theorem fn_is_within (x : Tx K mg) : FnM P w K mg base x.T 2 x.a_is_within x.d_is_within ["low", "high", "thing"] r_is_within := fn_ok x.F_is_within sc_is_within fun cdv A outer s H E hr => sss_one (ss_ret (se_and (se_bB (se_call ((fn_is_integer x).mono (by decide)) hr (takes_of rfl rfl rfl rfl) (by rfl) x.g_is_integer x.F_is_integer.kp x.b_is_integer (san_cons (se_var (by rfl) (by first | exact Or.inl rfl | exact Or.inr (Or.inl rfl) | exact Or.inr (Or.inr rfl))) (san_nil)))) (se_and1 (se_bB (se_chain (opr_or op_le op_le_str) ok_cmpS (opr_or op_le op_le_str) ok_cmpS (se_var (by rfl) (by first | exact Or.inl rfl | exact Or.inr (Or.inl rfl) | exact Or.inr (Or.inr rfl))) (se_var (by rfl) (by first | exact Or.inl rfl | exact Or.inr (Or.inl rfl) | exact Or.inr (Or.inr rfl))) (se_var (by rfl) (by first | exact Or.inl rfl | exact Or.inr (Or.inl rfl) | exact Or.inr (Or.inr rfl))))))))
theorem fn_is_worth (x : Tx K mg) : FnM P w K mg base x.T 3 x.a_is_worth x.d_is_worth ["thing"] r_is_worth := fn_ok x.F_is_worth sc_is_worth fun cdv A outer s H E hr => sss_one (ss_ret (se_call ((fn_is_within x).mono (by decide)) hr (takes_of rfl rfl rfl rfl) (by rfl) x.g_is_within x.F_is_within.kp x.b_is_within (san_cons (se_neg (se_globI (by rfl) x.c_GREATEST ⟨_, rfl⟩)) (san_cons (se_globI (by rfl) x.c_GREATEST ⟨_, rfl⟩) (san_cons (se_var (by rfl) (by first | exact Or.inl rfl | exact Or.inr (Or.inl rfl) | exact Or.inr (Or.inr rfl))) (san_nil))))))
theorem fn_is_mark (x : Tx K mg) : FnM P w K mg base x.T 4 x.a_is_mark x.d_is_mark ["thing"] r_is_mark := fn_ok x.F_is_mark sc_is_mark fun cdv A outer s H E hr => sss_one (ss_ret (se_or (se_bB (se_cmp (opr_or op_isN op_isF) ok_is (se_var (by rfl) (by first | exact Or.inl rfl | exact Or.inr (Or.inl rfl) | exact Or.inr (Or.inr rfl))) (se_non) (by rfl))) (se_and1 (se_bB (se_call ((fn_is_worth x).mono (by decide)) hr (takes_of rfl rfl rfl rfl) (by rfl) x.g_is_worth x.F_is_worth.kp x.b_is_worth (san_cons (se_var (by rfl) (by first | exact Or.inl rfl | exact Or.inr (Or.inl rfl) | exact Or.inr (Or.inr rfl))) (san_nil)))))))
theorem fn_is_write (x : Tx K mg) : FnM P w K mg base x.T 5 x.a_is_write x.d_is_write ["thing"] r_is_write := fn_ok x.F_is_write sc_is_write fun cdv A outer s H E hr => sss_one (ss_ret (se_and (se_bB (se_call ((fn_is_tuple x).mono (by decide)) hr (takes_of rfl rfl rfl rfl) (by rfl) x.g_is_tuple x.F_is_tuple.kp x.b_is_tuple (san_cons (se_int) (san_cons (se_var (by rfl) (by first | exact Or.inl rfl | exact Or.inr (Or.inl rfl) | exact Or.inr (Or.inr rfl))) (san_nil))))) (se_and (se_bB (se_call ((fn_is_key x).mono (by decide)) hr (takes_of rfl rfl rfl rfl) (by rfl) x.g_is_key x.F_is_key.kp x.b_is_key (san_cons (se_ix (by first | exact hu_of hr | (have zz := hu_of hr; exact zz)) (se_var (by rfl) (by first | exact Or.inl rfl | exact Or.inr (Or.inl rfl) | exact Or.inr (Or.inr rfl))) (se_int)) (san_nil)))) (se_and1 (se_bB (se_call ((fn_is_mark x).mono (by decide)) hr (takes_of rfl rfl rfl rfl) (by rfl) x.g_is_mark x.F_is_mark.kp x.b_is_mark (san_cons (se_ix (by first | exact hu_of hr | (have zz := hu_of hr; exact zz)) (se_var (by rfl) (by first | exact Or.inl rfl | exact Or.inr (Or.inl rfl) | exact Or.inr (Or.inr rfl))) (se_int)) (san_nil))))))))
theorem par_is_tuple_of_is_write (g : Addr) (w : W) (st : Sto) : runOf 3 (m_is_tuple_of_is_write g) [.at_ g, w] st = r_is_tuple_of_is_write [w] st := by
  have h := fun s n i acc st => compS_V (s := s) (r := r_is_write) (w := w) (g := g) n i acc st
  simp [r_is_tuple_of_is_write, runOf, m_is_tuple_of_is_write, sRet, mBl, mAnd, mB, mFn, mCons, mNil, mC, mComp, wipeW, iT, iL, iA, mVar, h]
  exact outOf_to
theorem fn_is_tuple_of_is_write (x : Tx K mg) : FnM P w K mg base x.T 6 x.a_is_tuple_of_is_write x.d_is_tuple_of_is_write ["judge", "thing"] (runOf 3 (m_is_tuple_of_is_write x.a_is_write)) := fn_ok x.F_is_tuple_of_is_write sc_is_tuple_of_is_write fun cdv A outer s H E hr => sss_one (ss_ret (se_and (se_bB (se_blt call_isi (okc_isi x.own_ok) (by rfl) x.z_isinstance (by decide +kernel) (SAn.run (san_cons (se_var (by rfl) (by first | exact Or.inl rfl | exact Or.inr (Or.inl rfl) | exact Or.inr (Or.inr rfl))) (san_cons (se_c (pe_bltn (v := .ty "tuple") (by rfl) x.z_tuple (by decide +kernel) rfl) (fun _ _ _ => by simp only [VR])) (san_nil)))))) (se_and1 (se_bB (se_blt (cr_all rfl) okc_all (by rfl) x.z_all (by decide +kernel) (SAn.run (san_cons (se_comp (fz := true) (own := [("item", 2)]) (t := (.one 2)) rfl sc_is_tuple_of_is_write.nd (si_any (se_var (by rfl) (by first | exact Or.inl rfl | exact Or.inr (Or.inl rfl) | exact Or.inr (Or.inr rfl)))) (blkOk_by (own := [("item", 2)]) (N := N_is_tuple_of_is_write) (sc := (defScope s_is_tuple_of_is_write)) (by decide +kernel)) (by decide) (fun _ _ _ _ _ => pg_name (i := 2) sc_is_tuple_of_is_write.nd (by rfl) (by first | exact Or.inl rfl | exact Or.inr rfl)) (.inl ⟨rfl, rfl⟩) (fun _ _ _ _ _ => se_callV ((fn_is_write x).mono (by decide)) hr takes0 (by rfl) (by first | exact Or.inl rfl | exact Or.inr (Or.inl rfl) | exact Or.inr (Or.inr rfl)) x.F_is_write.kp x.b_is_write (san_cons (se_var (by rfl) (by first | exact Or.inl rfl | exact Or.inr (Or.inl rfl) | exact Or.inr (Or.inr rfl))) (san_nil)))) (san_nil))))))))
theorem fn_is_writes (x : Tx K mg) : FnM P w K mg base x.T 7 x.a_is_writes x.d_is_writes ["thing"] r_is_writes := fn_ok x.F_is_writes sc_is_writes fun cdv A outer s H E hr => sss_one (ss_ret (se_and (se_bB (se_callF ((fn_is_tuple_of_is_write x).mono (by decide)) hr (takes_of rfl rfl rfl rfl) (by rfl) x.g_is_tuple_of_is_write x.F_is_tuple_of_is_write.kp x.b_is_tuple_of_is_write (by rfl) x.g_is_write (par_is_tuple_of_is_write _) (se_var (by rfl) (by first | exact Or.inl rfl | exact Or.inr (Or.inl rfl) | exact Or.inr (Or.inr rfl))) rfl)) (se_and1 (se_bB (se_call ((fn_is_ascending x).mono (by decide)) hr (takes_of rfl rfl rfl rfl) (by rfl) x.g_is_ascending x.F_is_ascending.kp x.b_is_ascending (san_cons (se_comp (fz := true) (own := [("row", 1)]) (t := (.one 1)) rfl sc_is_writes.nd (si_any (se_var (by rfl) (by first | exact Or.inl rfl | exact Or.inr (Or.inl rfl) | exact Or.inr (Or.inr rfl)))) (blkOk_by (own := [("row", 1)]) (N := N_is_writes) (sc := (defScope s_is_writes)) (by decide +kernel)) (by decide) (fun _ _ _ _ _ => pg_name (i := 1) sc_is_writes.nd (by rfl) (by first | exact Or.inl rfl | exact Or.inr rfl)) (.inl ⟨rfl, rfl⟩) (fun _ _ _ _ _ => se_ix (by first | exact hu_of hr | (have zz := hu_of hr; exact zz)) (se_var (by rfl) (by first | exact Or.inl rfl | exact Or.inr (Or.inl rfl) | exact Or.inr (Or.inr rfl))) (se_int))) (san_nil)))))))
theorem fn_Dealing_init (x : Tx K mg) : FnM P w K mg base x.T 8 x.a_Dealing_init x.d_Dealing_init ["self", "snapshot", "number", "gets", "ranges", "writes"] r_Dealing_init := fn_ok x.F_Dealing_init sc_Dealing_init fun cdv A outer s H E hr => sss_cons (ss_if (st_not (st_tr (se_call ((fn_is_number x).mono (by decide)) hr (takes_of rfl rfl rfl rfl) (by rfl) x.g_is_number x.F_is_number.kp x.b_is_number (san_cons (se_var (by rfl) (by first | exact Or.inl rfl | exact Or.inr (Or.inl rfl) | exact Or.inr (Or.inr rfl))) (san_nil))))) (sss_one (ss_stk)) (sss_nil)) (sss_cons (ss_if (st_not (st_tr (se_call ((fn_is_number_for x).mono (by decide)) hr (takes_of rfl rfl rfl rfl) (by rfl) x.g_is_number_for x.F_is_number_for.kp x.b_is_number_for (san_cons (se_var (by rfl) (by first | exact Or.inl rfl | exact Or.inr (Or.inl rfl) | exact Or.inr (Or.inr rfl))) (san_cons (se_var (by rfl) (by first | exact Or.inl rfl | exact Or.inr (Or.inl rfl) | exact Or.inr (Or.inr rfl))) (san_cons (se_var (by rfl) (by first | exact Or.inl rfl | exact Or.inr (Or.inl rfl) | exact Or.inr (Or.inr rfl))) (san_nil))))))) (sss_one (ss_stk)) (sss_nil)) (sss_cons (ss_if (st_not (st_tr (se_call ((fn_is_keys x).mono (by decide)) hr (takes_of rfl rfl rfl rfl) (by rfl) x.g_is_keys x.F_is_keys.kp x.b_is_keys (san_cons (se_var (by rfl) (by first | exact Or.inl rfl | exact Or.inr (Or.inl rfl) | exact Or.inr (Or.inr rfl))) (san_nil))))) (sss_one (ss_stk)) (sss_nil)) (sss_cons (ss_if (st_not (st_tr (se_call ((fn_is_ranges x).mono (by decide)) hr (takes_of rfl rfl rfl rfl) (by rfl) x.g_is_ranges x.F_is_ranges.kp x.b_is_ranges (san_cons (se_var (by rfl) (by first | exact Or.inl rfl | exact Or.inr (Or.inl rfl) | exact Or.inr (Or.inr rfl))) (san_nil))))) (sss_one (ss_stk)) (sss_nil)) (sss_cons (ss_if (st_not (st_tr (se_call ((fn_is_writes x).mono (by decide)) hr (takes_of rfl rfl rfl rfl) (by rfl) x.g_is_writes x.F_is_writes.kp x.b_is_writes (san_cons (se_var (by rfl) (by first | exact Or.inl rfl | exact Or.inr (Or.inl rfl) | exact Or.inr (Or.inr rfl))) (san_nil))))) (sss_one (ss_stk)) (sss_nil)) (sss_cons (ss_fld (cs := [3]) (se_var (by rfl) (by first | exact Or.inl rfl | exact Or.inr (Or.inl rfl) | exact Or.inr (Or.inr rfl))) (se_var (by rfl) (by first | exact Or.inl rfl | exact Or.inr (Or.inl rfl) | exact Or.inr (Or.inr rfl))) x.f_snapshot) (sss_cons (ss_fld (cs := [3]) (se_var (by rfl) (by first | exact Or.inl rfl | exact Or.inr (Or.inl rfl) | exact Or.inr (Or.inr rfl))) (se_var (by rfl) (by first | exact Or.inl rfl | exact Or.inr (Or.inl rfl) | exact Or.inr (Or.inr rfl))) x.f_number) (sss_cons (ss_fld (cs := [3]) (se_var (by rfl) (by first | exact Or.inl rfl | exact Or.inr (Or.inl rfl) | exact Or.inr (Or.inr rfl))) (se_var (by rfl) (by first | exact Or.inl rfl | exact Or.inr (Or.inl rfl) | exact Or.inr (Or.inr rfl))) x.f_gets) (sss_cons (ss_fld (cs := [3]) (se_var (by rfl) (by first | exact Or.inl rfl | exact Or.inr (Or.inl rfl) | exact Or.inr (Or.inr rfl))) (se_var (by rfl) (by first | exact Or.inl rfl | exact Or.inr (Or.inl rfl) | exact Or.inr (Or.inr rfl))) x.f_ranges) (sss_one (ss_fld (cs := [3]) (se_var (by rfl) (by first | exact Or.inl rfl | exact Or.inr (Or.inl rfl) | exact Or.inr (Or.inr rfl))) (se_var (by rfl) (by first | exact Or.inl rfl | exact Or.inr (Or.inl rfl) | exact Or.inr (Or.inr rfl))) x.f_writes))))))))))
theorem fn_law_made (x : Tx K mg) : FnM P w K mg base x.T 10 x.a_law_made x.d_law_made ["parts"] r_law_made := fn_ok x.F_law_made sc_law_made fun cdv A outer s H E hr => sss_one (ss_ret (se_bty call_tuple_of okc_tuple (by rfl) x.z_tuple (by decide +kernel) (SAn.run (san_cons (se_comp (fz := true) (own := [("part", 1)]) (t := (.one 1)) rfl sc_law_made.nd (si_any (se_var (by rfl) (by first | exact Or.inl rfl | exact Or.inr (Or.inl rfl) | exact Or.inr (Or.inr rfl)))) (blkOk_by (own := [("part", 1)]) (N := N_law_made) (sc := (defScope s_law_made)) (by decide +kernel)) (by decide) (fun _ _ _ _ _ => pg_name (i := 1) sc_law_made.nd (by rfl) (by first | exact Or.inl rfl | exact Or.inr rfl)) (.inl ⟨rfl, rfl⟩) (fun _ _ _ _ _ => se_make (c := 3) x.M_Dealing ((fn_Dealing_init x).mono (by decide)) hr takes0 (by rfl) x.gC_Dealing x.b_Dealing_init (n := 5) rfl (san_cons (se_ix (by first | exact hu_of hr | (have zz := hu_of hr; exact zz)) (se_var (by rfl) (by first | exact Or.inl rfl | exact Or.inr (Or.inl rfl) | exact Or.inr (Or.inr rfl))) (se_int)) (san_cons (se_ix (by first | exact hu_of hr | (have zz := hu_of hr; exact zz)) (se_var (by rfl) (by first | exact Or.inl rfl | exact Or.inr (Or.inl rfl) | exact Or.inr (Or.inr rfl))) (se_int)) (san_cons (se_ix (by first | exact hu_of hr | (have zz := hu_of hr; exact zz)) (se_var (by rfl) (by first | exact Or.inl rfl | exact Or.inr (Or.inl rfl) | exact Or.inr (Or.inr rfl))) (se_int)) (san_cons (se_ix (by first | exact hu_of hr | (have zz := hu_of hr; exact zz)) (se_var (by rfl) (by first | exact Or.inl rfl | exact Or.inr (Or.inl rfl) | exact Or.inr (Or.inr rfl))) (se_int)) (san_cons (se_ix (by first | exact hu_of hr | (have zz := hu_of hr; exact zz)) (se_var (by rfl) (by first | exact Or.inl rfl | exact Or.inr (Or.inl rfl) | exact Or.inr (Or.inr rfl))) (se_int)) (san_nil)))))))) (san_nil)))))
theorem fn_demand_history (x : Tx K mg) : FnM P w K mg base x.T 1 x.a_demand_history x.d_demand_history ["thing"] r_demand_history := fn_ok x.F_demand_history sc_demand_history fun cdv A outer s H E hr => sss_cons (ss_if (st_w (sw_or (st_not (st_tr (se_blt call_isi (okc_isi x.own_ok) (by rfl) x.z_isinstance (by decide +kernel) (SAn.run (san_cons (se_var (by rfl) (by first | exact Or.inl rfl | exact Or.inr (Or.inl rfl) | exact Or.inr (Or.inr rfl))) (san_cons (se_c (pe_bltn (v := .ty "tuple") (by rfl) x.z_tuple (by decide +kernel) rfl) (fun _ _ _ => by simp only [VR])) (san_nil))))))) (sw_or1 (st_cmp (opr_or op_gt op_gt_str) ok_cmpS (se_blt (CallR.or call_len call_lenD) okc_len (by rfl) x.z_len (by decide +kernel) (SAn.run (san_cons (se_var (by rfl) (by first | exact Or.inl rfl | exact Or.inr (Or.inl rfl) | exact Or.inr (Or.inr rfl))) (san_nil)))) (se_globI (by rfl) x.c_MOST_DEALINGS ⟨_, rfl⟩) (by rfl))))) (sss_one (ss_stk)) (sss_nil)) (sss_cons (ss_set (i := 1) sc_demand_history.nd (by rfl) (by first | exact Or.inl rfl | exact Or.inr rfl) (se_int)) (sss_one (ss_for (passes_of rfl) rfl (si_enumA (by rfl) x.z_enumerate (SAn.run (san_cons (se_var (by rfl) (by first | exact Or.inl rfl | exact Or.inr (Or.inl rfl) | exact Or.inr (Or.inr rfl))) (san_nil)))) (sg_tup rfl (sgs_cons (sg_name (i := 2) sc_demand_history.nd (by rfl) (by first | exact Or.inl rfl | exact Or.inr rfl)) (sgs_cons (sg_name (i := 3) sc_demand_history.nd (by rfl) (by first | exact Or.inl rfl | exact Or.inr rfl)) (sgs_nil)))) (sss_cons (ss_if (st_w (sw_or (st_not (st_tr (se_isC (tb := [(3, true)]) (fun q hq => by rw [List.mem_singleton.mp hq]; exact ⟨x.io_Dealing, if_pos (beq_self_eq_true _)⟩) (by rfl) x.z_isinstance (by rfl) x.gC_Dealing (se_var (by rfl) (by first | exact Or.inl rfl | exact Or.inr (Or.inl rfl) | exact Or.inr (Or.inr rfl)))))) (sw_or1 (st_cmp (opr_or op_gt op_gt_str) ok_cmpS (se_fld (cs := [3]) (se_var (by rfl) (by first | exact Or.inl rfl | exact Or.inr (Or.inl rfl) | exact Or.inr (Or.inr rfl))) x.f_snapshot) (se_var (by rfl) (by first | exact Or.inl rfl | exact Or.inr (Or.inl rfl) | exact Or.inr (Or.inr rfl))) (by rfl))))) (sss_one (ss_stk)) (sss_nil)) (sss_one (ss_if (st_cmp (opr_or op_notN op_isNotF) ok_isnot (se_fld (cs := [3]) (se_var (by rfl) (by first | exact Or.inl rfl | exact Or.inr (Or.inl rfl) | exact Or.inr (Or.inr rfl))) x.f_number) (se_non) (by rfl)) (sss_cons (ss_aug (i := 1) sc_demand_history.nd (by rfl) (by first | exact Or.inl rfl | exact Or.inr rfl) (se_int) ip_add) (sss_one (ss_if (st_cmp (opr_or op_ne (op_neD hr.units)) ok_ne (se_fld (cs := [3]) (se_var (by rfl) (by first | exact Or.inl rfl | exact Or.inr (Or.inl rfl) | exact Or.inr (Or.inr rfl))) x.f_number) (se_var (by rfl) (by first | exact Or.inl rfl | exact Or.inr (Or.inl rfl) | exact Or.inr (Or.inr rfl))) (by rfl)) (sss_one (ss_stk)) (sss_nil)))) (sss_nil)))))))
theorem fn_writes_key (x : Tx K mg) : FnM P w K mg base x.T 1 x.a_writes_key x.d_writes_key ["dealing", "key"] r_writes_key := fn_ok x.F_writes_key sc_writes_key fun cdv A outer s H E hr => sss_one (ss_ret (se_blt (cr_any rfl) okc_any (by rfl) x.z_any (by decide +kernel) (SAn.run (san_cons (se_comp (fz := true) (own := [("row", 2)]) (t := (.one 2)) rfl sc_writes_key.nd (si_any (se_fld (cs := [3]) (se_var (by rfl) (by first | exact Or.inl rfl | exact Or.inr (Or.inl rfl) | exact Or.inr (Or.inr rfl))) x.f_writes)) (blkOk_by (own := [("row", 2)]) (N := N_writes_key) (sc := (defScope s_writes_key)) (by decide +kernel)) (by decide) (fun _ _ _ _ _ => pg_name (i := 2) sc_writes_key.nd (by rfl) (by first | exact Or.inl rfl | exact Or.inr rfl)) (.inl ⟨rfl, rfl⟩) (fun _ _ _ _ _ => se_cmp (opr_or op_eq (op_eqD hr.units)) ok_eq (se_ix (by first | exact hu_of hr | (have zz := hu_of hr; exact zz)) (se_var (by rfl) (by first | exact Or.inl rfl | exact Or.inr (Or.inl rfl) | exact Or.inr (Or.inr rfl))) (se_int)) (se_var (by rfl) (by first | exact Or.inl rfl | exact Or.inr (Or.inl rfl) | exact Or.inr (Or.inr rfl))) (by rfl))) (san_nil)))))
theorem fn_saw_key (x : Tx K mg) : FnM P w K mg base x.T 1 x.a_saw_key x.d_saw_key ["dealing", "key"] r_saw_key := fn_ok x.F_saw_key sc_saw_key fun cdv A outer s H E hr => sss_cons (ss_if (st_cmp (opr_or op_in_seq op_in_sign) (ok_in (neg := false)) (se_var (by rfl) (by first | exact Or.inl rfl | exact Or.inr (Or.inl rfl) | exact Or.inr (Or.inr rfl))) (se_fld (cs := [3]) (se_var (by rfl) (by first | exact Or.inl rfl | exact Or.inr (Or.inl rfl) | exact Or.inr (Or.inr rfl))) x.f_gets) (by rfl)) (sss_one (ss_ret (se_bl))) (sss_nil)) (sss_one (ss_ret (se_blt (cr_any rfl) okc_any (by rfl) x.z_any (by decide +kernel) (SAn.run (san_cons (se_comp (fz := true) (own := [("low", 2), ("high", 3), ("own", 4)]) (t := (.tup [2, 3, 4])) rfl sc_saw_key.nd (si_any (se_fld (cs := [3]) (se_var (by rfl) (by first | exact Or.inl rfl | exact Or.inr (Or.inl rfl) | exact Or.inr (Or.inr rfl))) x.f_ranges)) (blkOk_by (own := [("low", 2), ("high", 3), ("own", 4)]) (N := N_saw_key) (sc := (defScope s_saw_key)) (by decide +kernel)) (by decide) (fun _ _ _ _ _ => pg_tup rfl (pgs_cons (pg_name (i := 2) sc_saw_key.nd (by rfl) (by first | exact Or.inl rfl | exact Or.inr rfl)) (pgs_cons (pg_name (i := 3) sc_saw_key.nd (by rfl) (by first | exact Or.inl rfl | exact Or.inr rfl)) (pgs_cons (pg_name (i := 4) sc_saw_key.nd (by rfl) (by first | exact Or.inl rfl | exact Or.inr rfl)) (pgs_nil))))) (.inl ⟨rfl, rfl⟩) (fun _ _ _ _ _ => se_and (se_bB (se_chain (opr_or op_le op_le_str) ok_cmpS (opr_or op_le op_le_str) ok_cmpS (se_var (by rfl) (by first | exact Or.inl rfl | exact Or.inr (Or.inl rfl) | exact Or.inr (Or.inr rfl))) (se_var (by rfl) (by first | exact Or.inl rfl | exact Or.inr (Or.inl rfl) | exact Or.inr (Or.inr rfl))) (se_var (by rfl) (by first | exact Or.inl rfl | exact Or.inr (Or.inl rfl) | exact Or.inr (Or.inr rfl))))) (se_and1 (se_bB (se_cmp (opr_or op_notIn_seq op_notIn_sign) (ok_in (neg := true)) (se_var (by rfl) (by first | exact Or.inl rfl | exact Or.inr (Or.inl rfl) | exact Or.inr (Or.inr rfl))) (se_var (by rfl) (by first | exact Or.inl rfl | exact Or.inr (Or.inl rfl) | exact Or.inr (Or.inr rfl))) (by rfl)))))) (san_nil))))))
theorem fn_is_tied (x : Tx K mg) : FnM P w K mg base x.T 2 x.a_is_tied x.d_is_tied ["one", "other"] r_is_tied := fn_ok x.F_is_tied sc_is_tied fun cdv A outer s H E hr => sss_cons (ss_for (passes_of rfl) rfl (si_any (se_fld (cs := [3]) (se_var (by rfl) (by first | exact Or.inl rfl | exact Or.inr (Or.inl rfl) | exact Or.inr (Or.inr rfl))) x.f_writes)) (sg_tup rfl (sgs_cons (sg_name (i := 2) sc_is_tied.nd (by rfl) (by first | exact Or.inl rfl | exact Or.inr rfl)) (sgs_cons (sg_name (i := 3) sc_is_tied.nd (by rfl) (by first | exact Or.inl rfl | exact Or.inr rfl)) (sgs_nil)))) (sss_cons (ss_if (st_w (sw_and (st_tr (se_call ((fn_writes_key x).mono (by decide)) hr (takes_of rfl rfl rfl rfl) (by rfl) x.g_writes_key x.F_writes_key.kp x.b_writes_key (san_cons (se_var (by rfl) (by first | exact Or.inl rfl | exact Or.inr (Or.inl rfl) | exact Or.inr (Or.inr rfl))) (san_cons (se_var (by rfl) (by first | exact Or.inl rfl | exact Or.inr (Or.inl rfl) | exact Or.inr (Or.inr rfl))) (san_nil))))) (sw_and1 (st_cmp (opr_or op_lt op_lt_str) ok_cmpS (se_fld (cs := [3]) (se_var (by rfl) (by first | exact Or.inl rfl | exact Or.inr (Or.inl rfl) | exact Or.inr (Or.inr rfl))) x.f_number) (se_fld (cs := [3]) (se_var (by rfl) (by first | exact Or.inl rfl | exact Or.inr (Or.inl rfl) | exact Or.inr (Or.inr rfl))) x.f_number) (by rfl))))) (sss_one (ss_ret (se_bl))) (sss_nil)) (sss_one (ss_if (st_w (sw_and (st_cmp (opr_or op_le op_le_str) ok_cmpS (se_fld (cs := [3]) (se_var (by rfl) (by first | exact Or.inl rfl | exact Or.inr (Or.inl rfl) | exact Or.inr (Or.inr rfl))) x.f_number) (se_fld (cs := [3]) (se_var (by rfl) (by first | exact Or.inl rfl | exact Or.inr (Or.inl rfl) | exact Or.inr (Or.inr rfl))) x.f_snapshot) (by rfl)) (sw_and1 (st_tr (se_call ((fn_saw_key x).mono (by decide)) hr (takes_of rfl rfl rfl rfl) (by rfl) x.g_saw_key x.F_saw_key.kp x.b_saw_key (san_cons (se_var (by rfl) (by first | exact Or.inl rfl | exact Or.inr (Or.inl rfl) | exact Or.inr (Or.inr rfl))) (san_cons (se_var (by rfl) (by first | exact Or.inl rfl | exact Or.inr (Or.inl rfl) | exact Or.inr (Or.inr rfl))) (san_nil)))))))) (sss_one (ss_ret (se_bl))) (sss_nil))))) (sss_one (ss_ret (se_blt (cr_any rfl) okc_any (by rfl) x.z_any (by decide +kernel) (SAn.run (san_cons (se_comp (fz := true) (own := [("key", 2), ("_", 3)]) (t := (.tup [2, 3])) rfl sc_is_tied.nd (si_any (se_fld (cs := [3]) (se_var (by rfl) (by first | exact Or.inl rfl | exact Or.inr (Or.inl rfl) | exact Or.inr (Or.inr rfl))) x.f_writes)) (blkOk_by (own := [("key", 2), ("_", 3)]) (N := N_is_tied) (sc := (defScope s_is_tied)) (by decide +kernel)) (by decide) (fun _ _ _ _ _ => pg_tup rfl (pgs_cons (pg_name (i := 2) sc_is_tied.nd (by rfl) (by first | exact Or.inl rfl | exact Or.inr rfl)) (pgs_cons (pg_name (i := 3) sc_is_tied.nd (by rfl) (by first | exact Or.inl rfl | exact Or.inr rfl)) (pgs_nil)))) (.inl ⟨rfl, rfl⟩) (fun _ _ _ _ _ => se_and (se_bB (se_cmp (opr_or op_gt op_gt_str) ok_cmpS (se_fld (cs := [3]) (se_var (by rfl) (by first | exact Or.inl rfl | exact Or.inr (Or.inl rfl) | exact Or.inr (Or.inr rfl))) x.f_number) (se_fld (cs := [3]) (se_var (by rfl) (by first | exact Or.inl rfl | exact Or.inr (Or.inl rfl) | exact Or.inr (Or.inr rfl))) x.f_snapshot) (by rfl))) (se_and1 (se_bB (se_call ((fn_saw_key x).mono (by decide)) hr takes0 (by rfl) x.g_saw_key x.F_saw_key.kp x.b_saw_key (san_cons (se_var (by rfl) (by first | exact Or.inl rfl | exact Or.inr (Or.inl rfl) | exact Or.inr (Or.inr rfl))) (san_cons (se_var (by rfl) (by first | exact Or.inl rfl | exact Or.inr (Or.inl rfl) | exact Or.inr (Or.inr rfl))) (san_nil)))))))) (san_nil))))))
theorem fn_ways_of (x : Tx K mg) : FnM P w K mg base x.T 3 x.a_ways_of x.d_ways_of ["history"] r_ways_of := fn_ok x.F_ways_of sc_ways_of fun cdv A outer s H E hr => sss_cons (ss_set (i := 1) sc_ways_of.nd (by rfl) (by first | exact Or.inl rfl | exact Or.inr rfl) (se_lstA (fz := false) (n := 0) (san_nil))) (sss_cons (ss_for (passes_of rfl) rfl (si_enumA (by rfl) x.z_enumerate (SAn.run (san_cons (se_var (by rfl) (by first | exact Or.inl rfl | exact Or.inr (Or.inl rfl) | exact Or.inr (Or.inr rfl))) (san_nil)))) (sg_tup rfl (sgs_cons (sg_name (i := 2) sc_ways_of.nd (by rfl) (by first | exact Or.inl rfl | exact Or.inr rfl)) (sgs_cons (sg_name (i := 3) sc_ways_of.nd (by rfl) (by first | exact Or.inl rfl | exact Or.inr rfl)) (sgs_nil)))) (sss_one (ss_expr (se_lm PySem.F.slot_list_append PySem.F.type_list_append mt_append okm_append (se_var (by rfl) (by first | exact Or.inl rfl | exact Or.inr (Or.inl rfl) | exact Or.inr (Or.inr rfl))) (SAn.run (san_cons (se_comp (fz := true) (own := [("other", 4), ("second", 5)]) (t := (.tup [4, 5])) rfl sc_ways_of.nd (si_enumA (by rfl) x.z_enumerate (SAn.run (san_cons (se_var (by rfl) (by first | exact Or.inl rfl | exact Or.inr (Or.inl rfl) | exact Or.inr (Or.inr rfl))) (san_nil)))) (blkOk_by (own := [("other", 4), ("second", 5)]) (N := N_ways_of) (sc := (defScope s_ways_of)) (by decide +kernel)) (by decide) (fun _ _ _ _ _ => pg_tup rfl (pgs_cons (pg_name (i := 4) sc_ways_of.nd (by rfl) (by first | exact Or.inl rfl | exact Or.inr rfl)) (pgs_cons (pg_name (i := 5) sc_ways_of.nd (by rfl) (by first | exact Or.inl rfl | exact Or.inr rfl)) (pgs_nil)))) (.inr ⟨_, rfl, fun _ _ _ _ _ => st_w (sw_and (st_cmp (opr_or op_ne (op_neD hr.units)) ok_ne (se_var (by rfl) (by first | exact Or.inl rfl | exact Or.inr (Or.inl rfl) | exact Or.inr (Or.inr rfl))) (se_var (by rfl) (by first | exact Or.inl rfl | exact Or.inr (Or.inl rfl) | exact Or.inr (Or.inr rfl))) (by rfl)) (sw_and1 (st_tr (se_call ((fn_is_tied x).mono (by decide)) hr takes0 (by rfl) x.g_is_tied x.F_is_tied.kp x.b_is_tied (san_cons (se_var (by rfl) (by first | exact Or.inl rfl | exact Or.inr (Or.inl rfl) | exact Or.inr (Or.inr rfl))) (san_cons (se_var (by rfl) (by first | exact Or.inl rfl | exact Or.inr (Or.inl rfl) | exact Or.inr (Or.inr rfl))) (san_nil)))))))⟩) (fun _ _ _ _ _ => se_var (by rfl) (by first | exact Or.inl rfl | exact Or.inr (Or.inl rfl) | exact Or.inr (Or.inr rfl)))) (san_nil))))))) (sss_one (ss_ret (se_var (by rfl) (by first | exact Or.inl rfl | exact Or.inr (Or.inl rfl) | exact Or.inr (Or.inr rfl))))))
theorem fn_serial_order (x : Tx K mg) : FnM P w K mg base x.T 4 x.a_serial_order x.d_serial_order ["history"] r_serial_order := fn_ok x.F_serial_order sc_serial_order fun cdv A outer s H E hr => sss_cons (ss_expr (se_call ((fn_demand_history x).mono (by decide)) hr (takes_of rfl rfl rfl rfl) (by rfl) x.g_demand_history x.F_demand_history.kp x.b_demand_history (san_cons (se_var (by rfl) (by first | exact Or.inl rfl | exact Or.inr (Or.inl rfl) | exact Or.inr (Or.inr rfl))) (san_nil)))) (sss_cons (ss_set (i := 1) sc_serial_order.nd (by rfl) (by first | exact Or.inl rfl | exact Or.inr rfl) (se_call ((fn_ways_of x).mono (by decide)) hr (takes_of rfl rfl rfl rfl) (by rfl) x.g_ways_of x.F_ways_of.kp x.b_ways_of (san_cons (se_var (by rfl) (by first | exact Or.inl rfl | exact Or.inr (Or.inl rfl) | exact Or.inr (Or.inr rfl))) (san_nil)))) (sss_cons (ss_set (i := 2) sc_serial_order.nd (by rfl) (by first | exact Or.inl rfl | exact Or.inr rfl) (se_op (opr_or op_mul op_rep) (ok_mul (fz := false)) (se_lstA (fz := true) (n := 1) (san_cons (se_int) (san_nil))) (se_blt (CallR.or call_len call_lenD) okc_len (by rfl) x.z_len (by decide +kernel) (SAn.run (san_cons (se_var (by rfl) (by first | exact Or.inl rfl | exact Or.inr (Or.inl rfl) | exact Or.inr (Or.inr rfl))) (san_nil)))))) (sss_cons (ss_for (passes_of rfl) rfl (si_any (se_var (by rfl) (by first | exact Or.inl rfl | exact Or.inr (Or.inl rfl) | exact Or.inr (Or.inr rfl)))) (sg_name (i := 3) sc_serial_order.nd (by rfl) (by first | exact Or.inl rfl | exact Or.inr rfl)) (sss_one (ss_for (passes_of rfl) rfl (si_any (se_var (by rfl) (by first | exact Or.inl rfl | exact Or.inr (Or.inl rfl) | exact Or.inr (Or.inr rfl)))) (sg_name (i := 4) sc_serial_order.nd (by rfl) (by first | exact Or.inl rfl | exact Or.inr rfl)) (sss_one (ss_augsub (f := (fun p q => p + q)) (se_var (by rfl) (by first | exact Or.inl rfl | exact Or.inr (Or.inl rfl) | exact Or.inr (Or.inr rfl))) (se_var (by rfl) (by first | exact Or.inl rfl | exact Or.inr (Or.inl rfl) | exact Or.inr (Or.inr rfl))) (se_int) ip_add (fun _ _ _ _ h => ⟨_, _, rfl, rfl, h⟩)))))) (sss_cons (ss_set (i := 5) sc_serial_order.nd (by rfl) (by first | exact Or.inl rfl | exact Or.inr rfl) (se_lstA (fz := false) (n := 0) (san_nil))) (sss_cons (ss_while (fuel := 1000000) (passes_of rfl) (st_cmp (opr_or op_lt op_lt_str) ok_cmpS (se_blt (CallR.or call_len call_lenD) okc_len (by rfl) x.z_len (by decide +kernel) (SAn.run (san_cons (se_var (by rfl) (by first | exact Or.inl rfl | exact Or.inr (Or.inl rfl) | exact Or.inr (Or.inr rfl))) (san_nil)))) (se_blt (CallR.or call_len call_lenD) okc_len (by rfl) x.z_len (by decide +kernel) (SAn.run (san_cons (se_var (by rfl) (by first | exact Or.inl rfl | exact Or.inr (Or.inl rfl) | exact Or.inr (Or.inr rfl))) (san_nil)))) (by rfl)) (sss_cons (ss_comp (fz := false) (i := 6) (own := [("index", 7)]) (t := (.one 7)) rfl sc_serial_order.nd (by rfl) (by rfl) (sw_true rfl rfl rfl (by decide +kernel)) (si_range1 (by rfl) x.z_range (SAn.run (san_cons (se_blt (CallR.or call_len call_lenD) okc_len (by rfl) x.z_len (by decide +kernel) (SAn.run (san_cons (se_var (by rfl) (by first | exact Or.inl rfl | exact Or.inr (Or.inl rfl) | exact Or.inr (Or.inr rfl))) (san_nil)))) (san_nil)))) (blkOk_by (own := [("index", 7)]) (N := N_serial_order) (sc := (defScope s_serial_order)) (by decide +kernel)) (by decide) (fun _ _ _ _ _ => pg_name (i := 7) sc_serial_order.nd (by rfl) (by first | exact Or.inl rfl | exact Or.inr rfl)) (.inr ⟨_, rfl, fun _ _ _ _ _ => st_cmp (opr_or op_eq (op_eqD hr.units)) ok_eq (se_ix (by first | exact hu_of hr | (have zz := hu_of hr; exact zz)) (se_var (by rfl) (by first | exact Or.inl rfl | exact Or.inr (Or.inl rfl) | exact Or.inr (Or.inr rfl))) (se_var (by rfl) (by first | exact Or.inl rfl | exact Or.inr (Or.inl rfl) | exact Or.inr (Or.inr rfl)))) (se_int) (by rfl)⟩) (fun _ _ _ _ _ => se_var (by rfl) (by first | exact Or.inl rfl | exact Or.inr (Or.inl rfl) | exact Or.inr (Or.inr rfl)))) (sss_cons (ss_if (st_not (st_tr (se_var (by rfl) (by first | exact Or.inl rfl | exact Or.inr (Or.inl rfl) | exact Or.inr (Or.inr rfl))))) (sss_one (ss_ret (se_non))) (sss_nil)) (sss_cons (ss_expr (se_lm PySem.F.slot_list_append PySem.F.type_list_append mt_append okm_append (se_var (by rfl) (by first | exact Or.inl rfl | exact Or.inr (Or.inl rfl) | exact Or.inr (Or.inr rfl))) (SAn.run (san_cons (se_ix (by first | exact hu_of hr | (have zz := hu_of hr; exact zz)) (se_var (by rfl) (by first | exact Or.inl rfl | exact Or.inr (Or.inl rfl) | exact Or.inr (Or.inr rfl))) (se_int)) (san_nil))))) (sss_cons (ss_asg (se_neg (se_int)) (sg_sub (by first | exact hu_of hr | (have zz := hu_of hr; exact zz)) (se_var (by rfl) (by first | exact Or.inl rfl | exact Or.inr (Or.inl rfl) | exact Or.inr (Or.inr rfl))) (se_ix (by first | exact hu_of hr | (have zz := hu_of hr; exact zz)) (se_var (by rfl) (by first | exact Or.inl rfl | exact Or.inr (Or.inl rfl) | exact Or.inr (Or.inr rfl))) (se_int)))) (sss_one (ss_for (passes_of rfl) rfl (si_any (se_ix (by first | exact hu_of hr | (have zz := hu_of hr; exact zz)) (se_var (by rfl) (by first | exact Or.inl rfl | exact Or.inr (Or.inl rfl) | exact Or.inr (Or.inr rfl))) (se_ix (by first | exact hu_of hr | (have zz := hu_of hr; exact zz)) (se_var (by rfl) (by first | exact Or.inl rfl | exact Or.inr (Or.inl rfl) | exact Or.inr (Or.inr rfl))) (se_int)))) (sg_name (i := 4) sc_serial_order.nd (by rfl) (by first | exact Or.inl rfl | exact Or.inr rfl)) (sss_one (ss_augsub (f := (fun p q => p - q)) (se_var (by rfl) (by first | exact Or.inl rfl | exact Or.inr (Or.inl rfl) | exact Or.inr (Or.inr rfl))) (se_var (by rfl) (by first | exact Or.inl rfl | exact Or.inr (Or.inl rfl) | exact Or.inr (Or.inr rfl))) (se_int) ip_sub (fun _ _ _ _ h => ⟨_, _, rfl, rfl, h⟩)))))))))) (sss_one (ss_ret (se_bty call_tuple_of okc_tuple (by rfl) x.z_tuple (by decide +kernel) (SAn.run (san_cons (se_var (by rfl) (by first | exact Or.inl rfl | exact Or.inr (Or.inl rfl) | exact Or.inr (Or.inr rfl))) (san_nil)))))))))))
theorem fn_ring_from (x : Tx K mg) : FnM P w K mg base x.T 1 x.a_ring_from x.d_ring_from ["start", "ways"] r_ring_from := fn_ok x.F_ring_from sc_ring_from fun cdv A outer s H E hr => sss_cons (ss_set (i := 2) sc_ring_from.nd (by rfl) (by first | exact Or.inl rfl | exact Or.inr rfl) (se_disp (sd_cons (se_var (by rfl) (by first | exact Or.inl rfl | exact Or.inr (Or.inl rfl) | exact Or.inr (Or.inr rfl))) (se_bl) (sd_nil)))) (sss_cons (ss_set (i := 3) sc_ring_from.nd (by rfl) (by first | exact Or.inl rfl | exact Or.inr rfl) (se_lstA (fz := true) (n := 1) (san_cons (se_tupA (n := 1) (san_cons (se_var (by rfl) (by first | exact Or.inl rfl | exact Or.inr (Or.inl rfl) | exact Or.inr (Or.inr rfl))) (san_nil))) (san_nil)))) (sss_cons (ss_while (fuel := 1000000) (passes_of rfl) (st_tr (se_var (by rfl) (by first | exact Or.inl rfl | exact Or.inr (Or.inl rfl) | exact Or.inr (Or.inr rfl)))) (sss_cons (ss_set (i := 4) sc_ring_from.nd (by rfl) (by first | exact Or.inl rfl | exact Or.inr rfl) (se_lstA (fz := false) (n := 0) (san_nil))) (sss_cons (ss_for (passes_of rfl) rfl (si_any (se_var (by rfl) (by first | exact Or.inl rfl | exact Or.inr (Or.inl rfl) | exact Or.inr (Or.inr rfl)))) (sg_name (i := 5) sc_ring_from.nd (by rfl) (by first | exact Or.inl rfl | exact Or.inr rfl)) (sss_one (ss_for (passes_of rfl) rfl (si_any (se_blt (CallR.or (CallR.or cr_sortedI (call_sortedDI rfl)) cr_sortedS) (okc_sortedX (fz := true)) (by rfl) x.z_sorted (by decide +kernel) (SAn.run (san_cons (se_ix (by first | exact hu_of hr | (have zz := hu_of hr; exact zz)) (se_var (by rfl) (by first | exact Or.inl rfl | exact Or.inr (Or.inl rfl) | exact Or.inr (Or.inr rfl))) (se_ix (by first | exact hu_of hr | (have zz := hu_of hr; exact zz)) (se_var (by rfl) (by first | exact Or.inl rfl | exact Or.inr (Or.inl rfl) | exact Or.inr (Or.inr rfl))) (se_neg (se_int)))) (san_nil))))) (sg_name (i := 6) sc_ring_from.nd (by rfl) (by first | exact Or.inl rfl | exact Or.inr rfl)) (sss_cons (ss_if (st_cmp (opr_or op_eq (op_eqD hr.units)) ok_eq (se_var (by rfl) (by first | exact Or.inl rfl | exact Or.inr (Or.inl rfl) | exact Or.inr (Or.inr rfl))) (se_var (by rfl) (by first | exact Or.inl rfl | exact Or.inr (Or.inl rfl) | exact Or.inr (Or.inr rfl))) (by rfl)) (sss_one (ss_ret (se_var (by rfl) (by first | exact Or.inl rfl | exact Or.inr (Or.inl rfl) | exact Or.inr (Or.inr rfl))))) (sss_nil)) (sss_one (ss_if (st_dnin (by first | exact hu_of hr | (have zz := hu_of hr; exact zz)) (se_var (by rfl) (by first | exact Or.inl rfl | exact Or.inr (Or.inl rfl) | exact Or.inr (Or.inr rfl))) (se_var (by rfl) (by first | exact Or.inl rfl | exact Or.inr (Or.inl rfl) | exact Or.inr (Or.inr rfl)))) (sss_cons (ss_asg (se_bl) (sg_sub (by first | exact hu_of hr | (have zz := hu_of hr; exact zz)) (se_var (by rfl) (by first | exact Or.inl rfl | exact Or.inr (Or.inl rfl) | exact Or.inr (Or.inr rfl))) (se_var (by rfl) (by first | exact Or.inl rfl | exact Or.inr (Or.inl rfl) | exact Or.inr (Or.inr rfl))))) (sss_one (ss_expr (se_lm PySem.F.slot_list_append PySem.F.type_list_append mt_append okm_append (se_var (by rfl) (by first | exact Or.inl rfl | exact Or.inr (Or.inl rfl) | exact Or.inr (Or.inr rfl))) (SAn.run (san_cons (se_tupS (sa_star (se_var (by rfl) (by first | exact Or.inl rfl | exact Or.inr (Or.inl rfl) | exact Or.inr (Or.inr rfl))) (sa_cons (se_var (by rfl) (by first | exact Or.inl rfl | exact Or.inr (Or.inl rfl) | exact Or.inr (Or.inr rfl))) (sa_nil)))) (san_nil))))))) (sss_nil))))))) (sss_one (ss_set (i := 3) sc_ring_from.nd (by rfl) (by first | exact Or.inl rfl | exact Or.inr rfl) (se_var (by rfl) (by first | exact Or.inl rfl | exact Or.inr (Or.inl rfl) | exact Or.inr (Or.inr rfl)))))))) (sss_one (ss_ret (se_non)))))
theorem fn_ring (x : Tx K mg) : FnM P w K mg base x.T 5 x.a_ring x.d_ring ["history"] r_ring := fn_ok x.F_ring sc_ring fun cdv A outer s H E hr => sss_cons (ss_if (st_cmp (opr_or op_notN op_isNotF) ok_isnot (se_call ((fn_serial_order x).mono (by decide)) hr (takes_of rfl rfl rfl rfl) (by rfl) x.g_serial_order x.F_serial_order.kp x.b_serial_order (san_cons (se_var (by rfl) (by first | exact Or.inl rfl | exact Or.inr (Or.inl rfl) | exact Or.inr (Or.inr rfl))) (san_nil))) (se_non) (by rfl)) (sss_one (ss_ret (se_non))) (sss_nil)) (sss_cons (ss_set (i := 1) sc_ring.nd (by rfl) (by first | exact Or.inl rfl | exact Or.inr rfl) (se_call ((fn_ways_of x).mono (by decide)) hr (takes_of rfl rfl rfl rfl) (by rfl) x.g_ways_of x.F_ways_of.kp x.b_ways_of (san_cons (se_var (by rfl) (by first | exact Or.inl rfl | exact Or.inr (Or.inl rfl) | exact Or.inr (Or.inr rfl))) (san_nil)))) (sss_cons (ss_set (i := 2) sc_ring.nd (by rfl) (by first | exact Or.inl rfl | exact Or.inr rfl) (se_non)) (sss_cons (ss_for (passes_of rfl) rfl (si_range1 (by rfl) x.z_range (SAn.run (san_cons (se_blt (CallR.or call_len call_lenD) okc_len (by rfl) x.z_len (by decide +kernel) (SAn.run (san_cons (se_var (by rfl) (by first | exact Or.inl rfl | exact Or.inr (Or.inl rfl) | exact Or.inr (Or.inr rfl))) (san_nil)))) (san_nil)))) (sg_name (i := 3) sc_ring.nd (by rfl) (by first | exact Or.inl rfl | exact Or.inr rfl)) (sss_cons (ss_set (i := 4) sc_ring.nd (by rfl) (by first | exact Or.inl rfl | exact Or.inr rfl) (se_call ((fn_ring_from x).mono (by decide)) hr (takes_of rfl rfl rfl rfl) (by rfl) x.g_ring_from x.F_ring_from.kp x.b_ring_from (san_cons (se_var (by rfl) (by first | exact Or.inl rfl | exact Or.inr (Or.inl rfl) | exact Or.inr (Or.inr rfl))) (san_cons (se_var (by rfl) (by first | exact Or.inl rfl | exact Or.inr (Or.inl rfl) | exact Or.inr (Or.inr rfl))) (san_nil))))) (sss_one (ss_if (st_w (sw_and (st_cmp (opr_or op_notN op_isNotF) ok_isnot (se_var (by rfl) (by first | exact Or.inl rfl | exact Or.inr (Or.inl rfl) | exact Or.inr (Or.inr rfl))) (se_non) (by rfl)) (sw_and1 (st_w (sw_or (st_cmp (opr_or op_isN op_isF) ok_is (se_var (by rfl) (by first | exact Or.inl rfl | exact Or.inr (Or.inl rfl) | exact Or.inr (Or.inr rfl))) (se_non) (by rfl)) (sw_or1 (st_cmp (opr_or op_lt op_lt_str) ok_cmpS (se_blt (CallR.or call_len call_lenD) okc_len (by rfl) x.z_len (by decide +kernel) (SAn.run (san_cons (se_var (by rfl) (by first | exact Or.inl rfl | exact Or.inr (Or.inl rfl) | exact Or.inr (Or.inr rfl))) (san_nil)))) (se_blt (CallR.or call_len call_lenD) okc_len (by rfl) x.z_len (by decide +kernel) (SAn.run (san_cons (se_var (by rfl) (by first | exact Or.inl rfl | exact Or.inr (Or.inl rfl) | exact Or.inr (Or.inr rfl))) (san_nil)))) (by rfl)))))))) (sss_one (ss_set (i := 2) sc_ring.nd (by rfl) (by first | exact Or.inl rfl | exact Or.inr rfl) (se_var (by rfl) (by first | exact Or.inl rfl | exact Or.inr (Or.inl rfl) | exact Or.inr (Or.inr rfl))))) (sss_nil))))) (sss_one (ss_ret (se_var (by rfl) (by first | exact Or.inl rfl | exact Or.inr (Or.inl rfl) | exact Or.inr (Or.inr rfl))))))))
theorem fn_is_lost (x : Tx K mg) : FnM P w K mg base x.T 1 x.a_is_lost x.d_is_lost ["first", "second"] r_is_lost := fn_ok x.F_is_lost sc_is_lost fun cdv A outer s H E hr => sss_cons (ss_if (st_w (sw_or (st_cmp (opr_or op_isN op_isF) ok_is (se_fld (cs := [3]) (se_var (by rfl) (by first | exact Or.inl rfl | exact Or.inr (Or.inl rfl) | exact Or.inr (Or.inr rfl))) x.f_number) (se_non) (by rfl)) (sw_or1 (st_cmp (opr_or op_isN op_isF) ok_is (se_fld (cs := [3]) (se_var (by rfl) (by first | exact Or.inl rfl | exact Or.inr (Or.inl rfl) | exact Or.inr (Or.inr rfl))) x.f_number) (se_non) (by rfl))))) (sss_one (ss_ret (se_bl))) (sss_nil)) (sss_cons (ss_if (st_not (st_chain (opr_or op_lt op_lt_str) ok_cmpS (opr_or op_lt op_lt_str) ok_cmpS (se_fld (cs := [3]) (se_var (by rfl) (by first | exact Or.inl rfl | exact Or.inr (Or.inl rfl) | exact Or.inr (Or.inr rfl))) x.f_snapshot) (se_fld (cs := [3]) (se_var (by rfl) (by first | exact Or.inl rfl | exact Or.inr (Or.inl rfl) | exact Or.inr (Or.inr rfl))) x.f_number) (se_fld (cs := [3]) (se_var (by rfl) (by first | exact Or.inl rfl | exact Or.inr (Or.inl rfl) | exact Or.inr (Or.inr rfl))) x.f_number))) (sss_one (ss_ret (se_bl))) (sss_nil)) (sss_one (ss_ret (se_blt (cr_any rfl) okc_any (by rfl) x.z_any (by decide +kernel) (SAn.run (san_cons (se_comp2 (fz := true) (own := [("row", 2), ("other", 3)]) (vs1 := [3]) (t := (.one 2)) (t1 := (.one 3)) rfl sc_is_lost.nd (si_any (se_fld (cs := [3]) (se_var (by rfl) (by first | exact Or.inl rfl | exact Or.inr (Or.inl rfl) | exact Or.inr (Or.inr rfl))) x.f_writes)) (blkOk_by (own := [("row", 2), ("other", 3)]) (N := N_is_lost) (sc := (defScope s_is_lost)) (by decide +kernel)) (by decide) (by decide) (by decide) (fun _ _ _ _ _ => pg_name (i := 2) sc_is_lost.nd (by rfl) (by first | exact Or.inl rfl | exact Or.inr rfl)) (fun _ _ _ _ _ => sig_tup (se_fld (cs := [3]) (se_var (by rfl) (by first | exact Or.inl rfl | exact Or.inr (Or.inl rfl) | exact Or.inr (Or.inr rfl))) x.f_writes)) (fun _ _ _ _ _ => pg_name (i := 3) sc_is_lost.nd (by rfl) (by first | exact Or.inl rfl | exact Or.inr rfl)) (fun _ _ _ _ _ => se_cmp (opr_or op_eq (op_eqD hr.units)) ok_eq (se_ix (by first | exact hu_of hr | (have zz := hu_of hr; exact zz)) (se_var (by rfl) (by first | exact Or.inl rfl | exact Or.inr (Or.inl rfl) | exact Or.inr (Or.inr rfl))) (se_int)) (se_ix (by first | exact hu_of hr | (have zz := hu_of hr; exact zz)) (se_var (by rfl) (by first | exact Or.inl rfl | exact Or.inr (Or.inl rfl) | exact Or.inr (Or.inr rfl))) (se_int)) (by rfl))) (san_nil)))))))
theorem fn_lost_updates (x : Tx K mg) : FnM P w K mg base x.T 2 x.a_lost_updates x.d_lost_updates ["history"] r_lost_updates := fn_ok x.F_lost_updates sc_lost_updates fun cdv A outer s H E hr => sss_cons (ss_expr (se_call ((fn_demand_history x).mono (by decide)) hr (takes_of rfl rfl rfl rfl) (by rfl) x.g_demand_history x.F_demand_history.kp x.b_demand_history (san_cons (se_var (by rfl) (by first | exact Or.inl rfl | exact Or.inr (Or.inl rfl) | exact Or.inr (Or.inr rfl))) (san_nil)))) (sss_cons (ss_set (i := 1) sc_lost_updates.nd (by rfl) (by first | exact Or.inl rfl | exact Or.inr rfl) (se_lstA (fz := false) (n := 0) (san_nil))) (sss_cons (ss_for (passes_of rfl) rfl (si_enumA (by rfl) x.z_enumerate (SAn.run (san_cons (se_var (by rfl) (by first | exact Or.inl rfl | exact Or.inr (Or.inl rfl) | exact Or.inr (Or.inr rfl))) (san_nil)))) (sg_tup rfl (sgs_cons (sg_name (i := 2) sc_lost_updates.nd (by rfl) (by first | exact Or.inl rfl | exact Or.inr rfl)) (sgs_cons (sg_name (i := 3) sc_lost_updates.nd (by rfl) (by first | exact Or.inl rfl | exact Or.inr rfl)) (sgs_nil)))) (sss_one (ss_for (passes_of rfl) rfl (si_enumA (by rfl) x.z_enumerate (SAn.run (san_cons (se_var (by rfl) (by first | exact Or.inl rfl | exact Or.inr (Or.inl rfl) | exact Or.inr (Or.inr rfl))) (san_nil)))) (sg_tup rfl (sgs_cons (sg_name (i := 4) sc_lost_updates.nd (by rfl) (by first | exact Or.inl rfl | exact Or.inr rfl)) (sgs_cons (sg_name (i := 5) sc_lost_updates.nd (by rfl) (by first | exact Or.inl rfl | exact Or.inr rfl)) (sgs_nil)))) (sss_one (ss_if (st_tr (se_call ((fn_is_lost x).mono (by decide)) hr (takes_of rfl rfl rfl rfl) (by rfl) x.g_is_lost x.F_is_lost.kp x.b_is_lost (san_cons (se_var (by rfl) (by first | exact Or.inl rfl | exact Or.inr (Or.inl rfl) | exact Or.inr (Or.inr rfl))) (san_cons (se_var (by rfl) (by first | exact Or.inl rfl | exact Or.inr (Or.inl rfl) | exact Or.inr (Or.inr rfl))) (san_nil))))) (sss_one (ss_expr (se_lm PySem.F.slot_list_append PySem.F.type_list_append mt_append okm_append (se_var (by rfl) (by first | exact Or.inl rfl | exact Or.inr (Or.inl rfl) | exact Or.inr (Or.inr rfl))) (SAn.run (san_cons (se_tupA (n := 2) (san_cons (se_var (by rfl) (by first | exact Or.inl rfl | exact Or.inr (Or.inl rfl) | exact Or.inr (Or.inr rfl))) (san_cons (se_var (by rfl) (by first | exact Or.inl rfl | exact Or.inr (Or.inl rfl) | exact Or.inr (Or.inr rfl))) (san_nil)))) (san_nil)))))) (sss_nil)))))) (sss_one (ss_ret (se_var (by rfl) (by first | exact Or.inl rfl | exact Or.inr (Or.inl rfl) | exact Or.inr (Or.inr rfl)))))))
theorem fn_is_row_of_indexes (x : Tx K mg) : FnM P w K mg base x.T 3 x.a_is_row_of_indexes x.d_is_row_of_indexes ["history", "thing"] r_is_row_of_indexes := fn_ok x.F_is_row_of_indexes sc_is_row_of_indexes fun cdv A outer s H E hr => sss_cons (ss_if (st_not (st_tr (se_blt call_isi (okc_isi x.own_ok) (by rfl) x.z_isinstance (by decide +kernel) (SAn.run (san_cons (se_var (by rfl) (by first | exact Or.inl rfl | exact Or.inr (Or.inl rfl) | exact Or.inr (Or.inr rfl))) (san_cons (se_c (pe_bltn (v := .ty "tuple") (by rfl) x.z_tuple (by decide +kernel) rfl) (fun _ _ _ => by simp only [VR])) (san_nil))))))) (sss_one (ss_ret (se_bl))) (sss_nil)) (sss_cons (ss_if (st_not (st_tr (se_blt (cr_all rfl) okc_all (by rfl) x.z_all (by decide +kernel) (SAn.run (san_cons (se_comp (fz := true) (own := [("index", 2)]) (t := (.one 2)) rfl sc_is_row_of_indexes.nd (si_any (se_var (by rfl) (by first | exact Or.inl rfl | exact Or.inr (Or.inl rfl) | exact Or.inr (Or.inr rfl)))) (blkOk_by (own := [("index", 2)]) (N := N_is_row_of_indexes) (sc := (defScope s_is_row_of_indexes)) (by decide +kernel)) (by decide) (fun _ _ _ _ _ => pg_name (i := 2) sc_is_row_of_indexes.nd (by rfl) (by first | exact Or.inl rfl | exact Or.inr rfl)) (.inl ⟨rfl, rfl⟩) (fun _ _ _ _ _ => se_call ((fn_is_within x).mono (by decide)) hr takes0 (by rfl) x.g_is_within x.F_is_within.kp x.b_is_within (san_cons (se_int) (san_cons (se_op op_sub ok_sub (se_blt (CallR.or call_len call_lenD) okc_len (by rfl) x.z_len (by decide +kernel) (SAn.run (san_cons (se_var (by rfl) (by first | exact Or.inl rfl | exact Or.inr (Or.inl rfl) | exact Or.inr (Or.inr rfl))) (san_nil)))) (se_int)) (san_cons (se_var (by rfl) (by first | exact Or.inl rfl | exact Or.inr (Or.inl rfl) | exact Or.inr (Or.inr rfl))) (san_nil)))))) (san_nil)))))) (sss_one (ss_ret (se_bl))) (sss_nil)) (sss_one (ss_ret (se_cmp (opr_or op_eq (op_eqD hr.units)) ok_eq (se_lenSetI rfl (by rfl) x.z_len (by decide +kernel) (by rfl) x.z_set (by decide +kernel) (se_var (by rfl) (by first | exact Or.inl rfl | exact Or.inr (Or.inl rfl) | exact Or.inr (Or.inr rfl)))) (se_blt (CallR.or call_len call_lenD) okc_len (by rfl) x.z_len (by decide +kernel) (SAn.run (san_cons (se_var (by rfl) (by first | exact Or.inl rfl | exact Or.inr (Or.inl rfl) | exact Or.inr (Or.inr rfl))) (san_nil)))) (by rfl)))))
theorem fn_is_order (x : Tx K mg) : FnM P w K mg base x.T 4 x.a_is_order x.d_is_order ["history", "thing"] r_is_order := fn_ok x.F_is_order sc_is_order fun cdv A outer s H E hr => sss_one (ss_ret (se_and (se_bB (se_call ((fn_is_row_of_indexes x).mono (by decide)) hr (takes_of rfl rfl rfl rfl) (by rfl) x.g_is_row_of_indexes x.F_is_row_of_indexes.kp x.b_is_row_of_indexes (san_cons (se_var (by rfl) (by first | exact Or.inl rfl | exact Or.inr (Or.inl rfl) | exact Or.inr (Or.inr rfl))) (san_cons (se_var (by rfl) (by first | exact Or.inl rfl | exact Or.inr (Or.inl rfl) | exact Or.inr (Or.inr rfl))) (san_nil))))) (se_and1 (se_bB (se_cmp (opr_or op_eq (op_eqD hr.units)) ok_eq (se_blt (CallR.or call_len call_lenD) okc_len (by rfl) x.z_len (by decide +kernel) (SAn.run (san_cons (se_var (by rfl) (by first | exact Or.inl rfl | exact Or.inr (Or.inl rfl) | exact Or.inr (Or.inr rfl))) (san_nil)))) (se_blt (CallR.or call_len call_lenD) okc_len (by rfl) x.z_len (by decide +kernel) (SAn.run (san_cons (se_var (by rfl) (by first | exact Or.inl rfl | exact Or.inr (Or.inl rfl) | exact Or.inr (Or.inr rfl))) (san_nil)))) (by rfl))))))
theorem fn_demand_order (x : Tx K mg) : FnM P w K mg base x.T 5 x.a_demand_order x.d_demand_order ["history", "order"] r_demand_order := fn_ok x.F_demand_order sc_demand_order fun cdv A outer s H E hr => sss_cons (ss_expr (se_call ((fn_demand_history x).mono (by decide)) hr (takes_of rfl rfl rfl rfl) (by rfl) x.g_demand_history x.F_demand_history.kp x.b_demand_history (san_cons (se_var (by rfl) (by first | exact Or.inl rfl | exact Or.inr (Or.inl rfl) | exact Or.inr (Or.inr rfl))) (san_nil)))) (sss_one (ss_if (st_not (st_tr (se_call ((fn_is_order x).mono (by decide)) hr (takes_of rfl rfl rfl rfl) (by rfl) x.g_is_order x.F_is_order.kp x.b_is_order (san_cons (se_var (by rfl) (by first | exact Or.inl rfl | exact Or.inr (Or.inl rfl) | exact Or.inr (Or.inr rfl))) (san_cons (se_var (by rfl) (by first | exact Or.inl rfl | exact Or.inr (Or.inl rfl) | exact Or.inr (Or.inr rfl))) (san_nil)))))) (sss_one (ss_raise0 (c := 0) rfl (takes_of rfl rfl rfl rfl) (ExcF.ok (X := _) x.e_NoOrder) (by rfl))) (sss_nil)))
theorem fn_numbers_of (x : Tx K mg) : FnM P w K mg base x.T 1 x.a_numbers_of x.d_numbers_of ["history"] r_numbers_of := fn_ok x.F_numbers_of sc_numbers_of fun cdv A outer s H E hr => sss_cons (ss_set (i := 1) sc_numbers_of.nd (by rfl) (by first | exact Or.inl rfl | exact Or.inr rfl) (se_dict0)) (sss_cons (ss_for (passes_of rfl) rfl (si_any (se_var (by rfl) (by first | exact Or.inl rfl | exact Or.inr (Or.inl rfl) | exact Or.inr (Or.inr rfl)))) (sg_name (i := 2) sc_numbers_of.nd (by rfl) (by first | exact Or.inl rfl | exact Or.inr rfl)) (sss_one (ss_for (passes_of rfl) rfl (si_any (se_fld (cs := [3]) (se_var (by rfl) (by first | exact Or.inl rfl | exact Or.inr (Or.inl rfl) | exact Or.inr (Or.inr rfl))) x.f_writes)) (sg_tup rfl (sgs_cons (sg_name (i := 3) sc_numbers_of.nd (by rfl) (by first | exact Or.inl rfl | exact Or.inr rfl)) (sgs_cons (sg_name (i := 4) sc_numbers_of.nd (by rfl) (by first | exact Or.inl rfl | exact Or.inr rfl)) (sgs_nil)))) (sss_one (ss_expr (se_lm PySem.F.slot_list_append PySem.F.type_list_append mt_append okm_append (se_dset2 (se_var (by rfl) (by first | exact Or.inl rfl | exact Or.inr (Or.inl rfl) | exact Or.inr (Or.inr rfl))) (se_var (by rfl) (by first | exact Or.inl rfl | exact Or.inr (Or.inl rfl) | exact Or.inr (Or.inr rfl))) (se_lstA (fz := false) (n := 0) (san_nil)) m2_of) (SAn.run (san_cons (se_fld (cs := [3]) (se_var (by rfl) (by first | exact Or.inl rfl | exact Or.inr (Or.inl rfl) | exact Or.inr (Or.inr rfl))) x.f_number) (san_nil))))))))) (sss_one (ss_ret (se_var (by rfl) (by first | exact Or.inl rfl | exact Or.inr (Or.inl rfl) | exact Or.inr (Or.inr rfl))))))
theorem fn_number_at (x : Tx K mg) : FnM P w K mg base x.T 1 x.a_number_at x.d_number_at ["numbers", "snapshot"] r_number_at := fn_ok x.F_number_at sc_number_at fun cdv A outer s H E hr => sss_one (ss_ret (se_maxD rfl (Nat.lt_of_succ_lt (units65 hr)) (by rfl) x.z_max (se_comp (fz := true) (own := [("number", 2)]) (t := (.one 2)) rfl sc_number_at.nd (si_any (se_var (by rfl) (by first | exact Or.inl rfl | exact Or.inr (Or.inl rfl) | exact Or.inr (Or.inr rfl)))) (blkOk_by (own := [("number", 2)]) (N := N_number_at) (sc := (defScope s_number_at)) (by decide +kernel)) (by decide) (fun _ _ _ _ _ => pg_name (i := 2) sc_number_at.nd (by rfl) (by first | exact Or.inl rfl | exact Or.inr rfl)) (.inr ⟨_, rfl, fun _ _ _ _ _ => st_cmp (opr_or op_le op_le_str) ok_cmpS (se_var (by rfl) (by first | exact Or.inl rfl | exact Or.inr (Or.inl rfl) | exact Or.inr (Or.inr rfl))) (se_var (by rfl) (by first | exact Or.inl rfl | exact Or.inr (Or.inl rfl) | exact Or.inr (Or.inr rfl))) (by rfl)⟩) (fun _ _ _ _ _ => se_var (by rfl) (by first | exact Or.inl rfl | exact Or.inr (Or.inl rfl) | exact Or.inr (Or.inr rfl)))) (se_int)))
theorem fn_failing_key (x : Tx K mg) : FnM P w K mg base x.T 2 x.a_failing_key x.d_failing_key ["dealing", "numbers", "standing"] r_failing_key := fn_ok x.F_failing_key sc_failing_key fun cdv A outer s H E hr => sss_cons (ss_for (passes_of rfl) rfl (si_any (se_blt (call_sortedD rfl) (okc_sortedDS (fz := true)) (by rfl) x.z_sorted (by decide +kernel) (SAn.run (san_cons (se_var (by rfl) (by first | exact Or.inl rfl | exact Or.inr (Or.inl rfl) | exact Or.inr (Or.inr rfl))) (san_nil))))) (sg_name (i := 3) sc_failing_key.nd (by rfl) (by first | exact Or.inl rfl | exact Or.inr rfl)) (sss_one (ss_if (st_w (sw_and (st_tr (se_call ((fn_saw_key x).mono (by decide)) hr (takes_of rfl rfl rfl rfl) (by rfl) x.g_saw_key x.F_saw_key.kp x.b_saw_key (san_cons (se_var (by rfl) (by first | exact Or.inl rfl | exact Or.inr (Or.inl rfl) | exact Or.inr (Or.inr rfl))) (san_cons (se_var (by rfl) (by first | exact Or.inl rfl | exact Or.inr (Or.inl rfl) | exact Or.inr (Or.inr rfl))) (san_nil))))) (sw_and1 (st_cmp (opr_or op_ne (op_neD hr.units)) ok_ne (se_dget2 (by first | exact hu_of hr | (have zz := hu_of hr; exact zz)) (se_var (by rfl) (by first | exact Or.inl rfl | exact Or.inr (Or.inl rfl) | exact Or.inr (Or.inr rfl))) (se_var (by rfl) (by first | exact Or.inl rfl | exact Or.inr (Or.inl rfl) | exact Or.inr (Or.inr rfl))) (se_int) m2_of) (se_call ((fn_number_at x).mono (by decide)) hr (takes_of rfl rfl rfl rfl) (by rfl) x.g_number_at x.F_number_at.kp x.b_number_at (san_cons (se_ix (by first | exact hu_of hr | (have zz := hu_of hr; exact zz)) (se_var (by rfl) (by first | exact Or.inl rfl | exact Or.inr (Or.inl rfl) | exact Or.inr (Or.inr rfl))) (se_var (by rfl) (by first | exact Or.inl rfl | exact Or.inr (Or.inl rfl) | exact Or.inr (Or.inr rfl)))) (san_cons (se_fld (cs := [3]) (se_var (by rfl) (by first | exact Or.inl rfl | exact Or.inr (Or.inl rfl) | exact Or.inr (Or.inr rfl))) x.f_snapshot) (san_nil)))) (by rfl))))) (sss_one (ss_ret (se_var (by rfl) (by first | exact Or.inl rfl | exact Or.inr (Or.inl rfl) | exact Or.inr (Or.inr rfl))))) (sss_nil)))) (sss_cons (ss_for (passes_of rfl) rfl (si_any (se_fld (cs := [3]) (se_var (by rfl) (by first | exact Or.inl rfl | exact Or.inr (Or.inl rfl) | exact Or.inr (Or.inr rfl))) x.f_writes)) (sg_tup rfl (sgs_cons (sg_name (i := 3) sc_failing_key.nd (by rfl) (by first | exact Or.inl rfl | exact Or.inr rfl)) (sgs_cons (sg_name (i := 4) sc_failing_key.nd (by rfl) (by first | exact Or.inl rfl | exact Or.inr rfl)) (sgs_nil)))) (sss_one (ss_if (st_cmp (opr_or op_gt op_gt_str) ok_cmpS (se_dget2 (by first | exact hu_of hr | (have zz := hu_of hr; exact zz)) (se_var (by rfl) (by first | exact Or.inl rfl | exact Or.inr (Or.inl rfl) | exact Or.inr (Or.inr rfl))) (se_var (by rfl) (by first | exact Or.inl rfl | exact Or.inr (Or.inl rfl) | exact Or.inr (Or.inr rfl))) (se_int) m2_of) (se_fld (cs := [3]) (se_var (by rfl) (by first | exact Or.inl rfl | exact Or.inr (Or.inl rfl) | exact Or.inr (Or.inr rfl))) x.f_number) (by rfl)) (sss_one (ss_ret (se_var (by rfl) (by first | exact Or.inl rfl | exact Or.inr (Or.inl rfl) | exact Or.inr (Or.inr rfl))))) (sss_nil)))) (sss_one (ss_ret (se_non))))
theorem fn_failure_in (x : Tx K mg) : FnM P w K mg base x.T 3 x.a_failure_in x.d_failure_in ["history", "order"] r_failure_in := fn_ok x.F_failure_in sc_failure_in fun cdv A outer s H E hr => sss_cons (ss_set (i := 2) sc_failure_in.nd (by rfl) (by first | exact Or.inl rfl | exact Or.inr rfl) (se_call ((fn_numbers_of x).mono (by decide)) hr (takes_of rfl rfl rfl rfl) (by rfl) x.g_numbers_of x.F_numbers_of.kp x.b_numbers_of (san_cons (se_var (by rfl) (by first | exact Or.inl rfl | exact Or.inr (Or.inl rfl) | exact Or.inr (Or.inr rfl))) (san_nil)))) (sss_cons (ss_set (i := 3) sc_failure_in.nd (by rfl) (by first | exact Or.inl rfl | exact Or.inr rfl) (se_dict0)) (sss_cons (ss_for (passes_of rfl) rfl (si_any (se_var (by rfl) (by first | exact Or.inl rfl | exact Or.inr (Or.inl rfl) | exact Or.inr (Or.inr rfl)))) (sg_name (i := 4) sc_failure_in.nd (by rfl) (by first | exact Or.inl rfl | exact Or.inr rfl)) (sss_cons (ss_set (i := 5) sc_failure_in.nd (by rfl) (by first | exact Or.inl rfl | exact Or.inr rfl) (se_call ((fn_failing_key x).mono (by decide)) hr (takes_of rfl rfl rfl rfl) (by rfl) x.g_failing_key x.F_failing_key.kp x.b_failing_key (san_cons (se_ix (by first | exact hu_of hr | (have zz := hu_of hr; exact zz)) (se_var (by rfl) (by first | exact Or.inl rfl | exact Or.inr (Or.inl rfl) | exact Or.inr (Or.inr rfl))) (se_var (by rfl) (by first | exact Or.inl rfl | exact Or.inr (Or.inl rfl) | exact Or.inr (Or.inr rfl)))) (san_cons (se_var (by rfl) (by first | exact Or.inl rfl | exact Or.inr (Or.inl rfl) | exact Or.inr (Or.inr rfl))) (san_cons (se_var (by rfl) (by first | exact Or.inl rfl | exact Or.inr (Or.inl rfl) | exact Or.inr (Or.inr rfl))) (san_nil)))))) (sss_cons (ss_if (st_cmp (opr_or op_notN op_isNotF) ok_isnot (se_var (by rfl) (by first | exact Or.inl rfl | exact Or.inr (Or.inl rfl) | exact Or.inr (Or.inr rfl))) (se_non) (by rfl)) (sss_one (ss_ret (se_tupA (n := 2) (san_cons (se_var (by rfl) (by first | exact Or.inl rfl | exact Or.inr (Or.inl rfl) | exact Or.inr (Or.inr rfl))) (san_cons (se_var (by rfl) (by first | exact Or.inl rfl | exact Or.inr (Or.inl rfl) | exact Or.inr (Or.inr rfl))) (san_nil)))))) (sss_nil)) (sss_one (ss_for (passes_of rfl) rfl (si_any (se_fld (cs := [3]) (se_ix (by first | exact hu_of hr | (have zz := hu_of hr; exact zz)) (se_var (by rfl) (by first | exact Or.inl rfl | exact Or.inr (Or.inl rfl) | exact Or.inr (Or.inr rfl))) (se_var (by rfl) (by first | exact Or.inl rfl | exact Or.inr (Or.inl rfl) | exact Or.inr (Or.inr rfl)))) x.f_writes)) (sg_tup rfl (sgs_cons (sg_name (i := 5) sc_failure_in.nd (by rfl) (by first | exact Or.inl rfl | exact Or.inr rfl)) (sgs_cons (sg_name (i := 6) sc_failure_in.nd (by rfl) (by first | exact Or.inl rfl | exact Or.inr rfl)) (sgs_nil)))) (sss_one (ss_asg (se_fld (cs := [3]) (se_ix (by first | exact hu_of hr | (have zz := hu_of hr; exact zz)) (se_var (by rfl) (by first | exact Or.inl rfl | exact Or.inr (Or.inl rfl) | exact Or.inr (Or.inr rfl))) (se_var (by rfl) (by first | exact Or.inl rfl | exact Or.inr (Or.inl rfl) | exact Or.inr (Or.inr rfl)))) x.f_number) (sg_sub (by first | exact hu_of hr | (have zz := hu_of hr; exact zz)) (se_var (by rfl) (by first | exact Or.inl rfl | exact Or.inr (Or.inl rfl) | exact Or.inr (Or.inr rfl))) (se_var (by rfl) (by first | exact Or.inl rfl | exact Or.inr (Or.inl rfl) | exact Or.inr (Or.inr rfl))))))))))) (sss_one (ss_ret (se_non)))))
theorem fn_first_failure (x : Tx K mg) : FnM P w K mg base x.T 6 x.a_first_failure x.d_first_failure ["history", "order"] r_first_failure := fn_ok x.F_first_failure sc_first_failure fun cdv A outer s H E hr => sss_cons (ss_expr (se_call ((fn_demand_order x).mono (by decide)) hr (takes_of rfl rfl rfl rfl) (by rfl) x.g_demand_order x.F_demand_order.kp x.b_demand_order (san_cons (se_var (by rfl) (by first | exact Or.inl rfl | exact Or.inr (Or.inl rfl) | exact Or.inr (Or.inr rfl))) (san_cons (se_var (by rfl) (by first | exact Or.inl rfl | exact Or.inr (Or.inl rfl) | exact Or.inr (Or.inr rfl))) (san_nil))))) (sss_one (ss_ret (se_call ((fn_failure_in x).mono (by decide)) hr (takes_of rfl rfl rfl rfl) (by rfl) x.g_failure_in x.F_failure_in.kp x.b_failure_in (san_cons (se_var (by rfl) (by first | exact Or.inl rfl | exact Or.inr (Or.inl rfl) | exact Or.inr (Or.inr rfl))) (san_cons (se_var (by rfl) (by first | exact Or.inl rfl | exact Or.inr (Or.inl rfl) | exact Or.inr (Or.inr rfl))) (san_nil))))))
theorem fn_ties (x : Tx K mg) : FnM P w K mg base x.T 4 x.a_ties x.d_ties ["history"] r_ties := fn_ok x.F_ties sc_ties fun cdv A outer s H E hr => sss_cons (ss_expr (se_call ((fn_demand_history x).mono (by decide)) hr (takes_of rfl rfl rfl rfl) (by rfl) x.g_demand_history x.F_demand_history.kp x.b_demand_history (san_cons (se_var (by rfl) (by first | exact Or.inl rfl | exact Or.inr (Or.inl rfl) | exact Or.inr (Or.inr rfl))) (san_nil)))) (sss_one (ss_ret (se_comp2 (fz := true) (own := [("one", 1), ("others", 2), ("other", 3)]) (vs1 := [3]) (t := (.tup [1, 2])) (t1 := (.one 3)) rfl sc_ties.nd (si_enumA (by rfl) x.z_enumerate (SAn.run (san_cons (se_call ((fn_ways_of x).mono (by decide)) hr (takes_of rfl rfl rfl rfl) (by rfl) x.g_ways_of x.F_ways_of.kp x.b_ways_of (san_cons (se_var (by rfl) (by first | exact Or.inl rfl | exact Or.inr (Or.inl rfl) | exact Or.inr (Or.inr rfl))) (san_nil))) (san_nil)))) (blkOk_by (own := [("one", 1), ("others", 2), ("other", 3)]) (N := N_ties) (sc := (defScope s_ties)) (by decide +kernel)) (by decide) (by decide) (by decide) (fun _ _ _ _ _ => pg_tup rfl (pgs_cons (pg_name (i := 1) sc_ties.nd (by rfl) (by first | exact Or.inl rfl | exact Or.inr rfl)) (pgs_cons (pg_name (i := 2) sc_ties.nd (by rfl) (by first | exact Or.inl rfl | exact Or.inr rfl)) (pgs_nil)))) (fun _ _ _ _ _ => sig_list (se_var (by rfl) (by first | exact Or.inl rfl | exact Or.inr (Or.inl rfl) | exact Or.inr (Or.inr rfl)))) (fun _ _ _ _ _ => pg_name (i := 3) sc_ties.nd (by rfl) (by first | exact Or.inl rfl | exact Or.inr rfl)) (fun _ _ _ _ _ => se_tupA (n := 2) (san_cons (se_var (by rfl) (by first | exact Or.inl rfl | exact Or.inr (Or.inl rfl) | exact Or.inr (Or.inr rfl))) (san_cons (se_var (by rfl) (by first | exact Or.inl rfl | exact Or.inr (Or.inl rfl) | exact Or.inr (Or.inr rfl))) (san_nil)))))))
theorem fn_many_orders (x : Tx K mg) : FnM P w K mg base x.T 5 x.a_many_orders x.d_many_orders ["history"] r_many_orders := fn_ok x.F_many_orders sc_many_orders fun cdv A outer s H E hr => sss_cons (ss_expr (se_call ((fn_demand_history x).mono (by decide)) hr (takes_of rfl rfl rfl rfl) (by rfl) x.g_demand_history x.F_demand_history.kp x.b_demand_history (san_cons (se_var (by rfl) (by first | exact Or.inl rfl | exact Or.inr (Or.inl rfl) | exact Or.inr (Or.inr rfl))) (san_nil)))) (sss_cons (ss_if (st_cmp (opr_or op_gt op_gt_str) ok_cmpS (se_blt (CallR.or call_len call_lenD) okc_len (by rfl) x.z_len (by decide +kernel) (SAn.run (san_cons (se_var (by rfl) (by first | exact Or.inl rfl | exact Or.inr (Or.inl rfl) | exact Or.inr (Or.inr rfl))) (san_nil)))) (se_globI (by rfl) x.c_MOST_COUNTED ⟨_, rfl⟩) (by rfl)) (sss_one (ss_raise1 (c := 1) (f := "most") rfl (takes_of rfl rfl rfl rfl) x.xo_TooMany x.xn_TooMany x.xi_TooMany x.xt_TooMany (fnI_TooMany x) (Room.mono hr (by decide)) x.bI_TooMany (by rfl) x.gX_TooMany (san_cons (se_globI (by rfl) x.c_MOST_COUNTED ⟨_, rfl⟩) (san_nil)))) (sss_nil)) (sss_cons (ss_set (i := 1) sc_many_orders.nd (by rfl) (by first | exact Or.inl rfl | exact Or.inr rfl) (se_op (opr_or op_mul op_rep) (ok_mul (fz := false)) (se_lstA (fz := true) (n := 1) (san_cons (se_int) (san_nil))) (se_blt (CallR.or call_len call_lenD) okc_len (by rfl) x.z_len (by decide +kernel) (SAn.run (san_cons (se_var (by rfl) (by first | exact Or.inl rfl | exact Or.inr (Or.inl rfl) | exact Or.inr (Or.inr rfl))) (san_nil)))))) (sss_cons (ss_for (passes_of rfl) rfl (si_any (se_call ((fn_ties x).mono (by decide)) hr (takes_of rfl rfl rfl rfl) (by rfl) x.g_ties x.F_ties.kp x.b_ties (san_cons (se_var (by rfl) (by first | exact Or.inl rfl | exact Or.inr (Or.inl rfl) | exact Or.inr (Or.inr rfl))) (san_nil)))) (sg_tup rfl (sgs_cons (sg_name (i := 2) sc_many_orders.nd (by rfl) (by first | exact Or.inl rfl | exact Or.inr rfl)) (sgs_cons (sg_name (i := 3) sc_many_orders.nd (by rfl) (by first | exact Or.inl rfl | exact Or.inr rfl)) (sgs_nil)))) (sss_one (ss_augsub (f := (fun p q => Builtin.bitOr p q)) (se_var (by rfl) (by first | exact Or.inl rfl | exact Or.inr (Or.inl rfl) | exact Or.inr (Or.inr rfl))) (se_var (by rfl) (by first | exact Or.inl rfl | exact Or.inr (Or.inl rfl) | exact Or.inr (Or.inr rfl))) (se_op op_shl ok_shl (se_int) (se_var (by rfl) (by first | exact Or.inl rfl | exact Or.inr (Or.inl rfl) | exact Or.inr (Or.inr rfl)))) iop_or (fun _ _ _ _ h => ⟨_, _, rfl, rfl, h⟩)))) (sss_cons (ss_set (i := 4) sc_many_orders.nd (by rfl) (by first | exact Or.inl rfl | exact Or.inr rfl) (se_op op_shl ok_shl (se_int) (se_blt (CallR.or call_len call_lenD) okc_len (by rfl) x.z_len (by decide +kernel) (SAn.run (san_cons (se_var (by rfl) (by first | exact Or.inl rfl | exact Or.inr (Or.inl rfl) | exact Or.inr (Or.inr rfl))) (san_nil)))))) (sss_cons (ss_set (i := 5) sc_many_orders.nd (by rfl) (by first | exact Or.inl rfl | exact Or.inr rfl) (se_op (opr_or op_add (opr_or op_add_str (opr_or op_catA op_cat))) (ok_add (fz := false)) (se_lstA (fz := true) (n := 1) (san_cons (se_int) (san_nil))) (se_op (opr_or op_mul op_rep) (ok_mul (fz := true)) (se_lstA (fz := true) (n := 1) (san_cons (se_int) (san_nil))) (se_op op_sub ok_sub (se_var (by rfl) (by first | exact Or.inl rfl | exact Or.inr (Or.inl rfl) | exact Or.inr (Or.inr rfl))) (se_int))))) (sss_cons (ss_for (passes_of rfl) rfl (si_range1 (by rfl) x.z_range (SAn.run (san_cons (se_var (by rfl) (by first | exact Or.inl rfl | exact Or.inr (Or.inl rfl) | exact Or.inr (Or.inr rfl))) (san_nil)))) (sg_name (i := 6) sc_many_orders.nd (by rfl) (by first | exact Or.inl rfl | exact Or.inr rfl)) (sss_one (ss_for (passes_of rfl) rfl (si_enumA (by rfl) x.z_enumerate (SAn.run (san_cons (se_var (by rfl) (by first | exact Or.inl rfl | exact Or.inr (Or.inl rfl) | exact Or.inr (Or.inr rfl))) (san_nil)))) (sg_tup rfl (sgs_cons (sg_name (i := 7) sc_many_orders.nd (by rfl) (by first | exact Or.inl rfl | exact Or.inr rfl)) (sgs_cons (sg_name (i := 8) sc_many_orders.nd (by rfl) (by first | exact Or.inl rfl | exact Or.inr rfl)) (sgs_nil)))) (sss_one (ss_if (st_w (sw_and (st_cmp (opr_or op_eq (op_eqD hr.units)) ok_eq (se_op op_and ok_band (se_var (by rfl) (by first | exact Or.inl rfl | exact Or.inr (Or.inl rfl) | exact Or.inr (Or.inr rfl))) (se_op op_shl ok_shl (se_int) (se_var (by rfl) (by first | exact Or.inl rfl | exact Or.inr (Or.inl rfl) | exact Or.inr (Or.inr rfl))))) (se_int) (by rfl)) (sw_and1 (st_cmp (opr_or op_eq (op_eqD hr.units)) ok_eq (se_op op_and ok_band (se_var (by rfl) (by first | exact Or.inl rfl | exact Or.inr (Or.inl rfl) | exact Or.inr (Or.inr rfl))) (se_var (by rfl) (by first | exact Or.inl rfl | exact Or.inr (Or.inl rfl) | exact Or.inr (Or.inr rfl)))) (se_var (by rfl) (by first | exact Or.inl rfl | exact Or.inr (Or.inl rfl) | exact Or.inr (Or.inr rfl))) (by rfl))))) (sss_one (ss_augsub (f := (fun p q => p + q)) (se_var (by rfl) (by first | exact Or.inl rfl | exact Or.inr (Or.inl rfl) | exact Or.inr (Or.inr rfl))) (se_op op_or ok_bor (se_var (by rfl) (by first | exact Or.inl rfl | exact Or.inr (Or.inl rfl) | exact Or.inr (Or.inr rfl))) (se_op op_shl ok_shl (se_int) (se_var (by rfl) (by first | exact Or.inl rfl | exact Or.inr (Or.inl rfl) | exact Or.inr (Or.inr rfl))))) (se_ix (by first | exact hu_of hr | (have zz := hu_of hr; exact zz)) (se_var (by rfl) (by first | exact Or.inl rfl | exact Or.inr (Or.inl rfl) | exact Or.inr (Or.inr rfl))) (se_var (by rfl) (by first | exact Or.inl rfl | exact Or.inr (Or.inl rfl) | exact Or.inr (Or.inr rfl)))) ip_add (fun _ _ _ _ h => ⟨_, _, rfl, rfl, h⟩))) (sss_nil)))))) (sss_one (ss_ret (se_ix (by first | exact hu_of hr | (have zz := hu_of hr; exact zz)) (se_var (by rfl) (by first | exact Or.inl rfl | exact Or.inr (Or.inl rfl) | exact Or.inr (Or.inr rfl))) (se_neg (se_int)))))))))))
theorem fn_law_known_right (x : Tx K mg) : FnM P w K mg base x.T 11 x.a_law_known_right x.d_law_known_right ["x", "y"] r_law_known_right := fn_ok x.F_law_known_right sc_law_known_right fun cdv A outer s H E hr => sss_cons (ss_set (i := 2) sc_law_known_right.nd (by rfl) (by first | exact Or.inl rfl | exact Or.inr rfl) (se_call ((fn_law_made x).mono (by decide)) hr (takes_of rfl rfl rfl rfl) (by rfl) x.g_law_made x.F_law_made.kp x.b_law_made (san_cons (se_lstA (fz := true) (n := 2) (san_cons (se_tupA (n := 5) (san_cons (se_int) (san_cons (se_int) (san_cons (se_tupA (n := 1) (san_cons (se_var (by rfl) (by first | exact Or.inl rfl | exact Or.inr (Or.inl rfl) | exact Or.inr (Or.inr rfl))) (san_nil))) (san_cons (se_tupA (n := 0) (san_nil)) (san_cons (se_tupA (n := 1) (san_cons (se_tupA (n := 2) (san_cons (se_var (by rfl) (by first | exact Or.inl rfl | exact Or.inr (Or.inl rfl) | exact Or.inr (Or.inr rfl))) (san_cons (se_int) (san_nil)))) (san_nil))) (san_nil))))))) (san_cons (se_tupA (n := 5) (san_cons (se_int) (san_cons (se_int) (san_cons (se_tupA (n := 1) (san_cons (se_var (by rfl) (by first | exact Or.inl rfl | exact Or.inr (Or.inl rfl) | exact Or.inr (Or.inr rfl))) (san_nil))) (san_cons (se_tupA (n := 0) (san_nil)) (san_cons (se_tupA (n := 1) (san_cons (se_tupA (n := 2) (san_cons (se_var (by rfl) (by first | exact Or.inl rfl | exact Or.inr (Or.inl rfl) | exact Or.inr (Or.inr rfl))) (san_cons (se_int) (san_nil)))) (san_nil))) (san_nil))))))) (san_nil)))) (san_nil)))) (sss_cons (ss_if (st_w (sw_or (st_cmp (opr_or op_ne (op_neD hr.units)) ok_ne (se_call ((fn_ring x).mono (by decide)) hr (takes_of rfl rfl rfl rfl) (by rfl) x.g_ring x.F_ring.kp x.b_ring (san_cons (se_var (by rfl) (by first | exact Or.inl rfl | exact Or.inr (Or.inl rfl) | exact Or.inr (Or.inr rfl))) (san_nil))) (se_tupA (n := 2) (san_cons (se_int) (san_cons (se_int) (san_nil)))) (by rfl)) (sw_or (st_cmp (opr_or op_notN op_isNotF) ok_isnot (se_call ((fn_serial_order x).mono (by decide)) hr (takes_of rfl rfl rfl rfl) (by rfl) x.g_serial_order x.F_serial_order.kp x.b_serial_order (san_cons (se_var (by rfl) (by first | exact Or.inl rfl | exact Or.inr (Or.inl rfl) | exact Or.inr (Or.inr rfl))) (san_nil))) (se_non) (by rfl)) (sw_or1 (st_cmp (opr_or op_ne (op_neD hr.units)) ok_ne (se_call ((fn_lost_updates x).mono (by decide)) hr (takes_of rfl rfl rfl rfl) (by rfl) x.g_lost_updates x.F_lost_updates.kp x.b_lost_updates (san_cons (se_var (by rfl) (by first | exact Or.inl rfl | exact Or.inr (Or.inl rfl) | exact Or.inr (Or.inr rfl))) (san_nil))) (se_lstA (fz := true) (n := 0) (san_nil)) (by rfl)))))) (sss_one (ss_ret (se_bl))) (sss_nil)) (sss_cons (ss_if (st_w (sw_or (st_cmp (opr_or op_ne (op_neD hr.units)) ok_ne (se_call ((fn_first_failure x).mono (by decide)) hr (takes_of rfl rfl rfl rfl) (by rfl) x.g_first_failure x.F_first_failure.kp x.b_first_failure (san_cons (se_var (by rfl) (by first | exact Or.inl rfl | exact Or.inr (Or.inl rfl) | exact Or.inr (Or.inr rfl))) (san_cons (se_tupA (n := 2) (san_cons (se_int) (san_cons (se_int) (san_nil)))) (san_nil)))) (se_tupA (n := 2) (san_cons (se_int) (san_cons (se_var (by rfl) (by first | exact Or.inl rfl | exact Or.inr (Or.inl rfl) | exact Or.inr (Or.inr rfl))) (san_nil)))) (by rfl)) (sw_or (st_cmp (opr_or op_ne (op_neD hr.units)) ok_ne (se_call ((fn_first_failure x).mono (by decide)) hr (takes_of rfl rfl rfl rfl) (by rfl) x.g_first_failure x.F_first_failure.kp x.b_first_failure (san_cons (se_var (by rfl) (by first | exact Or.inl rfl | exact Or.inr (Or.inl rfl) | exact Or.inr (Or.inr rfl))) (san_cons (se_tupA (n := 2) (san_cons (se_int) (san_cons (se_int) (san_nil)))) (san_nil)))) (se_tupA (n := 2) (san_cons (se_int) (san_cons (se_var (by rfl) (by first | exact Or.inl rfl | exact Or.inr (Or.inl rfl) | exact Or.inr (Or.inr rfl))) (san_nil)))) (by rfl)) (sw_or1 (st_cmp (opr_or op_ne (op_neD hr.units)) ok_ne (se_call ((fn_many_orders x).mono (by decide)) hr (takes_of rfl rfl rfl rfl) (by rfl) x.g_many_orders x.F_many_orders.kp x.b_many_orders (san_cons (se_var (by rfl) (by first | exact Or.inl rfl | exact Or.inr (Or.inl rfl) | exact Or.inr (Or.inr rfl))) (san_nil))) (se_int) (by rfl)))))) (sss_one (ss_ret (se_bl))) (sss_nil)) (sss_cons (ss_set (i := 3) sc_law_known_right.nd (by rfl) (by first | exact Or.inl rfl | exact Or.inr rfl) (se_call ((fn_law_made x).mono (by decide)) hr (takes_of rfl rfl rfl rfl) (by rfl) x.g_law_made x.F_law_made.kp x.b_law_made (san_cons (se_lstA (fz := true) (n := 2) (san_cons (se_tupA (n := 5) (san_cons (se_int) (san_cons (se_int) (san_cons (se_tupA (n := 1) (san_cons (se_var (by rfl) (by first | exact Or.inl rfl | exact Or.inr (Or.inl rfl) | exact Or.inr (Or.inr rfl))) (san_nil))) (san_cons (se_tupA (n := 0) (san_nil)) (san_cons (se_tupA (n := 1) (san_cons (se_tupA (n := 2) (san_cons (se_var (by rfl) (by first | exact Or.inl rfl | exact Or.inr (Or.inl rfl) | exact Or.inr (Or.inr rfl))) (san_cons (se_int) (san_nil)))) (san_nil))) (san_nil))))))) (san_cons (se_tupA (n := 5) (san_cons (se_int) (san_cons (se_int) (san_cons (se_tupA (n := 1) (san_cons (se_var (by rfl) (by first | exact Or.inl rfl | exact Or.inr (Or.inl rfl) | exact Or.inr (Or.inr rfl))) (san_nil))) (san_cons (se_tupA (n := 0) (san_nil)) (san_cons (se_tupA (n := 1) (san_cons (se_tupA (n := 2) (san_cons (se_var (by rfl) (by first | exact Or.inl rfl | exact Or.inr (Or.inl rfl) | exact Or.inr (Or.inr rfl))) (san_cons (se_int) (san_nil)))) (san_nil))) (san_nil))))))) (san_nil)))) (san_nil)))) (sss_cons (ss_if (st_w (sw_or (st_cmp (opr_or op_ne (op_neD hr.units)) ok_ne (se_call ((fn_ring x).mono (by decide)) hr (takes_of rfl rfl rfl rfl) (by rfl) x.g_ring x.F_ring.kp x.b_ring (san_cons (se_var (by rfl) (by first | exact Or.inl rfl | exact Or.inr (Or.inl rfl) | exact Or.inr (Or.inr rfl))) (san_nil))) (se_tupA (n := 2) (san_cons (se_int) (san_cons (se_int) (san_nil)))) (by rfl)) (sw_or (st_cmp (opr_or op_ne (op_neD hr.units)) ok_ne (se_call ((fn_lost_updates x).mono (by decide)) hr (takes_of rfl rfl rfl rfl) (by rfl) x.g_lost_updates x.F_lost_updates.kp x.b_lost_updates (san_cons (se_var (by rfl) (by first | exact Or.inl rfl | exact Or.inr (Or.inl rfl) | exact Or.inr (Or.inr rfl))) (san_nil))) (se_lstA (fz := true) (n := 1) (san_cons (se_tupA (n := 2) (san_cons (se_int) (san_cons (se_int) (san_nil)))) (san_nil))) (by rfl)) (sw_or1 (st_cmp (opr_or op_ne (op_neD hr.units)) ok_ne (se_call ((fn_first_failure x).mono (by decide)) hr (takes_of rfl rfl rfl rfl) (by rfl) x.g_first_failure x.F_first_failure.kp x.b_first_failure (san_cons (se_var (by rfl) (by first | exact Or.inl rfl | exact Or.inr (Or.inl rfl) | exact Or.inr (Or.inr rfl))) (san_cons (se_tupA (n := 2) (san_cons (se_int) (san_cons (se_int) (san_nil)))) (san_nil)))) (se_tupA (n := 2) (san_cons (se_int) (san_cons (se_var (by rfl) (by first | exact Or.inl rfl | exact Or.inr (Or.inl rfl) | exact Or.inr (Or.inr rfl))) (san_nil)))) (by rfl)))))) (sss_one (ss_ret (se_bl))) (sss_nil)) (sss_cons (ss_set (i := 4) sc_law_known_right.nd (by rfl) (by first | exact Or.inl rfl | exact Or.inr rfl) (se_call ((fn_law_made x).mono (by decide)) hr (takes_of rfl rfl rfl rfl) (by rfl) x.g_law_made x.F_law_made.kp x.b_law_made (san_cons (se_lstA (fz := true) (n := 2) (san_cons (se_tupA (n := 5) (san_cons (se_int) (san_cons (se_int) (san_cons (se_tupA (n := 1) (san_cons (se_var (by rfl) (by first | exact Or.inl rfl | exact Or.inr (Or.inl rfl) | exact Or.inr (Or.inr rfl))) (san_nil))) (san_cons (se_tupA (n := 0) (san_nil)) (san_cons (se_tupA (n := 1) (san_cons (se_tupA (n := 2) (san_cons (se_var (by rfl) (by first | exact Or.inl rfl | exact Or.inr (Or.inl rfl) | exact Or.inr (Or.inr rfl))) (san_cons (se_int) (san_nil)))) (san_nil))) (san_nil))))))) (san_cons (se_tupA (n := 5) (san_cons (se_int) (san_cons (se_int) (san_cons (se_tupA (n := 0) (san_nil)) (san_cons (se_tupA (n := 0) (san_nil)) (san_cons (se_tupA (n := 1) (san_cons (se_tupA (n := 2) (san_cons (se_var (by rfl) (by first | exact Or.inl rfl | exact Or.inr (Or.inl rfl) | exact Or.inr (Or.inr rfl))) (san_cons (se_int) (san_nil)))) (san_nil))) (san_nil))))))) (san_nil)))) (san_nil)))) (sss_cons (ss_if (st_w (sw_or (st_cmp (opr_or op_notN op_isNotF) ok_isnot (se_call ((fn_ring x).mono (by decide)) hr (takes_of rfl rfl rfl rfl) (by rfl) x.g_ring x.F_ring.kp x.b_ring (san_cons (se_var (by rfl) (by first | exact Or.inl rfl | exact Or.inr (Or.inl rfl) | exact Or.inr (Or.inr rfl))) (san_nil))) (se_non) (by rfl)) (sw_or (st_cmp (opr_or op_ne (op_neD hr.units)) ok_ne (se_call ((fn_serial_order x).mono (by decide)) hr (takes_of rfl rfl rfl rfl) (by rfl) x.g_serial_order x.F_serial_order.kp x.b_serial_order (san_cons (se_var (by rfl) (by first | exact Or.inl rfl | exact Or.inr (Or.inl rfl) | exact Or.inr (Or.inr rfl))) (san_nil))) (se_tupA (n := 2) (san_cons (se_int) (san_cons (se_int) (san_nil)))) (by rfl)) (sw_or1 (st_cmp (opr_or op_ne (op_neD hr.units)) ok_ne (se_call ((fn_lost_updates x).mono (by decide)) hr (takes_of rfl rfl rfl rfl) (by rfl) x.g_lost_updates x.F_lost_updates.kp x.b_lost_updates (san_cons (se_var (by rfl) (by first | exact Or.inl rfl | exact Or.inr (Or.inl rfl) | exact Or.inr (Or.inr rfl))) (san_nil))) (se_lstA (fz := true) (n := 1) (san_cons (se_tupA (n := 2) (san_cons (se_int) (san_cons (se_int) (san_nil)))) (san_nil))) (by rfl)))))) (sss_one (ss_ret (se_bl))) (sss_nil)) (sss_cons (ss_set (i := 5) sc_law_known_right.nd (by rfl) (by first | exact Or.inl rfl | exact Or.inr rfl) (se_lstA (fz := true) (n := 2) (san_cons (se_tupA (n := 5) (san_cons (se_int) (san_cons (se_int) (san_cons (se_tupA (n := 1) (san_cons (se_var (by rfl) (by first | exact Or.inl rfl | exact Or.inr (Or.inl rfl) | exact Or.inr (Or.inr rfl))) (san_nil))) (san_cons (se_tupA (n := 0) (san_nil)) (san_cons (se_tupA (n := 1) (san_cons (se_tupA (n := 2) (san_cons (se_var (by rfl) (by first | exact Or.inl rfl | exact Or.inr (Or.inl rfl) | exact Or.inr (Or.inr rfl))) (san_cons (se_int) (san_nil)))) (san_nil))) (san_nil))))))) (san_cons (se_tupA (n := 5) (san_cons (se_int) (san_cons (se_non) (san_cons (se_tupA (n := 2) (san_cons (se_var (by rfl) (by first | exact Or.inl rfl | exact Or.inr (Or.inl rfl) | exact Or.inr (Or.inr rfl))) (san_cons (se_var (by rfl) (by first | exact Or.inl rfl | exact Or.inr (Or.inl rfl) | exact Or.inr (Or.inr rfl))) (san_nil)))) (san_cons (se_tupA (n := 0) (san_nil)) (san_cons (se_tupA (n := 0) (san_nil)) (san_nil))))))) (san_nil))))) (sss_cons (ss_if (st_w (sw_or (st_cmp (opr_or op_ne (op_neD hr.units)) ok_ne (se_call ((fn_serial_order x).mono (by decide)) hr (takes_of rfl rfl rfl rfl) (by rfl) x.g_serial_order x.F_serial_order.kp x.b_serial_order (san_cons (se_call ((fn_law_made x).mono (by decide)) hr (takes_of rfl rfl rfl rfl) (by rfl) x.g_law_made x.F_law_made.kp x.b_law_made (san_cons (se_var (by rfl) (by first | exact Or.inl rfl | exact Or.inr (Or.inl rfl) | exact Or.inr (Or.inr rfl))) (san_nil))) (san_nil))) (se_tupA (n := 2) (san_cons (se_int) (san_cons (se_int) (san_nil)))) (by rfl)) (sw_or1 (st_cmp (opr_or op_ne (op_neD hr.units)) ok_ne (se_call ((fn_many_orders x).mono (by decide)) hr (takes_of rfl rfl rfl rfl) (by rfl) x.g_many_orders x.F_many_orders.kp x.b_many_orders (san_cons (se_call ((fn_law_made x).mono (by decide)) hr (takes_of rfl rfl rfl rfl) (by rfl) x.g_law_made x.F_law_made.kp x.b_law_made (san_cons (se_var (by rfl) (by first | exact Or.inl rfl | exact Or.inr (Or.inl rfl) | exact Or.inr (Or.inr rfl))) (san_nil))) (san_nil))) (se_int) (by rfl))))) (sss_one (ss_ret (se_bl))) (sss_nil)) (sss_cons (ss_set (i := 6) sc_law_known_right.nd (by rfl) (by first | exact Or.inl rfl | exact Or.inr rfl) (se_op (opr_or op_add (opr_or op_add_str (opr_or op_catA op_cat))) (ok_add (fz := true)) (se_var (by rfl) (by first | exact Or.inl rfl | exact Or.inr (Or.inl rfl) | exact Or.inr (Or.inr rfl))) (se_lstA (fz := true) (n := 1) (san_cons (se_tupA (n := 5) (san_cons (se_int) (san_cons (se_int) (san_cons (se_tupA (n := 2) (san_cons (se_var (by rfl) (by first | exact Or.inl rfl | exact Or.inr (Or.inl rfl) | exact Or.inr (Or.inr rfl))) (san_cons (se_var (by rfl) (by first | exact Or.inl rfl | exact Or.inr (Or.inl rfl) | exact Or.inr (Or.inr rfl))) (san_nil)))) (san_cons (se_tupA (n := 0) (san_nil)) (san_cons (se_tupA (n := 1) (san_cons (se_tupA (n := 2) (san_cons (se_var (by rfl) (by first | exact Or.inl rfl | exact Or.inr (Or.inl rfl) | exact Or.inr (Or.inr rfl))) (san_cons (se_int) (san_nil)))) (san_nil))) (san_nil))))))) (san_nil))))) (sss_cons (ss_if (st_w (sw_or (st_cmp (opr_or op_ne (op_neD hr.units)) ok_ne (se_call ((fn_ring x).mono (by decide)) hr (takes_of rfl rfl rfl rfl) (by rfl) x.g_ring x.F_ring.kp x.b_ring (san_cons (se_call ((fn_law_made x).mono (by decide)) hr (takes_of rfl rfl rfl rfl) (by rfl) x.g_law_made x.F_law_made.kp x.b_law_made (san_cons (se_var (by rfl) (by first | exact Or.inl rfl | exact Or.inr (Or.inl rfl) | exact Or.inr (Or.inr rfl))) (san_nil))) (san_nil))) (se_tupA (n := 3) (san_cons (se_int) (san_cons (se_int) (san_cons (se_int) (san_nil))))) (by rfl)) (sw_or1 (st_cmp (opr_or op_notN op_isNotF) ok_isnot (se_call ((fn_serial_order x).mono (by decide)) hr (takes_of rfl rfl rfl rfl) (by rfl) x.g_serial_order x.F_serial_order.kp x.b_serial_order (san_cons (se_call ((fn_law_made x).mono (by decide)) hr (takes_of rfl rfl rfl rfl) (by rfl) x.g_law_made x.F_law_made.kp x.b_law_made (san_cons (se_var (by rfl) (by first | exact Or.inl rfl | exact Or.inr (Or.inl rfl) | exact Or.inr (Or.inr rfl))) (san_nil))) (san_nil))) (se_non) (by rfl))))) (sss_one (ss_ret (se_bl))) (sss_nil)) (sss_cons (ss_set (i := 7) sc_law_known_right.nd (by rfl) (by first | exact Or.inl rfl | exact Or.inr rfl) (se_lstA (fz := true) (n := 2) (san_cons (se_tupA (n := 5) (san_cons (se_int) (san_cons (se_int) (san_cons (se_tupA (n := 0) (san_nil)) (san_cons (se_tupA (n := 0) (san_nil)) (san_cons (se_tupA (n := 1) (san_cons (se_tupA (n := 2) (san_cons (se_var (by rfl) (by first | exact Or.inl rfl | exact Or.inr (Or.inl rfl) | exact Or.inr (Or.inr rfl))) (san_cons (se_int) (san_nil)))) (san_nil))) (san_nil))))))) (san_cons (se_tupA (n := 5) (san_cons (se_int) (san_cons (se_non) (san_cons (se_tupA (n := 1) (san_cons (se_var (by rfl) (by first | exact Or.inl rfl | exact Or.inr (Or.inl rfl) | exact Or.inr (Or.inr rfl))) (san_nil))) (san_cons (se_tupA (n := 0) (san_nil)) (san_cons (se_tupA (n := 0) (san_nil)) (san_nil))))))) (san_nil))))) (sss_one (ss_ret (se_and (se_bB (se_cmp (opr_or op_eq (op_eqD hr.units)) ok_eq (se_call ((fn_serial_order x).mono (by decide)) hr (takes_of rfl rfl rfl rfl) (by rfl) x.g_serial_order x.F_serial_order.kp x.b_serial_order (san_cons (se_call ((fn_law_made x).mono (by decide)) hr (takes_of rfl rfl rfl rfl) (by rfl) x.g_law_made x.F_law_made.kp x.b_law_made (san_cons (se_var (by rfl) (by first | exact Or.inl rfl | exact Or.inr (Or.inl rfl) | exact Or.inr (Or.inr rfl))) (san_nil))) (san_nil))) (se_tupA (n := 2) (san_cons (se_int) (san_cons (se_int) (san_nil)))) (by rfl))) (se_and1 (se_bB (se_cmp (opr_or op_eq (op_eqD hr.units)) ok_eq (se_call ((fn_first_failure x).mono (by decide)) hr (takes_of rfl rfl rfl rfl) (by rfl) x.g_first_failure x.F_first_failure.kp x.b_first_failure (san_cons (se_call ((fn_law_made x).mono (by decide)) hr (takes_of rfl rfl rfl rfl) (by rfl) x.g_law_made x.F_law_made.kp x.b_law_made (san_cons (se_var (by rfl) (by first | exact Or.inl rfl | exact Or.inr (Or.inl rfl) | exact Or.inr (Or.inr rfl))) (san_nil))) (san_cons (se_tupA (n := 2) (san_cons (se_int) (san_cons (se_int) (san_nil)))) (san_nil)))) (se_tupA (n := 2) (san_cons (se_int) (san_cons (se_var (by rfl) (by first | exact Or.inl rfl | exact Or.inr (Or.inl rfl) | exact Or.inr (Or.inr rfl))) (san_nil)))) (by rfl))))))))))))))))))
theorem fn_law_some (x : Tx K mg) : FnM P w K mg base x.T 2 x.a_law_some x.d_law_some ["hand", "things", "most"] r_law_some := fn_ok x.F_law_some sc_law_some fun cdv A outer s H E hr => sss_cons (ss_set (i := 3) sc_law_some.nd (by rfl) (by first | exact Or.inl rfl | exact Or.inr rfl) (se_lstA (fz := false) (n := 0) (san_nil))) (sss_cons (ss_for (passes_of rfl) rfl (si_range1 (by rfl) x.z_range (SAn.run (san_cons (se_call ((fn_law_draw x).mono (by decide)) hr (takes_of rfl rfl rfl rfl) (by rfl) x.g_law_draw x.F_law_draw.kp x.b_law_draw (san_cons (se_var (by rfl) (by first | exact Or.inl rfl | exact Or.inr (Or.inl rfl) | exact Or.inr (Or.inr rfl))) (san_cons (se_op (opr_or op_add (opr_or op_add_str (opr_or op_catA op_cat))) (ok_add (fz := true)) (se_var (by rfl) (by first | exact Or.inl rfl | exact Or.inr (Or.inl rfl) | exact Or.inr (Or.inr rfl))) (se_int)) (san_nil)))) (san_nil)))) (sg_name (i := 4) sc_law_some.nd (by rfl) (by first | exact Or.inl rfl | exact Or.inr rfl)) (sss_one (ss_expr (se_lm PySem.F.slot_list_append PySem.F.type_list_append mt_append okm_append (se_var (by rfl) (by first | exact Or.inl rfl | exact Or.inr (Or.inl rfl) | exact Or.inr (Or.inr rfl))) (SAn.run (san_cons (se_ix (by first | exact hu_of hr | (have zz := hu_of hr; exact zz)) (se_var (by rfl) (by first | exact Or.inl rfl | exact Or.inr (Or.inl rfl) | exact Or.inr (Or.inr rfl))) (se_call ((fn_law_draw x).mono (by decide)) hr (takes_of rfl rfl rfl rfl) (by rfl) x.g_law_draw x.F_law_draw.kp x.b_law_draw (san_cons (se_var (by rfl) (by first | exact Or.inl rfl | exact Or.inr (Or.inl rfl) | exact Or.inr (Or.inr rfl))) (san_cons (se_blt (CallR.or call_len call_lenD) okc_len (by rfl) x.z_len (by decide +kernel) (SAn.run (san_cons (se_var (by rfl) (by first | exact Or.inl rfl | exact Or.inr (Or.inl rfl) | exact Or.inr (Or.inr rfl))) (san_nil)))) (san_nil))))) (san_nil))))))) (sss_one (ss_ret (se_bty call_tuple_of okc_tuple (by rfl) x.z_tuple (by decide +kernel) (SAn.run (san_cons (se_sortsetS (fz := true) rfl (Nat.lt_of_succ_lt (units65 hr)) (by rfl) x.z_sorted (by decide +kernel) (by rfl) x.z_set (by decide +kernel) (se_var (by rfl) (by first | exact Or.inl rfl | exact Or.inr (Or.inl rfl) | exact Or.inr (Or.inr rfl)))) (san_nil)))))))
theorem fn_law_range (x : Tx K mg) : FnM P w K mg base x.T 3 x.a_law_range x.d_law_range ["hand", "keys"] r_law_range := fn_ok x.F_law_range sc_law_range fun cdv A outer s H E hr => sss_cons (ss_asg (se_blt (CallR.or (CallR.or cr_sortedI (call_sortedDI rfl)) cr_sortedS) (okc_sortedX (fz := true)) (by rfl) x.z_sorted (by decide +kernel) (SAn.run (san_cons (se_lstA (fz := true) (n := 2) (san_cons (se_ix (by first | exact hu_of hr | (have zz := hu_of hr; exact zz)) (se_var (by rfl) (by first | exact Or.inl rfl | exact Or.inr (Or.inl rfl) | exact Or.inr (Or.inr rfl))) (se_call ((fn_law_draw x).mono (by decide)) hr (takes_of rfl rfl rfl rfl) (by rfl) x.g_law_draw x.F_law_draw.kp x.b_law_draw (san_cons (se_var (by rfl) (by first | exact Or.inl rfl | exact Or.inr (Or.inl rfl) | exact Or.inr (Or.inr rfl))) (san_cons (se_blt (CallR.or call_len call_lenD) okc_len (by rfl) x.z_len (by decide +kernel) (SAn.run (san_cons (se_var (by rfl) (by first | exact Or.inl rfl | exact Or.inr (Or.inl rfl) | exact Or.inr (Or.inr rfl))) (san_nil)))) (san_nil))))) (san_cons (se_ix (by first | exact hu_of hr | (have zz := hu_of hr; exact zz)) (se_var (by rfl) (by first | exact Or.inl rfl | exact Or.inr (Or.inl rfl) | exact Or.inr (Or.inr rfl))) (se_call ((fn_law_draw x).mono (by decide)) hr (takes_of rfl rfl rfl rfl) (by rfl) x.g_law_draw x.F_law_draw.kp x.b_law_draw (san_cons (se_var (by rfl) (by first | exact Or.inl rfl | exact Or.inr (Or.inl rfl) | exact Or.inr (Or.inr rfl))) (san_cons (se_blt (CallR.or call_len call_lenD) okc_len (by rfl) x.z_len (by decide +kernel) (SAn.run (san_cons (se_var (by rfl) (by first | exact Or.inl rfl | exact Or.inr (Or.inl rfl) | exact Or.inr (Or.inr rfl))) (san_nil)))) (san_nil))))) (san_nil)))) (san_nil)))) (sg_lst rfl (sgs_cons (sg_name (i := 2) sc_law_range.nd (by rfl) (by first | exact Or.inl rfl | exact Or.inr rfl)) (sgs_cons (sg_name (i := 3) sc_law_range.nd (by rfl) (by first | exact Or.inl rfl | exact Or.inr rfl)) (sgs_nil))))) (sss_cons (ss_set (i := 4) sc_law_range.nd (by rfl) (by first | exact Or.inl rfl | exact Or.inr rfl) (se_bty call_tuple_of okc_tuple (by rfl) x.z_tuple (by decide +kernel) (SAn.run (san_cons (se_comp (fz := true) (own := [("key", 5)]) (t := (.one 5)) rfl sc_law_range.nd (si_any (se_call ((fn_law_some x).mono (by decide)) hr (takes_of rfl rfl rfl rfl) (by rfl) x.g_law_some x.F_law_some.kp x.b_law_some (san_cons (se_var (by rfl) (by first | exact Or.inl rfl | exact Or.inr (Or.inl rfl) | exact Or.inr (Or.inr rfl))) (san_cons (se_var (by rfl) (by first | exact Or.inl rfl | exact Or.inr (Or.inl rfl) | exact Or.inr (Or.inr rfl))) (san_cons (se_int) (san_nil)))))) (blkOk_by (own := [("key", 5)]) (N := N_law_range) (sc := (defScope s_law_range)) (by decide +kernel)) (by decide) (fun _ _ _ _ _ => pg_name (i := 5) sc_law_range.nd (by rfl) (by first | exact Or.inl rfl | exact Or.inr rfl)) (.inr ⟨_, rfl, fun _ _ _ _ _ => st_chain (opr_or op_le op_le_str) ok_cmpS (opr_or op_le op_le_str) ok_cmpS (se_var (by rfl) (by first | exact Or.inl rfl | exact Or.inr (Or.inl rfl) | exact Or.inr (Or.inr rfl))) (se_var (by rfl) (by first | exact Or.inl rfl | exact Or.inr (Or.inl rfl) | exact Or.inr (Or.inr rfl))) (se_var (by rfl) (by first | exact Or.inl rfl | exact Or.inr (Or.inl rfl) | exact Or.inr (Or.inr rfl)))⟩) (fun _ _ _ _ _ => se_var (by rfl) (by first | exact Or.inl rfl | exact Or.inr (Or.inl rfl) | exact Or.inr (Or.inr rfl)))) (san_nil))))) (sss_one (ss_ret (se_tupA (n := 3) (san_cons (se_var (by rfl) (by first | exact Or.inl rfl | exact Or.inr (Or.inl rfl) | exact Or.inr (Or.inr rfl))) (san_cons (se_var (by rfl) (by first | exact Or.inl rfl | exact Or.inr (Or.inl rfl) | exact Or.inr (Or.inr rfl))) (san_cons (se_var (by rfl) (by first | exact Or.inl rfl | exact Or.inr (Or.inl rfl) | exact Or.inr (Or.inr rfl))) (san_nil))))))))
theorem fn_law_seen (x : Tx K mg) : FnM P w K mg base x.T 4 x.a_law_seen x.d_law_seen ["hand", "keys"] r_law_seen := fn_ok x.F_law_seen sc_law_seen fun cdv A outer s H E hr => sss_cons (ss_comp (fz := true) (i := 2) (own := [("turn", 3)]) (t := (.one 3)) rfl sc_law_seen.nd (by rfl) (by rfl) (sw_true rfl rfl rfl (by decide +kernel)) (si_range1 (by rfl) x.z_range (SAn.run (san_cons (se_blt (call_max2 rfl) okc_max2 (by rfl) x.z_max (by decide +kernel) (SAn.run (san_cons (se_int) (san_cons (se_op op_sub ok_sub (se_call ((fn_law_draw x).mono (by decide)) hr (takes_of rfl rfl rfl rfl) (by rfl) x.g_law_draw x.F_law_draw.kp x.b_law_draw (san_cons (se_var (by rfl) (by first | exact Or.inl rfl | exact Or.inr (Or.inl rfl) | exact Or.inr (Or.inr rfl))) (san_cons (se_int) (san_nil)))) (se_int)) (san_nil))))) (san_nil)))) (blkOk_by (own := [("turn", 3)]) (N := N_law_seen) (sc := (defScope s_law_seen)) (by decide +kernel)) (by decide) (fun _ _ _ _ _ => pg_name (i := 3) sc_law_seen.nd (by rfl) (by first | exact Or.inl rfl | exact Or.inr rfl)) (.inl ⟨rfl, rfl⟩) (fun _ _ _ _ _ => se_call ((fn_law_range x).mono (by decide)) hr takes0 (by rfl) x.g_law_range x.F_law_range.kp x.b_law_range (san_cons (se_var (by rfl) (by first | exact Or.inl rfl | exact Or.inr (Or.inl rfl) | exact Or.inr (Or.inr rfl))) (san_cons (se_var (by rfl) (by first | exact Or.inl rfl | exact Or.inr (Or.inl rfl) | exact Or.inr (Or.inr rfl))) (san_nil))))) (sss_one (ss_ret (se_tupA (n := 2) (san_cons (se_call ((fn_law_some x).mono (by decide)) hr (takes_of rfl rfl rfl rfl) (by rfl) x.g_law_some x.F_law_some.kp x.b_law_some (san_cons (se_var (by rfl) (by first | exact Or.inl rfl | exact Or.inr (Or.inl rfl) | exact Or.inr (Or.inr rfl))) (san_cons (se_var (by rfl) (by first | exact Or.inl rfl | exact Or.inr (Or.inl rfl) | exact Or.inr (Or.inr rfl))) (san_cons (se_int) (san_nil))))) (san_cons (se_bty call_tuple_of okc_tuple (by rfl) x.z_tuple (by decide +kernel) (SAn.run (san_cons (se_sortsetR (fz := true) rfl (Nat.lt_of_succ_lt (units65 hr)) (by rfl) x.z_sorted (by decide +kernel) (by rfl) x.z_set (by decide +kernel) (se_var (by rfl) (by first | exact Or.inl rfl | exact Or.inr (Or.inl rfl) | exact Or.inr (Or.inr rfl)))) (san_nil)))) (san_nil))))))
theorem fn_law_writes (x : Tx K mg) : FnM P w K mg base x.T 3 x.a_law_writes x.d_law_writes ["hand", "keys", "most"] r_law_writes := fn_ok x.F_law_writes sc_law_writes fun cdv A outer s H E hr => sss_cons (ss_set (i := 3) sc_law_writes.nd (by rfl) (by first | exact Or.inl rfl | exact Or.inr rfl) (se_lstA (fz := false) (n := 0) (san_nil))) (sss_cons (ss_for (passes_of rfl) rfl (si_any (se_call ((fn_law_some x).mono (by decide)) hr (takes_of rfl rfl rfl rfl) (by rfl) x.g_law_some x.F_law_some.kp x.b_law_some (san_cons (se_var (by rfl) (by first | exact Or.inl rfl | exact Or.inr (Or.inl rfl) | exact Or.inr (Or.inr rfl))) (san_cons (se_var (by rfl) (by first | exact Or.inl rfl | exact Or.inr (Or.inl rfl) | exact Or.inr (Or.inr rfl))) (san_cons (se_var (by rfl) (by first | exact Or.inl rfl | exact Or.inr (Or.inl rfl) | exact Or.inr (Or.inr rfl))) (san_nil)))))) (sg_name (i := 4) sc_law_writes.nd (by rfl) (by first | exact Or.inl rfl | exact Or.inr rfl)) (sss_one (ss_expr (se_lm PySem.F.slot_list_append PySem.F.type_list_append mt_append okm_append (se_var (by rfl) (by first | exact Or.inl rfl | exact Or.inr (Or.inl rfl) | exact Or.inr (Or.inr rfl))) (SAn.run (san_cons (se_tupA (n := 2) (san_cons (se_var (by rfl) (by first | exact Or.inl rfl | exact Or.inr (Or.inl rfl) | exact Or.inr (Or.inr rfl))) (san_cons (se_ix (by first | exact hu_of hr | (have zz := hu_of hr; exact zz)) (se_lstA (fz := true) (n := 5) (san_cons (se_non) (san_cons (se_int) (san_cons (se_int) (san_cons (se_neg (se_int)) (san_cons (se_op op_pow ok_pow (se_int) (se_int)) (san_nil))))))) (se_call ((fn_law_draw x).mono (by decide)) hr (takes_of rfl rfl rfl rfl) (by rfl) x.g_law_draw x.F_law_draw.kp x.b_law_draw (san_cons (se_var (by rfl) (by first | exact Or.inl rfl | exact Or.inr (Or.inl rfl) | exact Or.inr (Or.inr rfl))) (san_cons (se_int) (san_nil))))) (san_nil)))) (san_nil))))))) (sss_one (ss_ret (se_bty call_tuple_of okc_tuple (by rfl) x.z_tuple (by decide +kernel) (SAn.run (san_cons (se_var (by rfl) (by first | exact Or.inl rfl | exact Or.inr (Or.inl rfl) | exact Or.inr (Or.inr rfl))) (san_nil)))))))
theorem fn_law_history (x : Tx K mg) : FnM P w K mg base x.T 5 x.a_law_history x.d_law_history ["hand", "most", "keys", "lag"] r_law_history := fn_ok x.F_law_history sc_law_history fun cdv A outer s H E hr => sss_cons (ss_par rfl sc_law_history.nd (by rfl) (by rfl) (by decide) (by rfl) (by rfl) (se_lstA (fz := false) (n := 0) (san_nil)) (se_int) (by rfl)) (sss_cons (ss_for (passes_of rfl) rfl (si_range1 (by rfl) x.z_range (SAn.run (san_cons (se_call ((fn_law_draw x).mono (by decide)) hr (takes_of rfl rfl rfl rfl) (by rfl) x.g_law_draw x.F_law_draw.kp x.b_law_draw (san_cons (se_var (by rfl) (by first | exact Or.inl rfl | exact Or.inr (Or.inl rfl) | exact Or.inr (Or.inr rfl))) (san_cons (se_op (opr_or op_add (opr_or op_add_str (opr_or op_catA op_cat))) (ok_add (fz := true)) (se_var (by rfl) (by first | exact Or.inl rfl | exact Or.inr (Or.inl rfl) | exact Or.inr (Or.inr rfl))) (se_int)) (san_nil)))) (san_nil)))) (sg_name (i := 6) sc_law_history.nd (by rfl) (by first | exact Or.inl rfl | exact Or.inr rfl)) (sss_cons (ss_set (i := 7) sc_law_history.nd (by rfl) (by first | exact Or.inl rfl | exact Or.inr rfl) (se_blt (call_max2 rfl) okc_max2 (by rfl) x.z_max (by decide +kernel) (SAn.run (san_cons (se_int) (san_cons (se_op op_sub ok_sub (se_var (by rfl) (by first | exact Or.inl rfl | exact Or.inr (Or.inl rfl) | exact Or.inr (Or.inr rfl))) (se_call ((fn_law_draw x).mono (by decide)) hr (takes_of rfl rfl rfl rfl) (by rfl) x.g_law_draw x.F_law_draw.kp x.b_law_draw (san_cons (se_var (by rfl) (by first | exact Or.inl rfl | exact Or.inr (Or.inl rfl) | exact Or.inr (Or.inr rfl))) (san_cons (se_op (opr_or op_add (opr_or op_add_str (opr_or op_catA op_cat))) (ok_add (fz := true)) (se_var (by rfl) (by first | exact Or.inl rfl | exact Or.inr (Or.inl rfl) | exact Or.inr (Or.inr rfl))) (se_int)) (san_nil))))) (san_nil)))))) (sss_cons (ss_asg (se_call ((fn_law_seen x).mono (by decide)) hr (takes_of rfl rfl rfl rfl) (by rfl) x.g_law_seen x.F_law_seen.kp x.b_law_seen (san_cons (se_var (by rfl) (by first | exact Or.inl rfl | exact Or.inr (Or.inl rfl) | exact Or.inr (Or.inr rfl))) (san_cons (se_var (by rfl) (by first | exact Or.inl rfl | exact Or.inr (Or.inl rfl) | exact Or.inr (Or.inr rfl))) (san_nil)))) (sg_tup rfl (sgs_cons (sg_name (i := 8) sc_law_history.nd (by rfl) (by first | exact Or.inl rfl | exact Or.inr rfl)) (sgs_cons (sg_name (i := 9) sc_law_history.nd (by rfl) (by first | exact Or.inl rfl | exact Or.inr rfl)) (sgs_nil))))) (sss_cons (ss_set (i := 10) sc_law_history.nd (by rfl) (by first | exact Or.inl rfl | exact Or.inr rfl) (se_call ((fn_law_writes x).mono (by decide)) hr (takes_of rfl rfl rfl rfl) (by rfl) x.g_law_writes x.F_law_writes.kp x.b_law_writes (san_cons (se_var (by rfl) (by first | exact Or.inl rfl | exact Or.inr (Or.inl rfl) | exact Or.inr (Or.inr rfl))) (san_cons (se_var (by rfl) (by first | exact Or.inl rfl | exact Or.inr (Or.inl rfl) | exact Or.inr (Or.inr rfl))) (san_cons (se_int) (san_nil)))))) (sss_cons (ss_set (i := 11) sc_law_history.nd (by rfl) (by first | exact Or.inl rfl | exact Or.inr rfl) (se_ifx (st_cmp (opr_or op_gt op_gt_str) ok_cmpS (se_blt (CallR.or call_len call_lenD) okc_len (by rfl) x.z_len (by decide +kernel) (SAn.run (san_cons (se_var (by rfl) (by first | exact Or.inl rfl | exact Or.inr (Or.inl rfl) | exact Or.inr (Or.inr rfl))) (san_nil)))) (se_int) (by rfl)) (se_op (opr_or op_add (opr_or op_add_str (opr_or op_catA op_cat))) (ok_add (fz := true)) (se_var (by rfl) (by first | exact Or.inl rfl | exact Or.inr (Or.inl rfl) | exact Or.inr (Or.inr rfl))) (se_int)) (se_non))) (sss_cons (ss_expr (se_lm PySem.F.slot_list_append PySem.F.type_list_append mt_append okm_append (se_var (by rfl) (by first | exact Or.inl rfl | exact Or.inr (Or.inl rfl) | exact Or.inr (Or.inr rfl))) (SAn.run (san_cons (se_tupA (n := 5) (san_cons (se_var (by rfl) (by first | exact Or.inl rfl | exact Or.inr (Or.inl rfl) | exact Or.inr (Or.inr rfl))) (san_cons (se_var (by rfl) (by first | exact Or.inl rfl | exact Or.inr (Or.inl rfl) | exact Or.inr (Or.inr rfl))) (san_cons (se_var (by rfl) (by first | exact Or.inl rfl | exact Or.inr (Or.inl rfl) | exact Or.inr (Or.inr rfl))) (san_cons (se_var (by rfl) (by first | exact Or.inl rfl | exact Or.inr (Or.inl rfl) | exact Or.inr (Or.inr rfl))) (san_cons (se_var (by rfl) (by first | exact Or.inl rfl | exact Or.inr (Or.inl rfl) | exact Or.inr (Or.inr rfl))) (san_nil))))))) (san_nil))))) (sss_one (ss_set (i := 5) sc_law_history.nd (by rfl) (by first | exact Or.inl rfl | exact Or.inr rfl) (se_op (opr_or op_add (opr_or op_add_str (opr_or op_catA op_cat))) (ok_add (fz := true)) (se_var (by rfl) (by first | exact Or.inl rfl | exact Or.inr (Or.inl rfl) | exact Or.inr (Or.inr rfl))) (se_bty call_int1 okc_int (by rfl) x.z_int (by decide +kernel) (SAn.run (san_cons (se_cmp (opr_or op_notN op_isNotF) ok_isnot (se_var (by rfl) (by first | exact Or.inl rfl | exact Or.inr (Or.inl rfl) | exact Or.inr (Or.inr rfl))) (se_non) (by rfl)) (san_nil))))))))))))) (sss_one (ss_ret (se_var (by rfl) (by first | exact Or.inl rfl | exact Or.inr (Or.inl rfl) | exact Or.inr (Or.inr rfl))))))
theorem fn_law_keys (x : Tx K mg) : FnM P w K mg base x.T 1 x.a_law_keys x.d_law_keys [] r_law_keys := fn_ok x.F_law_keys sc_law_keys fun cdv A outer s H E hr => sss_one (ss_ret (se_lstA (fz := true) (n := 6) (san_cons (se_str) (san_cons (se_str) (san_cons (se_str) (san_cons (se_str) (san_cons (se_str) (san_cons (se_str) (san_nil)))))))))
theorem fn_law_wrote (x : Tx K mg) : FnM P w K mg base x.T 1 x.a_law_wrote x.d_law_wrote ["part"] r_law_wrote := fn_ok x.F_law_wrote sc_law_wrote fun cdv A outer s H E hr => sss_one (ss_ret (se_comp (fz := true) (own := [("key", 1), ("worth", 2)]) (t := (.tup [1, 2])) rfl sc_law_wrote.nd (si_any (se_ix (by first | exact hu_of hr | (have zz := hu_of hr; exact zz)) (se_var (by rfl) (by first | exact Or.inl rfl | exact Or.inr (Or.inl rfl) | exact Or.inr (Or.inr rfl))) (se_int))) (blkOk_by (own := [("key", 1), ("worth", 2)]) (N := N_law_wrote) (sc := (defScope s_law_wrote)) (by decide +kernel)) (by decide) (fun _ _ _ _ _ => pg_tup rfl (pgs_cons (pg_name (i := 1) sc_law_wrote.nd (by rfl) (by first | exact Or.inl rfl | exact Or.inr rfl)) (pgs_cons (pg_name (i := 2) sc_law_wrote.nd (by rfl) (by first | exact Or.inl rfl | exact Or.inr rfl)) (pgs_nil)))) (.inl ⟨rfl, rfl⟩) (fun _ _ _ _ _ => se_var (by rfl) (by first | exact Or.inl rfl | exact Or.inr (Or.inl rfl) | exact Or.inr (Or.inr rfl)))))
theorem fn_law_lost (x : Tx K mg) : FnM P w K mg base x.T 2 x.a_law_lost x.d_law_lost ["parts"] r_law_lost := fn_ok x.F_law_lost sc_law_lost fun cdv A outer s H E hr => sss_cons (ss_set (i := 1) sc_law_lost.nd (by rfl) (by first | exact Or.inl rfl | exact Or.inr rfl) (se_lstA (fz := false) (n := 0) (san_nil))) (sss_cons (ss_for (passes_of rfl) rfl (si_range1 (by rfl) x.z_range (SAn.run (san_cons (se_blt (CallR.or call_len call_lenD) okc_len (by rfl) x.z_len (by decide +kernel) (SAn.run (san_cons (se_var (by rfl) (by first | exact Or.inl rfl | exact Or.inr (Or.inl rfl) | exact Or.inr (Or.inr rfl))) (san_nil)))) (san_nil)))) (sg_name (i := 2) sc_law_lost.nd (by rfl) (by first | exact Or.inl rfl | exact Or.inr rfl)) (sss_one (ss_for (passes_of rfl) rfl (si_range1 (by rfl) x.z_range (SAn.run (san_cons (se_blt (CallR.or call_len call_lenD) okc_len (by rfl) x.z_len (by decide +kernel) (SAn.run (san_cons (se_var (by rfl) (by first | exact Or.inl rfl | exact Or.inr (Or.inl rfl) | exact Or.inr (Or.inr rfl))) (san_nil)))) (san_nil)))) (sg_name (i := 3) sc_law_lost.nd (by rfl) (by first | exact Or.inl rfl | exact Or.inr rfl)) (sss_one (ss_if (st_w (sw_and (st_cmp (opr_or op_notN op_isNotF) ok_isnot (se_ix (by first | exact hu_of hr | (have zz := hu_of hr; exact zz)) (se_ix (by first | exact hu_of hr | (have zz := hu_of hr; exact zz)) (se_var (by rfl) (by first | exact Or.inl rfl | exact Or.inr (Or.inl rfl) | exact Or.inr (Or.inr rfl))) (se_var (by rfl) (by first | exact Or.inl rfl | exact Or.inr (Or.inl rfl) | exact Or.inr (Or.inr rfl)))) (se_int)) (se_non) (by rfl)) (sw_and (st_cmp (opr_or op_notN op_isNotF) ok_isnot (se_ix (by first | exact hu_of hr | (have zz := hu_of hr; exact zz)) (se_ix (by first | exact hu_of hr | (have zz := hu_of hr; exact zz)) (se_var (by rfl) (by first | exact Or.inl rfl | exact Or.inr (Or.inl rfl) | exact Or.inr (Or.inr rfl))) (se_var (by rfl) (by first | exact Or.inl rfl | exact Or.inr (Or.inl rfl) | exact Or.inr (Or.inr rfl)))) (se_int)) (se_non) (by rfl)) (sw_and1 (st_cmp (opr_or op_lt op_lt_str) ok_cmpS (se_ix (by first | exact hu_of hr | (have zz := hu_of hr; exact zz)) (se_ix (by first | exact hu_of hr | (have zz := hu_of hr; exact zz)) (se_var (by rfl) (by first | exact Or.inl rfl | exact Or.inr (Or.inl rfl) | exact Or.inr (Or.inr rfl))) (se_var (by rfl) (by first | exact Or.inl rfl | exact Or.inr (Or.inl rfl) | exact Or.inr (Or.inr rfl)))) (se_int)) (se_ix (by first | exact hu_of hr | (have zz := hu_of hr; exact zz)) (se_ix (by first | exact hu_of hr | (have zz := hu_of hr; exact zz)) (se_var (by rfl) (by first | exact Or.inl rfl | exact Or.inr (Or.inl rfl) | exact Or.inr (Or.inr rfl))) (se_var (by rfl) (by first | exact Or.inl rfl | exact Or.inr (Or.inl rfl) | exact Or.inr (Or.inr rfl)))) (se_int)) (by rfl)))))) (sss_cons (ss_comp (fz := true) (i := 4) (own := [("key", 5)]) (t := (.one 5)) rfl sc_law_lost.nd (by rfl) (by rfl) (sw_true rfl rfl rfl (by decide +kernel)) (si_any (se_call ((fn_law_wrote x).mono (by decide)) hr (takes_of rfl rfl rfl rfl) (by rfl) x.g_law_wrote x.F_law_wrote.kp x.b_law_wrote (san_cons (se_ix (by first | exact hu_of hr | (have zz := hu_of hr; exact zz)) (se_var (by rfl) (by first | exact Or.inl rfl | exact Or.inr (Or.inl rfl) | exact Or.inr (Or.inr rfl))) (se_var (by rfl) (by first | exact Or.inl rfl | exact Or.inr (Or.inl rfl) | exact Or.inr (Or.inr rfl)))) (san_nil)))) (blkOk_by (own := [("key", 5)]) (N := N_law_lost) (sc := (defScope s_law_lost)) (by decide +kernel)) (by decide) (fun _ _ _ _ _ => pg_name (i := 5) sc_law_lost.nd (by rfl) (by first | exact Or.inl rfl | exact Or.inr rfl)) (.inr ⟨_, rfl, fun _ _ _ _ _ => st_cmp (opr_or op_in_seq op_in_sign) (ok_in (neg := false)) (se_var (by rfl) (by first | exact Or.inl rfl | exact Or.inr (Or.inl rfl) | exact Or.inr (Or.inr rfl))) (se_call ((fn_law_wrote x).mono (by decide)) hr takes0 (by rfl) x.g_law_wrote x.F_law_wrote.kp x.b_law_wrote (san_cons (se_ix (by first | exact hu_of hr | (have zz := hu_of hr; exact zz)) (se_var (by rfl) (by first | exact Or.inl rfl | exact Or.inr (Or.inl rfl) | exact Or.inr (Or.inr rfl))) (se_var (by rfl) (by first | exact Or.inl rfl | exact Or.inr (Or.inl rfl) | exact Or.inr (Or.inr rfl)))) (san_nil))) (by rfl)⟩) (fun _ _ _ _ _ => se_var (by rfl) (by first | exact Or.inl rfl | exact Or.inr (Or.inl rfl) | exact Or.inr (Or.inr rfl)))) (sss_one (ss_if (st_w (sw_and (st_cmp (opr_or op_gt op_gt_str) ok_cmpS (se_blt (CallR.or call_len call_lenD) okc_len (by rfl) x.z_len (by decide +kernel) (SAn.run (san_cons (se_var (by rfl) (by first | exact Or.inl rfl | exact Or.inr (Or.inl rfl) | exact Or.inr (Or.inr rfl))) (san_nil)))) (se_int) (by rfl)) (sw_and1 (st_cmp (opr_or op_gt op_gt_str) ok_cmpS (se_ix (by first | exact hu_of hr | (have zz := hu_of hr; exact zz)) (se_ix (by first | exact hu_of hr | (have zz := hu_of hr; exact zz)) (se_var (by rfl) (by first | exact Or.inl rfl | exact Or.inr (Or.inl rfl) | exact Or.inr (Or.inr rfl))) (se_var (by rfl) (by first | exact Or.inl rfl | exact Or.inr (Or.inl rfl) | exact Or.inr (Or.inr rfl)))) (se_int)) (se_ix (by first | exact hu_of hr | (have zz := hu_of hr; exact zz)) (se_ix (by first | exact hu_of hr | (have zz := hu_of hr; exact zz)) (se_var (by rfl) (by first | exact Or.inl rfl | exact Or.inr (Or.inl rfl) | exact Or.inr (Or.inr rfl))) (se_var (by rfl) (by first | exact Or.inl rfl | exact Or.inr (Or.inl rfl) | exact Or.inr (Or.inr rfl)))) (se_int)) (by rfl))))) (sss_one (ss_expr (se_lm PySem.F.slot_list_append PySem.F.type_list_append mt_append okm_append (se_var (by rfl) (by first | exact Or.inl rfl | exact Or.inr (Or.inl rfl) | exact Or.inr (Or.inr rfl))) (SAn.run (san_cons (se_tupA (n := 2) (san_cons (se_var (by rfl) (by first | exact Or.inl rfl | exact Or.inr (Or.inl rfl) | exact Or.inr (Or.inr rfl))) (san_cons (se_var (by rfl) (by first | exact Or.inl rfl | exact Or.inr (Or.inl rfl) | exact Or.inr (Or.inr rfl))) (san_nil)))) (san_nil)))))) (sss_nil)))) (sss_nil)))))) (sss_one (ss_ret (se_blt cr_sortPT (okc_sortedPP (fz := true)) (by rfl) x.z_sorted (by decide +kernel) (SAn.run (san_cons (se_var (by rfl) (by first | exact Or.inl rfl | exact Or.inr (Or.inl rfl) | exact Or.inr (Or.inr rfl))) (san_nil)))))))
theorem fn_law (x : Tx K mg) : FnM P w K mg base x.T 12 x.a_law x.d_law ["script"] r_law := fn_ok x.F_law sc_law fun cdv A outer s H E hr => sss_cons (ss_set (i := 1) sc_law.nd (by rfl) (by first | exact Or.inl rfl | exact Or.inr rfl) (se_call ((fn_law_hand x).mono (by decide)) hr (takes_of rfl rfl rfl rfl) (by rfl) x.g_law_hand x.F_law_hand.kp x.b_law_hand (san_cons (se_var (by rfl) (by first | exact Or.inl rfl | exact Or.inr (Or.inl rfl) | exact Or.inr (Or.inr rfl))) (san_nil)))) (sss_cons (ss_set (i := 2) sc_law.nd (by rfl) (by first | exact Or.inl rfl | exact Or.inr rfl) (se_ix (by first | exact hu_of hr | (have zz := hu_of hr; exact zz)) (se_lstA (fz := true) (n := 4) (san_cons (se_lstA (fz := true) (n := 2) (san_cons (se_str) (san_cons (se_str) (san_nil)))) (san_cons (se_lstA (fz := true) (n := 2) (san_cons (se_str) (san_cons (se_str) (san_nil)))) (san_cons (se_lstA (fz := true) (n := 2) (san_cons (se_str) (san_cons (se_str) (san_nil)))) (san_cons (se_lstA (fz := true) (n := 2) (san_cons (se_str) (san_cons (se_str) (san_nil)))) (san_nil)))))) (se_call ((fn_law_draw x).mono (by decide)) hr (takes_of rfl rfl rfl rfl) (by rfl) x.g_law_draw x.F_law_draw.kp x.b_law_draw (san_cons (se_var (by rfl) (by first | exact Or.inl rfl | exact Or.inr (Or.inl rfl) | exact Or.inr (Or.inr rfl))) (san_cons (se_int) (san_nil)))))) (sss_cons (ss_if (st_not (st_tr (se_gc (se_call ((fn_law_known_right x).mono (by decide)) hr (takes_of rfl rfl rfl rfl) (by rfl) x.g_law_known_right x.F_law_known_right.kp x.b_law_known_right (san_cons (se_ix (by first | exact hu_of hr | (have zz := hu_of hr; exact zz)) (se_var (by rfl) (by first | exact Or.inl rfl | exact Or.inr (Or.inl rfl) | exact Or.inr (Or.inr rfl))) (se_int)) (san_cons (se_ix (by first | exact hu_of hr | (have zz := hu_of hr; exact zz)) (se_var (by rfl) (by first | exact Or.inl rfl | exact Or.inr (Or.inl rfl) | exact Or.inr (Or.inr rfl))) (se_int)) (san_nil))))))) (sss_one (ss_ret (se_bl))) (sss_nil)) (sss_cons (ss_asg (se_ix (by first | exact hu_of hr | (have zz := hu_of hr; exact zz)) (se_lstA (fz := true) (n := 3) (san_cons (se_tupA (n := 2) (san_cons (se_str) (san_cons (se_str) (san_nil)))) (san_cons (se_tupA (n := 2) (san_cons (se_str) (san_cons (se_str) (san_nil)))) (san_cons (se_tupA (n := 2) (san_cons (se_str) (san_cons (se_str) (san_nil)))) (san_nil))))) (se_call ((fn_law_draw x).mono (by decide)) hr (takes_of rfl rfl rfl rfl) (by rfl) x.g_law_draw x.F_law_draw.kp x.b_law_draw (san_cons (se_var (by rfl) (by first | exact Or.inl rfl | exact Or.inr (Or.inl rfl) | exact Or.inr (Or.inr rfl))) (san_cons (se_int) (san_nil))))) (sg_tup rfl (sgs_cons (sg_name (i := 3) sc_law.nd (by rfl) (by first | exact Or.inl rfl | exact Or.inr rfl)) (sgs_cons (sg_name (i := 4) sc_law.nd (by rfl) (by first | exact Or.inl rfl | exact Or.inr rfl)) (sgs_nil))))) (sss_bothN 4 (sss_gc (is := [5, 0]) (sss_cons (ss_set (i := 5) sc_law.nd (by rfl) (by first | exact Or.inl rfl | exact Or.inr rfl) (se_lstA (fz := false) (n := 2) (san_cons (se_tupA (n := 5) (san_cons (se_int) (san_cons (se_int) (san_cons (se_tupA (n := 0) (san_nil)) (san_cons (se_tupA (n := 1) (san_cons (se_tupA (n := 3) (san_cons (se_var (by rfl) (by first | exact Or.inl rfl | exact Or.inr (Or.inl rfl) | exact Or.inr (Or.inr rfl))) (san_cons (se_var (by rfl) (by first | exact Or.inl rfl | exact Or.inr (Or.inl rfl) | exact Or.inr (Or.inr rfl))) (san_cons (se_tupA (n := 0) (san_nil)) (san_nil))))) (san_nil))) (san_cons (se_tupA (n := 1) (san_cons (se_tupA (n := 2) (san_cons (se_str) (san_cons (se_int) (san_nil)))) (san_nil))) (san_nil))))))) (san_cons (se_tupA (n := 5) (san_cons (se_int) (san_cons (se_int) (san_cons (se_tupA (n := 1) (san_cons (se_str) (san_nil))) (san_cons (se_tupA (n := 0) (san_nil)) (san_cons (se_tupA (n := 1) (san_cons (se_tupA (n := 2) (san_cons (se_var (by rfl) (by first | exact Or.inl rfl | exact Or.inr (Or.inl rfl) | exact Or.inr (Or.inr rfl))) (san_cons (se_int) (san_nil)))) (san_nil))) (san_nil))))))) (san_nil))))) (sss_cons (ss_if (st_cmp (opr_or op_ne (op_neD hr.units)) ok_ne (se_call ((fn_ring x).mono (by decide)) hr (takes_of rfl rfl rfl rfl) (by rfl) x.g_ring x.F_ring.kp x.b_ring (san_cons (se_call ((fn_law_made x).mono (by decide)) hr (takes_of rfl rfl rfl rfl) (by rfl) x.g_law_made x.F_law_made.kp x.b_law_made (san_cons (se_var (by rfl) (by first | exact Or.inl rfl | exact Or.inr (Or.inl rfl) | exact Or.inr (Or.inr rfl))) (san_nil))) (san_nil))) (se_tupA (n := 2) (san_cons (se_int) (san_cons (se_int) (san_nil)))) (by rfl)) (sss_one (ss_ret (se_bl))) (sss_nil)) (sss_cons (ss_asg (se_tupA (n := 5) (san_cons (se_int) (san_cons (se_int) (san_cons (se_tupA (n := 0) (san_nil)) (san_cons (se_tupA (n := 1) (san_cons (se_tupA (n := 3) (san_cons (se_var (by rfl) (by first | exact Or.inl rfl | exact Or.inr (Or.inl rfl) | exact Or.inr (Or.inr rfl))) (san_cons (se_var (by rfl) (by first | exact Or.inl rfl | exact Or.inr (Or.inl rfl) | exact Or.inr (Or.inr rfl))) (san_cons (se_tupA (n := 1) (san_cons (se_var (by rfl) (by first | exact Or.inl rfl | exact Or.inr (Or.inl rfl) | exact Or.inr (Or.inr rfl))) (san_nil))) (san_nil))))) (san_nil))) (san_cons (se_tupA (n := 1) (san_cons (se_tupA (n := 2) (san_cons (se_str) (san_cons (se_int) (san_nil)))) (san_nil))) (san_nil))))))) (sg_sub (by first | exact hu_of hr | (have zz := hu_of hr; exact zz)) (se_var (by rfl) (by first | exact Or.inl rfl | exact Or.inr (Or.inl rfl) | exact Or.inr (Or.inr rfl))) (se_int))) (sss_one (ss_if (st_w (sw_or (st_cmp (opr_or op_notN op_isNotF) ok_isnot (se_call ((fn_ring x).mono (by decide)) hr (takes_of rfl rfl rfl rfl) (by rfl) x.g_ring x.F_ring.kp x.b_ring (san_cons (se_call ((fn_law_made x).mono (by decide)) hr (takes_of rfl rfl rfl rfl) (by rfl) x.g_law_made x.F_law_made.kp x.b_law_made (san_cons (se_var (by rfl) (by first | exact Or.inl rfl | exact Or.inr (Or.inl rfl) | exact Or.inr (Or.inr rfl))) (san_nil))) (san_nil))) (se_non) (by rfl)) (sw_or1 (st_cmp (opr_or op_ne (op_neD hr.units)) ok_ne (se_call ((fn_serial_order x).mono (by decide)) hr (takes_of rfl rfl rfl rfl) (by rfl) x.g_serial_order x.F_serial_order.kp x.b_serial_order (san_cons (se_call ((fn_law_made x).mono (by decide)) hr (takes_of rfl rfl rfl rfl) (by rfl) x.g_law_made x.F_law_made.kp x.b_law_made (san_cons (se_var (by rfl) (by first | exact Or.inl rfl | exact Or.inr (Or.inl rfl) | exact Or.inr (Or.inr rfl))) (san_nil))) (san_nil))) (se_tupA (n := 2) (san_cons (se_int) (san_cons (se_int) (san_nil)))) (by rfl))))) (sss_one (ss_ret (se_bl))) (sss_nil))))))) (sss_cons (ss_set (i := 6) sc_law.nd (by rfl) (by first | exact Or.inl rfl | exact Or.inr rfl) (se_call ((fn_law_history x).mono (by decide)) hr (takes_of rfl rfl rfl rfl) (by rfl) x.g_law_history x.F_law_history.kp x.b_law_history (san_cons (se_var (by rfl) (by first | exact Or.inl rfl | exact Or.inr (Or.inl rfl) | exact Or.inr (Or.inr rfl))) (san_cons (se_int) (san_cons (se_sl (fz := true) (se_call0 ((fn_law_keys x).mono (by decide)) hr (takes_of rfl rfl rfl rfl) (by rfl) x.g_law_keys x.F_law_keys.kp x.b_law_keys) (sp_none) (sp_some (se_op (opr_or op_add (opr_or op_add_str (opr_or op_catA op_cat))) (ok_add (fz := true)) (se_int) (se_call ((fn_law_draw x).mono (by decide)) hr (takes_of rfl rfl rfl rfl) (by rfl) x.g_law_draw x.F_law_draw.kp x.b_law_draw (san_cons (se_var (by rfl) (by first | exact Or.inl rfl | exact Or.inr (Or.inl rfl) | exact Or.inr (Or.inr rfl))) (san_cons (se_int) (san_nil))))))) (san_cons (se_int) (san_nil))))))) (sss_one (ss_ret (se_cmp (opr_or op_eq (op_eqD hr.units)) ok_eq (se_call ((fn_lost_updates x).mono (by decide)) hr (takes_of rfl rfl rfl rfl) (by rfl) x.g_lost_updates x.F_lost_updates.kp x.b_lost_updates (san_cons (se_call ((fn_law_made x).mono (by decide)) hr (takes_of rfl rfl rfl rfl) (by rfl) x.g_law_made x.F_law_made.kp x.b_law_made (san_cons (se_var (by rfl) (by first | exact Or.inl rfl | exact Or.inr (Or.inl rfl) | exact Or.inr (Or.inr rfl))) (san_nil))) (san_nil))) (se_call ((fn_law_lost x).mono (by decide)) hr (takes_of rfl rfl rfl rfl) (by rfl) x.g_law_lost x.F_law_lost.kp x.b_law_lost (san_cons (se_var (by rfl) (by first | exact Or.inl rfl | exact Or.inr (Or.inl rfl) | exact Or.inr (Or.inr rfl))) (san_nil))) (by rfl)))))))))
end
/-! the end -/
theorem all_mk {w : World} {K : PySem.W.Frag} {h : Heap} {mg : Str → Option Value} {fa : Addr} (X : K.In h) (G : h.Ns mainGlobals mg) (hfa : mg "law" = some (.ref fa))
    {C_NoOrder : Addr}
    {C_TooMany : Addr}
    {C_BadHistory : Addr}
    {C_Dealing : Addr}
    {C_BadDealing : Addr}
    {C_StoreError : Addr}
    {f0 : Addr} {od0 an0 : Option Addr} {sl0 : Array (Option Value)} {oc0 kV0 dc0 pm0 cd0 ct0 : Value}
    {f1 : Addr} {od1 an1 : Option Addr} {sl1 : Array (Option Value)} {oc1 kV1 dc1 pm1 cd1 ct1 : Value}
    {f2 : Addr} {od2 an2 : Option Addr} {sl2 : Array (Option Value)} {oc2 kV2 dc2 pm2 cd2 ct2 : Value}
    {f3 : Addr} {od3 an3 : Option Addr} {sl3 : Array (Option Value)} {oc3 kV3 dc3 pm3 cd3 ct3 : Value}
    {f4 : Addr} {od4 an4 : Option Addr} {sl4 : Array (Option Value)} {oc4 kV4 dc4 pm4 cd4 ct4 : Value}
    {f5 : Addr} {od5 an5 : Option Addr} {sl5 : Array (Option Value)} {oc5 kV5 dc5 pm5 cd5 ct5 : Value}
    {f6 : Addr} {od6 an6 : Option Addr} {sl6 : Array (Option Value)} {oc6 kV6 dc6 pm6 cd6 ct6 : Value}
    {f7 : Addr} {od7 an7 : Option Addr} {sl7 : Array (Option Value)} {oc7 kV7 dc7 pm7 cd7 ct7 : Value}
    {f8 : Addr} {od8 an8 : Option Addr} {sl8 : Array (Option Value)} {oc8 kV8 dc8 pm8 cd8 ct8 : Value}
    {f9 : Addr} {od9 an9 : Option Addr} {sl9 : Array (Option Value)} {oc9 kV9 dc9 pm9 cd9 ct9 : Value}
    {f10 : Addr} {od10 an10 : Option Addr} {sl10 : Array (Option Value)} {oc10 kV10 dc10 pm10 cd10 ct10 : Value}
    {f11 : Addr} {od11 an11 : Option Addr} {sl11 : Array (Option Value)} {oc11 kV11 dc11 pm11 cd11 ct11 : Value}
    {f12 : Addr} {od12 an12 : Option Addr} {sl12 : Array (Option Value)} {oc12 kV12 dc12 pm12 cd12 ct12 : Value}
    {f13 : Addr} {od13 an13 : Option Addr} {sl13 : Array (Option Value)} {oc13 kV13 dc13 pm13 cd13 ct13 : Value}
    {f14 : Addr} {od14 an14 : Option Addr} {sl14 : Array (Option Value)} {oc14 kV14 dc14 pm14 cd14 ct14 : Value}
    {f15 : Addr} {od15 an15 : Option Addr} {sl15 : Array (Option Value)} {oc15 kV15 dc15 pm15 cd15 ct15 : Value}
    {f16 : Addr} {od16 an16 : Option Addr} {sl16 : Array (Option Value)} {oc16 kV16 dc16 pm16 cd16 ct16 : Value}
    {f17 : Addr} {od17 an17 : Option Addr} {sl17 : Array (Option Value)} {oc17 kV17 dc17 pm17 cd17 ct17 : Value}
    {f18 : Addr} {od18 an18 : Option Addr} {sl18 : Array (Option Value)} {oc18 kV18 dc18 pm18 cd18 ct18 : Value}
    {f19 : Addr} {od19 an19 : Option Addr} {sl19 : Array (Option Value)} {oc19 kV19 dc19 pm19 cd19 ct19 : Value}
    {f20 : Addr} {od20 an20 : Option Addr} {sl20 : Array (Option Value)} {oc20 kV20 dc20 pm20 cd20 ct20 : Value}
    {f21 : Addr} {od21 an21 : Option Addr} {sl21 : Array (Option Value)} {oc21 kV21 dc21 pm21 cd21 ct21 : Value}
    {f22 : Addr} {od22 an22 : Option Addr} {sl22 : Array (Option Value)} {oc22 kV22 dc22 pm22 cd22 ct22 : Value}
    {f23 : Addr} {od23 an23 : Option Addr} {sl23 : Array (Option Value)} {oc23 kV23 dc23 pm23 cd23 ct23 : Value}
    {f24 : Addr} {od24 an24 : Option Addr} {sl24 : Array (Option Value)} {oc24 kV24 dc24 pm24 cd24 ct24 : Value}
    {f25 : Addr} {od25 an25 : Option Addr} {sl25 : Array (Option Value)} {oc25 kV25 dc25 pm25 cd25 ct25 : Value}
    {f26 : Addr} {od26 an26 : Option Addr} {sl26 : Array (Option Value)} {oc26 kV26 dc26 pm26 cd26 ct26 : Value}
    {f27 : Addr} {od27 an27 : Option Addr} {sl27 : Array (Option Value)} {oc27 kV27 dc27 pm27 cd27 ct27 : Value}
    {f28 : Addr} {od28 an28 : Option Addr} {sl28 : Array (Option Value)} {oc28 kV28 dc28 pm28 cd28 ct28 : Value}
    {f29 : Addr} {od29 an29 : Option Addr} {sl29 : Array (Option Value)} {oc29 kV29 dc29 pm29 cd29 ct29 : Value}
    {f30 : Addr} {od30 an30 : Option Addr} {sl30 : Array (Option Value)} {oc30 kV30 dc30 pm30 cd30 ct30 : Value}
    {f31 : Addr} {od31 an31 : Option Addr} {sl31 : Array (Option Value)} {oc31 kV31 dc31 pm31 cd31 ct31 : Value}
    {f32 : Addr} {od32 an32 : Option Addr} {sl32 : Array (Option Value)} {oc32 kV32 dc32 pm32 cd32 ct32 : Value}
    {f33 : Addr} {od33 an33 : Option Addr} {sl33 : Array (Option Value)} {oc33 kV33 dc33 pm33 cd33 ct33 : Value}
    {f34 : Addr} {od34 an34 : Option Addr} {sl34 : Array (Option Value)} {oc34 kV34 dc34 pm34 cd34 ct34 : Value}
    {f35 : Addr} {od35 an35 : Option Addr} {sl35 : Array (Option Value)} {oc35 kV35 dc35 pm35 cd35 ct35 : Value}
    {f36 : Addr} {od36 an36 : Option Addr} {sl36 : Array (Option Value)} {oc36 kV36 dc36 pm36 cd36 ct36 : Value}
    {f37 : Addr} {od37 an37 : Option Addr} {sl37 : Array (Option Value)} {oc37 kV37 dc37 pm37 cd37 ct37 : Value}
    {f38 : Addr} {od38 an38 : Option Addr} {sl38 : Array (Option Value)} {oc38 kV38 dc38 pm38 cd38 ct38 : Value}
    {f39 : Addr} {od39 an39 : Option Addr} {sl39 : Array (Option Value)} {oc39 kV39 dc39 pm39 cd39 ct39 : Value}
    {f40 : Addr} {od40 an40 : Option Addr} {sl40 : Array (Option Value)} {oc40 kV40 dc40 pm40 cd40 ct40 : Value}
    {f41 : Addr} {od41 an41 : Option Addr} {sl41 : Array (Option Value)} {oc41 kV41 dc41 pm41 cd41 ct41 : Value}
    {f42 : Addr} {od42 an42 : Option Addr} {sl42 : Array (Option Value)} {oc42 kV42 dc42 pm42 cd42 ct42 : Value}
    {f43 : Addr} {od43 an43 : Option Addr} {sl43 : Array (Option Value)} {oc43 kV43 dc43 pm43 cd43 ct43 : Value}
    {f44 : Addr} {od44 an44 : Option Addr} {sl44 : Array (Option Value)} {oc44 kV44 dc44 pm44 cd44 ct44 : Value}
    {f45 : Addr} {od45 an45 : Option Addr} {sl45 : Array (Option Value)} {oc45 kV45 dc45 pm45 cd45 ct45 : Value}
    {f46 : Addr} {od46 an46 : Option Addr} {sl46 : Array (Option Value)} {oc46 kV46 dc46 pm46 cd46 ct46 : Value}
    {f47 : Addr} {od47 an47 : Option Addr} {sl47 : Array (Option Value)} {oc47 kV47 dc47 pm47 cd47 ct47 : Value}
    {f48 : Addr} {od48 an48 : Option Addr} {sl48 : Array (Option Value)} {oc48 kV48 dc48 pm48 cd48 ct48 : Value}
    {f49 : Addr} {od49 an49 : Option Addr} {sl49 : Array (Option Value)} {oc49 kV49 dc49 pm49 cd49 ct49 : Value}
    {f50 : Addr} {od50 an50 : Option Addr} {sl50 : Array (Option Value)} {oc50 kV50 dc50 pm50 cd50 ct50 : Value}
    {f51 : Addr} {od51 an51 : Option Addr} {sl51 : Array (Option Value)} {oc51 kV51 dc51 pm51 cd51 ct51 : Value}
    {fI_TooMany : Addr} {odI_TooMany anI_TooMany : Option Addr} {slI_TooMany : Array (Option Value)} {ocI_TooMany kVI_TooMany dcI_TooMany pmI_TooMany cdI_TooMany ctI_TooMany : Value}
    {t_GREATEST : Tok}
    {t_LONGEST_WORD : Tok}
    {t_MOST_COUNTED : Tok}
    {t_MOST_DEALINGS : Tok}
    (aC_NoOrder : PySem.W.nsIn K mainGlobals "NoOrder" = some (some (.ref C_NoOrder)))
    (aC_TooMany : PySem.W.nsIn K mainGlobals "TooMany" = some (some (.ref C_TooMany)))
    (aC_BadHistory : PySem.W.nsIn K mainGlobals "BadHistory" = some (some (.ref C_BadHistory)))
    (aC_Dealing : PySem.W.nsIn K mainGlobals "Dealing" = some (some (.ref C_Dealing)))
    (aC_BadDealing : PySem.W.nsIn K mainGlobals "BadDealing" = some (some (.ref C_BadDealing)))
    (aC_StoreError : PySem.W.nsIn K mainGlobals "StoreError" = some (some (.ref C_StoreError)))
    (a0 : PySem.W.nsIn K mainGlobals "_law_hand" = some (some (.ref f0)))
    (l0 : K.lookup f0 = some ⟨oc0, od0, .func (PySem.W.fnOf "_law_hand" "_law_hand" (defArgs s_law_hand) (defBody s_law_hand) (defScope s_law_hand) .none kV0 dc0 pm0 an0 cd0 ct0), sl0⟩)
    (c0 : PySem.W.codeIn K cd0 "_law_hand" = true)
    (k0 : PySem.W.keepIn K (.ref f0) = true)
    (a1 : PySem.W.nsIn K mainGlobals "_law_draw" = some (some (.ref f1)))
    (l1 : K.lookup f1 = some ⟨oc1, od1, .func (PySem.W.fnOf "_law_draw" "_law_draw" (defArgs s_law_draw) (defBody s_law_draw) (defScope s_law_draw) .none kV1 dc1 pm1 an1 cd1 ct1), sl1⟩)
    (c1 : PySem.W.codeIn K cd1 "_law_draw" = true)
    (k1 : PySem.W.keepIn K (.ref f1) = true)
    (a2 : PySem.W.nsIn K mainGlobals "is_integer" = some (some (.ref f2)))
    (l2 : K.lookup f2 = some ⟨oc2, od2, .func (PySem.W.fnOf "is_integer" "is_integer" (defArgs s_is_integer) (defBody s_is_integer) (defScope s_is_integer) .none kV2 dc2 pm2 an2 cd2 ct2), sl2⟩)
    (c2 : PySem.W.codeIn K cd2 "is_integer" = true)
    (k2 : PySem.W.keepIn K (.ref f2) = true)
    (a3 : PySem.W.nsIn K mainGlobals "is_number" = some (some (.ref f3)))
    (l3 : K.lookup f3 = some ⟨oc3, od3, .func (PySem.W.fnOf "is_number" "is_number" (defArgs s_is_number) (defBody s_is_number) (defScope s_is_number) .none kV3 dc3 pm3 an3 cd3 ct3), sl3⟩)
    (c3 : PySem.W.codeIn K cd3 "is_number" = true)
    (k3 : PySem.W.keepIn K (.ref f3) = true)
    (a4 : PySem.W.nsIn K mainGlobals "is_number_for" = some (some (.ref f4)))
    (l4 : K.lookup f4 = some ⟨oc4, od4, .func (PySem.W.fnOf "is_number_for" "is_number_for" (defArgs s_is_number_for) (defBody s_is_number_for) (defScope s_is_number_for) .none kV4 dc4 pm4 an4 cd4 ct4), sl4⟩)
    (c4 : PySem.W.codeIn K cd4 "is_number_for" = true)
    (k4 : PySem.W.keepIn K (.ref f4) = true)
    (a5 : PySem.W.nsIn K mainGlobals "is_word" = some (some (.ref f5)))
    (l5 : K.lookup f5 = some ⟨oc5, od5, .func (PySem.W.fnOf "is_word" "is_word" (defArgs s_is_word) (defBody s_is_word) (defScope s_is_word) .none kV5 dc5 pm5 an5 cd5 ct5), sl5⟩)
    (c5 : PySem.W.codeIn K cd5 "is_word" = true)
    (k5 : PySem.W.keepIn K (.ref f5) = true)
    (a6 : PySem.W.nsIn K mainGlobals "is_key" = some (some (.ref f6)))
    (l6 : K.lookup f6 = some ⟨oc6, od6, .func (PySem.W.fnOf "is_key" "is_key" (defArgs s_is_key) (defBody s_is_key) (defScope s_is_key) .none kV6 dc6 pm6 an6 cd6 ct6), sl6⟩)
    (c6 : PySem.W.codeIn K cd6 "is_key" = true)
    (k6 : PySem.W.keepIn K (.ref f6) = true)
    (a7 : PySem.W.nsIn K mainGlobals "is_tuple_of" = some (some (.ref f7)))
    (l7 : K.lookup f7 = some ⟨oc7, od7, .func (PySem.W.fnOf "is_tuple_of" "is_tuple_of" (defArgs s_is_tuple_of_is_key) (defBody s_is_tuple_of_is_key) (defScope s_is_tuple_of_is_key) .none kV7 dc7 pm7 an7 cd7 ct7), sl7⟩)
    (c7 : PySem.W.codeIn K cd7 "is_tuple_of" = true)
    (k7 : PySem.W.keepIn K (.ref f7) = true)
    (a8 : PySem.W.nsIn K mainGlobals "is_ascending" = some (some (.ref f8)))
    (l8 : K.lookup f8 = some ⟨oc8, od8, .func (PySem.W.fnOf "is_ascending" "is_ascending" (defArgs s_is_ascending) (defBody s_is_ascending) (defScope s_is_ascending) .none kV8 dc8 pm8 an8 cd8 ct8), sl8⟩)
    (c8 : PySem.W.codeIn K cd8 "is_ascending" = true)
    (k8 : PySem.W.keepIn K (.ref f8) = true)
    (a9 : PySem.W.nsIn K mainGlobals "is_keys" = some (some (.ref f9)))
    (l9 : K.lookup f9 = some ⟨oc9, od9, .func (PySem.W.fnOf "is_keys" "is_keys" (defArgs s_is_keys) (defBody s_is_keys) (defScope s_is_keys) .none kV9 dc9 pm9 an9 cd9 ct9), sl9⟩)
    (c9 : PySem.W.codeIn K cd9 "is_keys" = true)
    (k9 : PySem.W.keepIn K (.ref f9) = true)
    (a10 : PySem.W.nsIn K mainGlobals "is_tuple" = some (some (.ref f10)))
    (l10 : K.lookup f10 = some ⟨oc10, od10, .func (PySem.W.fnOf "is_tuple" "is_tuple" (defArgs s_is_tuple) (defBody s_is_tuple) (defScope s_is_tuple) .none kV10 dc10 pm10 an10 cd10 ct10), sl10⟩)
    (c10 : PySem.W.codeIn K cd10 "is_tuple" = true)
    (k10 : PySem.W.keepIn K (.ref f10) = true)
    (a11 : PySem.W.nsIn K mainGlobals "is_range" = some (some (.ref f11)))
    (l11 : K.lookup f11 = some ⟨oc11, od11, .func (PySem.W.fnOf "is_range" "is_range" (defArgs s_is_range) (defBody s_is_range) (defScope s_is_range) .none kV11 dc11 pm11 an11 cd11 ct11), sl11⟩)
    (c11 : PySem.W.codeIn K cd11 "is_range" = true)
    (k11 : PySem.W.keepIn K (.ref f11) = true)
    (a12 : PySem.W.nsIn K mainGlobals "is_tuple_of" = some (some (.ref f12)))
    (l12 : K.lookup f12 = some ⟨oc12, od12, .func (PySem.W.fnOf "is_tuple_of" "is_tuple_of" (defArgs s_is_tuple_of_is_range) (defBody s_is_tuple_of_is_range) (defScope s_is_tuple_of_is_range) .none kV12 dc12 pm12 an12 cd12 ct12), sl12⟩)
    (c12 : PySem.W.codeIn K cd12 "is_tuple_of" = true)
    (k12 : PySem.W.keepIn K (.ref f12) = true)
    (a13 : PySem.W.nsIn K mainGlobals "is_ranges" = some (some (.ref f13)))
    (l13 : K.lookup f13 = some ⟨oc13, od13, .func (PySem.W.fnOf "is_ranges" "is_ranges" (defArgs s_is_ranges) (defBody s_is_ranges) (defScope s_is_ranges) .none kV13 dc13 pm13 an13 cd13 ct13), sl13⟩)
    (c13 : PySem.W.codeIn K cd13 "is_ranges" = true)
    (k13 : PySem.W.keepIn K (.ref f13) = true)
    (a14 : PySem.W.nsIn K mainGlobals "is_within" = some (some (.ref f14)))
    (l14 : K.lookup f14 = some ⟨oc14, od14, .func (PySem.W.fnOf "is_within" "is_within" (defArgs s_is_within) (defBody s_is_within) (defScope s_is_within) .none kV14 dc14 pm14 an14 cd14 ct14), sl14⟩)
    (c14 : PySem.W.codeIn K cd14 "is_within" = true)
    (k14 : PySem.W.keepIn K (.ref f14) = true)
    (a15 : PySem.W.nsIn K mainGlobals "is_worth" = some (some (.ref f15)))
    (l15 : K.lookup f15 = some ⟨oc15, od15, .func (PySem.W.fnOf "is_worth" "is_worth" (defArgs s_is_worth) (defBody s_is_worth) (defScope s_is_worth) .none kV15 dc15 pm15 an15 cd15 ct15), sl15⟩)
    (c15 : PySem.W.codeIn K cd15 "is_worth" = true)
    (k15 : PySem.W.keepIn K (.ref f15) = true)
    (a16 : PySem.W.nsIn K mainGlobals "is_mark" = some (some (.ref f16)))
    (l16 : K.lookup f16 = some ⟨oc16, od16, .func (PySem.W.fnOf "is_mark" "is_mark" (defArgs s_is_mark) (defBody s_is_mark) (defScope s_is_mark) .none kV16 dc16 pm16 an16 cd16 ct16), sl16⟩)
    (c16 : PySem.W.codeIn K cd16 "is_mark" = true)
    (k16 : PySem.W.keepIn K (.ref f16) = true)
    (a17 : PySem.W.nsIn K mainGlobals "is_write" = some (some (.ref f17)))
    (l17 : K.lookup f17 = some ⟨oc17, od17, .func (PySem.W.fnOf "is_write" "is_write" (defArgs s_is_write) (defBody s_is_write) (defScope s_is_write) .none kV17 dc17 pm17 an17 cd17 ct17), sl17⟩)
    (c17 : PySem.W.codeIn K cd17 "is_write" = true)
    (k17 : PySem.W.keepIn K (.ref f17) = true)
    (a18 : PySem.W.nsIn K mainGlobals "is_tuple_of" = some (some (.ref f18)))
    (l18 : K.lookup f18 = some ⟨oc18, od18, .func (PySem.W.fnOf "is_tuple_of" "is_tuple_of" (defArgs s_is_tuple_of_is_write) (defBody s_is_tuple_of_is_write) (defScope s_is_tuple_of_is_write) .none kV18 dc18 pm18 an18 cd18 ct18), sl18⟩)
    (c18 : PySem.W.codeIn K cd18 "is_tuple_of" = true)
    (k18 : PySem.W.keepIn K (.ref f18) = true)
    (a19 : PySem.W.nsIn K mainGlobals "is_writes" = some (some (.ref f19)))
    (l19 : K.lookup f19 = some ⟨oc19, od19, .func (PySem.W.fnOf "is_writes" "is_writes" (defArgs s_is_writes) (defBody s_is_writes) (defScope s_is_writes) .none kV19 dc19 pm19 an19 cd19 ct19), sl19⟩)
    (c19 : PySem.W.codeIn K cd19 "is_writes" = true)
    (k19 : PySem.W.keepIn K (.ref f19) = true)
    (a20 : PySem.W.findIn K (.ref C_Dealing) "__init__" = some (some (.ref f20)))
    (i20 : PySem.W.isFn K (.ref f20) = true)
    (l20 : K.lookup f20 = some ⟨oc20, od20, .func (PySem.W.fnOf "__init__" "Dealing.__init__" (defArgs s_Dealing_init) (defBody s_Dealing_init) (defScope s_Dealing_init) .none kV20 dc20 pm20 an20 cd20 ct20), sl20⟩)
    (c20 : PySem.W.codeIn K cd20 "Dealing.__init__" = true)
    (k20 : PySem.W.keepIn K (.ref f20) = true)
    (a21 : PySem.W.nsIn K mainGlobals "_law_made" = some (some (.ref f21)))
    (l21 : K.lookup f21 = some ⟨oc21, od21, .func (PySem.W.fnOf "_law_made" "_law_made" (defArgs s_law_made) (defBody s_law_made) (defScope s_law_made) .none kV21 dc21 pm21 an21 cd21 ct21), sl21⟩)
    (c21 : PySem.W.codeIn K cd21 "_law_made" = true)
    (k21 : PySem.W.keepIn K (.ref f21) = true)
    (a22 : PySem.W.nsIn K mainGlobals "demand_history" = some (some (.ref f22)))
    (l22 : K.lookup f22 = some ⟨oc22, od22, .func (PySem.W.fnOf "demand_history" "demand_history" (defArgs s_demand_history) (defBody s_demand_history) (defScope s_demand_history) .none kV22 dc22 pm22 an22 cd22 ct22), sl22⟩)
    (c22 : PySem.W.codeIn K cd22 "demand_history" = true)
    (k22 : PySem.W.keepIn K (.ref f22) = true)
    (a23 : PySem.W.nsIn K mainGlobals "writes_key" = some (some (.ref f23)))
    (l23 : K.lookup f23 = some ⟨oc23, od23, .func (PySem.W.fnOf "writes_key" "writes_key" (defArgs s_writes_key) (defBody s_writes_key) (defScope s_writes_key) .none kV23 dc23 pm23 an23 cd23 ct23), sl23⟩)
    (c23 : PySem.W.codeIn K cd23 "writes_key" = true)
    (k23 : PySem.W.keepIn K (.ref f23) = true)
    (a24 : PySem.W.nsIn K mainGlobals "saw_key" = some (some (.ref f24)))
    (l24 : K.lookup f24 = some ⟨oc24, od24, .func (PySem.W.fnOf "saw_key" "saw_key" (defArgs s_saw_key) (defBody s_saw_key) (defScope s_saw_key) .none kV24 dc24 pm24 an24 cd24 ct24), sl24⟩)
    (c24 : PySem.W.codeIn K cd24 "saw_key" = true)
    (k24 : PySem.W.keepIn K (.ref f24) = true)
    (a25 : PySem.W.nsIn K mainGlobals "is_tied" = some (some (.ref f25)))
    (l25 : K.lookup f25 = some ⟨oc25, od25, .func (PySem.W.fnOf "is_tied" "is_tied" (defArgs s_is_tied) (defBody s_is_tied) (defScope s_is_tied) .none kV25 dc25 pm25 an25 cd25 ct25), sl25⟩)
    (c25 : PySem.W.codeIn K cd25 "is_tied" = true)
    (k25 : PySem.W.keepIn K (.ref f25) = true)
    (a26 : PySem.W.nsIn K mainGlobals "ways_of" = some (some (.ref f26)))
    (l26 : K.lookup f26 = some ⟨oc26, od26, .func (PySem.W.fnOf "ways_of" "ways_of" (defArgs s_ways_of) (defBody s_ways_of) (defScope s_ways_of) .none kV26 dc26 pm26 an26 cd26 ct26), sl26⟩)
    (c26 : PySem.W.codeIn K cd26 "ways_of" = true)
    (k26 : PySem.W.keepIn K (.ref f26) = true)
    (a27 : PySem.W.nsIn K mainGlobals "serial_order" = some (some (.ref f27)))
    (l27 : K.lookup f27 = some ⟨oc27, od27, .func (PySem.W.fnOf "serial_order" "serial_order" (defArgs s_serial_order) (defBody s_serial_order) (defScope s_serial_order) .none kV27 dc27 pm27 an27 cd27 ct27), sl27⟩)
    (c27 : PySem.W.codeIn K cd27 "serial_order" = true)
    (k27 : PySem.W.keepIn K (.ref f27) = true)
    (a28 : PySem.W.nsIn K mainGlobals "ring_from" = some (some (.ref f28)))
    (l28 : K.lookup f28 = some ⟨oc28, od28, .func (PySem.W.fnOf "ring_from" "ring_from" (defArgs s_ring_from) (defBody s_ring_from) (defScope s_ring_from) .none kV28 dc28 pm28 an28 cd28 ct28), sl28⟩)
    (c28 : PySem.W.codeIn K cd28 "ring_from" = true)
    (k28 : PySem.W.keepIn K (.ref f28) = true)
    (a29 : PySem.W.nsIn K mainGlobals "ring" = some (some (.ref f29)))
    (l29 : K.lookup f29 = some ⟨oc29, od29, .func (PySem.W.fnOf "ring" "ring" (defArgs s_ring) (defBody s_ring) (defScope s_ring) .none kV29 dc29 pm29 an29 cd29 ct29), sl29⟩)
    (c29 : PySem.W.codeIn K cd29 "ring" = true)
    (k29 : PySem.W.keepIn K (.ref f29) = true)
    (a30 : PySem.W.nsIn K mainGlobals "is_lost" = some (some (.ref f30)))
    (l30 : K.lookup f30 = some ⟨oc30, od30, .func (PySem.W.fnOf "is_lost" "is_lost" (defArgs s_is_lost) (defBody s_is_lost) (defScope s_is_lost) .none kV30 dc30 pm30 an30 cd30 ct30), sl30⟩)
    (c30 : PySem.W.codeIn K cd30 "is_lost" = true)
    (k30 : PySem.W.keepIn K (.ref f30) = true)
    (a31 : PySem.W.nsIn K mainGlobals "lost_updates" = some (some (.ref f31)))
    (l31 : K.lookup f31 = some ⟨oc31, od31, .func (PySem.W.fnOf "lost_updates" "lost_updates" (defArgs s_lost_updates) (defBody s_lost_updates) (defScope s_lost_updates) .none kV31 dc31 pm31 an31 cd31 ct31), sl31⟩)
    (c31 : PySem.W.codeIn K cd31 "lost_updates" = true)
    (k31 : PySem.W.keepIn K (.ref f31) = true)
    (a32 : PySem.W.nsIn K mainGlobals "is_row_of_indexes" = some (some (.ref f32)))
    (l32 : K.lookup f32 = some ⟨oc32, od32, .func (PySem.W.fnOf "is_row_of_indexes" "is_row_of_indexes" (defArgs s_is_row_of_indexes) (defBody s_is_row_of_indexes) (defScope s_is_row_of_indexes) .none kV32 dc32 pm32 an32 cd32 ct32), sl32⟩)
    (c32 : PySem.W.codeIn K cd32 "is_row_of_indexes" = true)
    (k32 : PySem.W.keepIn K (.ref f32) = true)
    (a33 : PySem.W.nsIn K mainGlobals "is_order" = some (some (.ref f33)))
    (l33 : K.lookup f33 = some ⟨oc33, od33, .func (PySem.W.fnOf "is_order" "is_order" (defArgs s_is_order) (defBody s_is_order) (defScope s_is_order) .none kV33 dc33 pm33 an33 cd33 ct33), sl33⟩)
    (c33 : PySem.W.codeIn K cd33 "is_order" = true)
    (k33 : PySem.W.keepIn K (.ref f33) = true)
    (a34 : PySem.W.nsIn K mainGlobals "demand_order" = some (some (.ref f34)))
    (l34 : K.lookup f34 = some ⟨oc34, od34, .func (PySem.W.fnOf "demand_order" "demand_order" (defArgs s_demand_order) (defBody s_demand_order) (defScope s_demand_order) .none kV34 dc34 pm34 an34 cd34 ct34), sl34⟩)
    (c34 : PySem.W.codeIn K cd34 "demand_order" = true)
    (k34 : PySem.W.keepIn K (.ref f34) = true)
    (a35 : PySem.W.nsIn K mainGlobals "numbers_of" = some (some (.ref f35)))
    (l35 : K.lookup f35 = some ⟨oc35, od35, .func (PySem.W.fnOf "numbers_of" "numbers_of" (defArgs s_numbers_of) (defBody s_numbers_of) (defScope s_numbers_of) .none kV35 dc35 pm35 an35 cd35 ct35), sl35⟩)
    (c35 : PySem.W.codeIn K cd35 "numbers_of" = true)
    (k35 : PySem.W.keepIn K (.ref f35) = true)
    (a36 : PySem.W.nsIn K mainGlobals "number_at" = some (some (.ref f36)))
    (l36 : K.lookup f36 = some ⟨oc36, od36, .func (PySem.W.fnOf "number_at" "number_at" (defArgs s_number_at) (defBody s_number_at) (defScope s_number_at) .none kV36 dc36 pm36 an36 cd36 ct36), sl36⟩)
    (c36 : PySem.W.codeIn K cd36 "number_at" = true)
    (k36 : PySem.W.keepIn K (.ref f36) = true)
    (a37 : PySem.W.nsIn K mainGlobals "failing_key" = some (some (.ref f37)))
    (l37 : K.lookup f37 = some ⟨oc37, od37, .func (PySem.W.fnOf "failing_key" "failing_key" (defArgs s_failing_key) (defBody s_failing_key) (defScope s_failing_key) .none kV37 dc37 pm37 an37 cd37 ct37), sl37⟩)
    (c37 : PySem.W.codeIn K cd37 "failing_key" = true)
    (k37 : PySem.W.keepIn K (.ref f37) = true)
    (a38 : PySem.W.nsIn K mainGlobals "failure_in" = some (some (.ref f38)))
    (l38 : K.lookup f38 = some ⟨oc38, od38, .func (PySem.W.fnOf "failure_in" "failure_in" (defArgs s_failure_in) (defBody s_failure_in) (defScope s_failure_in) .none kV38 dc38 pm38 an38 cd38 ct38), sl38⟩)
    (c38 : PySem.W.codeIn K cd38 "failure_in" = true)
    (k38 : PySem.W.keepIn K (.ref f38) = true)
    (a39 : PySem.W.nsIn K mainGlobals "first_failure" = some (some (.ref f39)))
    (l39 : K.lookup f39 = some ⟨oc39, od39, .func (PySem.W.fnOf "first_failure" "first_failure" (defArgs s_first_failure) (defBody s_first_failure) (defScope s_first_failure) .none kV39 dc39 pm39 an39 cd39 ct39), sl39⟩)
    (c39 : PySem.W.codeIn K cd39 "first_failure" = true)
    (k39 : PySem.W.keepIn K (.ref f39) = true)
    (a40 : PySem.W.nsIn K mainGlobals "ties" = some (some (.ref f40)))
    (l40 : K.lookup f40 = some ⟨oc40, od40, .func (PySem.W.fnOf "ties" "ties" (defArgs s_ties) (defBody s_ties) (defScope s_ties) .none kV40 dc40 pm40 an40 cd40 ct40), sl40⟩)
    (c40 : PySem.W.codeIn K cd40 "ties" = true)
    (k40 : PySem.W.keepIn K (.ref f40) = true)
    (a41 : PySem.W.nsIn K mainGlobals "many_orders" = some (some (.ref f41)))
    (l41 : K.lookup f41 = some ⟨oc41, od41, .func (PySem.W.fnOf "many_orders" "many_orders" (defArgs s_many_orders) (defBody s_many_orders) (defScope s_many_orders) .none kV41 dc41 pm41 an41 cd41 ct41), sl41⟩)
    (c41 : PySem.W.codeIn K cd41 "many_orders" = true)
    (k41 : PySem.W.keepIn K (.ref f41) = true)
    (a42 : PySem.W.nsIn K mainGlobals "_law_known_right" = some (some (.ref f42)))
    (l42 : K.lookup f42 = some ⟨oc42, od42, .func (PySem.W.fnOf "_law_known_right" "_law_known_right" (defArgs s_law_known_right) (defBody s_law_known_right) (defScope s_law_known_right) .none kV42 dc42 pm42 an42 cd42 ct42), sl42⟩)
    (c42 : PySem.W.codeIn K cd42 "_law_known_right" = true)
    (k42 : PySem.W.keepIn K (.ref f42) = true)
    (a43 : PySem.W.nsIn K mainGlobals "_law_some" = some (some (.ref f43)))
    (l43 : K.lookup f43 = some ⟨oc43, od43, .func (PySem.W.fnOf "_law_some" "_law_some" (defArgs s_law_some) (defBody s_law_some) (defScope s_law_some) .none kV43 dc43 pm43 an43 cd43 ct43), sl43⟩)
    (c43 : PySem.W.codeIn K cd43 "_law_some" = true)
    (k43 : PySem.W.keepIn K (.ref f43) = true)
    (a44 : PySem.W.nsIn K mainGlobals "_law_range" = some (some (.ref f44)))
    (l44 : K.lookup f44 = some ⟨oc44, od44, .func (PySem.W.fnOf "_law_range" "_law_range" (defArgs s_law_range) (defBody s_law_range) (defScope s_law_range) .none kV44 dc44 pm44 an44 cd44 ct44), sl44⟩)
    (c44 : PySem.W.codeIn K cd44 "_law_range" = true)
    (k44 : PySem.W.keepIn K (.ref f44) = true)
    (a45 : PySem.W.nsIn K mainGlobals "_law_seen" = some (some (.ref f45)))
    (l45 : K.lookup f45 = some ⟨oc45, od45, .func (PySem.W.fnOf "_law_seen" "_law_seen" (defArgs s_law_seen) (defBody s_law_seen) (defScope s_law_seen) .none kV45 dc45 pm45 an45 cd45 ct45), sl45⟩)
    (c45 : PySem.W.codeIn K cd45 "_law_seen" = true)
    (k45 : PySem.W.keepIn K (.ref f45) = true)
    (a46 : PySem.W.nsIn K mainGlobals "_law_writes" = some (some (.ref f46)))
    (l46 : K.lookup f46 = some ⟨oc46, od46, .func (PySem.W.fnOf "_law_writes" "_law_writes" (defArgs s_law_writes) (defBody s_law_writes) (defScope s_law_writes) .none kV46 dc46 pm46 an46 cd46 ct46), sl46⟩)
    (c46 : PySem.W.codeIn K cd46 "_law_writes" = true)
    (k46 : PySem.W.keepIn K (.ref f46) = true)
    (a47 : PySem.W.nsIn K mainGlobals "_law_history" = some (some (.ref f47)))
    (l47 : K.lookup f47 = some ⟨oc47, od47, .func (PySem.W.fnOf "_law_history" "_law_history" (defArgs s_law_history) (defBody s_law_history) (defScope s_law_history) .none kV47 dc47 pm47 an47 cd47 ct47), sl47⟩)
    (c47 : PySem.W.codeIn K cd47 "_law_history" = true)
    (k47 : PySem.W.keepIn K (.ref f47) = true)
    (a48 : PySem.W.nsIn K mainGlobals "_law_keys" = some (some (.ref f48)))
    (l48 : K.lookup f48 = some ⟨oc48, od48, .func (PySem.W.fnOf "_law_keys" "_law_keys" (defArgs s_law_keys) (defBody s_law_keys) (defScope s_law_keys) .none kV48 dc48 pm48 an48 cd48 ct48), sl48⟩)
    (c48 : PySem.W.codeIn K cd48 "_law_keys" = true)
    (k48 : PySem.W.keepIn K (.ref f48) = true)
    (a49 : PySem.W.nsIn K mainGlobals "_law_wrote" = some (some (.ref f49)))
    (l49 : K.lookup f49 = some ⟨oc49, od49, .func (PySem.W.fnOf "_law_wrote" "_law_wrote" (defArgs s_law_wrote) (defBody s_law_wrote) (defScope s_law_wrote) .none kV49 dc49 pm49 an49 cd49 ct49), sl49⟩)
    (c49 : PySem.W.codeIn K cd49 "_law_wrote" = true)
    (k49 : PySem.W.keepIn K (.ref f49) = true)
    (a50 : PySem.W.nsIn K mainGlobals "_law_lost" = some (some (.ref f50)))
    (l50 : K.lookup f50 = some ⟨oc50, od50, .func (PySem.W.fnOf "_law_lost" "_law_lost" (defArgs s_law_lost) (defBody s_law_lost) (defScope s_law_lost) .none kV50 dc50 pm50 an50 cd50 ct50), sl50⟩)
    (c50 : PySem.W.codeIn K cd50 "_law_lost" = true)
    (k50 : PySem.W.keepIn K (.ref f50) = true)
    (a51 : PySem.W.nsIn K mainGlobals "law" = some (some (.ref f51)))
    (l51 : K.lookup f51 = some ⟨oc51, od51, .func (PySem.W.fnOf "law" "law" (defArgs s_law) (defBody s_law) (defScope s_law) .none kV51 dc51 pm51 an51 cd51 ct51), sl51⟩)
    (c51 : PySem.W.codeIn K cd51 "law" = true)
    (k51 : PySem.W.keepIn K (.ref f51) = true)
    (ex_NoOrder : PySem.W.excIn K C_NoOrder [.type "ValueError", .type "Exception", .type "BaseException", .type "object"] "ValueError.__new__" = true)
    (ek_NoOrder : PySem.W.keepIn K (.ref C_NoOrder) = true)
    (es_NoOrder : PySem.W.subIn K (.ref C_NoOrder) (.type "BaseException") = some true)
    (et_NoOrder : PySem.W.typeIn K (.ref C_NoOrder) = some (.type "type"))
    (qi_TooMany : PySem.W.findIn K (.ref C_TooMany) "__init__" = some (some (.ref fI_TooMany)))
    (qt_TooMany : PySem.W.typeIn K (.ref fI_TooMany) = some (.type "function"))
    (ql_TooMany : K.lookup fI_TooMany = some ⟨ocI_TooMany, odI_TooMany, .func (PySem.W.fnOf "__init__" "TooMany.__init__" (defArgs s_TooMany_init) (defBody s_TooMany_init) (defScope s_TooMany_init) .none kVI_TooMany dcI_TooMany pmI_TooMany anI_TooMany cdI_TooMany ctI_TooMany), slI_TooMany⟩)
    (qc_TooMany : PySem.W.codeIn K cdI_TooMany "TooMany.__init__" = true)
    (qk_TooMany : PySem.W.keepIn K (.ref fI_TooMany) = true)
    (qo_TooMany : oexB K C_TooMany = true)
    (qs_TooMany : PySem.W.findIn K (.ref C_TooMany) "__setattr__" = some (some (.builtin "object.__setattr__")))
    (qn_TooMany : PySem.W.findIn K (.ref C_TooMany) "most" = some none)
    (qg_TooMany : PySem.W.findIn K (.ref C_TooMany) "__getattribute__" = some (some (.builtin "BaseException.__getattribute__")))
    (qa_TooMany : PySem.W.findIn K (.ref C_TooMany) "__getattr__" = some none)
    (qh_TooMany : PySem.W.hasDictIn K C_TooMany = true)
    (ek_TooMany : PySem.W.keepIn K (.ref C_TooMany) = true)
    (es_TooMany : PySem.W.subIn K (.ref C_TooMany) (.type "BaseException") = some true)
    (et_TooMany : PySem.W.typeIn K (.ref C_TooMany) = some (.type "type"))
    (ek_BadHistory : PySem.W.keepIn K (.ref C_BadHistory) = true)
    (es_BadHistory : PySem.W.subIn K (.ref C_BadHistory) (.type "BaseException") = some true)
    (et_BadHistory : PySem.W.typeIn K (.ref C_BadHistory) = some (.type "type"))
    (pg_Dealing : PySem.W.plainGet K C_Dealing Str.empty = true)
    (hd_Dealing : PySem.W.hasDictIn K C_Dealing = true)
    (po_Dealing : PySem.W.plainOver K C_Dealing = true)
    (sa_Dealing : PySem.W.findIn K (.ref C_Dealing) "__setattr__" = some (some (.builtin "object.__setattr__")))
    (xa_Dealing : PySem.W.findIn K (.ref C_Dealing) "__class__" = some (some (.builtin "object.__class__")))
    (xo_Dealing : PySem.W.mroIn K C_Dealing (.type "object") = some true)
    (xn_all : PySem.W.specialIn K (.builtin "object.__class__") "__get__" = some (some (.builtin "getset_descriptor.__get__")))
    (xt_all : PySem.W.takesIn K (.builtin "object.__class__") = some true)
    (ki_Dealing_int : PySem.W.kitOne K (.ref C_Dealing) (.type "int") = some false)
    (ki_Dealing_bool : PySem.W.kitOne K (.ref C_Dealing) (.type "bool") = some false)
    (ki_Dealing_str : PySem.W.kitOne K (.ref C_Dealing) (.type "str") = some false)
    (ki_Dealing_tuple : PySem.W.kitOne K (.ref C_Dealing) (.type "tuple") = some false)
    (ek_BadDealing : PySem.W.keepIn K (.ref C_BadDealing) = true)
    (es_BadDealing : PySem.W.subIn K (.ref C_BadDealing) (.type "BaseException") = some true)
    (et_BadDealing : PySem.W.typeIn K (.ref C_BadDealing) = some (.type "type"))
    (ex_StoreError : PySem.W.excIn K C_StoreError [.type "ValueError", .type "Exception", .type "BaseException", .type "object"] "ValueError.__new__" = true)
    (ek_StoreError : PySem.W.keepIn K (.ref C_StoreError) = true)
    (es_StoreError : PySem.W.subIn K (.ref C_StoreError) (.type "BaseException") = some true)
    (et_StoreError : PySem.W.typeIn K (.ref C_StoreError) = some (.type "type"))
    (mk_Dealing : PySem.W.makesIn K C_Dealing = true)
    (kc_Dealing : PySem.W.keepIn K (.ref C_Dealing) = true)
    (nf_gets_Dealing : PySem.W.findIn K (.ref C_Dealing) "gets" = some none)
    (nf_number_Dealing : PySem.W.findIn K (.ref C_Dealing) "number" = some none)
    (nf_ranges_Dealing : PySem.W.findIn K (.ref C_Dealing) "ranges" = some none)
    (nf_snapshot_Dealing : PySem.W.findIn K (.ref C_Dealing) "snapshot" = some none)
    (nf_writes_Dealing : PySem.W.findIn K (.ref C_Dealing) "writes" = some none)
    (co_GREATEST : PySem.W.nsIn K mainGlobals "GREATEST" = some (some (.int 1000000000000000000 t_GREATEST)))
    (co_LONGEST_WORD : PySem.W.nsIn K mainGlobals "LONGEST_WORD" = some (some (.int 12 t_LONGEST_WORD)))
    (co_MOST_COUNTED : PySem.W.nsIn K mainGlobals "MOST_COUNTED" = some (some (.int 14 t_MOST_COUNTED)))
    (co_MOST_DEALINGS : PySem.W.nsIn K mainGlobals "MOST_DEALINGS" = some (some (.int 300 t_MOST_DEALINGS)))
    (zb_abs : PySem.W.nsIn K mainGlobals "abs" = some none)
    (zb_all : PySem.W.nsIn K mainGlobals "all" = some none)
    (zb_any : PySem.W.nsIn K mainGlobals "any" = some none)
    (zb_bool : PySem.W.nsIn K mainGlobals "bool" = some none)
    (zb_enumerate : PySem.W.nsIn K mainGlobals "enumerate" = some none)
    (zb_int : PySem.W.nsIn K mainGlobals "int" = some none)
    (zb_isinstance : PySem.W.nsIn K mainGlobals "isinstance" = some none)
    (zb_len : PySem.W.nsIn K mainGlobals "len" = some none)
    (zb_max : PySem.W.nsIn K mainGlobals "max" = some none)
    (zb_range : PySem.W.nsIn K mainGlobals "range" = some none)
    (zb_set : PySem.W.nsIn K mainGlobals "set" = some none)
    (zb_sorted : PySem.W.nsIn K mainGlobals "sorted" = some none)
    (zb_str : PySem.W.nsIn K mainGlobals "str" = some none)
    (zb_tuple : PySem.W.nsIn K mainGlobals "tuple" = some none)
    : ∃ x : Tx K mg, x.a_law = fa := by
  have e := hfa.symm.trans (PySem.W.mg_of X G a51)
  cases e
  exact ⟨{
    C_NoOrder := C_NoOrder,
    C_TooMany := C_TooMany,
    C_BadHistory := C_BadHistory,
    C_Dealing := C_Dealing,
    C_BadDealing := C_BadDealing,
    C_StoreError := C_StoreError,
    a_law_hand := f0,
    d_law_hand := _,
    F_law_hand := fun_mk (st := s_law_hand) l0 c0 k0,
    b_law_hand := (fun_mk (st := s_law_hand) l0 c0 k0).binds (ps := ["script"]) (fun _ _ _ _ _ _ us hl => match us, hl with | [_], _ => rfl),
    g_law_hand := PySem.W.mg_of X G a0,
    a_law_draw := f1,
    d_law_draw := _,
    F_law_draw := fun_mk (st := s_law_draw) l1 c1 k1,
    b_law_draw := (fun_mk (st := s_law_draw) l1 c1 k1).binds (ps := ["hand", "many"]) (fun _ _ _ _ _ _ us hl => match us, hl with | [_, _], _ => rfl),
    g_law_draw := PySem.W.mg_of X G a1,
    a_is_integer := f2,
    d_is_integer := _,
    F_is_integer := fun_mk (st := s_is_integer) l2 c2 k2,
    b_is_integer := (fun_mk (st := s_is_integer) l2 c2 k2).binds (ps := ["thing"]) (fun _ _ _ _ _ _ us hl => match us, hl with | [_], _ => rfl),
    g_is_integer := PySem.W.mg_of X G a2,
    a_is_number := f3,
    d_is_number := _,
    F_is_number := fun_mk (st := s_is_number) l3 c3 k3,
    b_is_number := (fun_mk (st := s_is_number) l3 c3 k3).binds (ps := ["thing"]) (fun _ _ _ _ _ _ us hl => match us, hl with | [_], _ => rfl),
    g_is_number := PySem.W.mg_of X G a3,
    a_is_number_for := f4,
    d_is_number_for := _,
    F_is_number_for := fun_mk (st := s_is_number_for) l4 c4 k4,
    b_is_number_for := (fun_mk (st := s_is_number_for) l4 c4 k4).binds (ps := ["snapshot", "writes", "thing"]) (fun _ _ _ _ _ _ us hl => match us, hl with | [_, _, _], _ => rfl),
    g_is_number_for := PySem.W.mg_of X G a4,
    a_is_word := f5,
    d_is_word := _,
    F_is_word := fun_mk (st := s_is_word) l5 c5 k5,
    b_is_word := (fun_mk (st := s_is_word) l5 c5 k5).binds (ps := ["thing"]) (fun _ _ _ _ _ _ us hl => match us, hl with | [_], _ => rfl),
    g_is_word := PySem.W.mg_of X G a5,
    a_is_key := f6,
    d_is_key := _,
    F_is_key := fun_mk (st := s_is_key) l6 c6 k6,
    b_is_key := (fun_mk (st := s_is_key) l6 c6 k6).binds (ps := ["thing"]) (fun _ _ _ _ _ _ us hl => match us, hl with | [_], _ => rfl),
    g_is_key := PySem.W.mg_of X G a6,
    a_is_tuple_of_is_key := f7,
    d_is_tuple_of_is_key := _,
    F_is_tuple_of_is_key := fun_mk (st := s_is_tuple_of_is_key) l7 c7 k7,
    b_is_tuple_of_is_key := (fun_mk (st := s_is_tuple_of_is_key) l7 c7 k7).binds (ps := ["judge", "thing"]) (fun _ _ _ _ _ _ us hl => match us, hl with | [_, _], _ => rfl),
    g_is_tuple_of_is_key := PySem.W.mg_of X G a7,
    a_is_ascending := f8,
    d_is_ascending := _,
    F_is_ascending := fun_mk (st := s_is_ascending) l8 c8 k8,
    b_is_ascending := (fun_mk (st := s_is_ascending) l8 c8 k8).binds (ps := ["row"]) (fun _ _ _ _ _ _ us hl => match us, hl with | [_], _ => rfl),
    g_is_ascending := PySem.W.mg_of X G a8,
    a_is_keys := f9,
    d_is_keys := _,
    F_is_keys := fun_mk (st := s_is_keys) l9 c9 k9,
    b_is_keys := (fun_mk (st := s_is_keys) l9 c9 k9).binds (ps := ["thing"]) (fun _ _ _ _ _ _ us hl => match us, hl with | [_], _ => rfl),
    g_is_keys := PySem.W.mg_of X G a9,
    a_is_tuple := f10,
    d_is_tuple := _,
    F_is_tuple := fun_mk (st := s_is_tuple) l10 c10 k10,
    b_is_tuple := (fun_mk (st := s_is_tuple) l10 c10 k10).binds (ps := ["many", "thing"]) (fun _ _ _ _ _ _ us hl => match us, hl with | [_, _], _ => rfl),
    g_is_tuple := PySem.W.mg_of X G a10,
    a_is_range := f11,
    d_is_range := _,
    F_is_range := fun_mk (st := s_is_range) l11 c11 k11,
    b_is_range := (fun_mk (st := s_is_range) l11 c11 k11).binds (ps := ["thing"]) (fun _ _ _ _ _ _ us hl => match us, hl with | [_], _ => rfl),
    g_is_range := PySem.W.mg_of X G a11,
    a_is_tuple_of_is_range := f12,
    d_is_tuple_of_is_range := _,
    F_is_tuple_of_is_range := fun_mk (st := s_is_tuple_of_is_range) l12 c12 k12,
    b_is_tuple_of_is_range := (fun_mk (st := s_is_tuple_of_is_range) l12 c12 k12).binds (ps := ["judge", "thing"]) (fun _ _ _ _ _ _ us hl => match us, hl with | [_, _], _ => rfl),
    g_is_tuple_of_is_range := PySem.W.mg_of X G a12,
    a_is_ranges := f13,
    d_is_ranges := _,
    F_is_ranges := fun_mk (st := s_is_ranges) l13 c13 k13,
    b_is_ranges := (fun_mk (st := s_is_ranges) l13 c13 k13).binds (ps := ["thing"]) (fun _ _ _ _ _ _ us hl => match us, hl with | [_], _ => rfl),
    g_is_ranges := PySem.W.mg_of X G a13,
    a_is_within := f14,
    d_is_within := _,
    F_is_within := fun_mk (st := s_is_within) l14 c14 k14,
    b_is_within := (fun_mk (st := s_is_within) l14 c14 k14).binds (ps := ["low", "high", "thing"]) (fun _ _ _ _ _ _ us hl => match us, hl with | [_, _, _], _ => rfl),
    g_is_within := PySem.W.mg_of X G a14,
    a_is_worth := f15,
    d_is_worth := _,
    F_is_worth := fun_mk (st := s_is_worth) l15 c15 k15,
    b_is_worth := (fun_mk (st := s_is_worth) l15 c15 k15).binds (ps := ["thing"]) (fun _ _ _ _ _ _ us hl => match us, hl with | [_], _ => rfl),
    g_is_worth := PySem.W.mg_of X G a15,
    a_is_mark := f16,
    d_is_mark := _,
    F_is_mark := fun_mk (st := s_is_mark) l16 c16 k16,
    b_is_mark := (fun_mk (st := s_is_mark) l16 c16 k16).binds (ps := ["thing"]) (fun _ _ _ _ _ _ us hl => match us, hl with | [_], _ => rfl),
    g_is_mark := PySem.W.mg_of X G a16,
    a_is_write := f17,
    d_is_write := _,
    F_is_write := fun_mk (st := s_is_write) l17 c17 k17,
    b_is_write := (fun_mk (st := s_is_write) l17 c17 k17).binds (ps := ["thing"]) (fun _ _ _ _ _ _ us hl => match us, hl with | [_], _ => rfl),
    g_is_write := PySem.W.mg_of X G a17,
    a_is_tuple_of_is_write := f18,
    d_is_tuple_of_is_write := _,
    F_is_tuple_of_is_write := fun_mk (st := s_is_tuple_of_is_write) l18 c18 k18,
    b_is_tuple_of_is_write := (fun_mk (st := s_is_tuple_of_is_write) l18 c18 k18).binds (ps := ["judge", "thing"]) (fun _ _ _ _ _ _ us hl => match us, hl with | [_, _], _ => rfl),
    g_is_tuple_of_is_write := PySem.W.mg_of X G a18,
    a_is_writes := f19,
    d_is_writes := _,
    F_is_writes := fun_mk (st := s_is_writes) l19 c19 k19,
    b_is_writes := (fun_mk (st := s_is_writes) l19 c19 k19).binds (ps := ["thing"]) (fun _ _ _ _ _ _ us hl => match us, hl with | [_], _ => rfl),
    g_is_writes := PySem.W.mg_of X G a19,
    a_Dealing_init := f20,
    d_Dealing_init := _,
    F_Dealing_init := fun_mk (st := s_Dealing_init) l20 c20 k20,
    b_Dealing_init := (fun_mk (st := s_Dealing_init) l20 c20 k20).binds (ps := ["self", "snapshot", "number", "gets", "ranges", "writes"]) (fun _ _ _ _ _ _ us hl => match us, hl with | [_, _, _, _, _, _], _ => rfl),
    a_law_made := f21,
    d_law_made := _,
    F_law_made := fun_mk (st := s_law_made) l21 c21 k21,
    b_law_made := (fun_mk (st := s_law_made) l21 c21 k21).binds (ps := ["parts"]) (fun _ _ _ _ _ _ us hl => match us, hl with | [_], _ => rfl),
    g_law_made := PySem.W.mg_of X G a21,
    a_demand_history := f22,
    d_demand_history := _,
    F_demand_history := fun_mk (st := s_demand_history) l22 c22 k22,
    b_demand_history := (fun_mk (st := s_demand_history) l22 c22 k22).binds (ps := ["thing"]) (fun _ _ _ _ _ _ us hl => match us, hl with | [_], _ => rfl),
    g_demand_history := PySem.W.mg_of X G a22,
    a_writes_key := f23,
    d_writes_key := _,
    F_writes_key := fun_mk (st := s_writes_key) l23 c23 k23,
    b_writes_key := (fun_mk (st := s_writes_key) l23 c23 k23).binds (ps := ["dealing", "key"]) (fun _ _ _ _ _ _ us hl => match us, hl with | [_, _], _ => rfl),
    g_writes_key := PySem.W.mg_of X G a23,
    a_saw_key := f24,
    d_saw_key := _,
    F_saw_key := fun_mk (st := s_saw_key) l24 c24 k24,
    b_saw_key := (fun_mk (st := s_saw_key) l24 c24 k24).binds (ps := ["dealing", "key"]) (fun _ _ _ _ _ _ us hl => match us, hl with | [_, _], _ => rfl),
    g_saw_key := PySem.W.mg_of X G a24,
    a_is_tied := f25,
    d_is_tied := _,
    F_is_tied := fun_mk (st := s_is_tied) l25 c25 k25,
    b_is_tied := (fun_mk (st := s_is_tied) l25 c25 k25).binds (ps := ["one", "other"]) (fun _ _ _ _ _ _ us hl => match us, hl with | [_, _], _ => rfl),
    g_is_tied := PySem.W.mg_of X G a25,
    a_ways_of := f26,
    d_ways_of := _,
    F_ways_of := fun_mk (st := s_ways_of) l26 c26 k26,
    b_ways_of := (fun_mk (st := s_ways_of) l26 c26 k26).binds (ps := ["history"]) (fun _ _ _ _ _ _ us hl => match us, hl with | [_], _ => rfl),
    g_ways_of := PySem.W.mg_of X G a26,
    a_serial_order := f27,
    d_serial_order := _,
    F_serial_order := fun_mk (st := s_serial_order) l27 c27 k27,
    b_serial_order := (fun_mk (st := s_serial_order) l27 c27 k27).binds (ps := ["history"]) (fun _ _ _ _ _ _ us hl => match us, hl with | [_], _ => rfl),
    g_serial_order := PySem.W.mg_of X G a27,
    a_ring_from := f28,
    d_ring_from := _,
    F_ring_from := fun_mk (st := s_ring_from) l28 c28 k28,
    b_ring_from := (fun_mk (st := s_ring_from) l28 c28 k28).binds (ps := ["start", "ways"]) (fun _ _ _ _ _ _ us hl => match us, hl with | [_, _], _ => rfl),
    g_ring_from := PySem.W.mg_of X G a28,
    a_ring := f29,
    d_ring := _,
    F_ring := fun_mk (st := s_ring) l29 c29 k29,
    b_ring := (fun_mk (st := s_ring) l29 c29 k29).binds (ps := ["history"]) (fun _ _ _ _ _ _ us hl => match us, hl with | [_], _ => rfl),
    g_ring := PySem.W.mg_of X G a29,
    a_is_lost := f30,
    d_is_lost := _,
    F_is_lost := fun_mk (st := s_is_lost) l30 c30 k30,
    b_is_lost := (fun_mk (st := s_is_lost) l30 c30 k30).binds (ps := ["first", "second"]) (fun _ _ _ _ _ _ us hl => match us, hl with | [_, _], _ => rfl),
    g_is_lost := PySem.W.mg_of X G a30,
    a_lost_updates := f31,
    d_lost_updates := _,
    F_lost_updates := fun_mk (st := s_lost_updates) l31 c31 k31,
    b_lost_updates := (fun_mk (st := s_lost_updates) l31 c31 k31).binds (ps := ["history"]) (fun _ _ _ _ _ _ us hl => match us, hl with | [_], _ => rfl),
    g_lost_updates := PySem.W.mg_of X G a31,
    a_is_row_of_indexes := f32,
    d_is_row_of_indexes := _,
    F_is_row_of_indexes := fun_mk (st := s_is_row_of_indexes) l32 c32 k32,
    b_is_row_of_indexes := (fun_mk (st := s_is_row_of_indexes) l32 c32 k32).binds (ps := ["history", "thing"]) (fun _ _ _ _ _ _ us hl => match us, hl with | [_, _], _ => rfl),
    g_is_row_of_indexes := PySem.W.mg_of X G a32,
    a_is_order := f33,
    d_is_order := _,
    F_is_order := fun_mk (st := s_is_order) l33 c33 k33,
    b_is_order := (fun_mk (st := s_is_order) l33 c33 k33).binds (ps := ["history", "thing"]) (fun _ _ _ _ _ _ us hl => match us, hl with | [_, _], _ => rfl),
    g_is_order := PySem.W.mg_of X G a33,
    a_demand_order := f34,
    d_demand_order := _,
    F_demand_order := fun_mk (st := s_demand_order) l34 c34 k34,
    b_demand_order := (fun_mk (st := s_demand_order) l34 c34 k34).binds (ps := ["history", "order"]) (fun _ _ _ _ _ _ us hl => match us, hl with | [_, _], _ => rfl),
    g_demand_order := PySem.W.mg_of X G a34,
    a_numbers_of := f35,
    d_numbers_of := _,
    F_numbers_of := fun_mk (st := s_numbers_of) l35 c35 k35,
    b_numbers_of := (fun_mk (st := s_numbers_of) l35 c35 k35).binds (ps := ["history"]) (fun _ _ _ _ _ _ us hl => match us, hl with | [_], _ => rfl),
    g_numbers_of := PySem.W.mg_of X G a35,
    a_number_at := f36,
    d_number_at := _,
    F_number_at := fun_mk (st := s_number_at) l36 c36 k36,
    b_number_at := (fun_mk (st := s_number_at) l36 c36 k36).binds (ps := ["numbers", "snapshot"]) (fun _ _ _ _ _ _ us hl => match us, hl with | [_, _], _ => rfl),
    g_number_at := PySem.W.mg_of X G a36,
    a_failing_key := f37,
    d_failing_key := _,
    F_failing_key := fun_mk (st := s_failing_key) l37 c37 k37,
    b_failing_key := (fun_mk (st := s_failing_key) l37 c37 k37).binds (ps := ["dealing", "numbers", "standing"]) (fun _ _ _ _ _ _ us hl => match us, hl with | [_, _, _], _ => rfl),
    g_failing_key := PySem.W.mg_of X G a37,
    a_failure_in := f38,
    d_failure_in := _,
    F_failure_in := fun_mk (st := s_failure_in) l38 c38 k38,
    b_failure_in := (fun_mk (st := s_failure_in) l38 c38 k38).binds (ps := ["history", "order"]) (fun _ _ _ _ _ _ us hl => match us, hl with | [_, _], _ => rfl),
    g_failure_in := PySem.W.mg_of X G a38,
    a_first_failure := f39,
    d_first_failure := _,
    F_first_failure := fun_mk (st := s_first_failure) l39 c39 k39,
    b_first_failure := (fun_mk (st := s_first_failure) l39 c39 k39).binds (ps := ["history", "order"]) (fun _ _ _ _ _ _ us hl => match us, hl with | [_, _], _ => rfl),
    g_first_failure := PySem.W.mg_of X G a39,
    a_ties := f40,
    d_ties := _,
    F_ties := fun_mk (st := s_ties) l40 c40 k40,
    b_ties := (fun_mk (st := s_ties) l40 c40 k40).binds (ps := ["history"]) (fun _ _ _ _ _ _ us hl => match us, hl with | [_], _ => rfl),
    g_ties := PySem.W.mg_of X G a40,
    a_many_orders := f41,
    d_many_orders := _,
    F_many_orders := fun_mk (st := s_many_orders) l41 c41 k41,
    b_many_orders := (fun_mk (st := s_many_orders) l41 c41 k41).binds (ps := ["history"]) (fun _ _ _ _ _ _ us hl => match us, hl with | [_], _ => rfl),
    g_many_orders := PySem.W.mg_of X G a41,
    a_law_known_right := f42,
    d_law_known_right := _,
    F_law_known_right := fun_mk (st := s_law_known_right) l42 c42 k42,
    b_law_known_right := (fun_mk (st := s_law_known_right) l42 c42 k42).binds (ps := ["x", "y"]) (fun _ _ _ _ _ _ us hl => match us, hl with | [_, _], _ => rfl),
    g_law_known_right := PySem.W.mg_of X G a42,
    a_law_some := f43,
    d_law_some := _,
    F_law_some := fun_mk (st := s_law_some) l43 c43 k43,
    b_law_some := (fun_mk (st := s_law_some) l43 c43 k43).binds (ps := ["hand", "things", "most"]) (fun _ _ _ _ _ _ us hl => match us, hl with | [_, _, _], _ => rfl),
    g_law_some := PySem.W.mg_of X G a43,
    a_law_range := f44,
    d_law_range := _,
    F_law_range := fun_mk (st := s_law_range) l44 c44 k44,
    b_law_range := (fun_mk (st := s_law_range) l44 c44 k44).binds (ps := ["hand", "keys"]) (fun _ _ _ _ _ _ us hl => match us, hl with | [_, _], _ => rfl),
    g_law_range := PySem.W.mg_of X G a44,
    a_law_seen := f45,
    d_law_seen := _,
    F_law_seen := fun_mk (st := s_law_seen) l45 c45 k45,
    b_law_seen := (fun_mk (st := s_law_seen) l45 c45 k45).binds (ps := ["hand", "keys"]) (fun _ _ _ _ _ _ us hl => match us, hl with | [_, _], _ => rfl),
    g_law_seen := PySem.W.mg_of X G a45,
    a_law_writes := f46,
    d_law_writes := _,
    F_law_writes := fun_mk (st := s_law_writes) l46 c46 k46,
    b_law_writes := (fun_mk (st := s_law_writes) l46 c46 k46).binds (ps := ["hand", "keys", "most"]) (fun _ _ _ _ _ _ us hl => match us, hl with | [_, _, _], _ => rfl),
    g_law_writes := PySem.W.mg_of X G a46,
    a_law_history := f47,
    d_law_history := _,
    F_law_history := fun_mk (st := s_law_history) l47 c47 k47,
    b_law_history := (fun_mk (st := s_law_history) l47 c47 k47).binds (ps := ["hand", "most", "keys", "lag"]) (fun _ _ _ _ _ _ us hl => match us, hl with | [_, _, _, _], _ => rfl),
    g_law_history := PySem.W.mg_of X G a47,
    a_law_keys := f48,
    d_law_keys := _,
    F_law_keys := fun_mk (st := s_law_keys) l48 c48 k48,
    b_law_keys := (fun_mk (st := s_law_keys) l48 c48 k48).binds (ps := []) (fun _ _ _ _ _ _ us hl => match us, hl with | [], _ => rfl),
    g_law_keys := PySem.W.mg_of X G a48,
    a_law_wrote := f49,
    d_law_wrote := _,
    F_law_wrote := fun_mk (st := s_law_wrote) l49 c49 k49,
    b_law_wrote := (fun_mk (st := s_law_wrote) l49 c49 k49).binds (ps := ["part"]) (fun _ _ _ _ _ _ us hl => match us, hl with | [_], _ => rfl),
    g_law_wrote := PySem.W.mg_of X G a49,
    a_law_lost := f50,
    d_law_lost := _,
    F_law_lost := fun_mk (st := s_law_lost) l50 c50 k50,
    b_law_lost := (fun_mk (st := s_law_lost) l50 c50 k50).binds (ps := ["parts"]) (fun _ _ _ _ _ _ us hl => match us, hl with | [_], _ => rfl),
    g_law_lost := PySem.W.mg_of X G a50,
    a_law := fa,
    d_law := _,
    F_law := fun_mk (st := s_law) l51 c51 k51,
    b_law := (fun_mk (st := s_law) l51 c51 k51).binds (ps := ["script"]) (fun _ _ _ _ _ _ us hl => match us, hl with | [_], _ => rfl),
    g_law := PySem.W.mg_of X G a51,
    bl := fun s u => .of_eq rfl,
    e_NoOrder := ⟨ex_NoOrder, PySem.W.mg_of X G aC_NoOrder, ek_NoOrder, es_NoOrder, et_NoOrder⟩,
    gX_TooMany := PySem.W.mg_of X G aC_TooMany,
    aI_TooMany := fI_TooMany,
    dI_TooMany := _,
    FI_TooMany := fun_mk (st := s_TooMany_init) ql_TooMany qc_TooMany qk_TooMany,
    bI_TooMany := (fun_mk (st := s_TooMany_init) ql_TooMany qc_TooMany qk_TooMany).binds (ps := ["self", "most"]) (fun _ _ _ _ _ _ us hl => match us, hl with | [_, _], _ => rfl),
    xi_TooMany := qi_TooMany,
    xt_TooMany := qt_TooMany,
    xo_TooMany := oexC_by qo_TooMany qs_TooMany es_TooMany et_TooMany ek_TooMany,
    xf_TooMany := ⟨qg_TooMany, qa_TooMany, es_TooMany, qh_TooMany⟩,
    xn_TooMany := qn_TooMany,
    cl_Dealing := ⟨pg_Dealing, hd_Dealing, po_Dealing, sa_Dealing⟩,
    io_Dealing := ⟨⟨pg_Dealing, hd_Dealing, po_Dealing, sa_Dealing⟩, xa_Dealing, xn_all, xt_all, xo_Dealing⟩,
    ki_Dealing_int := ki_Dealing_int,
    ki_Dealing_bool := ki_Dealing_bool,
    ki_Dealing_str := ki_Dealing_str,
    ki_Dealing_tuple := ki_Dealing_tuple,
    e_StoreError := ⟨ex_StoreError, PySem.W.mg_of X G aC_StoreError, ek_StoreError, es_StoreError, et_StoreError⟩,
    M_Dealing := ⟨mk_Dealing, a20, i20, kc_Dealing⟩,
    gC_Dealing := PySem.W.mg_of X G aC_Dealing,
    nf_gets_Dealing := nf_gets_Dealing,
    nf_number_Dealing := nf_number_Dealing,
    nf_ranges_Dealing := nf_ranges_Dealing,
    nf_snapshot_Dealing := nf_snapshot_Dealing,
    nf_writes_Dealing := nf_writes_Dealing,
    t_GREATEST := t_GREATEST,
    c_GREATEST := PySem.W.mg_of X G co_GREATEST,
    t_LONGEST_WORD := t_LONGEST_WORD,
    c_LONGEST_WORD := PySem.W.mg_of X G co_LONGEST_WORD,
    t_MOST_COUNTED := t_MOST_COUNTED,
    c_MOST_COUNTED := PySem.W.mg_of X G co_MOST_COUNTED,
    t_MOST_DEALINGS := t_MOST_DEALINGS,
    c_MOST_DEALINGS := PySem.W.mg_of X G co_MOST_DEALINGS,
    z_abs := PySem.W.mg_none_of X G zb_abs,
    z_all := PySem.W.mg_none_of X G zb_all,
    z_any := PySem.W.mg_none_of X G zb_any,
    z_bool := PySem.W.mg_none_of X G zb_bool,
    z_enumerate := PySem.W.mg_none_of X G zb_enumerate,
    z_int := PySem.W.mg_none_of X G zb_int,
    z_isinstance := PySem.W.mg_none_of X G zb_isinstance,
    z_len := PySem.W.mg_none_of X G zb_len,
    z_max := PySem.W.mg_none_of X G zb_max,
    z_range := PySem.W.mg_none_of X G zb_range,
    z_set := PySem.W.mg_none_of X G zb_set,
    z_sorted := PySem.W.mg_none_of X G zb_sorted,
    z_str := PySem.W.mg_none_of X G zb_str,
    z_tuple := PySem.W.mg_none_of X G zb_tuple }, rfl⟩
/-- what is asked of the law -/
def spLaw (K : PySem.W.Frag) : Sp := fun vs H Q _ => ∃ (a : Addr) (ns : List Int), vs = [.ref a] ∧ SqL K H a (ns.map V.int) ∧ ns.length ≤ 63 ∧ ∀ H', Q (.bl true) H'
end Lw
namespace Mi
open PySem L2
section
variable {N : KN} {R : KR} {B C : KN} {E : KX} {env : Ev} {st : Sto}
theorem ws_asg {m : M W} {g : MG} : ws (sAsg m g env st) N R B C E ↔ wp (m env st) (fun w s => ∃ e2 s2, g w env s = some (e2, s2) ∧ N e2 s2) (fun x s => E x env s) := by
  unfold sAsg
  rw [ws_to]
  refine wp_iff fun w s => ?_
  cases g w env s with
  | none => exact ⟨fun z => z.elim, fun ⟨_, _, z, _⟩ => by cases z⟩
  | some p => exact ⟨fun z => ⟨p.1, p.2, rfl, z⟩, fun ⟨e2, s2, z, n⟩ => by cases z; exact n⟩
theorem ws_aug {i : Nat} {f : F2} {m : M W} {w : W} (e : env[i]? = some (some w)) : ws (sAug i f m env st) N R B C E ↔ wp (m env st) (fun u s => wp (f w u s) (fun z s2 => N (env.set i (some z)) s2) (fun x s => E x env s)) (fun x s => E x env s) := by
  unfold sAug
  rw [e]
  show ws ((m env st).to env fun u s => (f w u s).to env fun z s2 => .nx (env.set i (some z)) s2) N R B C E ↔ _
  rw [ws_to]
  exact wp_iff fun u s => by rw [ws_to]; exact Iff.rfl
end
section
variable {P : W → Sto → Prop} {E : Xc → Sto → Prop} {env : Ev} {st : Sto}
theorem scalVs_s : ∀ ns : List Str, scalVs (ns.map W.str) = some (ns.map V.str)
  | [] => rfl
  | n :: ns => by simp only [List.map_cons, scalVs, scalV, scalVs_s ns]
theorem inV_s (x : Str) (ns : List Str) : inV (.str x) (ns.map V.str) = decide (x ∈ ns) := by
  unfold inV
  rw [List.any_map]
  induction ns with
  | nil => simp
  | cons n ns ih =>
    rw [List.any_cons, ih]
    simp only [Function.comp, eqV, List.mem_cons, Bool.decide_or]
    congr 1
    by_cases h : n = x
    · simp [h]
    · have : ¬ x = n := fun z => h z.symm
      simp [h, this]
theorem wp_inLs {neg : Bool} {x : Str} {ns : List Str} : wp (wIn neg (.str x) (.lst (ns.map W.str)) st) P E ↔ P (.bl (if neg = true then !decide (x ∈ ns) else decide (x ∈ ns))) st := by
  have : wIn neg (.str x) (.lst (ns.map W.str)) st = .ok (.bl (if neg = true then !decide (x ∈ ns) else decide (x ∈ ns))) st := by
    simp only [wIn, inW, scalV, tupL, seqL, scalVs_s, inV_s]
  rw [this]; exact Iff.rfl
theorem wp_isCd {tb : List (Nat × Bool)} {m : M W} : wp (mIsC tb m env st) P E ↔ wp (m env st) (fun w s => wp (match w with | .ref i => (match s[i]? with | some (.ins c _) => (match tb.lookup c with | some b => .ok (.bl b) s | none => .stuck) | _ => .stuck) | _ => .stuck) P E) E := by
  unfold mIsC
  exact wp_bind.trans (wp_iff fun w s => Iff.rfl)
theorem compS_acc {src : Src} {β : Type} {zs : List β} {enc1 : β → W} {f : β → W} {t1 : CT} {elt : M W} (hat : ∀ i, src.at_ i st = some (zs.map enc1)[i]?)
    (h : ∀ z ∈ zs, ∃ env2, t1.put (enc1 z) env = some env2 ∧ elt env2 st = .ok (f z) st) :
    ∀ (m i : Nat) (acc : List W), zs.length < i + m → i ≤ zs.length → acc.length + (zs.length - i) ≤ sizeLine → compS src t1 mYes elt env m i acc st = .ok (acc ++ (zs.drop i).map f) st
  | 0, i, acc, h1, h2, _ => by omega
  | m + 1, i, acc, h1, h2, h3 => by
    unfold compS
    rw [hat i]
    by_cases e : i = zs.length
    · subst e
      rw [List.getElem?_eq_none (by simp)]
      simp
    · have hx : i < zs.length := by omega
      rw [List.getElem?_map, List.getElem?_eq_getElem hx]
      obtain ⟨env2, e1, e2⟩ := h zs[i] (List.getElem_mem hx)
      simp only [Option.map_some, e1, mYes, e2]
      rw [if_pos (by omega), compS_acc hat h m (i + 1) _ (by omega) (by omega) (by simp; omega)]
      rw [List.drop_eq_getElem_cons hx]
      simp only [List.map_cons, List.append_assoc, List.singleton_append]
theorem compS2_acc {src : Src} {α β : Type} {ys : List α} {enc : α → W} {zs : α → List β} {enc1 : β → W} {f : α → β → W} {t t1 : CT} {mi1 : MI} {vs1 : List Nat} {elt : M W} (hat : ∀ i, src.at_ i st = some (ys.map enc)[i]?)
    (h : ∀ y ∈ ys, ∃ env1 s1, t.put (enc y) env = some env1 ∧ mi1 env1 st = .ok s1 st ∧ s1.fuel = (zs y).length + 1 ∧ (∀ i, s1.at_ i st = some ((zs y).map enc1)[i]?) ∧
      ∀ z ∈ zs y, ∃ env2, t1.put (enc1 z) (wipeW env1 vs1) = some env2 ∧ elt env2 st = .ok (f y z) st) :
    ∀ (m i : Nat) (acc : List W), ys.length < i + m → i ≤ ys.length → acc.length + ((ys.drop i).flatMap zs).length ≤ sizeLine → compS2 src t mi1 vs1 t1 elt env m i acc st = .ok (acc ++ (ys.drop i).flatMap fun y => (zs y).map (f y)) st
  | 0, i, acc, h1, h2, _ => by omega
  | m + 1, i, acc, h1, h2, h3 => by
    unfold compS2
    rw [hat i]
    by_cases e : i = ys.length
    · subst e
      rw [List.getElem?_eq_none (by simp)]
      simp
    · have hx : i < ys.length := by omega
      rw [List.getElem?_map, List.getElem?_eq_getElem hx]
      obtain ⟨env1, s1, e1, e2, e3, e4, e5⟩ := h ys[i] (List.getElem_mem hx)
      rw [List.drop_eq_getElem_cons hx, List.flatMap_cons, List.length_append] at h3
      simp only [Option.map_some, e1, e2]
      rw [compS_acc (f := f ys[i]) e4 e5 _ 0 acc (by omega) (Nat.zero_le _) (by omega)]
      dsimp only
      rw [compS2_acc hat h m (i + 1) _ (by omega) (by omega) (by simp only [List.length_append, List.length_map, List.drop_zero]; omega)]
      rw [List.drop_eq_getElem_cons hx, List.flatMap_cons]
      simp only [List.append_assoc, List.drop_zero]
end
theorem enL_map {α : Type} (f : α → W) (xs : List α) : enL (xs.map f) = xs.zipIdx.map fun q => W.tup [.int (q.2 : Int), f q.1] := by
  refine List.ext_getElem? fun i => ?_
  unfold enL
  rw [List.getElem?_map, List.getElem?_map]
  by_cases h : i < xs.length
  · rw [List.getElem?_eq_getElem (by simpa using h), List.getElem?_eq_getElem (by simpa using h)]
    simp [List.getD, h]
  · rw [List.getElem?_eq_none (by simpa using h), List.getElem?_eq_none (by simpa using h)]
    rfl
end Mi
namespace Lw
open PySem L2 Mi
def Up (h : Nat) (st s : Sto) : Prop := st.length ≤ s.length ∧ ∀ (i : Nat) (n : Nd), i ≠ h → st[i]? = some n → s[i]? = some n
def Ext (st s : Sto) : Prop := st.length ≤ s.length ∧ ∀ (i : Nat) (n : Nd), st[i]? = some n → s[i]? = some n
theorem Up.refl {h : Nat} {st : Sto} : Up h st st := ⟨Nat.le_refl _, fun _ _ _ z => z⟩
theorem Up.trans {h : Nat} {a b c : Sto} (x : Up h a b) (y : Up h b c) : Up h a c := ⟨Nat.le_trans x.1 y.1, fun i n k z => y.2 i n k (x.2 i n k z)⟩
theorem Ext.refl {st : Sto} : Ext st st := ⟨Nat.le_refl _, fun _ _ z => z⟩
theorem Ext.trans {a b c : Sto} (x : Ext a b) (y : Ext b c) : Ext a c := ⟨Nat.le_trans x.1 y.1, fun i n z => y.2 i n (x.2 i n z)⟩
theorem Ext.up {h : Nat} {a b : Sto} (x : Ext a b) : Up h a b := ⟨x.1, fun i n _ z => x.2 i n z⟩
theorem Ext.app {a t : Sto} : Ext a (a ++ t) := ⟨by simp, fun i n z => by
  rw [List.getElem?_append_left (List.getElem?_eq_some_iff.mp z).1]; exact z⟩
theorem Up.set {h : Nat} {a : Sto} {n : Nd} : Up h a (a.set h n) := ⟨by simp, fun i m k z => by rw [List.getElem?_set_ne (fun e => k e.symm)]; exact z⟩
/-- a place behind st changes -/
theorem Ext.set {a s : Sto} {p : Nat} {n : Nd} (x : Ext a s) (hp : a.length ≤ p) : Ext a (s.set p n) := ⟨by simp; exact x.1, fun i m z => by
  have := (List.getElem?_eq_some_iff.mp z).1
  rw [List.getElem?_set_ne (by omega)]; exact x.2 i m z⟩
theorem Up.setp {h : Nat} {a s : Sto} {p : Nat} {n : Nd} (x : Up h a s) (hp : a.length ≤ p) : Up h a (s.set p n) := ⟨by simp; exact x.1, fun i m k z => by
  have := (List.getElem?_eq_some_iff.mp z).1
  rw [List.getElem?_set_ne (by omega)]; exact x.2 i m k z⟩
theorem get_setp {s : Sto} {p : Nat} {n m : Nd} (e : s[p]? = some m) : (s.set p n)[p]? = some n := by
  have := (List.getElem?_eq_some_iff.mp e).1
  simp [this]
theorem get_setn {s : Sto} {p q : Nat} {n : Nd} (h : p ≠ q) : (s.set p n)[q]? = s[q]? := List.getElem?_set_ne h
theorem get_new {s : Sto} {n : Nd} : (s ++ [n])[s.length]? = some n := by simp
theorem get_old {s : Sto} {n m : Nd} {i : Nat} (e : s[i]? = some m) : (s ++ [n])[i]? = some m := by
  rw [List.getElem?_append_left (List.getElem?_eq_some_iff.mp e).1]; exact e
theorem lt_of_get {s : Sto} {i : Nat} {m : Nd} (e : s[i]? = some m) : i < s.length := (List.getElem?_eq_some_iff.mp e).1
/-! the hand -/
def BagN (cs : List Int) (a : Nat) (b c e : Int) : Nd := .lst [.lst (cs.map W.int), .int (a : Int), .int b, .int c, .int e]
def Bg (h : Nat) (st : Sto) : Prop := ∃ cs a b c e, st[h]? = some (BagN cs a b c e)
theorem Bg.ext {h : Nat} {a b : Sto} (x : Ext a b) (g : Bg h a) : Bg h b := by
  obtain ⟨cs, i, j, k, l, e⟩ := g
  exact ⟨cs, i, j, k, l, x.2 h _ e⟩
theorem Bg.new {h : Nat} {st : Sto} {n : Nd} (g : Bg h st) : Bg h (st ++ [n]) := g.ext Ext.app
theorem Bg.set {h p : Nat} {st : Sto} {n : Nd} (g : Bg h st) (k : p ≠ h) : Bg h (st.set p n) := by
  obtain ⟨cs, i, j, l, m, e⟩ := g
  exact ⟨cs, i, j, l, m, by rw [get_setn k]; exact e⟩
theorem Bg.at {h : Nat} {st s : Sto} (g : Bg h st) (k : s[h]? = st[h]?) : Bg h s := by
  obtain ⟨cs, i, j, l, m, e⟩ := g
  exact ⟨cs, i, j, l, m, k.trans e⟩
theorem Bg.lt {h : Nat} {st : Sto} (g : Bg h st) : h < st.length := by
  obtain ⟨_, _, _, _, _, e⟩ := g
  exact lt_of_get e
section
variable {h : Nat} {st : Sto} {cs : List Int} {a : Nat} {b c d : Int} {P : W → Sto → Prop} {E : Xc → Sto → Prop} {PU : Unit → Sto → Prop}
theorem bag0 (e : st[h]? = some (BagN cs a b c d)) : wp (wIx (.ref h) (.int 0) st) P E ↔ P (.lst (cs.map W.int)) st := wp_ixR (n := 0) e rfl
theorem bag1 (e : st[h]? = some (BagN cs a b c d)) : wp (wIx (.ref h) (.int 1) st) P E ↔ P (.int a) st := wp_ixR (n := 1) e rfl
theorem bag2 (e : st[h]? = some (BagN cs a b c d)) : wp (wIx (.ref h) (.int 2) st) P E ↔ P (.int b) st := wp_ixR (n := 2) e rfl
theorem bag3 (e : st[h]? = some (BagN cs a b c d)) : wp (wIx (.ref h) (.int 3) st) P E ↔ P (.int c) st := wp_ixR (n := 3) e rfl
theorem bag4 (e : st[h]? = some (BagN cs a b c d)) : wp (wIx (.ref h) (.int 4) st) P E ↔ P (.int d) st := wp_ixR (n := 4) e rfl
theorem set_k {st : Sto} {h : Nat} {xs : List W} {n : Nat} {w : W} (e : st[h]? = some (.lst xs)) (k : n < xs.length) : wStore (.ref h) (.int (n : Int)) w st = some (st.set h (.lst (xs.set n w))) := by
  simp [wStore, wSet, e, ixN, k]
theorem bagw1 {x : Nat} (e : st[h]? = some (BagN cs a b c d)) : wp (stR (.ref h) (.int 1) (.int ((x : Int) + 1)) st) PU E ↔ PU () (st.set h (BagN cs (x + 1) b c d)) := wp_stR (by
  have := set_k (n := 1) (w := .int ((x + 1 : Nat) : Int)) e (by simp)
  simpa [BagN] using this)
theorem bagw2 {x : Int} (e : st[h]? = some (BagN cs a b c d)) : wp (stR (.ref h) (.int 2) (.int x) st) PU E ↔ PU () (st.set h (BagN cs a x c d)) := wp_stR (by
  have := set_k (n := 2) (w := .int x) e (by simp)
  simpa [BagN] using this)
theorem bagw3 {x : Int} (e : st[h]? = some (BagN cs a b c d)) : wp (stR (.ref h) (.int 3) (.int x) st) PU E ↔ PU () (st.set h (BagN cs a b x d)) := wp_stR (by
  have := set_k (n := 3) (w := .int x) e (by simp)
  simpa [BagN] using this)
theorem bagw4 {x : Int} (e : st[h]? = some (BagN cs a b c d)) : wp (stR (.ref h) (.int 4) (.int x) st) PU E ↔ PU () (st.set h (BagN cs a b c x)) := wp_stR (by
  have := set_k (n := 4) (w := .int x) e (by simp)
  simpa [BagN] using this)
end
theorem small_of {i : Int} (a : 0 ≤ i) (b : i < 18446744073709551616) : Mi.small64 i = true := by
  simp only [Mi.small64, decide_eq_true_eq]; omega
/-- a draw -/
theorem draw1 {h : Nat} {st : Sto} {m : Int} (g : Bg h st) (h0 : 0 < m) (h1 : m < 1073741824) : wp (r_law_draw [.ref h, .int m] st) (fun w s => ∃ (x : Int) (n : Nd), w = .int x ∧ 0 ≤ x ∧ x < m ∧ s = st.set h n ∧ Bg h s) NoE := by
  obtain ⟨cs, a, b, c, d, e⟩ := g
  have hm : m ≠ 0 := by omega
  have hm2 : m.natAbs < 1073741824 := by omega
  have hb : ∀ {n : Nd} {s : Sto} {cs a b c d}, s[h]? = some n → Bg h (s.set h (BagN cs a b c d)) := fun q => ⟨_, _, _, _, _, get_setp q⟩
  have hf : ∀ {x : Int} {n : Nd} {s : Sto}, s = st.set h n → Bg h s → ∃ (y : Int) (n' : Nd), W.int (x.fmod m) = W.int y ∧ 0 ≤ y ∧ y < m ∧ s = st.set h n' ∧ Bg h s := fun q q2 => ⟨_, _, rfl, Int.fmod_nonneg_of_pos _ h0, Int.fmod_lt_of_pos _ h0, q, q2⟩
  have f := fun x : Int => small_of (Int.fmod_nonneg_of_pos x (by decide : (0 : Int) < 2147483647)) (Int.lt_trans (Int.fmod_lt_of_pos x (by decide : (0 : Int) < 2147483647)) (by decide))
  have s1 : Mi.small64 7919 = true := rfl
  have s2 : Mi.small64 48271 = true := rfl
  have s3 : Mi.small64 69621 = true := rfl
  have self : st = st.set h (BagN cs a b c d) := (List.ext_getElem? fun j => by
    by_cases q : h = j
    · subst q; rw [get_setp e]; exact e
    · rw [get_setn q])
  simp only [r_law_draw, m_law_draw]
  rw [wp_run]
  simp only [List.map, List.length, List.replicate, List.cons_append, List.nil_append, Nat.reduceAdd, Nat.reduceSub]
  rw [ws_seq]
  refine ws_nx (N := fun v s => ∃ (o : Option W) (a : Nat) (b c d : Int) (n : Nd), v = [some (.ref h), some (.int m), o, none, none] ∧ s = st.set h n ∧ s[h]? = some (BagN cs a b c d)) ?_ ?_
  · have stay : ∃ (o : Option W) (a : Nat) (b c d : Int) (n : Nd), [some (W.ref h), some (.int m), none, none, none] = [some (.ref h), some (.int m), o, none, none] ∧ st = st.set h n ∧ st[h]? = some (BagN cs a b c d) := ⟨none, a, b, c, d, _, rfl, self, e⟩
    simp only [ws_seq, ws_if, ws_set, ws_sub, ws_ret, ws_retN, ws_expr, ws_sNx, ws_for, wp_op, wp_var0, wp_varS, wp_c, wp_mB, wp_toB, wp_tr, wp_trB_bl, wp_trB_non, wp_trB_int, wp_not, wp_and, wp_or, wp_if, wp_mBl, wp_nil, wp_cons, wp_tup, wp_lst, wp_lstS, wp_newL_t, wp_newL_f, wp_chain, wp_call, wp_fn, wp_sl, wp_noPart, wp_part, wp_comp, wp_yes, wp_iL, wp_iA, wp_srcL, wp_srcS, wp_srcAL, wp_srcAT, wp_iR1, wp_iR2, wp_rng1, wp_rng2, wp_iRv, wp_srcRL, wp_srcRT, wp_iEA, wp_srcEL, wp_srcET, wp_add, wp_sub, wp_mul, wp_mod, wp_div, wp_divW, wp_pow18, wp_pow17, wp_pow16, wp_pow30, wp_eqI, wp_neI, wp_cmpI, wp_isN, wp_isNotN, wp_lenL, wp_lenT, wp_abs, wp_int, wp_min2, wp_max2, wp_listL, wp_listT, wp_tupleL, wp_tupleT, wp_ixT0, wp_ixT1, wp_ixL0, wp_neg, wp_ok, wp_srcEL, wp_isB, wp_isNotB, wp_eqB, wp_neB, wp_all, wp_any, wp_slT, wp_slL, wp_rev, wp_revT, wp_revL, wp_disp, wp_pair, wp_pair0, wp_dict0, wipeW, List.foldl_cons, List.foldl_nil, wp_run, List.map, List.length, List.replicate, List.cons_append, List.nil_append, List.append_nil, List.set_cons_zero, List.set_cons_succ, if_true, if_false, Bool.not_true, Bool.not_false, Bool.true_eq_false, Bool.false_eq_true, Nat.reduceAdd, Nat.reduceSub, gName', bag2 e, decide_eq_true_eq]
    split
    · simp only [ws_seq, ws_if, ws_set, ws_sub, ws_ret, ws_retN, ws_expr, ws_sNx, ws_for, wp_op, wp_var0, wp_varS, wp_c, wp_mB, wp_toB, wp_tr, wp_trB_bl, wp_trB_non, wp_trB_int, wp_not, wp_and, wp_or, wp_if, wp_mBl, wp_nil, wp_cons, wp_tup, wp_lst, wp_lstS, wp_newL_t, wp_newL_f, wp_chain, wp_call, wp_fn, wp_sl, wp_noPart, wp_part, wp_comp, wp_yes, wp_iL, wp_iA, wp_srcL, wp_srcS, wp_srcAL, wp_srcAT, wp_iR1, wp_iR2, wp_rng1, wp_rng2, wp_iRv, wp_srcRL, wp_srcRT, wp_iEA, wp_srcEL, wp_srcET, wp_add, wp_sub, wp_mul, wp_mod, wp_div, wp_divW, wp_pow18, wp_pow17, wp_pow16, wp_pow30, wp_eqI, wp_neI, wp_cmpI, wp_isN, wp_isNotN, wp_lenL, wp_lenT, wp_abs, wp_int, wp_min2, wp_max2, wp_listL, wp_listT, wp_tupleL, wp_tupleT, wp_ixT0, wp_ixT1, wp_ixL0, wp_neg, wp_ok, wp_srcEL, wp_isB, wp_isNotB, wp_eqB, wp_neB, wp_all, wp_any, wp_slT, wp_slL, wp_rev, wp_revT, wp_revL, wp_disp, wp_pair, wp_pair0, wp_dict0, wipeW, List.foldl_cons, List.foldl_nil, wp_run, List.map, List.length, List.replicate, List.cons_append, List.nil_append, List.append_nil, List.set_cons_zero, List.set_cons_succ, if_true, if_false, Bool.not_true, Bool.not_false, Bool.true_eq_false, Bool.false_eq_true, Nat.reduceAdd, Nat.reduceSub, gName', bag1 e, bag0 e, List.length_map, decide_eq_true_eq]
      split
      · rename_i hl
        obtain ⟨cell, hcell⟩ : ∃ cell, cs[a]? = some cell := ⟨_, List.getElem?_eq_getElem (by omega)⟩
        have e2 : (cs.map W.int)[a]? = some (.int cell) := by rw [List.getElem?_map, hcell]; rfl
        have e3 := get_setp (n := BagN cs (a + 1) b c d) e
        have e4 : ∀ x, ((st.set h (BagN cs (a + 1) b c d)).set h (BagN cs (a + 1) b x d))[h]? = some (BagN cs (a + 1) b x d) := fun x => get_setp e3
        rw [wp_ixL e2]
        simp only [ws_seq, ws_if, ws_set, ws_sub, ws_ret, ws_retN, ws_expr, ws_sNx, ws_for, wp_op, wp_var0, wp_varS, wp_c, wp_mB, wp_toB, wp_tr, wp_trB_bl, wp_trB_non, wp_trB_int, wp_not, wp_and, wp_or, wp_if, wp_mBl, wp_nil, wp_cons, wp_tup, wp_lst, wp_lstS, wp_newL_t, wp_newL_f, wp_chain, wp_call, wp_fn, wp_sl, wp_noPart, wp_part, wp_comp, wp_yes, wp_iL, wp_iA, wp_srcL, wp_srcS, wp_srcAL, wp_srcAT, wp_iR1, wp_iR2, wp_rng1, wp_rng2, wp_iRv, wp_srcRL, wp_srcRT, wp_iEA, wp_srcEL, wp_srcET, wp_add, wp_sub, wp_mul, wp_mod, wp_div, wp_divW, wp_pow18, wp_pow17, wp_pow16, wp_pow30, wp_eqI, wp_neI, wp_cmpI, wp_isN, wp_isNotN, wp_lenL, wp_lenT, wp_abs, wp_int, wp_min2, wp_max2, wp_listL, wp_listT, wp_tupleL, wp_tupleT, wp_ixT0, wp_ixT1, wp_ixL0, wp_neg, wp_ok, wp_srcEL, wp_isB, wp_isNotB, wp_eqB, wp_neB, wp_all, wp_any, wp_slT, wp_slL, wp_rev, wp_revT, wp_revL, wp_disp, wp_pair, wp_pair0, wp_dict0, wipeW, List.foldl_cons, List.foldl_nil, wp_run, List.map, List.length, List.replicate, List.cons_append, List.nil_append, List.append_nil, List.set_cons_zero, List.set_cons_succ, if_true, if_false, Bool.not_true, Bool.not_false, Bool.true_eq_false, Bool.false_eq_true, Nat.reduceAdd, Nat.reduceSub, gName', bag1 e, bagw1 e, bag3 e3, bagw3 e3, s3, Bool.or_true, true_and, decide_eq_true_eq, ne_eq]
        refine ⟨by decide, ?_⟩
        split
        · simp only [ws_seq, ws_if, ws_set, ws_sub, ws_ret, ws_retN, ws_expr, ws_sNx, ws_for, wp_op, wp_var0, wp_varS, wp_c, wp_mB, wp_toB, wp_tr, wp_trB_bl, wp_trB_non, wp_trB_int, wp_not, wp_and, wp_or, wp_if, wp_mBl, wp_nil, wp_cons, wp_tup, wp_lst, wp_lstS, wp_newL_t, wp_newL_f, wp_chain, wp_call, wp_fn, wp_sl, wp_noPart, wp_part, wp_comp, wp_yes, wp_iL, wp_iA, wp_srcL, wp_srcS, wp_srcAL, wp_srcAT, wp_iR1, wp_iR2, wp_rng1, wp_rng2, wp_iRv, wp_srcRL, wp_srcRT, wp_iEA, wp_srcEL, wp_srcET, wp_add, wp_sub, wp_mul, wp_mod, wp_div, wp_divW, wp_pow18, wp_pow17, wp_pow16, wp_pow30, wp_eqI, wp_neI, wp_cmpI, wp_isN, wp_isNotN, wp_lenL, wp_lenT, wp_abs, wp_int, wp_min2, wp_max2, wp_listL, wp_listT, wp_tupleL, wp_tupleT, wp_ixT0, wp_ixT1, wp_ixL0, wp_neg, wp_ok, wp_srcEL, wp_isB, wp_isNotB, wp_eqB, wp_neB, wp_all, wp_any, wp_slT, wp_slL, wp_rev, wp_revT, wp_revL, wp_disp, wp_pair, wp_pair0, wp_dict0, wipeW, List.foldl_cons, List.foldl_nil, wp_run, List.map, List.length, List.replicate, List.cons_append, List.nil_append, List.append_nil, List.set_cons_zero, List.set_cons_succ, if_true, if_false, Bool.not_true, Bool.not_false, Bool.true_eq_false, Bool.false_eq_true, Nat.reduceAdd, Nat.reduceSub, gName', bagw2 (e4 _)]
          exact ⟨_, _, _, _, _, _, rfl, by rw [List.set_set, List.set_set], get_setp (e4 _)⟩
        · exact ⟨_, _, _, _, _, _, rfl, by rw [List.set_set], e4 _⟩
      · exact stay
    · exact stay
  · rintro v s ⟨o, a, b, c, d, n, rfl, rfl, e⟩
    simp only [ws_seq, ws_if, ws_set, ws_sub, ws_ret, ws_retN, ws_expr, ws_sNx, ws_for, wp_op, wp_var0, wp_varS, wp_c, wp_mB, wp_toB, wp_tr, wp_trB_bl, wp_trB_non, wp_trB_int, wp_not, wp_and, wp_or, wp_if, wp_mBl, wp_nil, wp_cons, wp_tup, wp_lst, wp_lstS, wp_newL_t, wp_newL_f, wp_chain, wp_call, wp_fn, wp_sl, wp_noPart, wp_part, wp_comp, wp_yes, wp_iL, wp_iA, wp_srcL, wp_srcS, wp_srcAL, wp_srcAT, wp_iR1, wp_iR2, wp_rng1, wp_rng2, wp_iRv, wp_srcRL, wp_srcRT, wp_iEA, wp_srcEL, wp_srcET, wp_add, wp_sub, wp_mul, wp_mod, wp_div, wp_divW, wp_pow18, wp_pow17, wp_pow16, wp_pow30, wp_eqI, wp_neI, wp_cmpI, wp_isN, wp_isNotN, wp_lenL, wp_lenT, wp_abs, wp_int, wp_min2, wp_max2, wp_listL, wp_listT, wp_tupleL, wp_tupleT, wp_ixT0, wp_ixT1, wp_ixL0, wp_neg, wp_ok, wp_srcEL, wp_isB, wp_isNotB, wp_eqB, wp_neB, wp_all, wp_any, wp_slT, wp_slL, wp_rev, wp_revT, wp_revL, wp_disp, wp_pair, wp_pair0, wp_dict0, wipeW, List.foldl_cons, List.foldl_nil, wp_run, List.map, List.length, List.replicate, List.cons_append, List.nil_append, List.append_nil, List.set_cons_zero, List.set_cons_succ, if_true, if_false, Bool.not_true, Bool.not_false, Bool.true_eq_false, Bool.false_eq_true, Nat.reduceAdd, Nat.reduceSub, gName', bag2 e, decide_eq_true_eq]
    split
    · simp only [ws_seq, ws_if, ws_set, ws_sub, ws_ret, ws_retN, ws_expr, ws_sNx, ws_for, wp_op, wp_var0, wp_varS, wp_c, wp_mB, wp_toB, wp_tr, wp_trB_bl, wp_trB_non, wp_trB_int, wp_not, wp_and, wp_or, wp_if, wp_mBl, wp_nil, wp_cons, wp_tup, wp_lst, wp_lstS, wp_newL_t, wp_newL_f, wp_chain, wp_call, wp_fn, wp_sl, wp_noPart, wp_part, wp_comp, wp_yes, wp_iL, wp_iA, wp_srcL, wp_srcS, wp_srcAL, wp_srcAT, wp_iR1, wp_iR2, wp_rng1, wp_rng2, wp_iRv, wp_srcRL, wp_srcRT, wp_iEA, wp_srcEL, wp_srcET, wp_add, wp_sub, wp_mul, wp_mod, wp_div, wp_divW, wp_pow18, wp_pow17, wp_pow16, wp_pow30, wp_eqI, wp_neI, wp_cmpI, wp_isN, wp_isNotN, wp_lenL, wp_lenT, wp_abs, wp_int, wp_min2, wp_max2, wp_listL, wp_listT, wp_tupleL, wp_tupleT, wp_ixT0, wp_ixT1, wp_ixL0, wp_neg, wp_ok, wp_srcEL, wp_isB, wp_isNotB, wp_eqB, wp_neB, wp_all, wp_any, wp_slT, wp_slL, wp_rev, wp_revT, wp_revL, wp_disp, wp_pair, wp_pair0, wp_dict0, wipeW, List.foldl_cons, List.foldl_nil, wp_run, List.map, List.length, List.replicate, List.cons_append, List.nil_append, List.append_nil, List.set_cons_zero, List.set_cons_succ, if_true, if_false, Bool.not_true, Bool.not_false, Bool.true_eq_false, Bool.false_eq_true, Nat.reduceAdd, Nat.reduceSub, gName', bag2 e, bagw2 e, hm, hm2, true_and, and_true, ne_eq, not_false_eq_true]
      exact hf (by rw [List.set_set]) (hb e)
    · have e3 := get_setp (n := BagN cs a b c (d + 1)) e
      simp only [ws_seq, ws_if, ws_set, ws_sub, ws_ret, ws_retN, ws_expr, ws_sNx, ws_for, wp_op, wp_var0, wp_varS, wp_c, wp_mB, wp_toB, wp_tr, wp_trB_bl, wp_trB_non, wp_trB_int, wp_not, wp_and, wp_or, wp_if, wp_mBl, wp_nil, wp_cons, wp_tup, wp_lst, wp_lstS, wp_newL_t, wp_newL_f, wp_chain, wp_call, wp_fn, wp_sl, wp_noPart, wp_part, wp_comp, wp_yes, wp_iL, wp_iA, wp_srcL, wp_srcS, wp_srcAL, wp_srcAT, wp_iR1, wp_iR2, wp_rng1, wp_rng2, wp_iRv, wp_srcRL, wp_srcRT, wp_iEA, wp_srcEL, wp_srcET, wp_add, wp_sub, wp_mul, wp_mod, wp_div, wp_divW, wp_pow18, wp_pow17, wp_pow16, wp_pow30, wp_eqI, wp_neI, wp_cmpI, wp_isN, wp_isNotN, wp_lenL, wp_lenT, wp_abs, wp_int, wp_min2, wp_max2, wp_listL, wp_listT, wp_tupleL, wp_tupleT, wp_ixT0, wp_ixT1, wp_ixL0, wp_neg, wp_ok, wp_srcEL, wp_isB, wp_isNotB, wp_eqB, wp_neB, wp_all, wp_any, wp_slT, wp_slL, wp_rev, wp_revT, wp_revL, wp_disp, wp_pair, wp_pair0, wp_dict0, wipeW, List.foldl_cons, List.foldl_nil, wp_run, List.map, List.length, List.replicate, List.cons_append, List.nil_append, List.append_nil, List.set_cons_zero, List.set_cons_succ, if_true, if_false, Bool.not_true, Bool.not_false, Bool.true_eq_false, Bool.false_eq_true, Nat.reduceAdd, Nat.reduceSub, gName', bag4 e, bagw4 e, bag3 e3, bag4 e3, hm, s1, s2, Bool.true_or, Bool.or_true, true_and, and_true, ne_eq, not_false_eq_true, f]
      refine ⟨by decide, ⟨by decide, by decide⟩, ?_⟩
      exact ⟨by decide, ⟨by decide, by decide⟩, by decide, ⟨by decide, by decide⟩, hf (by rw [List.set_set]) (hb e)⟩
end Lw
namespace Lw
open PySem L2 Mi
def K6 : List Str := ["a", "b", "c", "d", "da", "z"]
abbrev ltS (a b : Str) : Prop := a.cps.toList < b.cps.toList
abbrev leB (a b : Str) : Bool := !decide (b.cps.toList < a.cps.toList)
def Asc (gs : List Str) : Prop := gs.Pairwise ltS
theorem set_mem {x : Str} {ns : List Str} : x ∈ setStr ns ↔ x ∈ ns := (isS_perm _).mem_iff.trans uniqS_mem
theorem uniqS_len : ∀ ns : List Str, (uniqS ns).length ≤ ns.length
  | [] => Nat.le_refl _
  | a :: r => by
    have := uniqS_len r
    unfold uniqS
    split
    · exact Nat.le_succ_of_le this
    · exact Nat.succ_le_succ this
theorem set_len (ns : List Str) : (setStr ns).length ≤ ns.length := by
  rw [setStr, (isS_perm _).length_eq]
  exact uniqS_len ns
theorem asc_set (ns : List Str) : Asc (setStr ns) := by
  have nd : (setStr ns).Pairwise (· ≠ ·) := (isS_perm _).nodup_iff.mpr uniqS_nodup
  refine ((isS_up (uniqS ns)).and nd).imp ?_
  rintro a b ⟨h1, h2⟩
  refine Classical.byContradiction fun z => h2 (leS_anti h1 (leS_iff.mpr (List.not_lt.mp z)))
theorem strs_map : ∀ ns : List Str, strsOf (ns.map W.str) = some ns
  | [] => rfl
  | a :: r => by
    show (strsOf (r.map W.str)).map _ = _
    rw [strs_map r]; rfl
theorem leB_iff {a b : Str} : leB a b = true ↔ leS a b := by
  rw [leS_iff]
  simp only [leB, Bool.not_eq_true', decide_eq_false_iff_not]
  exact List.not_lt
theorem rowOf_row (r : TRow) : rowOf (rowW r) = some r := by
  obtain ⟨a, b, c⟩ := r
  show (strsOf (c.map W.str)).map _ = _
  rw [strs_map]; rfl
theorem rowsOf_map : ∀ rs : List TRow, rowsOf (rs.map rowW) = some rs
  | [] => rfl
  | r :: rs => by
    show (match rowOf (rowW r), rowsOf (rs.map rowW) with | some r, some rs => some (r :: rs) | _, _ => none) = _
    rw [rowOf_row, rowsOf_map rs]
theorem sz {n : Nat} (h : n ≤ 1000) : n ≤ sizeLine := by simp only [sizeLine]; omega
theorem szl {n : Nat} (h : n < 1000) : n < sizeLine := by simp only [sizeLine]; omega
theorem s62 {i : Int} (h : 0 ≤ i) (k : i < 1000000) : Mi.small62 i = true := by simp only [Mi.small62, decide_eq_true_eq]; omega
/-- one of the keys -/
theorem key_at {ks : List Str} {x : Int} (h : 0 ≤ x) (k : x < (ks.length : Int)) : ∃ y ∈ ks, (ks.map W.str)[x.toNat]? = some (.str y) := by
  have hx : x.toNat < ks.length := by omega
  exact ⟨ks[x.toNat], List.getElem_mem hx, by simp [hx]⟩
theorem some_ok {h : Nat} {st : Sto} {ks : List Str} {m : Nat} (g : Bg h st) (hk : ks ≠ []) (hl : ks.length ≤ 6) (hm : m ≤ 2) : wp (r_law_some [.ref h, .lst (ks.map W.str), .int m] st) (fun w s => ∃ gs : List Str, w = .tup (gs.map W.str) ∧ (∀ x ∈ gs, x ∈ ks) ∧ Asc gs ∧ gs.length ≤ m ∧ Up h st s ∧ Bg h s) NoE := by
  have h1 := List.length_pos_iff.mpr hk
  have hp : st.length ≠ h := by have := g.lt; omega
  simp only [r_law_some, m_law_some]
  try simp only [ws_seq, ws_if, ws_set, ws_sub, ws_ret, ws_retN, ws_expr, ws_sNx, ws_for, wp_op, wp_var0, wp_varS, wp_c, wp_mB, wp_toB, wp_tr, wp_trB_bl, wp_trB_non, wp_trB_int, wp_not, wp_and, wp_or, wp_if, wp_mBl, wp_nil, wp_cons, wp_tup, wp_lst, wp_lstS, wp_newL_t, wp_newL_f, wp_chain, wp_call, wp_fn, wp_sl, wp_noPart, wp_part, wp_comp, wp_yes, wp_iL, wp_iA, wp_srcL, wp_srcS, wp_srcAL, wp_srcAT, wp_iR1, wp_iR2, wp_rng1, wp_rng2, wp_iRv, wp_srcRL, wp_srcRT, wp_iEA, wp_srcEL, wp_srcET, wp_add, wp_sub, wp_mul, wp_mod, wp_div, wp_divW, wp_pow18, wp_pow17, wp_pow16, wp_pow30, wp_eqI, wp_neI, wp_cmpI, wp_isN, wp_isNotN, wp_lenL, wp_lenT, wp_abs, wp_int, wp_min2, wp_max2, wp_listL, wp_listT, wp_tupleL, wp_tupleT, wp_ixT0, wp_ixT1, wp_ixL0, wp_neg, wp_ok, wp_srcEL, wp_isB, wp_isNotB, wp_eqB, wp_neB, wp_all, wp_any, wp_slT, wp_slL, wp_rev, wp_revT, wp_revL, wp_disp, wp_pair, wp_pair0, wp_dict0, wipeW, List.foldl_cons, List.foldl_nil, wp_run, List.map, List.length, List.replicate, List.cons_append, List.nil_append, List.append_nil, List.set_cons_zero, List.set_cons_succ, if_true, if_false, Bool.not_true, Bool.not_false, Bool.true_eq_false, Bool.false_eq_true, Nat.reduceAdd, Nat.reduceSub, gName']
  refine wp_no (draw1 g.new (by omega) (by omega)) ?_
  rintro _ s ⟨n, nd, rfl, n0, n1, rfl, g⟩
  refine (wp_rng1).2 ⟨s62 n0 (by omega), ?_⟩
  refine forS_fix (fun i e s => ∃ (ns : List Str) (k : Option W), e = [some (.ref h), some (.lst (ks.map W.str)), some (.int m), some (.ref st.length), k] ∧ ns.length = i ∧ (∀ x ∈ ns, x ∈ ks) ∧ s[st.length]? = some (.lst (ns.map W.str)) ∧ Up h st s ∧ Bg h s)
    ⟨[], none, rfl, rfl, by simp, by rw [get_setn hp.symm]; exact get_new, (Ext.app.up).trans Up.set, g⟩ (fun i w e env s z => ?_) (fun env s z => ?_)
  · obtain ⟨rfl, hi⟩ := rng_get e
    obtain ⟨ns, k, rfl, z1, z2, z3, z4, z5⟩ := z
    refine ⟨_, _, rfl, ?_⟩
    have hs : seqL s (.ref st.length) = some (ns.map W.str) := by simp [seqL, z3]
    simp only [ws_seq, ws_if, ws_set, ws_sub, ws_ret, ws_retN, ws_expr, ws_sNx, ws_for, wp_op, wp_var0, wp_varS, wp_c, wp_mB, wp_toB, wp_tr, wp_trB_bl, wp_trB_non, wp_trB_int, wp_not, wp_and, wp_or, wp_if, wp_mBl, wp_nil, wp_cons, wp_tup, wp_lst, wp_lstS, wp_newL_t, wp_newL_f, wp_chain, wp_call, wp_fn, wp_sl, wp_noPart, wp_part, wp_comp, wp_yes, wp_iL, wp_iA, wp_srcL, wp_srcS, wp_srcAL, wp_srcAT, wp_iR1, wp_iR2, wp_rng1, wp_rng2, wp_iRv, wp_srcRL, wp_srcRT, wp_iEA, wp_srcEL, wp_srcET, wp_add, wp_sub, wp_mul, wp_mod, wp_div, wp_divW, wp_pow18, wp_pow17, wp_pow16, wp_pow30, wp_eqI, wp_neI, wp_cmpI, wp_isN, wp_isNotN, wp_lenL, wp_lenT, wp_abs, wp_int, wp_min2, wp_max2, wp_listL, wp_listT, wp_tupleL, wp_tupleT, wp_ixT0, wp_ixT1, wp_ixL0, wp_neg, wp_ok, wp_srcEL, wp_isB, wp_isNotB, wp_eqB, wp_neB, wp_all, wp_any, wp_slT, wp_slL, wp_rev, wp_revT, wp_revL, wp_disp, wp_pair, wp_pair0, wp_dict0, wipeW, List.foldl_cons, List.foldl_nil, wp_run, List.map, List.length, List.replicate, List.cons_append, List.nil_append, List.append_nil, List.set_cons_zero, List.set_cons_succ, if_true, if_false, Bool.not_true, Bool.not_false, Bool.true_eq_false, Bool.false_eq_true, Nat.reduceAdd, Nat.reduceSub, gName', wp_lm, hs, Option.isSome, true_and, List.length_map]
    refine wp_no (draw1 z5 (by omega) (by omega)) ?_
    rintro _ s2 ⟨x, nd2, rfl, x0, x1, rfl, g2⟩
    obtain ⟨y, hy, ey⟩ := key_at x0 x1
    rw [wp_ixLi x0 ey]
    try simp only [ws_seq, ws_if, ws_set, ws_sub, ws_ret, ws_retN, ws_expr, ws_sNx, ws_for, wp_op, wp_var0, wp_varS, wp_c, wp_mB, wp_toB, wp_tr, wp_trB_bl, wp_trB_non, wp_trB_int, wp_not, wp_and, wp_or, wp_if, wp_mBl, wp_nil, wp_cons, wp_tup, wp_lst, wp_lstS, wp_newL_t, wp_newL_f, wp_chain, wp_call, wp_fn, wp_sl, wp_noPart, wp_part, wp_comp, wp_yes, wp_iL, wp_iA, wp_srcL, wp_srcS, wp_srcAL, wp_srcAT, wp_iR1, wp_iR2, wp_rng1, wp_rng2, wp_iRv, wp_srcRL, wp_srcRT, wp_iEA, wp_srcEL, wp_srcET, wp_add, wp_sub, wp_mul, wp_mod, wp_div, wp_divW, wp_pow18, wp_pow17, wp_pow16, wp_pow30, wp_eqI, wp_neI, wp_cmpI, wp_isN, wp_isNotN, wp_lenL, wp_lenT, wp_abs, wp_int, wp_min2, wp_max2, wp_listL, wp_listT, wp_tupleL, wp_tupleT, wp_ixT0, wp_ixT1, wp_ixL0, wp_neg, wp_ok, wp_srcEL, wp_isB, wp_isNotB, wp_eqB, wp_neB, wp_all, wp_any, wp_slT, wp_slL, wp_rev, wp_revT, wp_revL, wp_disp, wp_pair, wp_pair0, wp_dict0, wipeW, List.foldl_cons, List.foldl_nil, wp_run, List.map, List.length, List.replicate, List.cons_append, List.nil_append, List.append_nil, List.set_cons_zero, List.set_cons_succ, if_true, if_false, Bool.not_true, Bool.not_false, Bool.true_eq_false, Bool.false_eq_true, Nat.reduceAdd, Nat.reduceSub, gName']
    rw [wp_app (xs := ns.map W.str) (by rw [get_setn hp.symm]; exact z3) (szl (by simp; omega))]
    refine ⟨ns ++ [y], _, rfl, by simp [z1], fun v hv => ?_, ?_, (z4.trans Up.set).setp (Nat.le_refl _), g2.set hp⟩
    · rcases List.mem_append.mp hv with hv | hv
      · exact z2 v hv
      · simp only [List.mem_singleton] at hv
        rw [hv]; exact hy
    · rw [get_setp (m := .lst (ns.map W.str)) (by rw [get_setn hp.symm]; exact z3)]
      simp
  · obtain ⟨ns, k, rfl, z1, z2, z3, z4, z5⟩ := z
    rw [rng_len] at z1
    have hs : seqL s (.ref st.length) = some (ns.map W.str) := by simp [seqL, z3]
    have e : fSortSetS true [.ref st.length] s = .ok (.lst ((setStr ns).map W.str)) s := by
      simp only [fSortSetS, hs, strs_map]
      rw [if_pos (by omega)]; rfl
    simp only [ws_seq, ws_if, ws_set, ws_sub, ws_ret, ws_retN, ws_expr, ws_sNx, ws_for, wp_op, wp_var0, wp_varS, wp_c, wp_mB, wp_toB, wp_tr, wp_trB_bl, wp_trB_non, wp_trB_int, wp_not, wp_and, wp_or, wp_if, wp_mBl, wp_nil, wp_cons, wp_tup, wp_lst, wp_lstS, wp_newL_t, wp_newL_f, wp_chain, wp_call, wp_fn, wp_sl, wp_noPart, wp_part, wp_comp, wp_yes, wp_iL, wp_iA, wp_srcL, wp_srcS, wp_srcAL, wp_srcAT, wp_iR1, wp_iR2, wp_rng1, wp_rng2, wp_iRv, wp_srcRL, wp_srcRT, wp_iEA, wp_srcEL, wp_srcET, wp_add, wp_sub, wp_mul, wp_mod, wp_div, wp_divW, wp_pow18, wp_pow17, wp_pow16, wp_pow30, wp_eqI, wp_neI, wp_cmpI, wp_isN, wp_isNotN, wp_lenL, wp_lenT, wp_abs, wp_int, wp_min2, wp_max2, wp_listL, wp_listT, wp_tupleL, wp_tupleT, wp_ixT0, wp_ixT1, wp_ixL0, wp_neg, wp_ok, wp_srcEL, wp_isB, wp_isNotB, wp_eqB, wp_neB, wp_all, wp_any, wp_slT, wp_slL, wp_rev, wp_revT, wp_revL, wp_disp, wp_pair, wp_pair0, wp_dict0, wipeW, List.foldl_cons, List.foldl_nil, wp_run, List.map, List.length, List.replicate, List.cons_append, List.nil_append, List.append_nil, List.set_cons_zero, List.set_cons_succ, if_true, if_false, Bool.not_true, Bool.not_false, Bool.true_eq_false, Bool.false_eq_true, Nat.reduceAdd, Nat.reduceSub, gName', e]
    exact ⟨setStr ns, rfl, fun x hx => z2 x (set_mem.mp hx), asc_set ns, Nat.le_trans (set_len ns) (by omega), z4, z5⟩
/-! ranges -/
structure ROk (ks : List Str) (r : TRow) : Prop where
  lo : r.1 ∈ ks
  hi : r.2.1 ∈ ks
  le : leB r.1 r.2.1 = true
  own : ∀ x ∈ r.2.2, x ∈ ks ∧ leB r.1 x = true ∧ leB x r.2.1 = true
  asc : Asc r.2.2
  few : r.2.2.length ≤ 1
theorem range_ok {h : Nat} {st : Sto} {ks : List Str} (g : Bg h st) (hk : ks ≠ []) (hl : ks.length ≤ 6) : wp (r_law_range [.ref h, .lst (ks.map W.str)] st) (fun w s => ∃ r : TRow, w = rowW r ∧ ROk ks r ∧ Up h st s ∧ Bg h s) NoE := by
  have h1 := List.length_pos_iff.mpr hk
  simp only [r_law_range, m_law_range]
  rw [wp_run]
  try simp only [ws_seq, ws_if, ws_set, ws_sub, ws_ret, ws_retN, ws_expr, ws_sNx, ws_for, wp_op, wp_var0, wp_varS, wp_c, wp_mB, wp_toB, wp_tr, wp_trB_bl, wp_trB_non, wp_trB_int, wp_not, wp_and, wp_or, wp_if, wp_mBl, wp_nil, wp_cons, wp_tup, wp_lst, wp_lstS, wp_newL_t, wp_newL_f, wp_chain, wp_call, wp_fn, wp_sl, wp_noPart, wp_part, wp_comp, wp_yes, wp_iL, wp_iA, wp_srcL, wp_srcS, wp_srcAL, wp_srcAT, wp_iR1, wp_iR2, wp_rng1, wp_rng2, wp_iRv, wp_srcRL, wp_srcRT, wp_iEA, wp_srcEL, wp_srcET, wp_add, wp_sub, wp_mul, wp_mod, wp_div, wp_divW, wp_pow18, wp_pow17, wp_pow16, wp_pow30, wp_eqI, wp_neI, wp_cmpI, wp_isN, wp_isNotN, wp_lenL, wp_lenT, wp_abs, wp_int, wp_min2, wp_max2, wp_listL, wp_listT, wp_tupleL, wp_tupleT, wp_ixT0, wp_ixT1, wp_ixL0, wp_neg, wp_ok, wp_srcEL, wp_isB, wp_isNotB, wp_eqB, wp_neB, wp_all, wp_any, wp_slT, wp_slL, wp_rev, wp_revT, wp_revL, wp_disp, wp_pair, wp_pair0, wp_dict0, wipeW, List.foldl_cons, List.foldl_nil, wp_run, List.map, List.length, List.replicate, List.cons_append, List.nil_append, List.append_nil, List.set_cons_zero, List.set_cons_succ, if_true, if_false, Bool.not_true, Bool.not_false, Bool.true_eq_false, Bool.false_eq_true, Nat.reduceAdd, Nat.reduceSub, gName']
  refine ws_nx (N := fun e s => ∃ lo hi : Str, e = [some (.ref h), some (.lst (ks.map W.str)), some (.str lo), some (.str hi), none, none] ∧ lo ∈ ks ∧ hi ∈ ks ∧ leB lo hi = true ∧ Up h st s ∧ Bg h s) ?_ ?_
  · rw [ws_asg]
    try simp only [ws_seq, ws_if, ws_set, ws_sub, ws_ret, ws_retN, ws_expr, ws_sNx, ws_for, wp_op, wp_var0, wp_varS, wp_c, wp_mB, wp_toB, wp_tr, wp_trB_bl, wp_trB_non, wp_trB_int, wp_not, wp_and, wp_or, wp_if, wp_mBl, wp_nil, wp_cons, wp_tup, wp_lst, wp_lstS, wp_newL_t, wp_newL_f, wp_chain, wp_call, wp_fn, wp_sl, wp_noPart, wp_part, wp_comp, wp_yes, wp_iL, wp_iA, wp_srcL, wp_srcS, wp_srcAL, wp_srcAT, wp_iR1, wp_iR2, wp_rng1, wp_rng2, wp_iRv, wp_srcRL, wp_srcRT, wp_iEA, wp_srcEL, wp_srcET, wp_add, wp_sub, wp_mul, wp_mod, wp_div, wp_divW, wp_pow18, wp_pow17, wp_pow16, wp_pow30, wp_eqI, wp_neI, wp_cmpI, wp_isN, wp_isNotN, wp_lenL, wp_lenT, wp_abs, wp_int, wp_min2, wp_max2, wp_listL, wp_listT, wp_tupleL, wp_tupleT, wp_ixT0, wp_ixT1, wp_ixL0, wp_neg, wp_ok, wp_srcEL, wp_isB, wp_isNotB, wp_eqB, wp_neB, wp_all, wp_any, wp_slT, wp_slL, wp_rev, wp_revT, wp_revL, wp_disp, wp_pair, wp_pair0, wp_dict0, wipeW, List.foldl_cons, List.foldl_nil, wp_run, List.map, List.length, List.replicate, List.cons_append, List.nil_append, List.append_nil, List.set_cons_zero, List.set_cons_succ, if_true, if_false, Bool.not_true, Bool.not_false, Bool.true_eq_false, Bool.false_eq_true, Nat.reduceAdd, Nat.reduceSub, gName', List.length_map]
    refine wp_no (draw1 g (by omega) (by omega)) ?_
    rintro _ s2 ⟨x, nd2, rfl, x0, x1, rfl, g2⟩
    obtain ⟨y, hy, ey⟩ := key_at x0 x1
    rw [wp_ixLi x0 ey]
    try simp only [ws_seq, ws_if, ws_set, ws_sub, ws_ret, ws_retN, ws_expr, ws_sNx, ws_for, wp_op, wp_var0, wp_varS, wp_c, wp_mB, wp_toB, wp_tr, wp_trB_bl, wp_trB_non, wp_trB_int, wp_not, wp_and, wp_or, wp_if, wp_mBl, wp_nil, wp_cons, wp_tup, wp_lst, wp_lstS, wp_newL_t, wp_newL_f, wp_chain, wp_call, wp_fn, wp_sl, wp_noPart, wp_part, wp_comp, wp_yes, wp_iL, wp_iA, wp_srcL, wp_srcS, wp_srcAL, wp_srcAT, wp_iR1, wp_iR2, wp_rng1, wp_rng2, wp_iRv, wp_srcRL, wp_srcRT, wp_iEA, wp_srcEL, wp_srcET, wp_add, wp_sub, wp_mul, wp_mod, wp_div, wp_divW, wp_pow18, wp_pow17, wp_pow16, wp_pow30, wp_eqI, wp_neI, wp_cmpI, wp_isN, wp_isNotN, wp_lenL, wp_lenT, wp_abs, wp_int, wp_min2, wp_max2, wp_listL, wp_listT, wp_tupleL, wp_tupleT, wp_ixT0, wp_ixT1, wp_ixL0, wp_neg, wp_ok, wp_srcEL, wp_isB, wp_isNotB, wp_eqB, wp_neB, wp_all, wp_any, wp_slT, wp_slL, wp_rev, wp_revT, wp_revL, wp_disp, wp_pair, wp_pair0, wp_dict0, wipeW, List.foldl_cons, List.foldl_nil, wp_run, List.map, List.length, List.replicate, List.cons_append, List.nil_append, List.append_nil, List.set_cons_zero, List.set_cons_succ, if_true, if_false, Bool.not_true, Bool.not_false, Bool.true_eq_false, Bool.false_eq_true, Nat.reduceAdd, Nat.reduceSub, gName', List.length_map]
    refine wp_no (draw1 g2 (by omega) (by omega)) ?_
    rintro _ s3 ⟨x', nd3, rfl, x0', x1', rfl, g3⟩
    obtain ⟨y', hy', ey'⟩ := key_at x0' x1'
    rw [wp_ixLi x0' ey']
    have u : Up h st ((st.set h nd2).set h nd3) := Up.set.trans Up.set
    generalize (st.set h nd2).set h nd3 = s at g3 u
    have e : fSortedX true [.lst [.str y, .str y']] s = .ok (.lst ((isS [y, y']).map W.str)) s := rfl
    simp only [ws_seq, ws_if, ws_set, ws_sub, ws_ret, ws_retN, ws_expr, ws_sNx, ws_for, wp_op, wp_var0, wp_varS, wp_c, wp_mB, wp_toB, wp_tr, wp_trB_bl, wp_trB_non, wp_trB_int, wp_not, wp_and, wp_or, wp_if, wp_mBl, wp_nil, wp_cons, wp_tup, wp_lst, wp_lstS, wp_newL_t, wp_newL_f, wp_chain, wp_call, wp_fn, wp_sl, wp_noPart, wp_part, wp_comp, wp_yes, wp_iL, wp_iA, wp_srcL, wp_srcS, wp_srcAL, wp_srcAT, wp_iR1, wp_iR2, wp_rng1, wp_rng2, wp_iRv, wp_srcRL, wp_srcRT, wp_iEA, wp_srcEL, wp_srcET, wp_add, wp_sub, wp_mul, wp_mod, wp_div, wp_divW, wp_pow18, wp_pow17, wp_pow16, wp_pow30, wp_eqI, wp_neI, wp_cmpI, wp_isN, wp_isNotN, wp_lenL, wp_lenT, wp_abs, wp_int, wp_min2, wp_max2, wp_listL, wp_listT, wp_tupleL, wp_tupleT, wp_ixT0, wp_ixT1, wp_ixL0, wp_neg, wp_ok, wp_srcEL, wp_isB, wp_isNotB, wp_eqB, wp_neB, wp_all, wp_any, wp_slT, wp_slL, wp_rev, wp_revT, wp_revL, wp_disp, wp_pair, wp_pair0, wp_dict0, wipeW, List.foldl_cons, List.foldl_nil, wp_run, List.map, List.length, List.replicate, List.cons_append, List.nil_append, List.append_nil, List.set_cons_zero, List.set_cons_succ, if_true, if_false, Bool.not_true, Bool.not_false, Bool.true_eq_false, Bool.false_eq_true, Nat.reduceAdd, Nat.reduceSub, gName', e]
    by_cases hc : leS y y'
    · have e2 : isS [y, y'] = [y, y'] := by
        have hc' : Spec.ltCps y'.cps.toList y.cps.toList = false := hc
        simp [isS, insS, hc']
      rw [e2]
      exact ⟨_, _, rfl, y, y', rfl, hy, hy', leB_iff.mpr hc, u, g3⟩
    · have e2 : isS [y, y'] = [y', y] := by
        have hc' : Spec.ltCps y'.cps.toList y.cps.toList = true := by
          cases q : Spec.ltCps y'.cps.toList y.cps.toList with
          | true => rfl
          | false => exact absurd q hc
        simp [isS, insS, hc']
      rw [e2]
      exact ⟨_, _, rfl, y', y, rfl, hy', hy, leB_iff.mpr (leS_total hc), u, g3⟩
  · rintro e s ⟨lo, hi, rfl, l1, l2, l3, u, g⟩
    try simp only [ws_seq, ws_if, ws_set, ws_sub, ws_ret, ws_retN, ws_expr, ws_sNx, ws_for, wp_op, wp_var0, wp_varS, wp_c, wp_mB, wp_toB, wp_tr, wp_trB_bl, wp_trB_non, wp_trB_int, wp_not, wp_and, wp_or, wp_if, wp_mBl, wp_nil, wp_cons, wp_tup, wp_lst, wp_lstS, wp_newL_t, wp_newL_f, wp_chain, wp_call, wp_fn, wp_sl, wp_noPart, wp_part, wp_comp, wp_yes, wp_iL, wp_iA, wp_srcL, wp_srcS, wp_srcAL, wp_srcAT, wp_iR1, wp_iR2, wp_rng1, wp_rng2, wp_iRv, wp_srcRL, wp_srcRT, wp_iEA, wp_srcEL, wp_srcET, wp_add, wp_sub, wp_mul, wp_mod, wp_div, wp_divW, wp_pow18, wp_pow17, wp_pow16, wp_pow30, wp_eqI, wp_neI, wp_cmpI, wp_isN, wp_isNotN, wp_lenL, wp_lenT, wp_abs, wp_int, wp_min2, wp_max2, wp_listL, wp_listT, wp_tupleL, wp_tupleT, wp_ixT0, wp_ixT1, wp_ixL0, wp_neg, wp_ok, wp_srcEL, wp_isB, wp_isNotB, wp_eqB, wp_neB, wp_all, wp_any, wp_slT, wp_slL, wp_rev, wp_revT, wp_revL, wp_disp, wp_pair, wp_pair0, wp_dict0, wipeW, List.foldl_cons, List.foldl_nil, wp_run, List.map, List.length, List.replicate, List.cons_append, List.nil_append, List.append_nil, List.set_cons_zero, List.set_cons_succ, if_true, if_false, Bool.not_true, Bool.not_false, Bool.true_eq_false, Bool.false_eq_true, Nat.reduceAdd, Nat.reduceSub, gName']
    refine wp_no (some_ok (m := 1) g hk hl (by decide)) ?_
    rintro _ s2 ⟨gs, rfl, q1, q2, q3, u2, g2⟩
    try simp only [ws_seq, ws_if, ws_set, ws_sub, ws_ret, ws_retN, ws_expr, ws_sNx, ws_for, wp_op, wp_var0, wp_varS, wp_c, wp_mB, wp_toB, wp_tr, wp_trB_bl, wp_trB_non, wp_trB_int, wp_not, wp_and, wp_or, wp_if, wp_mBl, wp_nil, wp_cons, wp_tup, wp_lst, wp_lstS, wp_newL_t, wp_newL_f, wp_chain, wp_call, wp_fn, wp_sl, wp_noPart, wp_part, wp_comp, wp_yes, wp_iL, wp_iA, wp_srcL, wp_srcS, wp_srcAL, wp_srcAT, wp_iR1, wp_iR2, wp_rng1, wp_rng2, wp_iRv, wp_srcRL, wp_srcRT, wp_iEA, wp_srcEL, wp_srcET, wp_add, wp_sub, wp_mul, wp_mod, wp_div, wp_divW, wp_pow18, wp_pow17, wp_pow16, wp_pow30, wp_eqI, wp_neI, wp_cmpI, wp_isN, wp_isNotN, wp_lenL, wp_lenT, wp_abs, wp_int, wp_min2, wp_max2, wp_listL, wp_listT, wp_tupleL, wp_tupleT, wp_ixT0, wp_ixT1, wp_ixL0, wp_neg, wp_ok, wp_srcEL, wp_isB, wp_isNotB, wp_eqB, wp_neB, wp_all, wp_any, wp_slT, wp_slL, wp_rev, wp_revT, wp_revL, wp_disp, wp_pair, wp_pair0, wp_dict0, wipeW, List.foldl_cons, List.foldl_nil, wp_run, List.map, List.length, List.replicate, List.cons_append, List.nil_append, List.append_nil, List.set_cons_zero, List.set_cons_succ, if_true, if_false, Bool.not_true, Bool.not_false, Bool.true_eq_false, Bool.false_eq_true, Nat.reduceAdd, Nat.reduceSub, gName']
    refine compS_map (ys := gs) (enc := W.str) (fun x => leB lo x && leB x hi) W.str (sz (by omega)) (fun y hy => ⟨_, rfl, ?_, fun hc => ?_⟩) ?_
    · simp only [ws_seq, ws_if, ws_set, ws_sub, ws_ret, ws_retN, ws_expr, ws_sNx, ws_for, wp_op, wp_var0, wp_varS, wp_c, wp_mB, wp_toB, wp_tr, wp_trB_bl, wp_trB_non, wp_trB_int, wp_not, wp_and, wp_or, wp_if, wp_mBl, wp_nil, wp_cons, wp_tup, wp_lst, wp_lstS, wp_newL_t, wp_newL_f, wp_chain, wp_call, wp_fn, wp_sl, wp_noPart, wp_part, wp_comp, wp_yes, wp_iL, wp_iA, wp_srcL, wp_srcS, wp_srcAL, wp_srcAT, wp_iR1, wp_iR2, wp_rng1, wp_rng2, wp_iRv, wp_srcRL, wp_srcRT, wp_iEA, wp_srcEL, wp_srcET, wp_add, wp_sub, wp_mul, wp_mod, wp_div, wp_divW, wp_pow18, wp_pow17, wp_pow16, wp_pow30, wp_eqI, wp_neI, wp_cmpI, wp_isN, wp_isNotN, wp_lenL, wp_lenT, wp_abs, wp_int, wp_min2, wp_max2, wp_listL, wp_listT, wp_tupleL, wp_tupleT, wp_ixT0, wp_ixT1, wp_ixL0, wp_neg, wp_ok, wp_srcEL, wp_isB, wp_isNotB, wp_eqB, wp_neB, wp_all, wp_any, wp_slT, wp_slL, wp_rev, wp_revT, wp_revL, wp_disp, wp_pair, wp_pair0, wp_dict0, wipeW, List.foldl_cons, List.foldl_nil, wp_run, List.map, List.length, List.replicate, List.cons_append, List.nil_append, List.append_nil, List.set_cons_zero, List.set_cons_succ, if_true, if_false, Bool.not_true, Bool.not_false, Bool.true_eq_false, Bool.false_eq_true, Nat.reduceAdd, Nat.reduceSub, gName', wp_cmpT]
      by_cases hc : decide (y.cps.toList < lo.cps.toList) = true
      · simp only [ws_seq, ws_if, ws_set, ws_sub, ws_ret, ws_retN, ws_expr, ws_sNx, ws_for, wp_op, wp_var0, wp_varS, wp_c, wp_mB, wp_toB, wp_tr, wp_trB_bl, wp_trB_non, wp_trB_int, wp_not, wp_and, wp_or, wp_if, wp_mBl, wp_nil, wp_cons, wp_tup, wp_lst, wp_lstS, wp_newL_t, wp_newL_f, wp_chain, wp_call, wp_fn, wp_sl, wp_noPart, wp_part, wp_comp, wp_yes, wp_iL, wp_iA, wp_srcL, wp_srcS, wp_srcAL, wp_srcAT, wp_iR1, wp_iR2, wp_rng1, wp_rng2, wp_iRv, wp_srcRL, wp_srcRT, wp_iEA, wp_srcEL, wp_srcET, wp_add, wp_sub, wp_mul, wp_mod, wp_div, wp_divW, wp_pow18, wp_pow17, wp_pow16, wp_pow30, wp_eqI, wp_neI, wp_cmpI, wp_isN, wp_isNotN, wp_lenL, wp_lenT, wp_abs, wp_int, wp_min2, wp_max2, wp_listL, wp_listT, wp_tupleL, wp_tupleT, wp_ixT0, wp_ixT1, wp_ixL0, wp_neg, wp_ok, wp_srcEL, wp_isB, wp_isNotB, wp_eqB, wp_neB, wp_all, wp_any, wp_slT, wp_slL, wp_rev, wp_revT, wp_revL, wp_disp, wp_pair, wp_pair0, wp_dict0, wipeW, List.foldl_cons, List.foldl_nil, wp_run, List.map, List.length, List.replicate, List.cons_append, List.nil_append, List.append_nil, List.set_cons_zero, List.set_cons_succ, if_true, if_false, Bool.not_true, Bool.not_false, Bool.true_eq_false, Bool.false_eq_true, Nat.reduceAdd, Nat.reduceSub, gName', hc, leB]
        simp
      · simp only [ws_seq, ws_if, ws_set, ws_sub, ws_ret, ws_retN, ws_expr, ws_sNx, ws_for, wp_op, wp_var0, wp_varS, wp_c, wp_mB, wp_toB, wp_tr, wp_trB_bl, wp_trB_non, wp_trB_int, wp_not, wp_and, wp_or, wp_if, wp_mBl, wp_nil, wp_cons, wp_tup, wp_lst, wp_lstS, wp_newL_t, wp_newL_f, wp_chain, wp_call, wp_fn, wp_sl, wp_noPart, wp_part, wp_comp, wp_yes, wp_iL, wp_iA, wp_srcL, wp_srcS, wp_srcAL, wp_srcAT, wp_iR1, wp_iR2, wp_rng1, wp_rng2, wp_iRv, wp_srcRL, wp_srcRT, wp_iEA, wp_srcEL, wp_srcET, wp_add, wp_sub, wp_mul, wp_mod, wp_div, wp_divW, wp_pow18, wp_pow17, wp_pow16, wp_pow30, wp_eqI, wp_neI, wp_cmpI, wp_isN, wp_isNotN, wp_lenL, wp_lenT, wp_abs, wp_int, wp_min2, wp_max2, wp_listL, wp_listT, wp_tupleL, wp_tupleT, wp_ixT0, wp_ixT1, wp_ixL0, wp_neg, wp_ok, wp_srcEL, wp_isB, wp_isNotB, wp_eqB, wp_neB, wp_all, wp_any, wp_slT, wp_slL, wp_rev, wp_revT, wp_revL, wp_disp, wp_pair, wp_pair0, wp_dict0, wipeW, List.foldl_cons, List.foldl_nil, wp_run, List.map, List.length, List.replicate, List.cons_append, List.nil_append, List.append_nil, List.set_cons_zero, List.set_cons_succ, if_true, if_false, Bool.not_true, Bool.not_false, Bool.true_eq_false, Bool.false_eq_true, Nat.reduceAdd, Nat.reduceSub, gName', hc, leB]
        simp
    · try simp only [ws_seq, ws_if, ws_set, ws_sub, ws_ret, ws_retN, ws_expr, ws_sNx, ws_for, wp_op, wp_var0, wp_varS, wp_c, wp_mB, wp_toB, wp_tr, wp_trB_bl, wp_trB_non, wp_trB_int, wp_not, wp_and, wp_or, wp_if, wp_mBl, wp_nil, wp_cons, wp_tup, wp_lst, wp_lstS, wp_newL_t, wp_newL_f, wp_chain, wp_call, wp_fn, wp_sl, wp_noPart, wp_part, wp_comp, wp_yes, wp_iL, wp_iA, wp_srcL, wp_srcS, wp_srcAL, wp_srcAT, wp_iR1, wp_iR2, wp_rng1, wp_rng2, wp_iRv, wp_srcRL, wp_srcRT, wp_iEA, wp_srcEL, wp_srcET, wp_add, wp_sub, wp_mul, wp_mod, wp_div, wp_divW, wp_pow18, wp_pow17, wp_pow16, wp_pow30, wp_eqI, wp_neI, wp_cmpI, wp_isN, wp_isNotN, wp_lenL, wp_lenT, wp_abs, wp_int, wp_min2, wp_max2, wp_listL, wp_listT, wp_tupleL, wp_tupleT, wp_ixT0, wp_ixT1, wp_ixL0, wp_neg, wp_ok, wp_srcEL, wp_isB, wp_isNotB, wp_eqB, wp_neB, wp_all, wp_any, wp_slT, wp_slL, wp_rev, wp_revT, wp_revL, wp_disp, wp_pair, wp_pair0, wp_dict0, wipeW, List.foldl_cons, List.foldl_nil, wp_run, List.map, List.length, List.replicate, List.cons_append, List.nil_append, List.append_nil, List.set_cons_zero, List.set_cons_succ, if_true, if_false, Bool.not_true, Bool.not_false, Bool.true_eq_false, Bool.false_eq_true, Nat.reduceAdd, Nat.reduceSub, gName']
      exact ⟨by trivial, by trivial⟩
    · try simp only [ws_seq, ws_if, ws_set, ws_sub, ws_ret, ws_retN, ws_expr, ws_sNx, ws_for, wp_op, wp_var0, wp_varS, wp_c, wp_mB, wp_toB, wp_tr, wp_trB_bl, wp_trB_non, wp_trB_int, wp_not, wp_and, wp_or, wp_if, wp_mBl, wp_nil, wp_cons, wp_tup, wp_lst, wp_lstS, wp_newL_t, wp_newL_f, wp_chain, wp_call, wp_fn, wp_sl, wp_noPart, wp_part, wp_comp, wp_yes, wp_iL, wp_iA, wp_srcL, wp_srcS, wp_srcAL, wp_srcAT, wp_iR1, wp_iR2, wp_rng1, wp_rng2, wp_iRv, wp_srcRL, wp_srcRT, wp_iEA, wp_srcEL, wp_srcET, wp_add, wp_sub, wp_mul, wp_mod, wp_div, wp_divW, wp_pow18, wp_pow17, wp_pow16, wp_pow30, wp_eqI, wp_neI, wp_cmpI, wp_isN, wp_isNotN, wp_lenL, wp_lenT, wp_abs, wp_int, wp_min2, wp_max2, wp_listL, wp_listT, wp_tupleL, wp_tupleT, wp_ixT0, wp_ixT1, wp_ixL0, wp_neg, wp_ok, wp_srcEL, wp_isB, wp_isNotB, wp_eqB, wp_neB, wp_all, wp_any, wp_slT, wp_slL, wp_rev, wp_revT, wp_revL, wp_disp, wp_pair, wp_pair0, wp_dict0, wipeW, List.foldl_cons, List.foldl_nil, wp_run, List.map, List.length, List.replicate, List.cons_append, List.nil_append, List.append_nil, List.set_cons_zero, List.set_cons_succ, if_true, if_false, Bool.not_true, Bool.not_false, Bool.true_eq_false, Bool.false_eq_true, Nat.reduceAdd, Nat.reduceSub, gName']
      refine ⟨(lo, hi, gs.filter fun x => leB lo x && leB x hi), rfl, ⟨l1, l2, l3, fun x hx => ?_, q2.filter _, Nat.le_trans (List.length_filter_le ..) q3⟩, u.trans u2, g2⟩
      have := List.mem_filter.mp hx
      have h2 := this.2
      simp only [Bool.and_eq_true] at h2
      exact ⟨q1 x this.1, h2.1, h2.2⟩
/-! what was seen -/
def AscR (rs : List TRow) : Prop := rs.Pairwise fun a b => ltR a b = true
theorem setR_mem {r : TRow} {rs : List TRow} : r ∈ L2.setR rs ↔ r ∈ rs := (isR_perm _).mem_iff.trans uniqR_mem
theorem leR_lt (a b : TRow) : leR a b = !ltR b a := rfl
theorem ascR_set (rs : List TRow) : AscR (L2.setR rs) := by
  have nd : (L2.setR rs).Pairwise (· ≠ ·) := (isR_perm _).nodup_iff.mpr uniqR_nodup
  refine ((isR_up (uniqR rs)).and nd).imp ?_
  rintro a b ⟨h1, h2⟩
  cases q : ltR a b with
  | true => rfl
  | false => exact absurd (leR_anti a b h1 (by rw [leR_lt, q]; rfl)) h2
theorem uniqR_len : ∀ ns : List TRow, (uniqR ns).length ≤ ns.length
  | [] => Nat.le_refl _
  | a :: r => by
    have := uniqR_len r
    unfold uniqR
    split
    · exact Nat.le_succ_of_le this
    · exact Nat.succ_le_succ this
theorem setR_len (ns : List TRow) : (L2.setR ns).length ≤ ns.length := by
  rw [L2.setR, (isR_perm _).length_eq]
  exact uniqR_len ns
structure SOk (ks : List Str) (gs : List Str) (rs : List TRow) : Prop where
  g1 : ∀ x ∈ gs, x ∈ ks
  g2 : Asc gs
  g3 : gs.length ≤ 2
  r1 : ∀ r ∈ rs, ROk ks r
  r2 : AscR rs
  r3 : rs.length ≤ 2
theorem seen_ok {h : Nat} {st : Sto} {ks : List Str} (g : Bg h st) (hk : ks ≠ []) (hl : ks.length ≤ 6) : wp (r_law_seen [.ref h, .lst (ks.map W.str)] st) (fun w s => ∃ gs rs, w = .tup [.tup (gs.map W.str), .tup (rs.map rowW)] ∧ SOk ks gs rs ∧ Up h st s ∧ Bg h s) NoE := by
  simp only [r_law_seen, m_law_seen]
  try simp only [ws_seq, ws_if, ws_set, ws_sub, ws_ret, ws_retN, ws_expr, ws_sNx, ws_for, wp_op, wp_var0, wp_varS, wp_c, wp_mB, wp_toB, wp_tr, wp_trB_bl, wp_trB_non, wp_trB_int, wp_not, wp_and, wp_or, wp_if, wp_mBl, wp_nil, wp_cons, wp_tup, wp_lst, wp_lstS, wp_newL_t, wp_newL_f, wp_chain, wp_call, wp_fn, wp_sl, wp_noPart, wp_part, wp_comp, wp_yes, wp_iL, wp_iA, wp_srcL, wp_srcS, wp_srcAL, wp_srcAT, wp_iR1, wp_iR2, wp_rng1, wp_rng2, wp_iRv, wp_srcRL, wp_srcRT, wp_iEA, wp_srcEL, wp_srcET, wp_add, wp_sub, wp_mul, wp_mod, wp_div, wp_divW, wp_pow18, wp_pow17, wp_pow16, wp_pow30, wp_eqI, wp_neI, wp_cmpI, wp_isN, wp_isNotN, wp_lenL, wp_lenT, wp_abs, wp_int, wp_min2, wp_max2, wp_listL, wp_listT, wp_tupleL, wp_tupleT, wp_ixT0, wp_ixT1, wp_ixL0, wp_neg, wp_ok, wp_srcEL, wp_isB, wp_isNotB, wp_eqB, wp_neB, wp_all, wp_any, wp_slT, wp_slL, wp_rev, wp_revT, wp_revL, wp_disp, wp_pair, wp_pair0, wp_dict0, wipeW, List.foldl_cons, List.foldl_nil, wp_run, List.map, List.length, List.replicate, List.cons_append, List.nil_append, List.append_nil, List.set_cons_zero, List.set_cons_succ, if_true, if_false, Bool.not_true, Bool.not_false, Bool.true_eq_false, Bool.false_eq_true, Nat.reduceAdd, Nat.reduceSub, gName']
  refine wp_no (draw1 g (by decide) (by decide)) ?_
  rintro _ s2 ⟨x, nd2, rfl, x0, x1, rfl, g2⟩
  try simp only [ws_seq, ws_if, ws_set, ws_sub, ws_ret, ws_retN, ws_expr, ws_sNx, ws_for, wp_op, wp_var0, wp_varS, wp_c, wp_mB, wp_toB, wp_tr, wp_trB_bl, wp_trB_non, wp_trB_int, wp_not, wp_and, wp_or, wp_if, wp_mBl, wp_nil, wp_cons, wp_tup, wp_lst, wp_lstS, wp_newL_t, wp_newL_f, wp_chain, wp_call, wp_fn, wp_sl, wp_noPart, wp_part, wp_comp, wp_yes, wp_iL, wp_iA, wp_srcL, wp_srcS, wp_srcAL, wp_srcAT, wp_iR1, wp_iR2, wp_rng1, wp_rng2, wp_iRv, wp_srcRL, wp_srcRT, wp_iEA, wp_srcEL, wp_srcET, wp_add, wp_sub, wp_mul, wp_mod, wp_div, wp_divW, wp_pow18, wp_pow17, wp_pow16, wp_pow30, wp_eqI, wp_neI, wp_cmpI, wp_isN, wp_isNotN, wp_lenL, wp_lenT, wp_abs, wp_int, wp_min2, wp_max2, wp_listL, wp_listT, wp_tupleL, wp_tupleT, wp_ixT0, wp_ixT1, wp_ixL0, wp_neg, wp_ok, wp_srcEL, wp_isB, wp_isNotB, wp_eqB, wp_neB, wp_all, wp_any, wp_slT, wp_slL, wp_rev, wp_revT, wp_revL, wp_disp, wp_pair, wp_pair0, wp_dict0, wipeW, List.foldl_cons, List.foldl_nil, wp_run, List.map, List.length, List.replicate, List.cons_append, List.nil_append, List.append_nil, List.set_cons_zero, List.set_cons_succ, if_true, if_false, Bool.not_true, Bool.not_false, Bool.true_eq_false, Bool.false_eq_true, Nat.reduceAdd, Nat.reduceSub, gName']
  have hj : ∃ j : Nat, (if x - 1 > 0 then x - 1 else 0) = (j : Int) ∧ j ≤ 2 := ⟨(x - 1).toNat, by split <;> omega, by omega⟩
  obtain ⟨j, hj1, hj2⟩ := hj
  rw [hj1]
  refine ⟨s62 (by omega) (by omega), ?_⟩
  refine compS_fix (fun i acc s => ∃ rs : List TRow, acc = rs.map rowW ∧ rs.length = i ∧ (∀ r ∈ rs, ROk ks r) ∧ Up h st s ∧ Bg h s) ⟨[], rfl, rfl, by simp, Up.set, g2⟩ (sz (by rw [rng_len]; omega)) (fun i acc s z => ?_) (fun i w e acc s z => ?_) (fun acc s z => ?_)
  · obtain ⟨rs, rfl, rfl, _⟩ := z
    simp
  · obtain ⟨rs, rfl, z1, z2, z3, z4⟩ := z
    refine ⟨_, rfl, ?_⟩
    try simp only [ws_seq, ws_if, ws_set, ws_sub, ws_ret, ws_retN, ws_expr, ws_sNx, ws_for, wp_op, wp_var0, wp_varS, wp_c, wp_mB, wp_toB, wp_tr, wp_trB_bl, wp_trB_non, wp_trB_int, wp_not, wp_and, wp_or, wp_if, wp_mBl, wp_nil, wp_cons, wp_tup, wp_lst, wp_lstS, wp_newL_t, wp_newL_f, wp_chain, wp_call, wp_fn, wp_sl, wp_noPart, wp_part, wp_comp, wp_yes, wp_iL, wp_iA, wp_srcL, wp_srcS, wp_srcAL, wp_srcAT, wp_iR1, wp_iR2, wp_rng1, wp_rng2, wp_iRv, wp_srcRL, wp_srcRT, wp_iEA, wp_srcEL, wp_srcET, wp_add, wp_sub, wp_mul, wp_mod, wp_div, wp_divW, wp_pow18, wp_pow17, wp_pow16, wp_pow30, wp_eqI, wp_neI, wp_cmpI, wp_isN, wp_isNotN, wp_lenL, wp_lenT, wp_abs, wp_int, wp_min2, wp_max2, wp_listL, wp_listT, wp_tupleL, wp_tupleT, wp_ixT0, wp_ixT1, wp_ixL0, wp_neg, wp_ok, wp_srcEL, wp_isB, wp_isNotB, wp_eqB, wp_neB, wp_all, wp_any, wp_slT, wp_slL, wp_rev, wp_revT, wp_revL, wp_disp, wp_pair, wp_pair0, wp_dict0, wipeW, List.foldl_cons, List.foldl_nil, wp_run, List.map, List.length, List.replicate, List.cons_append, List.nil_append, List.append_nil, List.set_cons_zero, List.set_cons_succ, if_true, if_false, Bool.not_true, Bool.not_false, Bool.true_eq_false, Bool.false_eq_true, Nat.reduceAdd, Nat.reduceSub, gName']
    refine wp_no (range_ok z4 hk hl) ?_
    rintro _ s3 ⟨r, rfl, hr, u3, g3⟩
    refine ⟨rs ++ [r], by simp, by simp [z1], fun v hv => ?_, z3.trans u3, g3⟩
    rcases List.mem_append.mp hv with hv | hv
    · exact z2 v hv
    · simp only [List.mem_singleton] at hv
      rw [hv]; exact hr
  · obtain ⟨rs, rfl, z1, z2, z3, z4⟩ := z
    rw [rng_len] at z1
    have z5 : rs.length ≤ 2 := by omega
    try simp only [ws_seq, ws_if, ws_set, ws_sub, ws_ret, ws_retN, ws_expr, ws_sNx, ws_for, wp_op, wp_var0, wp_varS, wp_c, wp_mB, wp_toB, wp_tr, wp_trB_bl, wp_trB_non, wp_trB_int, wp_not, wp_and, wp_or, wp_if, wp_mBl, wp_nil, wp_cons, wp_tup, wp_lst, wp_lstS, wp_newL_t, wp_newL_f, wp_chain, wp_call, wp_fn, wp_sl, wp_noPart, wp_part, wp_comp, wp_yes, wp_iL, wp_iA, wp_srcL, wp_srcS, wp_srcAL, wp_srcAT, wp_iR1, wp_iR2, wp_rng1, wp_rng2, wp_iRv, wp_srcRL, wp_srcRT, wp_iEA, wp_srcEL, wp_srcET, wp_add, wp_sub, wp_mul, wp_mod, wp_div, wp_divW, wp_pow18, wp_pow17, wp_pow16, wp_pow30, wp_eqI, wp_neI, wp_cmpI, wp_isN, wp_isNotN, wp_lenL, wp_lenT, wp_abs, wp_int, wp_min2, wp_max2, wp_listL, wp_listT, wp_tupleL, wp_tupleT, wp_ixT0, wp_ixT1, wp_ixL0, wp_neg, wp_ok, wp_srcEL, wp_isB, wp_isNotB, wp_eqB, wp_neB, wp_all, wp_any, wp_slT, wp_slL, wp_rev, wp_revT, wp_revL, wp_disp, wp_pair, wp_pair0, wp_dict0, wipeW, List.foldl_cons, List.foldl_nil, wp_run, List.map, List.length, List.replicate, List.cons_append, List.nil_append, List.append_nil, List.set_cons_zero, List.set_cons_succ, if_true, if_false, Bool.not_true, Bool.not_false, Bool.true_eq_false, Bool.false_eq_true, Nat.reduceAdd, Nat.reduceSub, gName']
    refine wp_no (some_ok (m := 2) z4 hk hl (by decide)) ?_
    rintro _ s3 ⟨gs, rfl, q1, q2, q3, u3, g3⟩
    have e : fSortSetR true [.lst (rs.map rowW)] s3 = .ok (.lst ((L2.setR rs).map rowW)) s3 := by
      simp only [fSortSetR, seqL, rowsOf_map]
      rw [if_pos (by omega)]; rfl
    simp only [ws_seq, ws_if, ws_set, ws_sub, ws_ret, ws_retN, ws_expr, ws_sNx, ws_for, wp_op, wp_var0, wp_varS, wp_c, wp_mB, wp_toB, wp_tr, wp_trB_bl, wp_trB_non, wp_trB_int, wp_not, wp_and, wp_or, wp_if, wp_mBl, wp_nil, wp_cons, wp_tup, wp_lst, wp_lstS, wp_newL_t, wp_newL_f, wp_chain, wp_call, wp_fn, wp_sl, wp_noPart, wp_part, wp_comp, wp_yes, wp_iL, wp_iA, wp_srcL, wp_srcS, wp_srcAL, wp_srcAT, wp_iR1, wp_iR2, wp_rng1, wp_rng2, wp_iRv, wp_srcRL, wp_srcRT, wp_iEA, wp_srcEL, wp_srcET, wp_add, wp_sub, wp_mul, wp_mod, wp_div, wp_divW, wp_pow18, wp_pow17, wp_pow16, wp_pow30, wp_eqI, wp_neI, wp_cmpI, wp_isN, wp_isNotN, wp_lenL, wp_lenT, wp_abs, wp_int, wp_min2, wp_max2, wp_listL, wp_listT, wp_tupleL, wp_tupleT, wp_ixT0, wp_ixT1, wp_ixL0, wp_neg, wp_ok, wp_srcEL, wp_isB, wp_isNotB, wp_eqB, wp_neB, wp_all, wp_any, wp_slT, wp_slL, wp_rev, wp_revT, wp_revL, wp_disp, wp_pair, wp_pair0, wp_dict0, wipeW, List.foldl_cons, List.foldl_nil, wp_run, List.map, List.length, List.replicate, List.cons_append, List.nil_append, List.append_nil, List.set_cons_zero, List.set_cons_succ, if_true, if_false, Bool.not_true, Bool.not_false, Bool.true_eq_false, Bool.false_eq_true, Nat.reduceAdd, Nat.reduceSub, gName', e]
    exact ⟨gs, L2.setR rs, rfl, ⟨q1, q2, q3, fun r hr => z2 r (setR_mem.mp hr), ascR_set rs, Nat.le_trans (setR_len rs) z5⟩, z3.trans u3, g3⟩
/-! writes -/
def wrW (p : Str × W) : W := .tup [.str p.1, p.2]
def Mk (w : W) : Prop := w = .non ∨ ∃ i : Int, w = .int i ∧ -1000000000000000000 ≤ i ∧ i ≤ 1000000000000000000
structure WOk (ks : List Str) (ws : List (Str × W)) : Prop where
  k1 : ∀ p ∈ ws, p.1 ∈ ks
  asc : Asc (ws.map (·.1))
  few : ws.length ≤ 2
  mks : ∀ p ∈ ws, Mk p.2
theorem writes_ok {h : Nat} {st : Sto} {ks : List Str} (g : Bg h st) (hk : ks ≠ []) (hl : ks.length ≤ 6) : wp (r_law_writes [.ref h, .lst (ks.map W.str), .int 2] st) (fun w s => ∃ ws, w = .tup (ws.map wrW) ∧ WOk ks ws ∧ Up h st s ∧ Bg h s) NoE := by
  have hp : st.length ≠ h := by have := g.lt; omega
  simp only [r_law_writes, m_law_writes]
  try simp only [ws_seq, ws_if, ws_set, ws_sub, ws_ret, ws_retN, ws_expr, ws_sNx, ws_for, wp_op, wp_var0, wp_varS, wp_c, wp_mB, wp_toB, wp_tr, wp_trB_bl, wp_trB_non, wp_trB_int, wp_not, wp_and, wp_or, wp_if, wp_mBl, wp_nil, wp_cons, wp_tup, wp_lst, wp_lstS, wp_newL_t, wp_newL_f, wp_chain, wp_call, wp_fn, wp_sl, wp_noPart, wp_part, wp_comp, wp_yes, wp_iL, wp_iA, wp_srcL, wp_srcS, wp_srcAL, wp_srcAT, wp_iR1, wp_iR2, wp_rng1, wp_rng2, wp_iRv, wp_srcRL, wp_srcRT, wp_iEA, wp_srcEL, wp_srcET, wp_add, wp_sub, wp_mul, wp_mod, wp_div, wp_divW, wp_pow18, wp_pow17, wp_pow16, wp_pow30, wp_eqI, wp_neI, wp_cmpI, wp_isN, wp_isNotN, wp_lenL, wp_lenT, wp_abs, wp_int, wp_min2, wp_max2, wp_listL, wp_listT, wp_tupleL, wp_tupleT, wp_ixT0, wp_ixT1, wp_ixL0, wp_neg, wp_ok, wp_srcEL, wp_isB, wp_isNotB, wp_eqB, wp_neB, wp_all, wp_any, wp_slT, wp_slL, wp_rev, wp_revT, wp_revL, wp_disp, wp_pair, wp_pair0, wp_dict0, wipeW, List.foldl_cons, List.foldl_nil, wp_run, List.map, List.length, List.replicate, List.cons_append, List.nil_append, List.append_nil, List.set_cons_zero, List.set_cons_succ, if_true, if_false, Bool.not_true, Bool.not_false, Bool.true_eq_false, Bool.false_eq_true, Nat.reduceAdd, Nat.reduceSub, gName']
  refine wp_no (some_ok (m := 2) g.new hk hl (by decide)) ?_
  rintro _ s ⟨gs, rfl, q1, q2, q3, u, g⟩
  try simp only [ws_seq, ws_if, ws_set, ws_sub, ws_ret, ws_retN, ws_expr, ws_sNx, ws_for, wp_op, wp_var0, wp_varS, wp_c, wp_mB, wp_toB, wp_tr, wp_trB_bl, wp_trB_non, wp_trB_int, wp_not, wp_and, wp_or, wp_if, wp_mBl, wp_nil, wp_cons, wp_tup, wp_lst, wp_lstS, wp_newL_t, wp_newL_f, wp_chain, wp_call, wp_fn, wp_sl, wp_noPart, wp_part, wp_comp, wp_yes, wp_iL, wp_iA, wp_srcL, wp_srcS, wp_srcAL, wp_srcAT, wp_iR1, wp_iR2, wp_rng1, wp_rng2, wp_iRv, wp_srcRL, wp_srcRT, wp_iEA, wp_srcEL, wp_srcET, wp_add, wp_sub, wp_mul, wp_mod, wp_div, wp_divW, wp_pow18, wp_pow17, wp_pow16, wp_pow30, wp_eqI, wp_neI, wp_cmpI, wp_isN, wp_isNotN, wp_lenL, wp_lenT, wp_abs, wp_int, wp_min2, wp_max2, wp_listL, wp_listT, wp_tupleL, wp_tupleT, wp_ixT0, wp_ixT1, wp_ixL0, wp_neg, wp_ok, wp_srcEL, wp_isB, wp_isNotB, wp_eqB, wp_neB, wp_all, wp_any, wp_slT, wp_slL, wp_rev, wp_revT, wp_revL, wp_disp, wp_pair, wp_pair0, wp_dict0, wipeW, List.foldl_cons, List.foldl_nil, wp_run, List.map, List.length, List.replicate, List.cons_append, List.nil_append, List.append_nil, List.set_cons_zero, List.set_cons_succ, if_true, if_false, Bool.not_true, Bool.not_false, Bool.true_eq_false, Bool.false_eq_true, Nat.reduceAdd, Nat.reduceSub, gName']
  refine forS_fix (fun i e s => ∃ (ws : List (Str × W)) (k : Option W), e = [some (.ref h), some (.lst (ks.map W.str)), some (.int 2), some (.ref st.length), k] ∧ ws.map (·.1) = gs.take i ∧ (∀ p ∈ ws, Mk p.2) ∧ s[st.length]? = some (.lst (ws.map wrW)) ∧ Up h st s ∧ Bg h s)
    ⟨[], none, rfl, by simp, by simp, u.2 _ _ hp get_new, (Ext.app.up).trans u, g⟩ (fun i w e env s z => ?_) (fun env s z => ?_)
  · obtain ⟨ws, k, rfl, z1, z2, z3, z4, z5⟩ := z
    rw [List.getElem?_map] at e
    obtain ⟨y, ey, rfl⟩ : ∃ y, gs[i]? = some y ∧ w = .str y := by
      cases q : gs[i]? with
      | none => rw [q] at e; cases e
      | some y => rw [q] at e; exact ⟨y, rfl, by simpa using e.symm⟩
    have hz : ws.length ≤ 2 := by
      have := congrArg List.length z1
      simp at this; omega
    refine ⟨_, _, rfl, ?_⟩
    have hs : seqL s (.ref st.length) = some (ws.map wrW) := by simp [seqL, z3]
    simp only [ws_seq, ws_if, ws_set, ws_sub, ws_ret, ws_retN, ws_expr, ws_sNx, ws_for, wp_op, wp_var0, wp_varS, wp_c, wp_mB, wp_toB, wp_tr, wp_trB_bl, wp_trB_non, wp_trB_int, wp_not, wp_and, wp_or, wp_if, wp_mBl, wp_nil, wp_cons, wp_tup, wp_lst, wp_lstS, wp_newL_t, wp_newL_f, wp_chain, wp_call, wp_fn, wp_sl, wp_noPart, wp_part, wp_comp, wp_yes, wp_iL, wp_iA, wp_srcL, wp_srcS, wp_srcAL, wp_srcAT, wp_iR1, wp_iR2, wp_rng1, wp_rng2, wp_iRv, wp_srcRL, wp_srcRT, wp_iEA, wp_srcEL, wp_srcET, wp_add, wp_sub, wp_mul, wp_mod, wp_div, wp_divW, wp_pow18, wp_pow17, wp_pow16, wp_pow30, wp_eqI, wp_neI, wp_cmpI, wp_isN, wp_isNotN, wp_lenL, wp_lenT, wp_abs, wp_int, wp_min2, wp_max2, wp_listL, wp_listT, wp_tupleL, wp_tupleT, wp_ixT0, wp_ixT1, wp_ixL0, wp_neg, wp_ok, wp_srcEL, wp_isB, wp_isNotB, wp_eqB, wp_neB, wp_all, wp_any, wp_slT, wp_slL, wp_rev, wp_revT, wp_revL, wp_disp, wp_pair, wp_pair0, wp_dict0, wipeW, List.foldl_cons, List.foldl_nil, wp_run, List.map, List.length, List.replicate, List.cons_append, List.nil_append, List.append_nil, List.set_cons_zero, List.set_cons_succ, if_true, if_false, Bool.not_true, Bool.not_false, Bool.true_eq_false, Bool.false_eq_true, Nat.reduceAdd, Nat.reduceSub, gName', wp_lm, hs, Option.isSome, true_and, List.length_map]
    refine wp_no (draw1 z5 (by decide) (by decide)) ?_
    rintro _ s2 ⟨x, nd2, rfl, x0, x1, rfl, g2⟩
    obtain ⟨v, hv, hm⟩ : ∃ v, [W.non, .int 0, .int 5, .int (-7), .int 1000000000000000000][x.toNat]? = some v ∧ Mk v := by
      have : x = 0 ∨ x = 1 ∨ x = 2 ∨ x = 3 ∨ x = 4 := by omega
      rcases this with rfl | rfl | rfl | rfl | rfl
      · exact ⟨_, rfl, .inl rfl⟩
      · exact ⟨_, rfl, .inr ⟨_, rfl, by decide, by decide⟩⟩
      · exact ⟨_, rfl, .inr ⟨_, rfl, by decide, by decide⟩⟩
      · exact ⟨_, rfl, .inr ⟨_, rfl, by decide, by decide⟩⟩
      · exact ⟨_, rfl, .inr ⟨_, rfl, by decide, by decide⟩⟩
    rw [wp_ixLi x0 hv]
    try simp only [ws_seq, ws_if, ws_set, ws_sub, ws_ret, ws_retN, ws_expr, ws_sNx, ws_for, wp_op, wp_var0, wp_varS, wp_c, wp_mB, wp_toB, wp_tr, wp_trB_bl, wp_trB_non, wp_trB_int, wp_not, wp_and, wp_or, wp_if, wp_mBl, wp_nil, wp_cons, wp_tup, wp_lst, wp_lstS, wp_newL_t, wp_newL_f, wp_chain, wp_call, wp_fn, wp_sl, wp_noPart, wp_part, wp_comp, wp_yes, wp_iL, wp_iA, wp_srcL, wp_srcS, wp_srcAL, wp_srcAT, wp_iR1, wp_iR2, wp_rng1, wp_rng2, wp_iRv, wp_srcRL, wp_srcRT, wp_iEA, wp_srcEL, wp_srcET, wp_add, wp_sub, wp_mul, wp_mod, wp_div, wp_divW, wp_pow18, wp_pow17, wp_pow16, wp_pow30, wp_eqI, wp_neI, wp_cmpI, wp_isN, wp_isNotN, wp_lenL, wp_lenT, wp_abs, wp_int, wp_min2, wp_max2, wp_listL, wp_listT, wp_tupleL, wp_tupleT, wp_ixT0, wp_ixT1, wp_ixL0, wp_neg, wp_ok, wp_srcEL, wp_isB, wp_isNotB, wp_eqB, wp_neB, wp_all, wp_any, wp_slT, wp_slL, wp_rev, wp_revT, wp_revL, wp_disp, wp_pair, wp_pair0, wp_dict0, wipeW, List.foldl_cons, List.foldl_nil, wp_run, List.map, List.length, List.replicate, List.cons_append, List.nil_append, List.append_nil, List.set_cons_zero, List.set_cons_succ, if_true, if_false, Bool.not_true, Bool.not_false, Bool.true_eq_false, Bool.false_eq_true, Nat.reduceAdd, Nat.reduceSub, gName']
    rw [wp_app (xs := ws.map wrW) (by rw [get_setn hp.symm]; exact z3) (szl (by simp; omega))]
    refine ⟨ws ++ [(y, v)], _, rfl, ?_, fun p hp' => ?_, ?_, (z4.trans Up.set).setp (Nat.le_refl _), g2.set hp⟩
    · rw [Mi.take_next ey, List.map_append, z1]; rfl
    · rcases List.mem_append.mp hp' with hv | hv
      · exact z2 p hv
      · simp only [List.mem_singleton] at hv
        rw [hv]; exact hm
    · rw [get_setp (m := .lst (ws.map wrW)) (by rw [get_setn hp.symm]; exact z3)]
      simp [wrW]
  · obtain ⟨ws, k, rfl, z1, z2, z3, z4, z5⟩ := z
    rw [List.length_map, List.take_of_length_le (Nat.le_refl _)] at z1
    simp only [ws_seq, ws_if, ws_set, ws_sub, ws_ret, ws_retN, ws_expr, ws_sNx, ws_for, wp_op, wp_var0, wp_varS, wp_c, wp_mB, wp_toB, wp_tr, wp_trB_bl, wp_trB_non, wp_trB_int, wp_not, wp_and, wp_or, wp_if, wp_mBl, wp_nil, wp_cons, wp_tup, wp_lst, wp_lstS, wp_newL_t, wp_newL_f, wp_chain, wp_call, wp_fn, wp_sl, wp_noPart, wp_part, wp_comp, wp_yes, wp_iL, wp_iA, wp_srcL, wp_srcS, wp_srcAL, wp_srcAT, wp_iR1, wp_iR2, wp_rng1, wp_rng2, wp_iRv, wp_srcRL, wp_srcRT, wp_iEA, wp_srcEL, wp_srcET, wp_add, wp_sub, wp_mul, wp_mod, wp_div, wp_divW, wp_pow18, wp_pow17, wp_pow16, wp_pow30, wp_eqI, wp_neI, wp_cmpI, wp_isN, wp_isNotN, wp_lenL, wp_lenT, wp_abs, wp_int, wp_min2, wp_max2, wp_listL, wp_listT, wp_tupleL, wp_tupleT, wp_ixT0, wp_ixT1, wp_ixL0, wp_neg, wp_ok, wp_srcEL, wp_isB, wp_isNotB, wp_eqB, wp_neB, wp_all, wp_any, wp_slT, wp_slL, wp_rev, wp_revT, wp_revL, wp_disp, wp_pair, wp_pair0, wp_dict0, wipeW, List.foldl_cons, List.foldl_nil, wp_run, List.map, List.length, List.replicate, List.cons_append, List.nil_append, List.append_nil, List.set_cons_zero, List.set_cons_succ, if_true, if_false, Bool.not_true, Bool.not_false, Bool.true_eq_false, Bool.false_eq_true, Nat.reduceAdd, Nat.reduceSub, gName', wp_tupleR z3]
    refine ⟨ws, rfl, ⟨fun p hp => q1 _ (by rw [← z1]; exact List.mem_map_of_mem hp), by rw [z1]; exact q2, ?_, z2⟩, z4, z5⟩
    rw [← List.length_map (f := (·.1)), z1]; exact q3
end Lw
namespace Lw
open PySem L2 Mi
structure Pt where
  s : Int
  n : Option Int
  g : List Str
  r : List TRow
  w : List (Str × W)
def numW : Option Int → W
  | none => .non
  | some i => .int i
def ptW (p : Pt) : W := .tup [.int p.s, numW p.n, .tup (p.g.map W.str), .tup (p.r.map rowW), .tup (p.w.map wrW)]
structure POk (last : Int) (p : Pt) : Prop where
  s0 : 0 ≤ p.s
  s1 : p.s ≤ last
  num : p.n = if 0 < p.w.length then some (last + 1) else none
  sn : SOk K6 p.g p.r
  wr : WOk K6 p.w
def nxL (last : Int) (p : Pt) : Int := if 0 < p.w.length then last + 1 else last
def Hist : Int → List Pt → Prop
  | _, [] => True
  | l, p :: r => POk l p ∧ Hist (nxL l p) r
def lastF (l : Int) (ps : List Pt) : Int := ps.foldl nxL l
theorem Hist.snoc : ∀ {ps : List Pt} {l : Int} {p : Pt}, Hist l ps → POk (lastF l ps) p → Hist l (ps ++ [p])
  | [], l, p, _, k => ⟨k, trivial⟩
  | q :: ps, l, p, h, k => ⟨h.1, Hist.snoc h.2 k⟩
theorem Hist.at : ∀ {ps : List Pt} {l : Int} {i : Nat} {p : Pt}, Hist l ps → ps[i]? = some p → POk (lastF l (ps.take i)) p
  | [], l, i, p, _, e => by simp at e
  | q :: ps, l, 0, p, h, e => by
    simp only [List.getElem?_cons_zero, Option.some.injEq] at e
    subst e
    exact h.1
  | q :: ps, l, i + 1, p, h, e => by
    simp only [List.getElem?_cons_succ] at e
    exact Hist.at (l := nxL l q) h.2 e
theorem lastF_lo : ∀ {ps : List Pt} {l : Int}, l ≤ lastF l ps
  | [], l => Int.le_refl _
  | q :: ps, l => by
    refine Int.le_trans ?_ (lastF_lo (ps := ps) (l := nxL l q))
    unfold nxL
    split <;> omega
theorem lastF_hi : ∀ {ps : List Pt} {l : Int}, lastF l ps ≤ l + ps.length
  | [], l => by simp [lastF]
  | q :: ps, l => by
    refine Int.le_trans (lastF_hi (ps := ps) (l := nxL l q)) ?_
    unfold nxL
    split <;> simp <;> omega
theorem lastF_snoc {ps : List Pt} {l : Int} {p : Pt} : lastF l (ps ++ [p]) = nxL (lastF l ps) p := by simp [lastF]
theorem ROk.up {ks : List Str} {r : TRow} (h : ROk ks r) (k : ∀ x ∈ ks, x ∈ K6) : ROk K6 r := ⟨k _ h.lo, k _ h.hi, h.le, fun x hx => ⟨k _ (h.own x hx).1, (h.own x hx).2⟩, h.asc, h.few⟩
theorem SOk.up {ks gs : List Str} {rs : List TRow} (h : SOk ks gs rs) (k : ∀ x ∈ ks, x ∈ K6) : SOk K6 gs rs := ⟨fun x hx => k x (h.g1 x hx), h.g2, h.g3, fun r hr => (h.r1 r hr).up k, h.r2, h.r3⟩
theorem WOk.up {ks : List Str} {ws : List (Str × W)} (h : WOk ks ws) (k : ∀ x ∈ ks, x ∈ K6) : WOk K6 ws := ⟨fun x hx => k _ (h.k1 x hx), h.asc, h.few, h.mks⟩
theorem history_ok {h : Nat} {st : Sto} {ks : List Str} {lag : Int} {most : Nat} (hm : most ≤ 20) (g : Bg h st) (hk : ks ≠ []) (hl : ks.length ≤ 6) (h6 : ∀ x ∈ ks, x ∈ K6) (l0 : 0 ≤ lag) (l1 : lag ≤ 12) : wp (r_law_history [.ref h, .int (most : Int), .lst (ks.map W.str), .int lag] st) (fun w s => ∃ p ps, w = .ref p ∧ s[p]? = some (.lst (ps.map ptW)) ∧ p ≠ h ∧ Hist 0 ps ∧ ps.length ≤ 20 ∧ Up h st s ∧ Bg h s) NoE := by
  have hp : st.length ≠ h := by have := g.lt; omega
  simp only [r_law_history, m_law_history]
  rw [wp_run]
  simp only [ws_seq, ws_if, ws_set, ws_sub, ws_ret, ws_retN, ws_expr, ws_sNx, ws_for, wp_op, wp_var0, wp_varS, wp_c, wp_mB, wp_toB, wp_tr, wp_trB_bl, wp_trB_non, wp_trB_int, wp_not, wp_and, wp_or, wp_if, wp_mBl, wp_nil, wp_cons, wp_tup, wp_lst, wp_lstS, wp_newL_t, wp_newL_f, wp_chain, wp_call, wp_fn, wp_sl, wp_noPart, wp_part, wp_comp, wp_yes, wp_iL, wp_iA, wp_srcL, wp_srcS, wp_srcAL, wp_srcAT, wp_iR1, wp_iR2, wp_rng1, wp_rng2, wp_iRv, wp_srcRL, wp_srcRT, wp_iEA, wp_srcEL, wp_srcET, wp_add, wp_sub, wp_mul, wp_mod, wp_div, wp_divW, wp_pow18, wp_pow17, wp_pow16, wp_pow30, wp_eqI, wp_neI, wp_cmpI, wp_isN, wp_isNotN, wp_lenL, wp_lenT, wp_abs, wp_int, wp_min2, wp_max2, wp_listL, wp_listT, wp_tupleL, wp_tupleT, wp_ixT0, wp_ixT1, wp_ixL0, wp_neg, wp_ok, wp_srcEL, wp_isB, wp_isNotB, wp_eqB, wp_neB, wp_all, wp_any, wp_slT, wp_slL, wp_rev, wp_revT, wp_revL, wp_disp, wp_pair, wp_pair0, wp_dict0, wipeW, List.foldl_cons, List.foldl_nil, wp_run, List.map, List.length, List.replicate, List.cons_append, List.nil_append, List.append_nil, List.set_cons_zero, List.set_cons_succ, if_true, if_false, Bool.not_true, Bool.not_false, Bool.true_eq_false, Bool.false_eq_true, Nat.reduceAdd, Nat.reduceSub, gName', ws_par]
  refine wp_no (draw1 g.new (by omega) (by omega)) ?_
  rintro _ s ⟨n, nd, rfl, n0, n1, rfl, g⟩
  refine (wp_rng1).2 ⟨s62 n0 (by omega), ?_⟩
  refine forS_fix (fun i e s => ∃ (ps : List Pt) (M : Int) (o6 o7 o8 o9 o10 o11 : Option W), e = [some (.ref h), some (.int (most : Int)), some (.lst (ks.map W.str)), some (.int lag), some (.ref st.length), some (.int M), o6, o7, o8, o9, o10, o11] ∧ lastF 0 ps = M ∧ ps.length = i ∧ Hist 0 ps ∧ s[st.length]? = some (.lst (ps.map ptW)) ∧ Up h st s ∧ Bg h s)
    ⟨[], 0, none, none, none, none, none, none, rfl, rfl, rfl, trivial, by rw [get_setn hp.symm]; exact get_new, (Ext.app.up).trans Up.set, g⟩ (fun i w e env s z => ?_) (fun env s z => ?_)
  · obtain ⟨rfl, hi⟩ := rng_get e
    obtain ⟨ps, L, o6, o7, o8, o9, o10, o11, rfl, hL, z1, z2, z3, z4, z5⟩ := z
    have hi' : i < 20 := by omega
    refine ⟨_, _, rfl, ?_⟩
    have b0 := lastF_lo (ps := ps) (l := 0)
    have b1 := lastF_hi (ps := ps) (l := 0)
    rw [hL] at b0 b1
    try simp only [ws_seq, ws_if, ws_set, ws_sub, ws_ret, ws_retN, ws_expr, ws_sNx, ws_for, wp_op, wp_var0, wp_varS, wp_c, wp_mB, wp_toB, wp_tr, wp_trB_bl, wp_trB_non, wp_trB_int, wp_not, wp_and, wp_or, wp_if, wp_mBl, wp_nil, wp_cons, wp_tup, wp_lst, wp_lstS, wp_newL_t, wp_newL_f, wp_chain, wp_call, wp_fn, wp_sl, wp_noPart, wp_part, wp_comp, wp_yes, wp_iL, wp_iA, wp_srcL, wp_srcS, wp_srcAL, wp_srcAT, wp_iR1, wp_iR2, wp_rng1, wp_rng2, wp_iRv, wp_srcRL, wp_srcRT, wp_iEA, wp_srcEL, wp_srcET, wp_add, wp_sub, wp_mul, wp_mod, wp_div, wp_divW, wp_pow18, wp_pow17, wp_pow16, wp_pow30, wp_eqI, wp_neI, wp_cmpI, wp_isN, wp_isNotN, wp_lenL, wp_lenT, wp_abs, wp_int, wp_min2, wp_max2, wp_listL, wp_listT, wp_tupleL, wp_tupleT, wp_ixT0, wp_ixT1, wp_ixL0, wp_neg, wp_ok, wp_srcEL, wp_isB, wp_isNotB, wp_eqB, wp_neB, wp_all, wp_any, wp_slT, wp_slL, wp_rev, wp_revT, wp_revL, wp_disp, wp_pair, wp_pair0, wp_dict0, wipeW, List.foldl_cons, List.foldl_nil, wp_run, List.map, List.length, List.replicate, List.cons_append, List.nil_append, List.append_nil, List.set_cons_zero, List.set_cons_succ, if_true, if_false, Bool.not_true, Bool.not_false, Bool.true_eq_false, Bool.false_eq_true, Nat.reduceAdd, Nat.reduceSub, gName']
    refine wp_no (draw1 z5 (by omega) (by omega)) ?_
    rintro _ s2 ⟨x, nd2, rfl, x0, x1, rfl, g2⟩
    have e2 : (s.set h nd2)[st.length]? = some (.lst (ps.map ptW)) := by rw [get_setn hp.symm]; exact z3
    have u2 : Up h st (s.set h nd2) := z4.trans Up.set
    generalize s.set h nd2 = s2 at g2 e2 u2
    obtain ⟨q, hq, hq0, hq1⟩ : ∃ q : Int, (if L - x > 0 then L - x else 0) = q ∧ 0 ≤ q ∧ q ≤ L := ⟨_, rfl, by split <;> omega, by split <;> omega⟩
    simp only [ws_seq, ws_if, ws_set, ws_sub, ws_ret, ws_retN, ws_expr, ws_sNx, ws_for, wp_op, wp_var0, wp_varS, wp_c, wp_mB, wp_toB, wp_tr, wp_trB_bl, wp_trB_non, wp_trB_int, wp_not, wp_and, wp_or, wp_if, wp_mBl, wp_nil, wp_cons, wp_tup, wp_lst, wp_lstS, wp_newL_t, wp_newL_f, wp_chain, wp_call, wp_fn, wp_sl, wp_noPart, wp_part, wp_comp, wp_yes, wp_iL, wp_iA, wp_srcL, wp_srcS, wp_srcAL, wp_srcAT, wp_iR1, wp_iR2, wp_rng1, wp_rng2, wp_iRv, wp_srcRL, wp_srcRT, wp_iEA, wp_srcEL, wp_srcET, wp_add, wp_sub, wp_mul, wp_mod, wp_div, wp_divW, wp_pow18, wp_pow17, wp_pow16, wp_pow30, wp_eqI, wp_neI, wp_cmpI, wp_isN, wp_isNotN, wp_lenL, wp_lenT, wp_abs, wp_int, wp_min2, wp_max2, wp_listL, wp_listT, wp_tupleL, wp_tupleT, wp_ixT0, wp_ixT1, wp_ixL0, wp_neg, wp_ok, wp_srcEL, wp_isB, wp_isNotB, wp_eqB, wp_neB, wp_all, wp_any, wp_slT, wp_slL, wp_rev, wp_revT, wp_revL, wp_disp, wp_pair, wp_pair0, wp_dict0, wipeW, List.foldl_cons, List.foldl_nil, wp_run, List.map, List.length, List.replicate, List.cons_append, List.nil_append, List.append_nil, List.set_cons_zero, List.set_cons_succ, if_true, if_false, Bool.not_true, Bool.not_false, Bool.true_eq_false, Bool.false_eq_true, Nat.reduceAdd, Nat.reduceSub, gName', hq, ws_asg]
    refine wp_no (seen_ok g2 hk hl) ?_
    rintro _ s3 ⟨gs, rs, rfl, hsn, u3, g3⟩
    refine ⟨_, _, rfl, ?_⟩
    have e3 := u3.2 _ _ hp e2
    try simp only [ws_seq, ws_if, ws_set, ws_sub, ws_ret, ws_retN, ws_expr, ws_sNx, ws_for, wp_op, wp_var0, wp_varS, wp_c, wp_mB, wp_toB, wp_tr, wp_trB_bl, wp_trB_non, wp_trB_int, wp_not, wp_and, wp_or, wp_if, wp_mBl, wp_nil, wp_cons, wp_tup, wp_lst, wp_lstS, wp_newL_t, wp_newL_f, wp_chain, wp_call, wp_fn, wp_sl, wp_noPart, wp_part, wp_comp, wp_yes, wp_iL, wp_iA, wp_srcL, wp_srcS, wp_srcAL, wp_srcAT, wp_iR1, wp_iR2, wp_rng1, wp_rng2, wp_iRv, wp_srcRL, wp_srcRT, wp_iEA, wp_srcEL, wp_srcET, wp_add, wp_sub, wp_mul, wp_mod, wp_div, wp_divW, wp_pow18, wp_pow17, wp_pow16, wp_pow30, wp_eqI, wp_neI, wp_cmpI, wp_isN, wp_isNotN, wp_lenL, wp_lenT, wp_abs, wp_int, wp_min2, wp_max2, wp_listL, wp_listT, wp_tupleL, wp_tupleT, wp_ixT0, wp_ixT1, wp_ixL0, wp_neg, wp_ok, wp_srcEL, wp_isB, wp_isNotB, wp_eqB, wp_neB, wp_all, wp_any, wp_slT, wp_slL, wp_rev, wp_revT, wp_revL, wp_disp, wp_pair, wp_pair0, wp_dict0, wipeW, List.foldl_cons, List.foldl_nil, wp_run, List.map, List.length, List.replicate, List.cons_append, List.nil_append, List.append_nil, List.set_cons_zero, List.set_cons_succ, if_true, if_false, Bool.not_true, Bool.not_false, Bool.true_eq_false, Bool.false_eq_true, Nat.reduceAdd, Nat.reduceSub, gName']
    refine wp_no (writes_ok g3 hk hl) ?_
    rintro _ s4 ⟨ws, rfl, hws, u4, g4⟩
    have e4 := u4.2 _ _ hp e3
    simp only [ws_seq, ws_if, ws_set, ws_sub, ws_ret, ws_retN, ws_expr, ws_sNx, ws_for, wp_op, wp_var0, wp_varS, wp_c, wp_mB, wp_toB, wp_tr, wp_trB_bl, wp_trB_non, wp_trB_int, wp_not, wp_and, wp_or, wp_if, wp_mBl, wp_nil, wp_cons, wp_tup, wp_lst, wp_lstS, wp_newL_t, wp_newL_f, wp_chain, wp_call, wp_fn, wp_sl, wp_noPart, wp_part, wp_comp, wp_yes, wp_iL, wp_iA, wp_srcL, wp_srcS, wp_srcAL, wp_srcAT, wp_iR1, wp_iR2, wp_rng1, wp_rng2, wp_iRv, wp_srcRL, wp_srcRT, wp_iEA, wp_srcEL, wp_srcET, wp_add, wp_sub, wp_mul, wp_mod, wp_div, wp_divW, wp_pow18, wp_pow17, wp_pow16, wp_pow30, wp_eqI, wp_neI, wp_cmpI, wp_isN, wp_isNotN, wp_lenL, wp_lenT, wp_abs, wp_int, wp_min2, wp_max2, wp_listL, wp_listT, wp_tupleL, wp_tupleT, wp_ixT0, wp_ixT1, wp_ixL0, wp_neg, wp_ok, wp_srcEL, wp_isB, wp_isNotB, wp_eqB, wp_neB, wp_all, wp_any, wp_slT, wp_slL, wp_rev, wp_revT, wp_revL, wp_disp, wp_pair, wp_pair0, wp_dict0, wipeW, List.foldl_cons, List.foldl_nil, wp_run, List.map, List.length, List.replicate, List.cons_append, List.nil_append, List.append_nil, List.set_cons_zero, List.set_cons_succ, if_true, if_false, Bool.not_true, Bool.not_false, Bool.true_eq_false, Bool.false_eq_true, Nat.reduceAdd, Nat.reduceSub, gName', List.length_map, decide_eq_true_eq]
    have hz : seqL s4 (.ref st.length) = some (ps.map ptW) := by simp [seqL, e4]
    have done : ∀ (P : Pt), POk L P → Hist 0 (ps ++ [P]) := fun P hP => z2.snoc (by rw [hL]; exact hP)
    by_cases hw : 0 < ws.length
    · rw [if_pos (by omega)]
      simp only [ws_seq, ws_if, ws_set, ws_sub, ws_ret, ws_retN, ws_expr, ws_sNx, ws_for, wp_op, wp_var0, wp_varS, wp_c, wp_mB, wp_toB, wp_tr, wp_trB_bl, wp_trB_non, wp_trB_int, wp_not, wp_and, wp_or, wp_if, wp_mBl, wp_nil, wp_cons, wp_tup, wp_lst, wp_lstS, wp_newL_t, wp_newL_f, wp_chain, wp_call, wp_fn, wp_sl, wp_noPart, wp_part, wp_comp, wp_yes, wp_iL, wp_iA, wp_srcL, wp_srcS, wp_srcAL, wp_srcAT, wp_iR1, wp_iR2, wp_rng1, wp_rng2, wp_iRv, wp_srcRL, wp_srcRT, wp_iEA, wp_srcEL, wp_srcET, wp_add, wp_sub, wp_mul, wp_mod, wp_div, wp_divW, wp_pow18, wp_pow17, wp_pow16, wp_pow30, wp_eqI, wp_neI, wp_cmpI, wp_isN, wp_isNotN, wp_lenL, wp_lenT, wp_abs, wp_int, wp_min2, wp_max2, wp_listL, wp_listT, wp_tupleL, wp_tupleT, wp_ixT0, wp_ixT1, wp_ixL0, wp_neg, wp_ok, wp_srcEL, wp_isB, wp_isNotB, wp_eqB, wp_neB, wp_all, wp_any, wp_slT, wp_slL, wp_rev, wp_revT, wp_revL, wp_disp, wp_pair, wp_pair0, wp_dict0, wipeW, List.foldl_cons, List.foldl_nil, wp_run, List.map, List.length, List.replicate, List.cons_append, List.nil_append, List.append_nil, List.set_cons_zero, List.set_cons_succ, if_true, if_false, Bool.not_true, Bool.not_false, Bool.true_eq_false, Bool.false_eq_true, Nat.reduceAdd, Nat.reduceSub, gName', wp_lm, hz, Option.isSome, true_and]
      have hc : L + (1 : Int) = L + 1 := rfl
      rw [wp_app (xs := ps.map ptW) e4 (szl (by simp; omega))]
      have e5 : ∀ s5, wp (fInt [.bl (!Mi.isNon (.int (L + 1)))] s5) (fun w s => w = .int 1 ∧ s = s5) NoE := fun s5 => ⟨rfl, rfl⟩
      try simp only [ws_seq, ws_if, ws_set, ws_sub, ws_ret, ws_retN, ws_expr, ws_sNx, ws_for, wp_op, wp_var0, wp_varS, wp_c, wp_mB, wp_toB, wp_tr, wp_trB_bl, wp_trB_non, wp_trB_int, wp_not, wp_and, wp_or, wp_if, wp_mBl, wp_nil, wp_cons, wp_tup, wp_lst, wp_lstS, wp_newL_t, wp_newL_f, wp_chain, wp_call, wp_fn, wp_sl, wp_noPart, wp_part, wp_comp, wp_yes, wp_iL, wp_iA, wp_srcL, wp_srcS, wp_srcAL, wp_srcAT, wp_iR1, wp_iR2, wp_rng1, wp_rng2, wp_iRv, wp_srcRL, wp_srcRT, wp_iEA, wp_srcEL, wp_srcET, wp_add, wp_sub, wp_mul, wp_mod, wp_div, wp_divW, wp_pow18, wp_pow17, wp_pow16, wp_pow30, wp_eqI, wp_neI, wp_cmpI, wp_isN, wp_isNotN, wp_lenL, wp_lenT, wp_abs, wp_int, wp_min2, wp_max2, wp_listL, wp_listT, wp_tupleL, wp_tupleT, wp_ixT0, wp_ixT1, wp_ixL0, wp_neg, wp_ok, wp_srcEL, wp_isB, wp_isNotB, wp_eqB, wp_neB, wp_all, wp_any, wp_slT, wp_slL, wp_rev, wp_revT, wp_revL, wp_disp, wp_pair, wp_pair0, wp_dict0, wipeW, List.foldl_cons, List.foldl_nil, wp_run, List.map, List.length, List.replicate, List.cons_append, List.nil_append, List.append_nil, List.set_cons_zero, List.set_cons_succ, if_true, if_false, Bool.not_true, Bool.not_false, Bool.true_eq_false, Bool.false_eq_true, Nat.reduceAdd, Nat.reduceSub, gName']
      refine wp_no (e5 _) ?_
      rintro _ _ ⟨rfl, rfl⟩
      try simp only [ws_seq, ws_if, ws_set, ws_sub, ws_ret, ws_retN, ws_expr, ws_sNx, ws_for, wp_op, wp_var0, wp_varS, wp_c, wp_mB, wp_toB, wp_tr, wp_trB_bl, wp_trB_non, wp_trB_int, wp_not, wp_and, wp_or, wp_if, wp_mBl, wp_nil, wp_cons, wp_tup, wp_lst, wp_lstS, wp_newL_t, wp_newL_f, wp_chain, wp_call, wp_fn, wp_sl, wp_noPart, wp_part, wp_comp, wp_yes, wp_iL, wp_iA, wp_srcL, wp_srcS, wp_srcAL, wp_srcAT, wp_iR1, wp_iR2, wp_rng1, wp_rng2, wp_iRv, wp_srcRL, wp_srcRT, wp_iEA, wp_srcEL, wp_srcET, wp_add, wp_sub, wp_mul, wp_mod, wp_div, wp_divW, wp_pow18, wp_pow17, wp_pow16, wp_pow30, wp_eqI, wp_neI, wp_cmpI, wp_isN, wp_isNotN, wp_lenL, wp_lenT, wp_abs, wp_int, wp_min2, wp_max2, wp_listL, wp_listT, wp_tupleL, wp_tupleT, wp_ixT0, wp_ixT1, wp_ixL0, wp_neg, wp_ok, wp_srcEL, wp_isB, wp_isNotB, wp_eqB, wp_neB, wp_all, wp_any, wp_slT, wp_slL, wp_rev, wp_revT, wp_revL, wp_disp, wp_pair, wp_pair0, wp_dict0, wipeW, List.foldl_cons, List.foldl_nil, wp_run, List.map, List.length, List.replicate, List.cons_append, List.nil_append, List.append_nil, List.set_cons_zero, List.set_cons_succ, if_true, if_false, Bool.not_true, Bool.not_false, Bool.true_eq_false, Bool.false_eq_true, Nat.reduceAdd, Nat.reduceSub, gName']
      refine ⟨ps ++ [⟨q, some (L + 1), gs, rs, ws⟩], _, _, _, _, _, _, _, rfl, ?_, by simp [z1], done _ ⟨hq0, hq1, by rw [if_pos hw], hsn.up h6, hws.up h6⟩, ?_, ((u2.trans u3).trans u4).setp (Nat.le_refl _), g4.set hp⟩
      · rw [lastF_snoc, hL]
        simp only [nxL, if_pos hw]
      · rw [get_setp e4]
        simp [ptW, numW]
    · rw [if_neg (by omega)]
      simp only [ws_seq, ws_if, ws_set, ws_sub, ws_ret, ws_retN, ws_expr, ws_sNx, ws_for, wp_op, wp_var0, wp_varS, wp_c, wp_mB, wp_toB, wp_tr, wp_trB_bl, wp_trB_non, wp_trB_int, wp_not, wp_and, wp_or, wp_if, wp_mBl, wp_nil, wp_cons, wp_tup, wp_lst, wp_lstS, wp_newL_t, wp_newL_f, wp_chain, wp_call, wp_fn, wp_sl, wp_noPart, wp_part, wp_comp, wp_yes, wp_iL, wp_iA, wp_srcL, wp_srcS, wp_srcAL, wp_srcAT, wp_iR1, wp_iR2, wp_rng1, wp_rng2, wp_iRv, wp_srcRL, wp_srcRT, wp_iEA, wp_srcEL, wp_srcET, wp_add, wp_sub, wp_mul, wp_mod, wp_div, wp_divW, wp_pow18, wp_pow17, wp_pow16, wp_pow30, wp_eqI, wp_neI, wp_cmpI, wp_isN, wp_isNotN, wp_lenL, wp_lenT, wp_abs, wp_int, wp_min2, wp_max2, wp_listL, wp_listT, wp_tupleL, wp_tupleT, wp_ixT0, wp_ixT1, wp_ixL0, wp_neg, wp_ok, wp_srcEL, wp_isB, wp_isNotB, wp_eqB, wp_neB, wp_all, wp_any, wp_slT, wp_slL, wp_rev, wp_revT, wp_revL, wp_disp, wp_pair, wp_pair0, wp_dict0, wipeW, List.foldl_cons, List.foldl_nil, wp_run, List.map, List.length, List.replicate, List.cons_append, List.nil_append, List.append_nil, List.set_cons_zero, List.set_cons_succ, if_true, if_false, Bool.not_true, Bool.not_false, Bool.true_eq_false, Bool.false_eq_true, Nat.reduceAdd, Nat.reduceSub, gName', wp_lm, hz, Option.isSome, true_and]
      rw [wp_app (xs := ps.map ptW) e4 (szl (by simp; omega))]
      have e5 : ∀ s5, wp (fInt [.bl (!Mi.isNon .non)] s5) (fun w s => w = .int 0 ∧ s = s5) NoE := fun s5 => ⟨rfl, rfl⟩
      try simp only [ws_seq, ws_if, ws_set, ws_sub, ws_ret, ws_retN, ws_expr, ws_sNx, ws_for, wp_op, wp_var0, wp_varS, wp_c, wp_mB, wp_toB, wp_tr, wp_trB_bl, wp_trB_non, wp_trB_int, wp_not, wp_and, wp_or, wp_if, wp_mBl, wp_nil, wp_cons, wp_tup, wp_lst, wp_lstS, wp_newL_t, wp_newL_f, wp_chain, wp_call, wp_fn, wp_sl, wp_noPart, wp_part, wp_comp, wp_yes, wp_iL, wp_iA, wp_srcL, wp_srcS, wp_srcAL, wp_srcAT, wp_iR1, wp_iR2, wp_rng1, wp_rng2, wp_iRv, wp_srcRL, wp_srcRT, wp_iEA, wp_srcEL, wp_srcET, wp_add, wp_sub, wp_mul, wp_mod, wp_div, wp_divW, wp_pow18, wp_pow17, wp_pow16, wp_pow30, wp_eqI, wp_neI, wp_cmpI, wp_isN, wp_isNotN, wp_lenL, wp_lenT, wp_abs, wp_int, wp_min2, wp_max2, wp_listL, wp_listT, wp_tupleL, wp_tupleT, wp_ixT0, wp_ixT1, wp_ixL0, wp_neg, wp_ok, wp_srcEL, wp_isB, wp_isNotB, wp_eqB, wp_neB, wp_all, wp_any, wp_slT, wp_slL, wp_rev, wp_revT, wp_revL, wp_disp, wp_pair, wp_pair0, wp_dict0, wipeW, List.foldl_cons, List.foldl_nil, wp_run, List.map, List.length, List.replicate, List.cons_append, List.nil_append, List.append_nil, List.set_cons_zero, List.set_cons_succ, if_true, if_false, Bool.not_true, Bool.not_false, Bool.true_eq_false, Bool.false_eq_true, Nat.reduceAdd, Nat.reduceSub, gName']
      refine wp_no (e5 _) ?_
      rintro _ _ ⟨rfl, rfl⟩
      try simp only [ws_seq, ws_if, ws_set, ws_sub, ws_ret, ws_retN, ws_expr, ws_sNx, ws_for, wp_op, wp_var0, wp_varS, wp_c, wp_mB, wp_toB, wp_tr, wp_trB_bl, wp_trB_non, wp_trB_int, wp_not, wp_and, wp_or, wp_if, wp_mBl, wp_nil, wp_cons, wp_tup, wp_lst, wp_lstS, wp_newL_t, wp_newL_f, wp_chain, wp_call, wp_fn, wp_sl, wp_noPart, wp_part, wp_comp, wp_yes, wp_iL, wp_iA, wp_srcL, wp_srcS, wp_srcAL, wp_srcAT, wp_iR1, wp_iR2, wp_rng1, wp_rng2, wp_iRv, wp_srcRL, wp_srcRT, wp_iEA, wp_srcEL, wp_srcET, wp_add, wp_sub, wp_mul, wp_mod, wp_div, wp_divW, wp_pow18, wp_pow17, wp_pow16, wp_pow30, wp_eqI, wp_neI, wp_cmpI, wp_isN, wp_isNotN, wp_lenL, wp_lenT, wp_abs, wp_int, wp_min2, wp_max2, wp_listL, wp_listT, wp_tupleL, wp_tupleT, wp_ixT0, wp_ixT1, wp_ixL0, wp_neg, wp_ok, wp_srcEL, wp_isB, wp_isNotB, wp_eqB, wp_neB, wp_all, wp_any, wp_slT, wp_slL, wp_rev, wp_revT, wp_revL, wp_disp, wp_pair, wp_pair0, wp_dict0, wipeW, List.foldl_cons, List.foldl_nil, wp_run, List.map, List.length, List.replicate, List.cons_append, List.nil_append, List.append_nil, List.set_cons_zero, List.set_cons_succ, if_true, if_false, Bool.not_true, Bool.not_false, Bool.true_eq_false, Bool.false_eq_true, Nat.reduceAdd, Nat.reduceSub, gName']
      refine ⟨ps ++ [⟨q, none, gs, rs, ws⟩], _, _, _, _, _, _, _, rfl, ?_, by simp [z1], done _ ⟨hq0, hq1, by rw [if_neg hw], hsn.up h6, hws.up h6⟩, ?_, ((u2.trans u3).trans u4).setp (Nat.le_refl _), g4.set hp⟩
      · rw [lastF_snoc, hL]
        simp only [nxL, if_neg hw, Int.add_zero]
      · rw [get_setp e4]
        simp [ptW, numW]
  · obtain ⟨ps, L, o6, o7, o8, o9, o10, o11, rfl, hL, z1, z2, z3, z4, z5⟩ := z
    rw [rng_len] at z1
    try simp only [ws_seq, ws_if, ws_set, ws_sub, ws_ret, ws_retN, ws_expr, ws_sNx, ws_for, wp_op, wp_var0, wp_varS, wp_c, wp_mB, wp_toB, wp_tr, wp_trB_bl, wp_trB_non, wp_trB_int, wp_not, wp_and, wp_or, wp_if, wp_mBl, wp_nil, wp_cons, wp_tup, wp_lst, wp_lstS, wp_newL_t, wp_newL_f, wp_chain, wp_call, wp_fn, wp_sl, wp_noPart, wp_part, wp_comp, wp_yes, wp_iL, wp_iA, wp_srcL, wp_srcS, wp_srcAL, wp_srcAT, wp_iR1, wp_iR2, wp_rng1, wp_rng2, wp_iRv, wp_srcRL, wp_srcRT, wp_iEA, wp_srcEL, wp_srcET, wp_add, wp_sub, wp_mul, wp_mod, wp_div, wp_divW, wp_pow18, wp_pow17, wp_pow16, wp_pow30, wp_eqI, wp_neI, wp_cmpI, wp_isN, wp_isNotN, wp_lenL, wp_lenT, wp_abs, wp_int, wp_min2, wp_max2, wp_listL, wp_listT, wp_tupleL, wp_tupleT, wp_ixT0, wp_ixT1, wp_ixL0, wp_neg, wp_ok, wp_srcEL, wp_isB, wp_isNotB, wp_eqB, wp_neB, wp_all, wp_any, wp_slT, wp_slL, wp_rev, wp_revT, wp_revL, wp_disp, wp_pair, wp_pair0, wp_dict0, wipeW, List.foldl_cons, List.foldl_nil, wp_run, List.map, List.length, List.replicate, List.cons_append, List.nil_append, List.append_nil, List.set_cons_zero, List.set_cons_succ, if_true, if_false, Bool.not_true, Bool.not_false, Bool.true_eq_false, Bool.false_eq_true, Nat.reduceAdd, Nat.reduceSub, gName']
    exact ⟨_, ps, rfl, z3, hp, z2, by omega, z4, z5⟩
end Lw
namespace Lw
open PySem L2 Mi
theorem pure_eq {r : Rs W} {w : W} {st : Sto} (h : wp r (fun v s => v = w ∧ s = st) NoE) : r = .ok w st := by
  cases r with
  | ok a s => obtain ⟨rfl, rfl⟩ := h; rfl
  | ex x s => exact h.elim
  | stuck => exact h.elim
section
variable {P : W → Sto → Prop} {E : Xc → Sto → Prop} {st : Sto} {Q : List W → Sto → Prop} {env : Ev}
theorem wp_callV {g : Addr} {r : RunM} {m : M (List W)} {e : Ev} : wp (mCallV 0 g r m (some (.at_ g) :: e) st) P E ↔ wp (m (some (.at_ g) :: e) st) (fun ws s => wp (r ws s) P E) E := by
  rw [callV_at rfl, wp_bind]
theorem wp_allF {α : Type} {f : α → Bool} {ys : List α} : wp (fAll [.lst (ys.map fun y => W.bl (f y))] st) P E ↔ P (.bl (ys.all f)) st := by
  have := wp_all (bs := ys.map f) (st := st) (P := P) (E := E)
  rw [List.map_map] at this
  refine this.trans ?_
  rw [List.all_map]; exact Iff.rfl
theorem compS_mapT {α : Type} {ys : List α} {enc : α → W} (f : α → W) {t : CT} {elt : M W} (hl : ys.length ≤ sizeLine)
    (h : ∀ y ∈ ys, ∃ env1, t.put (enc y) env = some env1 ∧ wp (elt env1 st) (fun v s => v = f y ∧ s = st) NoE)
    (q : Q (ys.map f) st) : wp (compS (fixS (ys.map enc)) t mYes elt env (fixS (ys.map enc)).fuel 0 [] st) Q E :=
  compS_map (fun _ => true) f hl (fun y hy => by obtain ⟨e1, a, b⟩ := h y hy; exact ⟨e1, a, ⟨rfl, rfl⟩, fun _ => b⟩) (by rw [List.filter_eq_self.mpr fun _ _ => rfl]; exact q)
theorem isi_t {xs : List W} : fIsi x_own [.tup xs, .ty "tuple"] st = .ok (.bl true) st := rfl
end
def K9 : List Str := K6 ++ (["ab", "cz", "zzzzzzzzzzzz"] : List Str)
theorem key_ok {k : Str} (h : k ∈ K9) (st : Sto) : r_is_key [.str k] st = .ok (.bl true) st := by
  simp only [K9, K6, List.cons_append, List.nil_append, List.mem_cons, List.not_mem_nil, or_false] at h
  rcases h with rfl | rfl | rfl | rfl | rfl | rfl | rfl | rfl | rfl <;> rfl
theorem k69 {k : Str} (h : k ∈ K6) : k ∈ K9 := List.mem_append_left _ h
theorem keyT_ok {ks : List Str} (hl : ks.length ≤ 100) (h : ∀ k ∈ ks, k ∈ K6) (st : Sto) : r_is_tuple_of_is_key [.tup (ks.map W.str)] st = .ok (.bl true) st := by
  refine pure_eq ?_
  simp only [r_is_tuple_of_is_key, m_is_tuple_of_is_key]
  simp only [ws_seq, ws_if, ws_set, ws_sub, ws_ret, ws_retN, ws_expr, ws_sNx, ws_for, wp_op, wp_var0, wp_varS, wp_c, wp_mB, wp_toB, wp_tr, wp_trB_bl, wp_trB_non, wp_trB_int, wp_not, wp_and, wp_or, wp_if, wp_mBl, wp_nil, wp_cons, wp_tup, wp_lst, wp_lstS, wp_newL_t, wp_newL_f, wp_chain, wp_call, wp_fn, wp_sl, wp_noPart, wp_part, wp_comp, wp_yes, wp_iL, wp_iA, wp_srcL, wp_srcS, wp_srcAL, wp_srcAT, wp_iR1, wp_iR2, wp_rng1, wp_rng2, wp_iRv, wp_srcRL, wp_srcRT, wp_iEA, wp_srcEL, wp_srcET, wp_add, wp_sub, wp_mul, wp_mod, wp_div, wp_divW, wp_pow18, wp_pow17, wp_pow16, wp_pow30, wp_eqI, wp_neI, wp_cmpI, wp_isN, wp_isNotN, wp_lenL, wp_lenT, wp_abs, wp_int, wp_min2, wp_max2, wp_listL, wp_listT, wp_tupleL, wp_tupleT, wp_ixT0, wp_ixT1, wp_ixL0, wp_neg, wp_ok, wp_srcEL, wp_isB, wp_isNotB, wp_eqB, wp_neB, wp_all, wp_any, wp_slT, wp_slL, wp_rev, wp_revT, wp_revL, wp_disp, wp_pair, wp_pair0, wp_dict0, wipeW, List.foldl_cons, List.foldl_nil, wp_run, List.map, List.length, List.replicate, List.cons_append, List.nil_append, List.append_nil, List.set_cons_zero, List.set_cons_succ, if_true, if_false, Bool.not_true, Bool.not_false, Bool.true_eq_false, Bool.false_eq_true, Nat.reduceAdd, Nat.reduceSub, gName', isi_t]
  refine compS_mapT (ys := ks) (enc := W.str) (fun _ => .bl true) (sz (by omega)) (fun y hy => ⟨_, rfl, ?_⟩) ?_
  · rw [List.set_cons_succ, wp_callV]
    simp only [ws_seq, ws_if, ws_set, ws_sub, ws_ret, ws_retN, ws_expr, ws_sNx, ws_for, wp_op, wp_var0, wp_varS, wp_c, wp_mB, wp_toB, wp_tr, wp_trB_bl, wp_trB_non, wp_trB_int, wp_not, wp_and, wp_or, wp_if, wp_mBl, wp_nil, wp_cons, wp_tup, wp_lst, wp_lstS, wp_newL_t, wp_newL_f, wp_chain, wp_call, wp_fn, wp_sl, wp_noPart, wp_part, wp_comp, wp_yes, wp_iL, wp_iA, wp_srcL, wp_srcS, wp_srcAL, wp_srcAT, wp_iR1, wp_iR2, wp_rng1, wp_rng2, wp_iRv, wp_srcRL, wp_srcRT, wp_iEA, wp_srcEL, wp_srcET, wp_add, wp_sub, wp_mul, wp_mod, wp_div, wp_divW, wp_pow18, wp_pow17, wp_pow16, wp_pow30, wp_eqI, wp_neI, wp_cmpI, wp_isN, wp_isNotN, wp_lenL, wp_lenT, wp_abs, wp_int, wp_min2, wp_max2, wp_listL, wp_listT, wp_tupleL, wp_tupleT, wp_ixT0, wp_ixT1, wp_ixL0, wp_neg, wp_ok, wp_srcEL, wp_isB, wp_isNotB, wp_eqB, wp_neB, wp_all, wp_any, wp_slT, wp_slL, wp_rev, wp_revT, wp_revL, wp_disp, wp_pair, wp_pair0, wp_dict0, wipeW, List.foldl_cons, List.foldl_nil, wp_run, List.map, List.length, List.replicate, List.cons_append, List.nil_append, List.append_nil, List.set_cons_zero, List.set_cons_succ, if_true, if_false, Bool.not_true, Bool.not_false, Bool.true_eq_false, Bool.false_eq_true, Nat.reduceAdd, Nat.reduceSub, gName', key_ok (k69 (h y hy))]
    exact ⟨by trivial, by trivial⟩
  · try simp only [ws_seq, ws_if, ws_set, ws_sub, ws_ret, ws_retN, ws_expr, ws_sNx, ws_for, wp_op, wp_var0, wp_varS, wp_c, wp_mB, wp_toB, wp_tr, wp_trB_bl, wp_trB_non, wp_trB_int, wp_not, wp_and, wp_or, wp_if, wp_mBl, wp_nil, wp_cons, wp_tup, wp_lst, wp_lstS, wp_newL_t, wp_newL_f, wp_chain, wp_call, wp_fn, wp_sl, wp_noPart, wp_part, wp_comp, wp_yes, wp_iL, wp_iA, wp_srcL, wp_srcS, wp_srcAL, wp_srcAT, wp_iR1, wp_iR2, wp_rng1, wp_rng2, wp_iRv, wp_srcRL, wp_srcRT, wp_iEA, wp_srcEL, wp_srcET, wp_add, wp_sub, wp_mul, wp_mod, wp_div, wp_divW, wp_pow18, wp_pow17, wp_pow16, wp_pow30, wp_eqI, wp_neI, wp_cmpI, wp_isN, wp_isNotN, wp_lenL, wp_lenT, wp_abs, wp_int, wp_min2, wp_max2, wp_listL, wp_listT, wp_tupleL, wp_tupleT, wp_ixT0, wp_ixT1, wp_ixL0, wp_neg, wp_ok, wp_srcEL, wp_isB, wp_isNotB, wp_eqB, wp_neB, wp_all, wp_any, wp_slT, wp_slL, wp_rev, wp_revT, wp_revL, wp_disp, wp_pair, wp_pair0, wp_dict0, wipeW, List.foldl_cons, List.foldl_nil, wp_run, List.map, List.length, List.replicate, List.cons_append, List.nil_append, List.append_nil, List.set_cons_zero, List.set_cons_succ, if_true, if_false, Bool.not_true, Bool.not_false, Bool.true_eq_false, Bool.false_eq_true, Nat.reduceAdd, Nat.reduceSub, gName']
    rw [wp_allF (f := fun _ => true)]
    simp only [ws_seq, ws_if, ws_set, ws_sub, ws_ret, ws_retN, ws_expr, ws_sNx, ws_for, wp_op, wp_var0, wp_varS, wp_c, wp_mB, wp_toB, wp_tr, wp_trB_bl, wp_trB_non, wp_trB_int, wp_not, wp_and, wp_or, wp_if, wp_mBl, wp_nil, wp_cons, wp_tup, wp_lst, wp_lstS, wp_newL_t, wp_newL_f, wp_chain, wp_call, wp_fn, wp_sl, wp_noPart, wp_part, wp_comp, wp_yes, wp_iL, wp_iA, wp_srcL, wp_srcS, wp_srcAL, wp_srcAT, wp_iR1, wp_iR2, wp_rng1, wp_rng2, wp_iRv, wp_srcRL, wp_srcRT, wp_iEA, wp_srcEL, wp_srcET, wp_add, wp_sub, wp_mul, wp_mod, wp_div, wp_divW, wp_pow18, wp_pow17, wp_pow16, wp_pow30, wp_eqI, wp_neI, wp_cmpI, wp_isN, wp_isNotN, wp_lenL, wp_lenT, wp_abs, wp_int, wp_min2, wp_max2, wp_listL, wp_listT, wp_tupleL, wp_tupleT, wp_ixT0, wp_ixT1, wp_ixL0, wp_neg, wp_ok, wp_srcEL, wp_isB, wp_isNotB, wp_eqB, wp_neB, wp_all, wp_any, wp_slT, wp_slL, wp_rev, wp_revT, wp_revL, wp_disp, wp_pair, wp_pair0, wp_dict0, wipeW, List.foldl_cons, List.foldl_nil, wp_run, List.map, List.length, List.replicate, List.cons_append, List.nil_append, List.append_nil, List.set_cons_zero, List.set_cons_succ, if_true, if_false, Bool.not_true, Bool.not_false, Bool.true_eq_false, Bool.false_eq_true, Nat.reduceAdd, Nat.reduceSub, gName']
    exact ⟨by simp, by trivial⟩
theorem ascend_ok {w : W} {xs : List W} {st : Sto} (hlen : fLen [w] st = .ok (.int xs.length) st) (hix : ∀ (n : Nat) v, xs[n]? = some v → wIx w (.int (n : Int)) st = .ok v st) (hl : xs.length ≤ 100)
    (h : ∀ n a b, xs[n]? = some a → xs[n + 1]? = some b → wLtR a b st = .ok (.bl true) st) : r_is_ascending [w] st = .ok (.bl true) st := by
  refine pure_eq ?_
  simp only [r_is_ascending, m_is_ascending]
  simp only [ws_seq, ws_if, ws_set, ws_sub, ws_ret, ws_retN, ws_expr, ws_sNx, ws_for, wp_op, wp_var0, wp_varS, wp_c, wp_mB, wp_toB, wp_tr, wp_trB_bl, wp_trB_non, wp_trB_int, wp_not, wp_and, wp_or, wp_if, wp_mBl, wp_nil, wp_cons, wp_tup, wp_lst, wp_lstS, wp_newL_t, wp_newL_f, wp_chain, wp_call, wp_fn, wp_sl, wp_noPart, wp_part, wp_comp, wp_yes, wp_iL, wp_iA, wp_srcL, wp_srcS, wp_srcAL, wp_srcAT, wp_iR1, wp_iR2, wp_rng1, wp_rng2, wp_iRv, wp_srcRL, wp_srcRT, wp_iEA, wp_srcEL, wp_srcET, wp_add, wp_sub, wp_mul, wp_mod, wp_div, wp_divW, wp_pow18, wp_pow17, wp_pow16, wp_pow30, wp_eqI, wp_neI, wp_cmpI, wp_isN, wp_isNotN, wp_lenL, wp_lenT, wp_abs, wp_int, wp_min2, wp_max2, wp_listL, wp_listT, wp_tupleL, wp_tupleT, wp_ixT0, wp_ixT1, wp_ixL0, wp_neg, wp_ok, wp_srcEL, wp_isB, wp_isNotB, wp_eqB, wp_neB, wp_all, wp_any, wp_slT, wp_slL, wp_rev, wp_revT, wp_revL, wp_disp, wp_pair, wp_pair0, wp_dict0, wipeW, List.foldl_cons, List.foldl_nil, wp_run, List.map, List.length, List.replicate, List.cons_append, List.nil_append, List.append_nil, List.set_cons_zero, List.set_cons_succ, if_true, if_false, Bool.not_true, Bool.not_false, Bool.true_eq_false, Bool.false_eq_true, Nat.reduceAdd, Nat.reduceSub, gName', hlen]
  refine ⟨by simp only [Mi.small62, decide_eq_true_eq]; omega, ?_⟩
  unfold rngW
  refine compS_mapT (ys := List.range ((xs.length : Int) - 1).toNat) (enc := fun i : Nat => W.int (0 + (i : Int))) (fun _ => .bl true) (sz (by simp; omega)) (fun y hy => ⟨_, rfl, ?_⟩) ?_
  · have hy' : y < ((xs.length : Int) - 1).toNat := List.mem_range.mp hy
    have h1 : y < xs.length := by omega
    have h2 : y + 1 < xs.length := by omega
    have e1 := hix y _ (List.getElem?_eq_getElem h1)
    have e2 := hix (y + 1) _ (List.getElem?_eq_getElem h2)
    have e3 := h y _ _ (List.getElem?_eq_getElem h1) (List.getElem?_eq_getElem h2)
    rw [show ((y + 1 : Nat) : Int) = (y : Int) + 1 from rfl] at e2
    simp only [ws_seq, ws_if, ws_set, ws_sub, ws_ret, ws_retN, ws_expr, ws_sNx, ws_for, wp_op, wp_var0, wp_varS, wp_c, wp_mB, wp_toB, wp_tr, wp_trB_bl, wp_trB_non, wp_trB_int, wp_not, wp_and, wp_or, wp_if, wp_mBl, wp_nil, wp_cons, wp_tup, wp_lst, wp_lstS, wp_newL_t, wp_newL_f, wp_chain, wp_call, wp_fn, wp_sl, wp_noPart, wp_part, wp_comp, wp_yes, wp_iL, wp_iA, wp_srcL, wp_srcS, wp_srcAL, wp_srcAT, wp_iR1, wp_iR2, wp_rng1, wp_rng2, wp_iRv, wp_srcRL, wp_srcRT, wp_iEA, wp_srcEL, wp_srcET, wp_add, wp_sub, wp_mul, wp_mod, wp_div, wp_divW, wp_pow18, wp_pow17, wp_pow16, wp_pow30, wp_eqI, wp_neI, wp_cmpI, wp_isN, wp_isNotN, wp_lenL, wp_lenT, wp_abs, wp_int, wp_min2, wp_max2, wp_listL, wp_listT, wp_tupleL, wp_tupleT, wp_ixT0, wp_ixT1, wp_ixL0, wp_neg, wp_ok, wp_srcEL, wp_isB, wp_isNotB, wp_eqB, wp_neB, wp_all, wp_any, wp_slT, wp_slL, wp_rev, wp_revT, wp_revL, wp_disp, wp_pair, wp_pair0, wp_dict0, wipeW, List.foldl_cons, List.foldl_nil, wp_run, List.map, List.length, List.replicate, List.cons_append, List.nil_append, List.append_nil, List.set_cons_zero, List.set_cons_succ, if_true, if_false, Bool.not_true, Bool.not_false, Bool.true_eq_false, Bool.false_eq_true, Nat.reduceAdd, Nat.reduceSub, gName', Int.zero_add, e1, e2, e3]
    exact ⟨by trivial, by trivial⟩
  · try simp only [ws_seq, ws_if, ws_set, ws_sub, ws_ret, ws_retN, ws_expr, ws_sNx, ws_for, wp_op, wp_var0, wp_varS, wp_c, wp_mB, wp_toB, wp_tr, wp_trB_bl, wp_trB_non, wp_trB_int, wp_not, wp_and, wp_or, wp_if, wp_mBl, wp_nil, wp_cons, wp_tup, wp_lst, wp_lstS, wp_newL_t, wp_newL_f, wp_chain, wp_call, wp_fn, wp_sl, wp_noPart, wp_part, wp_comp, wp_yes, wp_iL, wp_iA, wp_srcL, wp_srcS, wp_srcAL, wp_srcAT, wp_iR1, wp_iR2, wp_rng1, wp_rng2, wp_iRv, wp_srcRL, wp_srcRT, wp_iEA, wp_srcEL, wp_srcET, wp_add, wp_sub, wp_mul, wp_mod, wp_div, wp_divW, wp_pow18, wp_pow17, wp_pow16, wp_pow30, wp_eqI, wp_neI, wp_cmpI, wp_isN, wp_isNotN, wp_lenL, wp_lenT, wp_abs, wp_int, wp_min2, wp_max2, wp_listL, wp_listT, wp_tupleL, wp_tupleT, wp_ixT0, wp_ixT1, wp_ixL0, wp_neg, wp_ok, wp_srcEL, wp_isB, wp_isNotB, wp_eqB, wp_neB, wp_all, wp_any, wp_slT, wp_slL, wp_rev, wp_revT, wp_revL, wp_disp, wp_pair, wp_pair0, wp_dict0, wipeW, List.foldl_cons, List.foldl_nil, wp_run, List.map, List.length, List.replicate, List.cons_append, List.nil_append, List.append_nil, List.set_cons_zero, List.set_cons_succ, if_true, if_false, Bool.not_true, Bool.not_false, Bool.true_eq_false, Bool.false_eq_true, Nat.reduceAdd, Nat.reduceSub, gName']
    rw [wp_allF (f := fun _ => true)]
    simp only [ws_seq, ws_if, ws_set, ws_sub, ws_ret, ws_retN, ws_expr, ws_sNx, ws_for, wp_op, wp_var0, wp_varS, wp_c, wp_mB, wp_toB, wp_tr, wp_trB_bl, wp_trB_non, wp_trB_int, wp_not, wp_and, wp_or, wp_if, wp_mBl, wp_nil, wp_cons, wp_tup, wp_lst, wp_lstS, wp_newL_t, wp_newL_f, wp_chain, wp_call, wp_fn, wp_sl, wp_noPart, wp_part, wp_comp, wp_yes, wp_iL, wp_iA, wp_srcL, wp_srcS, wp_srcAL, wp_srcAT, wp_iR1, wp_iR2, wp_rng1, wp_rng2, wp_iRv, wp_srcRL, wp_srcRT, wp_iEA, wp_srcEL, wp_srcET, wp_add, wp_sub, wp_mul, wp_mod, wp_div, wp_divW, wp_pow18, wp_pow17, wp_pow16, wp_pow30, wp_eqI, wp_neI, wp_cmpI, wp_isN, wp_isNotN, wp_lenL, wp_lenT, wp_abs, wp_int, wp_min2, wp_max2, wp_listL, wp_listT, wp_tupleL, wp_tupleT, wp_ixT0, wp_ixT1, wp_ixL0, wp_neg, wp_ok, wp_srcEL, wp_isB, wp_isNotB, wp_eqB, wp_neB, wp_all, wp_any, wp_slT, wp_slL, wp_rev, wp_revT, wp_revL, wp_disp, wp_pair, wp_pair0, wp_dict0, wipeW, List.foldl_cons, List.foldl_nil, wp_run, List.map, List.length, List.replicate, List.cons_append, List.nil_append, List.append_nil, List.set_cons_zero, List.set_cons_succ, if_true, if_false, Bool.not_true, Bool.not_false, Bool.true_eq_false, Bool.false_eq_true, Nat.reduceAdd, Nat.reduceSub, gName']
    exact ⟨by simp, by trivial⟩
theorem ixT_eq {xs : List W} {n : Nat} {v : W} {st : Sto} (e : xs[n]? = some v) : wIx (.tup xs) (.int (n : Int)) st = .ok v st := pure_eq ((wp_ixT e).mpr ⟨rfl, rfl⟩)
theorem ixL_eq {xs : List W} {n : Nat} {v : W} {st : Sto} (e : xs[n]? = some v) : wIx (.lst xs) (.int (n : Int)) st = .ok v st := pure_eq ((wp_ixL e).mpr ⟨rfl, rfl⟩)
theorem pair_at {α : Type} {R : α → α → Prop} {l : List α} (h : l.Pairwise R) {n : Nat} {a b : α} (e1 : l[n]? = some a) (e2 : l[n + 1]? = some b) : R a b := by
  obtain ⟨i1, rfl⟩ := List.getElem?_eq_some_iff.mp e1
  obtain ⟨i2, rfl⟩ := List.getElem?_eq_some_iff.mp e2
  exact List.pairwise_iff_getElem.mp h n (n + 1) i1 i2 (Nat.lt_succ_self n)
theorem lt_str {ks : List Str} (h : Asc ks) (st : Sto) (n : Nat) (a b : W) (e1 : (ks.map W.str)[n]? = some a) (e2 : (ks.map W.str)[n + 1]? = some b) : wLtR a b st = .ok (.bl true) st := by
  rw [List.getElem?_map] at e1 e2
  obtain ⟨x, q1, rfl⟩ := Option.map_eq_some_iff.mp e1
  obtain ⟨y, q2, rfl⟩ := Option.map_eq_some_iff.mp e2
  have := pair_at h q1 q2
  show Rs.ok (W.bl (decide (x.cps.toList < y.cps.toList))) st = _
  rw [decide_eq_true this]
theorem lt_row {rs : List TRow} (h : AscR rs) (st : Sto) (n : Nat) (a b : W) (e1 : (rs.map rowW)[n]? = some a) (e2 : (rs.map rowW)[n + 1]? = some b) : wLtR a b st = .ok (.bl true) st := by
  rw [List.getElem?_map] at e1 e2
  obtain ⟨x, q1, rfl⟩ := Option.map_eq_some_iff.mp e1
  obtain ⟨y, q2, rfl⟩ := Option.map_eq_some_iff.mp e2
  have := pair_at h q1 q2
  show (match rowOf (rowW x), rowOf (rowW y) with | some r, some q => Rs.ok (W.bl (ltR r q)) st | _, _ => _) = _
  rw [rowOf_row, rowOf_row]
  simp only [this]
theorem keys_ok {ks : List Str} (hl : ks.length ≤ 100) (h : ∀ k ∈ ks, k ∈ K6) (ha : Asc ks) (st : Sto) : r_is_keys [.tup (ks.map W.str)] st = .ok (.bl true) st := by
  refine pure_eq ?_
  simp only [r_is_keys, m_is_keys]
  simp only [ws_seq, ws_if, ws_set, ws_sub, ws_ret, ws_retN, ws_expr, ws_sNx, ws_for, wp_op, wp_var0, wp_varS, wp_c, wp_mB, wp_toB, wp_tr, wp_trB_bl, wp_trB_non, wp_trB_int, wp_not, wp_and, wp_or, wp_if, wp_mBl, wp_nil, wp_cons, wp_tup, wp_lst, wp_lstS, wp_newL_t, wp_newL_f, wp_chain, wp_call, wp_fn, wp_sl, wp_noPart, wp_part, wp_comp, wp_yes, wp_iL, wp_iA, wp_srcL, wp_srcS, wp_srcAL, wp_srcAT, wp_iR1, wp_iR2, wp_rng1, wp_rng2, wp_iRv, wp_srcRL, wp_srcRT, wp_iEA, wp_srcEL, wp_srcET, wp_add, wp_sub, wp_mul, wp_mod, wp_div, wp_divW, wp_pow18, wp_pow17, wp_pow16, wp_pow30, wp_eqI, wp_neI, wp_cmpI, wp_isN, wp_isNotN, wp_lenL, wp_lenT, wp_abs, wp_int, wp_min2, wp_max2, wp_listL, wp_listT, wp_tupleL, wp_tupleT, wp_ixT0, wp_ixT1, wp_ixL0, wp_neg, wp_ok, wp_srcEL, wp_isB, wp_isNotB, wp_eqB, wp_neB, wp_all, wp_any, wp_slT, wp_slL, wp_rev, wp_revT, wp_revL, wp_disp, wp_pair, wp_pair0, wp_dict0, wipeW, List.foldl_cons, List.foldl_nil, wp_run, List.map, List.length, List.replicate, List.cons_append, List.nil_append, List.append_nil, List.set_cons_zero, List.set_cons_succ, if_true, if_false, Bool.not_true, Bool.not_false, Bool.true_eq_false, Bool.false_eq_true, Nat.reduceAdd, Nat.reduceSub, gName', keyT_ok hl h, ascend_ok (w := .tup (ks.map W.str)) (xs := ks.map W.str) rfl (fun n v e => ixT_eq e) (by simpa using hl) (lt_str ha st)]
  exact ⟨by trivial, by trivial⟩
theorem tuple_ok {n : Nat} {xs : List W} (h : xs.length = n) (st : Sto) : r_is_tuple [.int (n : Int), .tup xs] st = .ok (.bl true) st := by
  refine pure_eq ?_
  simp only [r_is_tuple, m_is_tuple]
  simp only [ws_seq, ws_if, ws_set, ws_sub, ws_ret, ws_retN, ws_expr, ws_sNx, ws_for, wp_op, wp_var0, wp_varS, wp_c, wp_mB, wp_toB, wp_tr, wp_trB_bl, wp_trB_non, wp_trB_int, wp_not, wp_and, wp_or, wp_if, wp_mBl, wp_nil, wp_cons, wp_tup, wp_lst, wp_lstS, wp_newL_t, wp_newL_f, wp_chain, wp_call, wp_fn, wp_sl, wp_noPart, wp_part, wp_comp, wp_yes, wp_iL, wp_iA, wp_srcL, wp_srcS, wp_srcAL, wp_srcAT, wp_iR1, wp_iR2, wp_rng1, wp_rng2, wp_iRv, wp_srcRL, wp_srcRT, wp_iEA, wp_srcEL, wp_srcET, wp_add, wp_sub, wp_mul, wp_mod, wp_div, wp_divW, wp_pow18, wp_pow17, wp_pow16, wp_pow30, wp_eqI, wp_neI, wp_cmpI, wp_isN, wp_isNotN, wp_lenL, wp_lenT, wp_abs, wp_int, wp_min2, wp_max2, wp_listL, wp_listT, wp_tupleL, wp_tupleT, wp_ixT0, wp_ixT1, wp_ixL0, wp_neg, wp_ok, wp_srcEL, wp_isB, wp_isNotB, wp_eqB, wp_neB, wp_all, wp_any, wp_slT, wp_slL, wp_rev, wp_revT, wp_revL, wp_disp, wp_pair, wp_pair0, wp_dict0, wipeW, List.foldl_cons, List.foldl_nil, wp_run, List.map, List.length, List.replicate, List.cons_append, List.nil_append, List.append_nil, List.set_cons_zero, List.set_cons_succ, if_true, if_false, Bool.not_true, Bool.not_false, Bool.true_eq_false, Bool.false_eq_true, Nat.reduceAdd, Nat.reduceSub, gName', isi_t, h]
  exact ⟨by simp, by trivial⟩
theorem range1_ok {r : TRow} (h : ROk K6 r) (st : Sto) : r_is_range [rowW r] st = .ok (.bl true) st := by
  refine pure_eq ?_
  have e0 : r_is_tuple [.int 3, rowW r] st = .ok (.bl true) st := tuple_ok (n := 3) (xs := [.str r.1, .str r.2.1, .tup (r.2.2.map W.str)]) rfl st
  have hf := h.few
  have hle := h.le
  simp only [Bool.not_eq_true'] at hle
  simp only [r_is_range, m_is_range]
  rw [wp_run]
  simp only [ws_seq, ws_if, ws_set, ws_sub, ws_ret, ws_retN, ws_expr, ws_sNx, ws_for, wp_op, wp_var0, wp_varS, wp_c, wp_mB, wp_toB, wp_tr, wp_trB_bl, wp_trB_non, wp_trB_int, wp_not, wp_and, wp_or, wp_if, wp_mBl, wp_nil, wp_cons, wp_tup, wp_lst, wp_lstS, wp_newL_t, wp_newL_f, wp_chain, wp_call, wp_fn, wp_sl, wp_noPart, wp_part, wp_comp, wp_yes, wp_iL, wp_iA, wp_srcL, wp_srcS, wp_srcAL, wp_srcAT, wp_iR1, wp_iR2, wp_rng1, wp_rng2, wp_iRv, wp_srcRL, wp_srcRT, wp_iEA, wp_srcEL, wp_srcET, wp_add, wp_sub, wp_mul, wp_mod, wp_div, wp_divW, wp_pow18, wp_pow17, wp_pow16, wp_pow30, wp_eqI, wp_neI, wp_cmpI, wp_isN, wp_isNotN, wp_lenL, wp_lenT, wp_abs, wp_int, wp_min2, wp_max2, wp_listL, wp_listT, wp_tupleL, wp_tupleT, wp_ixT0, wp_ixT1, wp_ixL0, wp_neg, wp_ok, wp_srcEL, wp_isB, wp_isNotB, wp_eqB, wp_neB, wp_all, wp_any, wp_slT, wp_slL, wp_rev, wp_revT, wp_revL, wp_disp, wp_pair, wp_pair0, wp_dict0, wipeW, List.foldl_cons, List.foldl_nil, wp_run, List.map, List.length, List.replicate, List.cons_append, List.nil_append, List.append_nil, List.set_cons_zero, List.set_cons_succ, if_true, if_false, Bool.not_true, Bool.not_false, Bool.true_eq_false, Bool.false_eq_true, Nat.reduceAdd, Nat.reduceSub, gName', e0, ws_asg]
  refine ⟨_, _, rfl, ?_⟩
  simp only [ws_seq, ws_if, ws_set, ws_sub, ws_ret, ws_retN, ws_expr, ws_sNx, ws_for, wp_op, wp_var0, wp_varS, wp_c, wp_mB, wp_toB, wp_tr, wp_trB_bl, wp_trB_non, wp_trB_int, wp_not, wp_and, wp_or, wp_if, wp_mBl, wp_nil, wp_cons, wp_tup, wp_lst, wp_lstS, wp_newL_t, wp_newL_f, wp_chain, wp_call, wp_fn, wp_sl, wp_noPart, wp_part, wp_comp, wp_yes, wp_iL, wp_iA, wp_srcL, wp_srcS, wp_srcAL, wp_srcAT, wp_iR1, wp_iR2, wp_rng1, wp_rng2, wp_iRv, wp_srcRL, wp_srcRT, wp_iEA, wp_srcEL, wp_srcET, wp_add, wp_sub, wp_mul, wp_mod, wp_div, wp_divW, wp_pow18, wp_pow17, wp_pow16, wp_pow30, wp_eqI, wp_neI, wp_cmpI, wp_isN, wp_isNotN, wp_lenL, wp_lenT, wp_abs, wp_int, wp_min2, wp_max2, wp_listL, wp_listT, wp_tupleL, wp_tupleT, wp_ixT0, wp_ixT1, wp_ixL0, wp_neg, wp_ok, wp_srcEL, wp_isB, wp_isNotB, wp_eqB, wp_neB, wp_all, wp_any, wp_slT, wp_slL, wp_rev, wp_revT, wp_revL, wp_disp, wp_pair, wp_pair0, wp_dict0, wipeW, List.foldl_cons, List.foldl_nil, wp_run, List.map, List.length, List.replicate, List.cons_append, List.nil_append, List.append_nil, List.set_cons_zero, List.set_cons_succ, if_true, if_false, Bool.not_true, Bool.not_false, Bool.true_eq_false, Bool.false_eq_true, Nat.reduceAdd, Nat.reduceSub, gName', key_ok (k69 h.lo), key_ok (k69 h.hi), wp_cmpT, hle, keys_ok (Nat.le_trans hf (by decide)) (fun k hk => (h.own k hk).1) h.asc]
  refine compS_mapT (ys := r.2.2) (enc := W.str) (fun _ => .bl true) (sz (by omega)) (fun y hy => ⟨_, rfl, ?_⟩) ?_
  · have q := (h.own y hy).2
    simp only [Bool.not_eq_true'] at q
    simp only [ws_seq, ws_if, ws_set, ws_sub, ws_ret, ws_retN, ws_expr, ws_sNx, ws_for, wp_op, wp_var0, wp_varS, wp_c, wp_mB, wp_toB, wp_tr, wp_trB_bl, wp_trB_non, wp_trB_int, wp_not, wp_and, wp_or, wp_if, wp_mBl, wp_nil, wp_cons, wp_tup, wp_lst, wp_lstS, wp_newL_t, wp_newL_f, wp_chain, wp_call, wp_fn, wp_sl, wp_noPart, wp_part, wp_comp, wp_yes, wp_iL, wp_iA, wp_srcL, wp_srcS, wp_srcAL, wp_srcAT, wp_iR1, wp_iR2, wp_rng1, wp_rng2, wp_iRv, wp_srcRL, wp_srcRT, wp_iEA, wp_srcEL, wp_srcET, wp_add, wp_sub, wp_mul, wp_mod, wp_div, wp_divW, wp_pow18, wp_pow17, wp_pow16, wp_pow30, wp_eqI, wp_neI, wp_cmpI, wp_isN, wp_isNotN, wp_lenL, wp_lenT, wp_abs, wp_int, wp_min2, wp_max2, wp_listL, wp_listT, wp_tupleL, wp_tupleT, wp_ixT0, wp_ixT1, wp_ixL0, wp_neg, wp_ok, wp_srcEL, wp_isB, wp_isNotB, wp_eqB, wp_neB, wp_all, wp_any, wp_slT, wp_slL, wp_rev, wp_revT, wp_revL, wp_disp, wp_pair, wp_pair0, wp_dict0, wipeW, List.foldl_cons, List.foldl_nil, wp_run, List.map, List.length, List.replicate, List.cons_append, List.nil_append, List.append_nil, List.set_cons_zero, List.set_cons_succ, if_true, if_false, Bool.not_true, Bool.not_false, Bool.true_eq_false, Bool.false_eq_true, Nat.reduceAdd, Nat.reduceSub, gName', wp_cmpT, q.1, q.2]
    exact ⟨by trivial, by trivial⟩
  · try simp only [ws_seq, ws_if, ws_set, ws_sub, ws_ret, ws_retN, ws_expr, ws_sNx, ws_for, wp_op, wp_var0, wp_varS, wp_c, wp_mB, wp_toB, wp_tr, wp_trB_bl, wp_trB_non, wp_trB_int, wp_not, wp_and, wp_or, wp_if, wp_mBl, wp_nil, wp_cons, wp_tup, wp_lst, wp_lstS, wp_newL_t, wp_newL_f, wp_chain, wp_call, wp_fn, wp_sl, wp_noPart, wp_part, wp_comp, wp_yes, wp_iL, wp_iA, wp_srcL, wp_srcS, wp_srcAL, wp_srcAT, wp_iR1, wp_iR2, wp_rng1, wp_rng2, wp_iRv, wp_srcRL, wp_srcRT, wp_iEA, wp_srcEL, wp_srcET, wp_add, wp_sub, wp_mul, wp_mod, wp_div, wp_divW, wp_pow18, wp_pow17, wp_pow16, wp_pow30, wp_eqI, wp_neI, wp_cmpI, wp_isN, wp_isNotN, wp_lenL, wp_lenT, wp_abs, wp_int, wp_min2, wp_max2, wp_listL, wp_listT, wp_tupleL, wp_tupleT, wp_ixT0, wp_ixT1, wp_ixL0, wp_neg, wp_ok, wp_srcEL, wp_isB, wp_isNotB, wp_eqB, wp_neB, wp_all, wp_any, wp_slT, wp_slL, wp_rev, wp_revT, wp_revL, wp_disp, wp_pair, wp_pair0, wp_dict0, wipeW, List.foldl_cons, List.foldl_nil, wp_run, List.map, List.length, List.replicate, List.cons_append, List.nil_append, List.append_nil, List.set_cons_zero, List.set_cons_succ, if_true, if_false, Bool.not_true, Bool.not_false, Bool.true_eq_false, Bool.false_eq_true, Nat.reduceAdd, Nat.reduceSub, gName']
    rw [wp_allF (f := fun _ => true)]
    simp only [ws_seq, ws_if, ws_set, ws_sub, ws_ret, ws_retN, ws_expr, ws_sNx, ws_for, wp_op, wp_var0, wp_varS, wp_c, wp_mB, wp_toB, wp_tr, wp_trB_bl, wp_trB_non, wp_trB_int, wp_not, wp_and, wp_or, wp_if, wp_mBl, wp_nil, wp_cons, wp_tup, wp_lst, wp_lstS, wp_newL_t, wp_newL_f, wp_chain, wp_call, wp_fn, wp_sl, wp_noPart, wp_part, wp_comp, wp_yes, wp_iL, wp_iA, wp_srcL, wp_srcS, wp_srcAL, wp_srcAT, wp_iR1, wp_iR2, wp_rng1, wp_rng2, wp_iRv, wp_srcRL, wp_srcRT, wp_iEA, wp_srcEL, wp_srcET, wp_add, wp_sub, wp_mul, wp_mod, wp_div, wp_divW, wp_pow18, wp_pow17, wp_pow16, wp_pow30, wp_eqI, wp_neI, wp_cmpI, wp_isN, wp_isNotN, wp_lenL, wp_lenT, wp_abs, wp_int, wp_min2, wp_max2, wp_listL, wp_listT, wp_tupleL, wp_tupleT, wp_ixT0, wp_ixT1, wp_ixL0, wp_neg, wp_ok, wp_srcEL, wp_isB, wp_isNotB, wp_eqB, wp_neB, wp_all, wp_any, wp_slT, wp_slL, wp_rev, wp_revT, wp_revL, wp_disp, wp_pair, wp_pair0, wp_dict0, wipeW, List.foldl_cons, List.foldl_nil, wp_run, List.map, List.length, List.replicate, List.cons_append, List.nil_append, List.append_nil, List.set_cons_zero, List.set_cons_succ, if_true, if_false, Bool.not_true, Bool.not_false, Bool.true_eq_false, Bool.false_eq_true, Nat.reduceAdd, Nat.reduceSub, gName']
    exact ⟨by simp, by trivial⟩
theorem rangesT_ok {rs : List TRow} (hl : rs.length ≤ 100) (h : ∀ r ∈ rs, ROk K6 r) (st : Sto) : r_is_tuple_of_is_range [.tup (rs.map rowW)] st = .ok (.bl true) st := by
  refine pure_eq ?_
  simp only [r_is_tuple_of_is_range, m_is_tuple_of_is_range]
  simp only [ws_seq, ws_if, ws_set, ws_sub, ws_ret, ws_retN, ws_expr, ws_sNx, ws_for, wp_op, wp_var0, wp_varS, wp_c, wp_mB, wp_toB, wp_tr, wp_trB_bl, wp_trB_non, wp_trB_int, wp_not, wp_and, wp_or, wp_if, wp_mBl, wp_nil, wp_cons, wp_tup, wp_lst, wp_lstS, wp_newL_t, wp_newL_f, wp_chain, wp_call, wp_fn, wp_sl, wp_noPart, wp_part, wp_comp, wp_yes, wp_iL, wp_iA, wp_srcL, wp_srcS, wp_srcAL, wp_srcAT, wp_iR1, wp_iR2, wp_rng1, wp_rng2, wp_iRv, wp_srcRL, wp_srcRT, wp_iEA, wp_srcEL, wp_srcET, wp_add, wp_sub, wp_mul, wp_mod, wp_div, wp_divW, wp_pow18, wp_pow17, wp_pow16, wp_pow30, wp_eqI, wp_neI, wp_cmpI, wp_isN, wp_isNotN, wp_lenL, wp_lenT, wp_abs, wp_int, wp_min2, wp_max2, wp_listL, wp_listT, wp_tupleL, wp_tupleT, wp_ixT0, wp_ixT1, wp_ixL0, wp_neg, wp_ok, wp_srcEL, wp_isB, wp_isNotB, wp_eqB, wp_neB, wp_all, wp_any, wp_slT, wp_slL, wp_rev, wp_revT, wp_revL, wp_disp, wp_pair, wp_pair0, wp_dict0, wipeW, List.foldl_cons, List.foldl_nil, wp_run, List.map, List.length, List.replicate, List.cons_append, List.nil_append, List.append_nil, List.set_cons_zero, List.set_cons_succ, if_true, if_false, Bool.not_true, Bool.not_false, Bool.true_eq_false, Bool.false_eq_true, Nat.reduceAdd, Nat.reduceSub, gName', isi_t]
  refine compS_mapT (ys := rs) (enc := rowW) (fun _ => .bl true) (sz (by omega)) (fun y hy => ⟨_, rfl, ?_⟩) ?_
  · rw [List.set_cons_succ, wp_callV]
    simp only [ws_seq, ws_if, ws_set, ws_sub, ws_ret, ws_retN, ws_expr, ws_sNx, ws_for, wp_op, wp_var0, wp_varS, wp_c, wp_mB, wp_toB, wp_tr, wp_trB_bl, wp_trB_non, wp_trB_int, wp_not, wp_and, wp_or, wp_if, wp_mBl, wp_nil, wp_cons, wp_tup, wp_lst, wp_lstS, wp_newL_t, wp_newL_f, wp_chain, wp_call, wp_fn, wp_sl, wp_noPart, wp_part, wp_comp, wp_yes, wp_iL, wp_iA, wp_srcL, wp_srcS, wp_srcAL, wp_srcAT, wp_iR1, wp_iR2, wp_rng1, wp_rng2, wp_iRv, wp_srcRL, wp_srcRT, wp_iEA, wp_srcEL, wp_srcET, wp_add, wp_sub, wp_mul, wp_mod, wp_div, wp_divW, wp_pow18, wp_pow17, wp_pow16, wp_pow30, wp_eqI, wp_neI, wp_cmpI, wp_isN, wp_isNotN, wp_lenL, wp_lenT, wp_abs, wp_int, wp_min2, wp_max2, wp_listL, wp_listT, wp_tupleL, wp_tupleT, wp_ixT0, wp_ixT1, wp_ixL0, wp_neg, wp_ok, wp_srcEL, wp_isB, wp_isNotB, wp_eqB, wp_neB, wp_all, wp_any, wp_slT, wp_slL, wp_rev, wp_revT, wp_revL, wp_disp, wp_pair, wp_pair0, wp_dict0, wipeW, List.foldl_cons, List.foldl_nil, wp_run, List.map, List.length, List.replicate, List.cons_append, List.nil_append, List.append_nil, List.set_cons_zero, List.set_cons_succ, if_true, if_false, Bool.not_true, Bool.not_false, Bool.true_eq_false, Bool.false_eq_true, Nat.reduceAdd, Nat.reduceSub, gName', range1_ok (h y hy)]
    exact ⟨by trivial, by trivial⟩
  · try simp only [ws_seq, ws_if, ws_set, ws_sub, ws_ret, ws_retN, ws_expr, ws_sNx, ws_for, wp_op, wp_var0, wp_varS, wp_c, wp_mB, wp_toB, wp_tr, wp_trB_bl, wp_trB_non, wp_trB_int, wp_not, wp_and, wp_or, wp_if, wp_mBl, wp_nil, wp_cons, wp_tup, wp_lst, wp_lstS, wp_newL_t, wp_newL_f, wp_chain, wp_call, wp_fn, wp_sl, wp_noPart, wp_part, wp_comp, wp_yes, wp_iL, wp_iA, wp_srcL, wp_srcS, wp_srcAL, wp_srcAT, wp_iR1, wp_iR2, wp_rng1, wp_rng2, wp_iRv, wp_srcRL, wp_srcRT, wp_iEA, wp_srcEL, wp_srcET, wp_add, wp_sub, wp_mul, wp_mod, wp_div, wp_divW, wp_pow18, wp_pow17, wp_pow16, wp_pow30, wp_eqI, wp_neI, wp_cmpI, wp_isN, wp_isNotN, wp_lenL, wp_lenT, wp_abs, wp_int, wp_min2, wp_max2, wp_listL, wp_listT, wp_tupleL, wp_tupleT, wp_ixT0, wp_ixT1, wp_ixL0, wp_neg, wp_ok, wp_srcEL, wp_isB, wp_isNotB, wp_eqB, wp_neB, wp_all, wp_any, wp_slT, wp_slL, wp_rev, wp_revT, wp_revL, wp_disp, wp_pair, wp_pair0, wp_dict0, wipeW, List.foldl_cons, List.foldl_nil, wp_run, List.map, List.length, List.replicate, List.cons_append, List.nil_append, List.append_nil, List.set_cons_zero, List.set_cons_succ, if_true, if_false, Bool.not_true, Bool.not_false, Bool.true_eq_false, Bool.false_eq_true, Nat.reduceAdd, Nat.reduceSub, gName']
    rw [wp_allF (f := fun _ => true)]
    simp only [ws_seq, ws_if, ws_set, ws_sub, ws_ret, ws_retN, ws_expr, ws_sNx, ws_for, wp_op, wp_var0, wp_varS, wp_c, wp_mB, wp_toB, wp_tr, wp_trB_bl, wp_trB_non, wp_trB_int, wp_not, wp_and, wp_or, wp_if, wp_mBl, wp_nil, wp_cons, wp_tup, wp_lst, wp_lstS, wp_newL_t, wp_newL_f, wp_chain, wp_call, wp_fn, wp_sl, wp_noPart, wp_part, wp_comp, wp_yes, wp_iL, wp_iA, wp_srcL, wp_srcS, wp_srcAL, wp_srcAT, wp_iR1, wp_iR2, wp_rng1, wp_rng2, wp_iRv, wp_srcRL, wp_srcRT, wp_iEA, wp_srcEL, wp_srcET, wp_add, wp_sub, wp_mul, wp_mod, wp_div, wp_divW, wp_pow18, wp_pow17, wp_pow16, wp_pow30, wp_eqI, wp_neI, wp_cmpI, wp_isN, wp_isNotN, wp_lenL, wp_lenT, wp_abs, wp_int, wp_min2, wp_max2, wp_listL, wp_listT, wp_tupleL, wp_tupleT, wp_ixT0, wp_ixT1, wp_ixL0, wp_neg, wp_ok, wp_srcEL, wp_isB, wp_isNotB, wp_eqB, wp_neB, wp_all, wp_any, wp_slT, wp_slL, wp_rev, wp_revT, wp_revL, wp_disp, wp_pair, wp_pair0, wp_dict0, wipeW, List.foldl_cons, List.foldl_nil, wp_run, List.map, List.length, List.replicate, List.cons_append, List.nil_append, List.append_nil, List.set_cons_zero, List.set_cons_succ, if_true, if_false, Bool.not_true, Bool.not_false, Bool.true_eq_false, Bool.false_eq_true, Nat.reduceAdd, Nat.reduceSub, gName']
    exact ⟨by simp, by trivial⟩
theorem ranges_ok {rs : List TRow} (hl : rs.length ≤ 100) (h : ∀ r ∈ rs, ROk K6 r) (ha : AscR rs) (st : Sto) : r_is_ranges [.tup (rs.map rowW)] st = .ok (.bl true) st := by
  refine pure_eq ?_
  simp only [r_is_ranges, m_is_ranges]
  simp only [ws_seq, ws_if, ws_set, ws_sub, ws_ret, ws_retN, ws_expr, ws_sNx, ws_for, wp_op, wp_var0, wp_varS, wp_c, wp_mB, wp_toB, wp_tr, wp_trB_bl, wp_trB_non, wp_trB_int, wp_not, wp_and, wp_or, wp_if, wp_mBl, wp_nil, wp_cons, wp_tup, wp_lst, wp_lstS, wp_newL_t, wp_newL_f, wp_chain, wp_call, wp_fn, wp_sl, wp_noPart, wp_part, wp_comp, wp_yes, wp_iL, wp_iA, wp_srcL, wp_srcS, wp_srcAL, wp_srcAT, wp_iR1, wp_iR2, wp_rng1, wp_rng2, wp_iRv, wp_srcRL, wp_srcRT, wp_iEA, wp_srcEL, wp_srcET, wp_add, wp_sub, wp_mul, wp_mod, wp_div, wp_divW, wp_pow18, wp_pow17, wp_pow16, wp_pow30, wp_eqI, wp_neI, wp_cmpI, wp_isN, wp_isNotN, wp_lenL, wp_lenT, wp_abs, wp_int, wp_min2, wp_max2, wp_listL, wp_listT, wp_tupleL, wp_tupleT, wp_ixT0, wp_ixT1, wp_ixL0, wp_neg, wp_ok, wp_srcEL, wp_isB, wp_isNotB, wp_eqB, wp_neB, wp_all, wp_any, wp_slT, wp_slL, wp_rev, wp_revT, wp_revL, wp_disp, wp_pair, wp_pair0, wp_dict0, wipeW, List.foldl_cons, List.foldl_nil, wp_run, List.map, List.length, List.replicate, List.cons_append, List.nil_append, List.append_nil, List.set_cons_zero, List.set_cons_succ, if_true, if_false, Bool.not_true, Bool.not_false, Bool.true_eq_false, Bool.false_eq_true, Nat.reduceAdd, Nat.reduceSub, gName', rangesT_ok hl h, ascend_ok (w := .tup (rs.map rowW)) (xs := rs.map rowW) rfl (fun n v e => ixT_eq e) (by simpa using hl) (lt_row ha st)]
  exact ⟨by trivial, by trivial⟩
theorem int_i (i : Int) (st : Sto) : r_is_integer [.int i] st = .ok (.bl true) st := rfl
theorem mark_ok {w : W} (h : Mk w) (st : Sto) : r_is_mark [w] st = .ok (.bl true) st := by
  refine pure_eq ?_
  simp only [r_is_mark, m_is_mark]
  rcases h with rfl | ⟨i, rfl, h1, h2⟩
  · simp only [ws_seq, ws_if, ws_set, ws_sub, ws_ret, ws_retN, ws_expr, ws_sNx, ws_for, wp_op, wp_var0, wp_varS, wp_c, wp_mB, wp_toB, wp_tr, wp_trB_bl, wp_trB_non, wp_trB_int, wp_not, wp_and, wp_or, wp_if, wp_mBl, wp_nil, wp_cons, wp_tup, wp_lst, wp_lstS, wp_newL_t, wp_newL_f, wp_chain, wp_call, wp_fn, wp_sl, wp_noPart, wp_part, wp_comp, wp_yes, wp_iL, wp_iA, wp_srcL, wp_srcS, wp_srcAL, wp_srcAT, wp_iR1, wp_iR2, wp_rng1, wp_rng2, wp_iRv, wp_srcRL, wp_srcRT, wp_iEA, wp_srcEL, wp_srcET, wp_add, wp_sub, wp_mul, wp_mod, wp_div, wp_divW, wp_pow18, wp_pow17, wp_pow16, wp_pow30, wp_eqI, wp_neI, wp_cmpI, wp_isN, wp_isNotN, wp_lenL, wp_lenT, wp_abs, wp_int, wp_min2, wp_max2, wp_listL, wp_listT, wp_tupleL, wp_tupleT, wp_ixT0, wp_ixT1, wp_ixL0, wp_neg, wp_ok, wp_srcEL, wp_isB, wp_isNotB, wp_eqB, wp_neB, wp_all, wp_any, wp_slT, wp_slL, wp_rev, wp_revT, wp_revL, wp_disp, wp_pair, wp_pair0, wp_dict0, wipeW, List.foldl_cons, List.foldl_nil, wp_run, List.map, List.length, List.replicate, List.cons_append, List.nil_append, List.append_nil, List.set_cons_zero, List.set_cons_succ, if_true, if_false, Bool.not_true, Bool.not_false, Bool.true_eq_false, Bool.false_eq_true, Nat.reduceAdd, Nat.reduceSub, gName', Mi.isNon]
    exact ⟨by trivial, by trivial⟩
  · have e : r_is_worth [.int i] st = .ok (.bl true) st := by
      refine pure_eq ?_
      simp only [r_is_worth, m_is_worth, r_is_within, m_is_within]
      simp only [ws_seq, ws_if, ws_set, ws_sub, ws_ret, ws_retN, ws_expr, ws_sNx, ws_for, wp_op, wp_var0, wp_varS, wp_c, wp_mB, wp_toB, wp_tr, wp_trB_bl, wp_trB_non, wp_trB_int, wp_not, wp_and, wp_or, wp_if, wp_mBl, wp_nil, wp_cons, wp_tup, wp_lst, wp_lstS, wp_newL_t, wp_newL_f, wp_chain, wp_call, wp_fn, wp_sl, wp_noPart, wp_part, wp_comp, wp_yes, wp_iL, wp_iA, wp_srcL, wp_srcS, wp_srcAL, wp_srcAT, wp_iR1, wp_iR2, wp_rng1, wp_rng2, wp_iRv, wp_srcRL, wp_srcRT, wp_iEA, wp_srcEL, wp_srcET, wp_add, wp_sub, wp_mul, wp_mod, wp_div, wp_divW, wp_pow18, wp_pow17, wp_pow16, wp_pow30, wp_eqI, wp_neI, wp_cmpI, wp_isN, wp_isNotN, wp_lenL, wp_lenT, wp_abs, wp_int, wp_min2, wp_max2, wp_listL, wp_listT, wp_tupleL, wp_tupleT, wp_ixT0, wp_ixT1, wp_ixL0, wp_neg, wp_ok, wp_srcEL, wp_isB, wp_isNotB, wp_eqB, wp_neB, wp_all, wp_any, wp_slT, wp_slL, wp_rev, wp_revT, wp_revL, wp_disp, wp_pair, wp_pair0, wp_dict0, wipeW, List.foldl_cons, List.foldl_nil, wp_run, List.map, List.length, List.replicate, List.cons_append, List.nil_append, List.append_nil, List.set_cons_zero, List.set_cons_succ, if_true, if_false, Bool.not_true, Bool.not_false, Bool.true_eq_false, Bool.false_eq_true, Nat.reduceAdd, Nat.reduceSub, gName', int_i, decide_eq_true h1, decide_eq_true h2]
      exact ⟨by trivial, by trivial⟩
    simp only [ws_seq, ws_if, ws_set, ws_sub, ws_ret, ws_retN, ws_expr, ws_sNx, ws_for, wp_op, wp_var0, wp_varS, wp_c, wp_mB, wp_toB, wp_tr, wp_trB_bl, wp_trB_non, wp_trB_int, wp_not, wp_and, wp_or, wp_if, wp_mBl, wp_nil, wp_cons, wp_tup, wp_lst, wp_lstS, wp_newL_t, wp_newL_f, wp_chain, wp_call, wp_fn, wp_sl, wp_noPart, wp_part, wp_comp, wp_yes, wp_iL, wp_iA, wp_srcL, wp_srcS, wp_srcAL, wp_srcAT, wp_iR1, wp_iR2, wp_rng1, wp_rng2, wp_iRv, wp_srcRL, wp_srcRT, wp_iEA, wp_srcEL, wp_srcET, wp_add, wp_sub, wp_mul, wp_mod, wp_div, wp_divW, wp_pow18, wp_pow17, wp_pow16, wp_pow30, wp_eqI, wp_neI, wp_cmpI, wp_isN, wp_isNotN, wp_lenL, wp_lenT, wp_abs, wp_int, wp_min2, wp_max2, wp_listL, wp_listT, wp_tupleL, wp_tupleT, wp_ixT0, wp_ixT1, wp_ixL0, wp_neg, wp_ok, wp_srcEL, wp_isB, wp_isNotB, wp_eqB, wp_neB, wp_all, wp_any, wp_slT, wp_slL, wp_rev, wp_revT, wp_revL, wp_disp, wp_pair, wp_pair0, wp_dict0, wipeW, List.foldl_cons, List.foldl_nil, wp_run, List.map, List.length, List.replicate, List.cons_append, List.nil_append, List.append_nil, List.set_cons_zero, List.set_cons_succ, if_true, if_false, Bool.not_true, Bool.not_false, Bool.true_eq_false, Bool.false_eq_true, Nat.reduceAdd, Nat.reduceSub, gName', Mi.isNon, e]
    exact ⟨by trivial, by trivial⟩
theorem write1_ok {p : Str × W} (h : p.1 ∈ K6) (m : Mk p.2) (st : Sto) : r_is_write [wrW p] st = .ok (.bl true) st := by
  refine pure_eq ?_
  have e0 : r_is_tuple [.int 2, wrW p] st = .ok (.bl true) st := tuple_ok (n := 2) (xs := [.str p.1, p.2]) rfl st
  simp only [r_is_write, m_is_write]
  simp only [ws_seq, ws_if, ws_set, ws_sub, ws_ret, ws_retN, ws_expr, ws_sNx, ws_for, wp_op, wp_var0, wp_varS, wp_c, wp_mB, wp_toB, wp_tr, wp_trB_bl, wp_trB_non, wp_trB_int, wp_not, wp_and, wp_or, wp_if, wp_mBl, wp_nil, wp_cons, wp_tup, wp_lst, wp_lstS, wp_newL_t, wp_newL_f, wp_chain, wp_call, wp_fn, wp_sl, wp_noPart, wp_part, wp_comp, wp_yes, wp_iL, wp_iA, wp_srcL, wp_srcS, wp_srcAL, wp_srcAT, wp_iR1, wp_iR2, wp_rng1, wp_rng2, wp_iRv, wp_srcRL, wp_srcRT, wp_iEA, wp_srcEL, wp_srcET, wp_add, wp_sub, wp_mul, wp_mod, wp_div, wp_divW, wp_pow18, wp_pow17, wp_pow16, wp_pow30, wp_eqI, wp_neI, wp_cmpI, wp_isN, wp_isNotN, wp_lenL, wp_lenT, wp_abs, wp_int, wp_min2, wp_max2, wp_listL, wp_listT, wp_tupleL, wp_tupleT, wp_ixT0, wp_ixT1, wp_ixL0, wp_neg, wp_ok, wp_srcEL, wp_isB, wp_isNotB, wp_eqB, wp_neB, wp_all, wp_any, wp_slT, wp_slL, wp_rev, wp_revT, wp_revL, wp_disp, wp_pair, wp_pair0, wp_dict0, wipeW, List.foldl_cons, List.foldl_nil, wp_run, List.map, List.length, List.replicate, List.cons_append, List.nil_append, List.append_nil, List.set_cons_zero, List.set_cons_succ, if_true, if_false, Bool.not_true, Bool.not_false, Bool.true_eq_false, Bool.false_eq_true, Nat.reduceAdd, Nat.reduceSub, gName', e0]
  simp only [wrW]
  simp only [ws_seq, ws_if, ws_set, ws_sub, ws_ret, ws_retN, ws_expr, ws_sNx, ws_for, wp_op, wp_var0, wp_varS, wp_c, wp_mB, wp_toB, wp_tr, wp_trB_bl, wp_trB_non, wp_trB_int, wp_not, wp_and, wp_or, wp_if, wp_mBl, wp_nil, wp_cons, wp_tup, wp_lst, wp_lstS, wp_newL_t, wp_newL_f, wp_chain, wp_call, wp_fn, wp_sl, wp_noPart, wp_part, wp_comp, wp_yes, wp_iL, wp_iA, wp_srcL, wp_srcS, wp_srcAL, wp_srcAT, wp_iR1, wp_iR2, wp_rng1, wp_rng2, wp_iRv, wp_srcRL, wp_srcRT, wp_iEA, wp_srcEL, wp_srcET, wp_add, wp_sub, wp_mul, wp_mod, wp_div, wp_divW, wp_pow18, wp_pow17, wp_pow16, wp_pow30, wp_eqI, wp_neI, wp_cmpI, wp_isN, wp_isNotN, wp_lenL, wp_lenT, wp_abs, wp_int, wp_min2, wp_max2, wp_listL, wp_listT, wp_tupleL, wp_tupleT, wp_ixT0, wp_ixT1, wp_ixL0, wp_neg, wp_ok, wp_srcEL, wp_isB, wp_isNotB, wp_eqB, wp_neB, wp_all, wp_any, wp_slT, wp_slL, wp_rev, wp_revT, wp_revL, wp_disp, wp_pair, wp_pair0, wp_dict0, wipeW, List.foldl_cons, List.foldl_nil, wp_run, List.map, List.length, List.replicate, List.cons_append, List.nil_append, List.append_nil, List.set_cons_zero, List.set_cons_succ, if_true, if_false, Bool.not_true, Bool.not_false, Bool.true_eq_false, Bool.false_eq_true, Nat.reduceAdd, Nat.reduceSub, gName', key_ok (k69 h), mark_ok m]
  exact ⟨by trivial, by trivial⟩
theorem writesT_ok {ws : List (Str × W)} (h : WOk K6 ws) (st : Sto) : r_is_tuple_of_is_write [.tup (ws.map wrW)] st = .ok (.bl true) st := by
  have hf := h.few
  refine pure_eq ?_
  simp only [r_is_tuple_of_is_write, m_is_tuple_of_is_write]
  simp only [ws_seq, ws_if, ws_set, ws_sub, ws_ret, ws_retN, ws_expr, ws_sNx, ws_for, wp_op, wp_var0, wp_varS, wp_c, wp_mB, wp_toB, wp_tr, wp_trB_bl, wp_trB_non, wp_trB_int, wp_not, wp_and, wp_or, wp_if, wp_mBl, wp_nil, wp_cons, wp_tup, wp_lst, wp_lstS, wp_newL_t, wp_newL_f, wp_chain, wp_call, wp_fn, wp_sl, wp_noPart, wp_part, wp_comp, wp_yes, wp_iL, wp_iA, wp_srcL, wp_srcS, wp_srcAL, wp_srcAT, wp_iR1, wp_iR2, wp_rng1, wp_rng2, wp_iRv, wp_srcRL, wp_srcRT, wp_iEA, wp_srcEL, wp_srcET, wp_add, wp_sub, wp_mul, wp_mod, wp_div, wp_divW, wp_pow18, wp_pow17, wp_pow16, wp_pow30, wp_eqI, wp_neI, wp_cmpI, wp_isN, wp_isNotN, wp_lenL, wp_lenT, wp_abs, wp_int, wp_min2, wp_max2, wp_listL, wp_listT, wp_tupleL, wp_tupleT, wp_ixT0, wp_ixT1, wp_ixL0, wp_neg, wp_ok, wp_srcEL, wp_isB, wp_isNotB, wp_eqB, wp_neB, wp_all, wp_any, wp_slT, wp_slL, wp_rev, wp_revT, wp_revL, wp_disp, wp_pair, wp_pair0, wp_dict0, wipeW, List.foldl_cons, List.foldl_nil, wp_run, List.map, List.length, List.replicate, List.cons_append, List.nil_append, List.append_nil, List.set_cons_zero, List.set_cons_succ, if_true, if_false, Bool.not_true, Bool.not_false, Bool.true_eq_false, Bool.false_eq_true, Nat.reduceAdd, Nat.reduceSub, gName', isi_t]
  refine compS_mapT (ys := ws) (enc := wrW) (fun _ => .bl true) (sz (by omega)) (fun y hy => ⟨_, rfl, ?_⟩) ?_
  · rw [List.set_cons_succ, wp_callV]
    simp only [ws_seq, ws_if, ws_set, ws_sub, ws_ret, ws_retN, ws_expr, ws_sNx, ws_for, wp_op, wp_var0, wp_varS, wp_c, wp_mB, wp_toB, wp_tr, wp_trB_bl, wp_trB_non, wp_trB_int, wp_not, wp_and, wp_or, wp_if, wp_mBl, wp_nil, wp_cons, wp_tup, wp_lst, wp_lstS, wp_newL_t, wp_newL_f, wp_chain, wp_call, wp_fn, wp_sl, wp_noPart, wp_part, wp_comp, wp_yes, wp_iL, wp_iA, wp_srcL, wp_srcS, wp_srcAL, wp_srcAT, wp_iR1, wp_iR2, wp_rng1, wp_rng2, wp_iRv, wp_srcRL, wp_srcRT, wp_iEA, wp_srcEL, wp_srcET, wp_add, wp_sub, wp_mul, wp_mod, wp_div, wp_divW, wp_pow18, wp_pow17, wp_pow16, wp_pow30, wp_eqI, wp_neI, wp_cmpI, wp_isN, wp_isNotN, wp_lenL, wp_lenT, wp_abs, wp_int, wp_min2, wp_max2, wp_listL, wp_listT, wp_tupleL, wp_tupleT, wp_ixT0, wp_ixT1, wp_ixL0, wp_neg, wp_ok, wp_srcEL, wp_isB, wp_isNotB, wp_eqB, wp_neB, wp_all, wp_any, wp_slT, wp_slL, wp_rev, wp_revT, wp_revL, wp_disp, wp_pair, wp_pair0, wp_dict0, wipeW, List.foldl_cons, List.foldl_nil, wp_run, List.map, List.length, List.replicate, List.cons_append, List.nil_append, List.append_nil, List.set_cons_zero, List.set_cons_succ, if_true, if_false, Bool.not_true, Bool.not_false, Bool.true_eq_false, Bool.false_eq_true, Nat.reduceAdd, Nat.reduceSub, gName', write1_ok (h.k1 y hy) (h.mks y hy)]
    exact ⟨by trivial, by trivial⟩
  · try simp only [ws_seq, ws_if, ws_set, ws_sub, ws_ret, ws_retN, ws_expr, ws_sNx, ws_for, wp_op, wp_var0, wp_varS, wp_c, wp_mB, wp_toB, wp_tr, wp_trB_bl, wp_trB_non, wp_trB_int, wp_not, wp_and, wp_or, wp_if, wp_mBl, wp_nil, wp_cons, wp_tup, wp_lst, wp_lstS, wp_newL_t, wp_newL_f, wp_chain, wp_call, wp_fn, wp_sl, wp_noPart, wp_part, wp_comp, wp_yes, wp_iL, wp_iA, wp_srcL, wp_srcS, wp_srcAL, wp_srcAT, wp_iR1, wp_iR2, wp_rng1, wp_rng2, wp_iRv, wp_srcRL, wp_srcRT, wp_iEA, wp_srcEL, wp_srcET, wp_add, wp_sub, wp_mul, wp_mod, wp_div, wp_divW, wp_pow18, wp_pow17, wp_pow16, wp_pow30, wp_eqI, wp_neI, wp_cmpI, wp_isN, wp_isNotN, wp_lenL, wp_lenT, wp_abs, wp_int, wp_min2, wp_max2, wp_listL, wp_listT, wp_tupleL, wp_tupleT, wp_ixT0, wp_ixT1, wp_ixL0, wp_neg, wp_ok, wp_srcEL, wp_isB, wp_isNotB, wp_eqB, wp_neB, wp_all, wp_any, wp_slT, wp_slL, wp_rev, wp_revT, wp_revL, wp_disp, wp_pair, wp_pair0, wp_dict0, wipeW, List.foldl_cons, List.foldl_nil, wp_run, List.map, List.length, List.replicate, List.cons_append, List.nil_append, List.append_nil, List.set_cons_zero, List.set_cons_succ, if_true, if_false, Bool.not_true, Bool.not_false, Bool.true_eq_false, Bool.false_eq_true, Nat.reduceAdd, Nat.reduceSub, gName']
    rw [wp_allF (f := fun _ => true)]
    simp only [ws_seq, ws_if, ws_set, ws_sub, ws_ret, ws_retN, ws_expr, ws_sNx, ws_for, wp_op, wp_var0, wp_varS, wp_c, wp_mB, wp_toB, wp_tr, wp_trB_bl, wp_trB_non, wp_trB_int, wp_not, wp_and, wp_or, wp_if, wp_mBl, wp_nil, wp_cons, wp_tup, wp_lst, wp_lstS, wp_newL_t, wp_newL_f, wp_chain, wp_call, wp_fn, wp_sl, wp_noPart, wp_part, wp_comp, wp_yes, wp_iL, wp_iA, wp_srcL, wp_srcS, wp_srcAL, wp_srcAT, wp_iR1, wp_iR2, wp_rng1, wp_rng2, wp_iRv, wp_srcRL, wp_srcRT, wp_iEA, wp_srcEL, wp_srcET, wp_add, wp_sub, wp_mul, wp_mod, wp_div, wp_divW, wp_pow18, wp_pow17, wp_pow16, wp_pow30, wp_eqI, wp_neI, wp_cmpI, wp_isN, wp_isNotN, wp_lenL, wp_lenT, wp_abs, wp_int, wp_min2, wp_max2, wp_listL, wp_listT, wp_tupleL, wp_tupleT, wp_ixT0, wp_ixT1, wp_ixL0, wp_neg, wp_ok, wp_srcEL, wp_isB, wp_isNotB, wp_eqB, wp_neB, wp_all, wp_any, wp_slT, wp_slL, wp_rev, wp_revT, wp_revL, wp_disp, wp_pair, wp_pair0, wp_dict0, wipeW, List.foldl_cons, List.foldl_nil, wp_run, List.map, List.length, List.replicate, List.cons_append, List.nil_append, List.append_nil, List.set_cons_zero, List.set_cons_succ, if_true, if_false, Bool.not_true, Bool.not_false, Bool.true_eq_false, Bool.false_eq_true, Nat.reduceAdd, Nat.reduceSub, gName']
    exact ⟨by simp, by trivial⟩
theorem iswrites_ok {ws : List (Str × W)} (h : WOk K6 ws) (st : Sto) : r_is_writes [.tup (ws.map wrW)] st = .ok (.bl true) st := by
  have hf := h.few
  refine pure_eq ?_
  simp only [r_is_writes, m_is_writes]
  simp only [ws_seq, ws_if, ws_set, ws_sub, ws_ret, ws_retN, ws_expr, ws_sNx, ws_for, wp_op, wp_var0, wp_varS, wp_c, wp_mB, wp_toB, wp_tr, wp_trB_bl, wp_trB_non, wp_trB_int, wp_not, wp_and, wp_or, wp_if, wp_mBl, wp_nil, wp_cons, wp_tup, wp_lst, wp_lstS, wp_newL_t, wp_newL_f, wp_chain, wp_call, wp_fn, wp_sl, wp_noPart, wp_part, wp_comp, wp_yes, wp_iL, wp_iA, wp_srcL, wp_srcS, wp_srcAL, wp_srcAT, wp_iR1, wp_iR2, wp_rng1, wp_rng2, wp_iRv, wp_srcRL, wp_srcRT, wp_iEA, wp_srcEL, wp_srcET, wp_add, wp_sub, wp_mul, wp_mod, wp_div, wp_divW, wp_pow18, wp_pow17, wp_pow16, wp_pow30, wp_eqI, wp_neI, wp_cmpI, wp_isN, wp_isNotN, wp_lenL, wp_lenT, wp_abs, wp_int, wp_min2, wp_max2, wp_listL, wp_listT, wp_tupleL, wp_tupleT, wp_ixT0, wp_ixT1, wp_ixL0, wp_neg, wp_ok, wp_srcEL, wp_isB, wp_isNotB, wp_eqB, wp_neB, wp_all, wp_any, wp_slT, wp_slL, wp_rev, wp_revT, wp_revL, wp_disp, wp_pair, wp_pair0, wp_dict0, wipeW, List.foldl_cons, List.foldl_nil, wp_run, List.map, List.length, List.replicate, List.cons_append, List.nil_append, List.append_nil, List.set_cons_zero, List.set_cons_succ, if_true, if_false, Bool.not_true, Bool.not_false, Bool.true_eq_false, Bool.false_eq_true, Nat.reduceAdd, Nat.reduceSub, gName', writesT_ok h]
  refine compS_mapT (ys := ws) (enc := wrW) (fun p => .str p.1) (sz (by omega)) (fun y hy => ⟨_, rfl, ?_⟩) ?_
  · simp only [wrW]
    simp only [ws_seq, ws_if, ws_set, ws_sub, ws_ret, ws_retN, ws_expr, ws_sNx, ws_for, wp_op, wp_var0, wp_varS, wp_c, wp_mB, wp_toB, wp_tr, wp_trB_bl, wp_trB_non, wp_trB_int, wp_not, wp_and, wp_or, wp_if, wp_mBl, wp_nil, wp_cons, wp_tup, wp_lst, wp_lstS, wp_newL_t, wp_newL_f, wp_chain, wp_call, wp_fn, wp_sl, wp_noPart, wp_part, wp_comp, wp_yes, wp_iL, wp_iA, wp_srcL, wp_srcS, wp_srcAL, wp_srcAT, wp_iR1, wp_iR2, wp_rng1, wp_rng2, wp_iRv, wp_srcRL, wp_srcRT, wp_iEA, wp_srcEL, wp_srcET, wp_add, wp_sub, wp_mul, wp_mod, wp_div, wp_divW, wp_pow18, wp_pow17, wp_pow16, wp_pow30, wp_eqI, wp_neI, wp_cmpI, wp_isN, wp_isNotN, wp_lenL, wp_lenT, wp_abs, wp_int, wp_min2, wp_max2, wp_listL, wp_listT, wp_tupleL, wp_tupleT, wp_ixT0, wp_ixT1, wp_ixL0, wp_neg, wp_ok, wp_srcEL, wp_isB, wp_isNotB, wp_eqB, wp_neB, wp_all, wp_any, wp_slT, wp_slL, wp_rev, wp_revT, wp_revL, wp_disp, wp_pair, wp_pair0, wp_dict0, wipeW, List.foldl_cons, List.foldl_nil, wp_run, List.map, List.length, List.replicate, List.cons_append, List.nil_append, List.append_nil, List.set_cons_zero, List.set_cons_succ, if_true, if_false, Bool.not_true, Bool.not_false, Bool.true_eq_false, Bool.false_eq_true, Nat.reduceAdd, Nat.reduceSub, gName']
    exact ⟨by trivial, by trivial⟩
  · have e : (ws.map fun p => W.str p.1) = (ws.map (·.1)).map W.str := by rw [List.map_map]; rfl
    rw [e]
    simp only [ws_seq, ws_if, ws_set, ws_sub, ws_ret, ws_retN, ws_expr, ws_sNx, ws_for, wp_op, wp_var0, wp_varS, wp_c, wp_mB, wp_toB, wp_tr, wp_trB_bl, wp_trB_non, wp_trB_int, wp_not, wp_and, wp_or, wp_if, wp_mBl, wp_nil, wp_cons, wp_tup, wp_lst, wp_lstS, wp_newL_t, wp_newL_f, wp_chain, wp_call, wp_fn, wp_sl, wp_noPart, wp_part, wp_comp, wp_yes, wp_iL, wp_iA, wp_srcL, wp_srcS, wp_srcAL, wp_srcAT, wp_iR1, wp_iR2, wp_rng1, wp_rng2, wp_iRv, wp_srcRL, wp_srcRT, wp_iEA, wp_srcEL, wp_srcET, wp_add, wp_sub, wp_mul, wp_mod, wp_div, wp_divW, wp_pow18, wp_pow17, wp_pow16, wp_pow30, wp_eqI, wp_neI, wp_cmpI, wp_isN, wp_isNotN, wp_lenL, wp_lenT, wp_abs, wp_int, wp_min2, wp_max2, wp_listL, wp_listT, wp_tupleL, wp_tupleT, wp_ixT0, wp_ixT1, wp_ixL0, wp_neg, wp_ok, wp_srcEL, wp_isB, wp_isNotB, wp_eqB, wp_neB, wp_all, wp_any, wp_slT, wp_slL, wp_rev, wp_revT, wp_revL, wp_disp, wp_pair, wp_pair0, wp_dict0, wipeW, List.foldl_cons, List.foldl_nil, wp_run, List.map, List.length, List.replicate, List.cons_append, List.nil_append, List.append_nil, List.set_cons_zero, List.set_cons_succ, if_true, if_false, Bool.not_true, Bool.not_false, Bool.true_eq_false, Bool.false_eq_true, Nat.reduceAdd, Nat.reduceSub, gName', ascend_ok (w := .lst ((ws.map (·.1)).map W.str)) (xs := (ws.map (·.1)).map W.str) rfl (fun n v e => ixL_eq e) (by simp; omega) (lt_str h.asc st)]
    exact ⟨by trivial, by trivial⟩
end Lw
namespace Lw
open PySem L2 Mi
abbrev gW (p : Pt) : W := .tup (p.g.map W.str)
abbrev rW (p : Pt) : W := .tup (p.r.map rowW)
abbrev wW (p : Pt) : W := .tup (p.w.map wrW)
def dn (p : Pt) : Nd := .ins 3 [("snapshot", .int p.s), ("number", numW p.n), ("gets", gW p), ("ranges", rW p), ("writes", wW p)]
section
variable {P : W → Sto → Prop} {E : Xc → Sto → Prop} {st : Sto} {env : Ev} {a : Nat} {p : Pt}
theorem f_s (e : st[a]? = some (dn p)) : fldR [3] "snapshot" (.ref a) st = .ok (.int p.s) st := pure_eq ((wp_fldR e rfl rfl).mpr ⟨rfl, rfl⟩)
theorem f_n (e : st[a]? = some (dn p)) : fldR [3] "number" (.ref a) st = .ok (numW p.n) st := pure_eq ((wp_fldR e rfl rfl).mpr ⟨rfl, rfl⟩)
theorem f_w (e : st[a]? = some (dn p)) : fldR [3] "writes" (.ref a) st = .ok (wW p) st := pure_eq ((wp_fldR e rfl rfl).mpr ⟨rfl, rfl⟩)
def isC3 (w : W) (s : Sto) : Rs W := match w with
  | .ref i => (match s[i]? with | some (.ins c _) => (match [(3, true)].lookup c with | some b => .ok (.bl b) s | none => .stuck) | _ => .stuck)
  | _ => .stuck
theorem wp_isC3 {m : M W} : wp (mIsC [(3, true)] m env st) P E ↔ wp (m env st) (fun w s => wp (isC3 w s) P E) E := wp_isCd
theorem isC3_eq (e : st[a]? = some (dn p)) : isC3 (.ref a) st = .ok (.bl true) st := by
  simp only [isC3, e, dn]; rfl
theorem pt_0 : wIx (ptW p) (.int 0) st = .ok (.int p.s) st := ixT_eq (n := 0) rfl
theorem pt_1 : wIx (ptW p) (.int 1) st = .ok (numW p.n) st := ixT_eq (n := 1) rfl
theorem pt_2 : wIx (ptW p) (.int 2) st = .ok (gW p) st := ixT_eq (n := 2) rfl
theorem pt_3 : wIx (ptW p) (.int 3) st = .ok (rW p) st := ixT_eq (n := 3) rfl
theorem pt_4 : wIx (ptW p) (.int 4) st = .ok (wW p) st := ixT_eq (n := 4) rfl
end
theorem number_ok {i : Int} (h : 0 ≤ i) (st : Sto) : r_is_number [.int i] st = .ok (.bl true) st := by
  refine pure_eq ?_
  simp only [r_is_number, m_is_number]
  simp only [ws_seq, ws_if, ws_set, ws_sub, ws_ret, ws_retN, ws_expr, ws_sNx, ws_for, wp_op, wp_var0, wp_varS, wp_c, wp_mB, wp_toB, wp_tr, wp_trB_bl, wp_trB_non, wp_trB_int, wp_not, wp_and, wp_or, wp_if, wp_mBl, wp_nil, wp_cons, wp_tup, wp_lst, wp_lstS, wp_newL_t, wp_newL_f, wp_chain, wp_call, wp_fn, wp_sl, wp_noPart, wp_part, wp_comp, wp_yes, wp_iL, wp_iA, wp_srcL, wp_srcS, wp_srcAL, wp_srcAT, wp_iR1, wp_iR2, wp_rng1, wp_rng2, wp_iRv, wp_srcRL, wp_srcRT, wp_iEA, wp_srcEL, wp_srcET, wp_add, wp_sub, wp_mul, wp_mod, wp_div, wp_divW, wp_pow18, wp_pow17, wp_pow16, wp_pow30, wp_eqI, wp_neI, wp_cmpI, wp_isN, wp_isNotN, wp_lenL, wp_lenT, wp_abs, wp_int, wp_min2, wp_max2, wp_listL, wp_listT, wp_tupleL, wp_tupleT, wp_ixT0, wp_ixT1, wp_ixL0, wp_neg, wp_ok, wp_srcEL, wp_isB, wp_isNotB, wp_eqB, wp_neB, wp_all, wp_any, wp_slT, wp_slL, wp_rev, wp_revT, wp_revL, wp_disp, wp_pair, wp_pair0, wp_dict0, wipeW, List.foldl_cons, List.foldl_nil, wp_run, List.map, List.length, List.replicate, List.cons_append, List.nil_append, List.append_nil, List.set_cons_zero, List.set_cons_succ, if_true, if_false, Bool.not_true, Bool.not_false, Bool.true_eq_false, Bool.false_eq_true, Nat.reduceAdd, Nat.reduceSub, gName', int_i, decide_eq_true h]
  exact ⟨by trivial, by trivial⟩
theorem strOk6 {k : Str} (h : k ∈ K6) : PyData.strOk k = true := by
  simp only [K6, List.mem_cons, List.not_mem_nil, or_false] at h
  rcases h with rfl | rfl | rfl | rfl | rfl | rfl <;> decide +kernel
theorem ne_nil {p : Pt} (h : ∀ x ∈ p.w, Mk x.2) (hk : ∀ x ∈ p.w, x.1 ∈ K6) (hn : 0 < p.w.length) (hf : p.w.length ≤ 2) (st : Sto) : wNe (wW p) (.tup []) st = .ok (.bl true) st := by
  have m1 : ∀ w, Mk w → ∃ d, toD st w = some d ∧ d.canLay0 = true ∧ d.depth = 0 := by
    rintro w (rfl | ⟨i, rfl, _⟩)
    · exact ⟨.none, rfl, rfl, rfl⟩
    · exact ⟨.int i, rfl, rfl, rfl⟩
  rcases hw : p.w with _ | ⟨x, _ | ⟨y, _ | ⟨z, r⟩⟩⟩
  · rw [hw] at hn; simp at hn
  · obtain ⟨d, d1, d2, d3⟩ := m1 x.2 (h x (by rw [hw]; simp))
    have k1 := strOk6 (hk x (by rw [hw]; simp))
    simp [wW, hw, wrW, wNe, eqW, eqWD, scalV, toD, toDs, SeqAt.shaped, PyData.canLay0, PyData.canLayAll0, PyData.depth, PyData.depthAll, PyData.eqv, PyData.eqvAll, d1, d2, d3, k1]
  · obtain ⟨d, d1, d2, d3⟩ := m1 x.2 (h x (by rw [hw]; simp))
    obtain ⟨f, f1, f2, f3⟩ := m1 y.2 (h y (by rw [hw]; simp))
    have k1 := strOk6 (hk x (by rw [hw]; simp))
    have k2 := strOk6 (hk y (by rw [hw]; simp))
    simp [wW, hw, wrW, wNe, eqW, eqWD, scalV, toD, toDs, SeqAt.shaped, PyData.canLay0, PyData.canLayAll0, PyData.depth, PyData.depthAll, PyData.eqv, PyData.eqvAll, d1, d2, d3, f1, f2, f3, k1, k2]
  · rw [hw] at hf; simp at hf
theorem numfor_ok {last : Int} {p : Pt} (h : POk last p) (st : Sto) : r_is_number_for [.int p.s, wW p, numW p.n] st = .ok (.bl true) st := by
  refine pure_eq ?_
  have hn := h.num
  have h1 := h.s1
  simp only [r_is_number_for, m_is_number_for]
  by_cases hw : 0 < p.w.length
  · rw [if_pos hw] at hn
    rw [hn]
    simp only [numW]
    simp only [ws_seq, ws_if, ws_set, ws_sub, ws_ret, ws_retN, ws_expr, ws_sNx, ws_for, wp_op, wp_var0, wp_varS, wp_c, wp_mB, wp_toB, wp_tr, wp_trB_bl, wp_trB_non, wp_trB_int, wp_not, wp_and, wp_or, wp_if, wp_mBl, wp_nil, wp_cons, wp_tup, wp_lst, wp_lstS, wp_newL_t, wp_newL_f, wp_chain, wp_call, wp_fn, wp_sl, wp_noPart, wp_part, wp_comp, wp_yes, wp_iL, wp_iA, wp_srcL, wp_srcS, wp_srcAL, wp_srcAT, wp_iR1, wp_iR2, wp_rng1, wp_rng2, wp_iRv, wp_srcRL, wp_srcRT, wp_iEA, wp_srcEL, wp_srcET, wp_add, wp_sub, wp_mul, wp_mod, wp_div, wp_divW, wp_pow18, wp_pow17, wp_pow16, wp_pow30, wp_eqI, wp_neI, wp_cmpI, wp_isN, wp_isNotN, wp_lenL, wp_lenT, wp_abs, wp_int, wp_min2, wp_max2, wp_listL, wp_listT, wp_tupleL, wp_tupleT, wp_ixT0, wp_ixT1, wp_ixL0, wp_neg, wp_ok, wp_srcEL, wp_isB, wp_isNotB, wp_eqB, wp_neB, wp_all, wp_any, wp_slT, wp_slL, wp_rev, wp_revT, wp_revL, wp_disp, wp_pair, wp_pair0, wp_dict0, wipeW, List.foldl_cons, List.foldl_nil, wp_run, List.map, List.length, List.replicate, List.cons_append, List.nil_append, List.append_nil, List.set_cons_zero, List.set_cons_succ, if_true, if_false, Bool.not_true, Bool.not_false, Bool.true_eq_false, Bool.false_eq_true, Nat.reduceAdd, Nat.reduceSub, gName', Mi.isNon, int_i, ne_nil h.wr.mks h.wr.k1 hw h.wr.few st]
    have : decide (p.s < last + 1) = true := decide_eq_true (by omega)
    simp only [ws_seq, ws_if, ws_set, ws_sub, ws_ret, ws_retN, ws_expr, ws_sNx, ws_for, wp_op, wp_var0, wp_varS, wp_c, wp_mB, wp_toB, wp_tr, wp_trB_bl, wp_trB_non, wp_trB_int, wp_not, wp_and, wp_or, wp_if, wp_mBl, wp_nil, wp_cons, wp_tup, wp_lst, wp_lstS, wp_newL_t, wp_newL_f, wp_chain, wp_call, wp_fn, wp_sl, wp_noPart, wp_part, wp_comp, wp_yes, wp_iL, wp_iA, wp_srcL, wp_srcS, wp_srcAL, wp_srcAT, wp_iR1, wp_iR2, wp_rng1, wp_rng2, wp_iRv, wp_srcRL, wp_srcRT, wp_iEA, wp_srcEL, wp_srcET, wp_add, wp_sub, wp_mul, wp_mod, wp_div, wp_divW, wp_pow18, wp_pow17, wp_pow16, wp_pow30, wp_eqI, wp_neI, wp_cmpI, wp_isN, wp_isNotN, wp_lenL, wp_lenT, wp_abs, wp_int, wp_min2, wp_max2, wp_listL, wp_listT, wp_tupleL, wp_tupleT, wp_ixT0, wp_ixT1, wp_ixL0, wp_neg, wp_ok, wp_srcEL, wp_isB, wp_isNotB, wp_eqB, wp_neB, wp_all, wp_any, wp_slT, wp_slL, wp_rev, wp_revT, wp_revL, wp_disp, wp_pair, wp_pair0, wp_dict0, wipeW, List.foldl_cons, List.foldl_nil, wp_run, List.map, List.length, List.replicate, List.cons_append, List.nil_append, List.append_nil, List.set_cons_zero, List.set_cons_succ, if_true, if_false, Bool.not_true, Bool.not_false, Bool.true_eq_false, Bool.false_eq_true, Nat.reduceAdd, Nat.reduceSub, gName', this]
    exact ⟨by trivial, by trivial⟩
  · rw [if_neg hw] at hn
    have hz : p.w = [] := List.length_eq_zero_iff.mp (by omega)
    rw [hn]
    simp only [numW, wW, hz]
    have e : wEq (.tup []) (.tup []) st = .ok (.bl true) st := rfl
    simp only [ws_seq, ws_if, ws_set, ws_sub, ws_ret, ws_retN, ws_expr, ws_sNx, ws_for, wp_op, wp_var0, wp_varS, wp_c, wp_mB, wp_toB, wp_tr, wp_trB_bl, wp_trB_non, wp_trB_int, wp_not, wp_and, wp_or, wp_if, wp_mBl, wp_nil, wp_cons, wp_tup, wp_lst, wp_lstS, wp_newL_t, wp_newL_f, wp_chain, wp_call, wp_fn, wp_sl, wp_noPart, wp_part, wp_comp, wp_yes, wp_iL, wp_iA, wp_srcL, wp_srcS, wp_srcAL, wp_srcAT, wp_iR1, wp_iR2, wp_rng1, wp_rng2, wp_iRv, wp_srcRL, wp_srcRT, wp_iEA, wp_srcEL, wp_srcET, wp_add, wp_sub, wp_mul, wp_mod, wp_div, wp_divW, wp_pow18, wp_pow17, wp_pow16, wp_pow30, wp_eqI, wp_neI, wp_cmpI, wp_isN, wp_isNotN, wp_lenL, wp_lenT, wp_abs, wp_int, wp_min2, wp_max2, wp_listL, wp_listT, wp_tupleL, wp_tupleT, wp_ixT0, wp_ixT1, wp_ixL0, wp_neg, wp_ok, wp_srcEL, wp_isB, wp_isNotB, wp_eqB, wp_neB, wp_all, wp_any, wp_slT, wp_slL, wp_rev, wp_revT, wp_revL, wp_disp, wp_pair, wp_pair0, wp_dict0, wipeW, List.foldl_cons, List.foldl_nil, wp_run, List.map, List.length, List.replicate, List.cons_append, List.nil_append, List.append_nil, List.set_cons_zero, List.set_cons_succ, if_true, if_false, Bool.not_true, Bool.not_false, Bool.true_eq_false, Bool.false_eq_true, Nat.reduceAdd, Nat.reduceSub, gName', Mi.isNon, isi_t, e]
    exact ⟨by trivial, by trivial⟩
theorem setF3 {f : Str} {v : W} {st : Sto} {o : Nat} {fs fs' : List (Str × W)} (e : st[o]? = some (.ins 3 fs)) (h : putW f v fs = fs') (hl : fs.length < 10) : wSetF [3] f (.ref o) v st = some (st.set o (.ins 3 fs')) := by
  rw [← h]; exact setF_of e rfl (by omega)
theorem init_ok {last : Int} {p : Pt} (h : POk last p) {st : Sto} {o : Nat} (e : st[o]? = some (.ins 3 [])) : wp (r_Dealing_init [.ref o, .int p.s, numW p.n, gW p, rW p, wW p] st) (fun v s => v = .non ∧ s = st.set o (dn p)) NoE := by
  have g1 := keys_ok (Nat.le_trans h.sn.g3 (by decide)) h.sn.g1 h.sn.g2 st
  have g2 := ranges_ok (Nat.le_trans h.sn.r3 (by decide)) h.sn.r1 h.sn.r2 st
  have g3 := iswrites_ok h.wr st
  simp only [r_Dealing_init, m_Dealing_init]
  rw [wp_run]
  simp only [ws_seq, ws_if, ws_set, ws_sub, ws_ret, ws_retN, ws_expr, ws_sNx, ws_for, wp_op, wp_var0, wp_varS, wp_c, wp_mB, wp_toB, wp_tr, wp_trB_bl, wp_trB_non, wp_trB_int, wp_not, wp_and, wp_or, wp_if, wp_mBl, wp_nil, wp_cons, wp_tup, wp_lst, wp_lstS, wp_newL_t, wp_newL_f, wp_chain, wp_call, wp_fn, wp_sl, wp_noPart, wp_part, wp_comp, wp_yes, wp_iL, wp_iA, wp_srcL, wp_srcS, wp_srcAL, wp_srcAT, wp_iR1, wp_iR2, wp_rng1, wp_rng2, wp_iRv, wp_srcRL, wp_srcRT, wp_iEA, wp_srcEL, wp_srcET, wp_add, wp_sub, wp_mul, wp_mod, wp_div, wp_divW, wp_pow18, wp_pow17, wp_pow16, wp_pow30, wp_eqI, wp_neI, wp_cmpI, wp_isN, wp_isNotN, wp_lenL, wp_lenT, wp_abs, wp_int, wp_min2, wp_max2, wp_listL, wp_listT, wp_tupleL, wp_tupleT, wp_ixT0, wp_ixT1, wp_ixL0, wp_neg, wp_ok, wp_srcEL, wp_isB, wp_isNotB, wp_eqB, wp_neB, wp_all, wp_any, wp_slT, wp_slL, wp_rev, wp_revT, wp_revL, wp_disp, wp_pair, wp_pair0, wp_dict0, wipeW, List.foldl_cons, List.foldl_nil, wp_run, List.map, List.length, List.replicate, List.cons_append, List.nil_append, List.append_nil, List.set_cons_zero, List.set_cons_succ, if_true, if_false, Bool.not_true, Bool.not_false, Bool.true_eq_false, Bool.false_eq_true, Nat.reduceAdd, Nat.reduceSub, gName', number_ok h.s0, numfor_ok h, g1, g2, g3, ws_fld]
  rw [wp_setR (setF3 (fs' := [("snapshot", .int p.s)]) e rfl (by simp))]
  rw [wp_setR (setF3 (fs' := [("snapshot", .int p.s), ("number", numW p.n)]) (get_setp e) rfl (by simp)), List.set_set]
  rw [wp_setR (setF3 (fs' := [("snapshot", .int p.s), ("number", numW p.n), ("gets", gW p)]) (get_setp e) rfl (by simp)), List.set_set]
  rw [wp_setR (setF3 (fs' := [("snapshot", .int p.s), ("number", numW p.n), ("gets", gW p), ("ranges", rW p)]) (get_setp e) rfl (by simp)), List.set_set]
  rw [wp_setR (setF3 (fs' := [("snapshot", .int p.s), ("number", numW p.n), ("gets", gW p), ("ranges", rW p), ("writes", wW p)]) (get_setp e) rfl (by simp)), List.set_set]
  exact ⟨by trivial, by rfl⟩
def HO (st : Sto) (hs : List (Nat × Pt)) : Prop := ∀ x ∈ hs, st[x.1]? = some (dn x.2)
abbrev mdW (hs : List (Nat × Pt)) : W := .tup (hs.map fun x => .ref x.1)
theorem HO.ext {a b : Sto} {hs : List (Nat × Pt)} (h : HO a hs) (x : Ext a b) : HO b hs := fun y hy => x.2 _ _ (h y hy)
theorem made_ok {p : Nat} {ps : List Pt} {st : Sto} (e : st[p]? = some (.lst (ps.map ptW))) (hh : Hist 0 ps) (hl : ps.length ≤ 20) : wp (r_law_made [.ref p] st) (fun w s => ∃ hs, w = mdW hs ∧ hs.map (·.2) = ps ∧ HO s hs ∧ Ext st s) NoE := by
  simp only [r_law_made, m_law_made]
  simp only [ws_seq, ws_if, ws_set, ws_sub, ws_ret, ws_retN, ws_expr, ws_sNx, ws_for, wp_op, wp_var0, wp_varS, wp_c, wp_mB, wp_toB, wp_tr, wp_trB_bl, wp_trB_non, wp_trB_int, wp_not, wp_and, wp_or, wp_if, wp_mBl, wp_nil, wp_cons, wp_tup, wp_lst, wp_lstS, wp_newL_t, wp_newL_f, wp_chain, wp_call, wp_fn, wp_sl, wp_noPart, wp_part, wp_comp, wp_yes, wp_iL, wp_iA, wp_srcL, wp_srcS, wp_srcAL, wp_srcAT, wp_iR1, wp_iR2, wp_rng1, wp_rng2, wp_iRv, wp_srcRL, wp_srcRT, wp_iEA, wp_srcEL, wp_srcET, wp_add, wp_sub, wp_mul, wp_mod, wp_div, wp_divW, wp_pow18, wp_pow17, wp_pow16, wp_pow30, wp_eqI, wp_neI, wp_cmpI, wp_isN, wp_isNotN, wp_lenL, wp_lenT, wp_abs, wp_int, wp_min2, wp_max2, wp_listL, wp_listT, wp_tupleL, wp_tupleT, wp_ixT0, wp_ixT1, wp_ixL0, wp_neg, wp_ok, wp_srcEL, wp_isB, wp_isNotB, wp_eqB, wp_neB, wp_all, wp_any, wp_slT, wp_slL, wp_rev, wp_revT, wp_revL, wp_disp, wp_pair, wp_pair0, wp_dict0, wipeW, List.foldl_cons, List.foldl_nil, wp_run, List.map, List.length, List.replicate, List.cons_append, List.nil_append, List.append_nil, List.set_cons_zero, List.set_cons_succ, if_true, if_false, Bool.not_true, Bool.not_false, Bool.true_eq_false, Bool.false_eq_true, Nat.reduceAdd, Nat.reduceSub, gName', wp_srcAR e]
  refine compS_src (xs := ps.map ptW) (fun i acc s => ∃ hs : List (Nat × Pt), acc = hs.map (fun x => .ref x.1) ∧ hs.map (·.2) = ps.take i ∧ HO s hs ∧ Ext st s) rfl (fun i acc s z => ?_) ⟨[], rfl, by simp, fun x hx => by simp at hx, Ext.refl⟩ (sz (by simp; omega)) (fun i acc s z => ?_) (fun i w ew acc s z => ?_) (fun acc s z => ?_)
  · obtain ⟨hs, _, _, _, x⟩ := z
    exact nod_at (x.2 _ _ e)
  · obtain ⟨hs, rfl, z1, _⟩ := z
    have := congrArg List.length z1
    simp at this
    simp; omega
  · obtain ⟨hs, rfl, z1, z2, z3⟩ := z
    rw [List.getElem?_map] at ew
    obtain ⟨q, eq, rfl⟩ := Option.map_eq_some_iff.mp ew
    refine ⟨_, rfl, ?_⟩
    simp only [ws_seq, ws_if, ws_set, ws_sub, ws_ret, ws_retN, ws_expr, ws_sNx, ws_for, wp_op, wp_var0, wp_varS, wp_c, wp_mB, wp_toB, wp_tr, wp_trB_bl, wp_trB_non, wp_trB_int, wp_not, wp_and, wp_or, wp_if, wp_mBl, wp_nil, wp_cons, wp_tup, wp_lst, wp_lstS, wp_newL_t, wp_newL_f, wp_chain, wp_call, wp_fn, wp_sl, wp_noPart, wp_part, wp_comp, wp_yes, wp_iL, wp_iA, wp_srcL, wp_srcS, wp_srcAL, wp_srcAT, wp_iR1, wp_iR2, wp_rng1, wp_rng2, wp_iRv, wp_srcRL, wp_srcRT, wp_iEA, wp_srcEL, wp_srcET, wp_add, wp_sub, wp_mul, wp_mod, wp_div, wp_divW, wp_pow18, wp_pow17, wp_pow16, wp_pow30, wp_eqI, wp_neI, wp_cmpI, wp_isN, wp_isNotN, wp_lenL, wp_lenT, wp_abs, wp_int, wp_min2, wp_max2, wp_listL, wp_listT, wp_tupleL, wp_tupleT, wp_ixT0, wp_ixT1, wp_ixL0, wp_neg, wp_ok, wp_srcEL, wp_isB, wp_isNotB, wp_eqB, wp_neB, wp_all, wp_any, wp_slT, wp_slL, wp_rev, wp_revT, wp_revL, wp_disp, wp_pair, wp_pair0, wp_dict0, wipeW, List.foldl_cons, List.foldl_nil, wp_run, List.map, List.length, List.replicate, List.cons_append, List.nil_append, List.append_nil, List.set_cons_zero, List.set_cons_succ, if_true, if_false, Bool.not_true, Bool.not_false, Bool.true_eq_false, Bool.false_eq_true, Nat.reduceAdd, Nat.reduceSub, gName', wp_make, pt_0, pt_1, pt_2, pt_3, pt_4]
    refine wp_no (init_ok (hh.at eq) get_new) ?_
    rintro _ _ ⟨rfl, rfl⟩
    have es : (s ++ [Nd.ins 3 []]).set s.length (dn q) = s ++ [dn q] := by simp
    rw [es]
    refine ⟨by trivial, hs ++ [(s.length, q)], by simp, by rw [Mi.take_next eq, List.map_append, z1]; rfl, fun x hx => ?_, z3.trans Ext.app⟩
    rcases List.mem_append.mp hx with hx | hx
    · exact get_old (z2 x hx)
    · simp only [List.mem_singleton] at hx
      rw [hx]; exact get_new
  · obtain ⟨hs, rfl, z1, z2, z3⟩ := z
    rw [List.length_map, List.take_of_length_le (Nat.le_refl _)] at z1
    try simp only [ws_seq, ws_if, ws_set, ws_sub, ws_ret, ws_retN, ws_expr, ws_sNx, ws_for, wp_op, wp_var0, wp_varS, wp_c, wp_mB, wp_toB, wp_tr, wp_trB_bl, wp_trB_non, wp_trB_int, wp_not, wp_and, wp_or, wp_if, wp_mBl, wp_nil, wp_cons, wp_tup, wp_lst, wp_lstS, wp_newL_t, wp_newL_f, wp_chain, wp_call, wp_fn, wp_sl, wp_noPart, wp_part, wp_comp, wp_yes, wp_iL, wp_iA, wp_srcL, wp_srcS, wp_srcAL, wp_srcAT, wp_iR1, wp_iR2, wp_rng1, wp_rng2, wp_iRv, wp_srcRL, wp_srcRT, wp_iEA, wp_srcEL, wp_srcET, wp_add, wp_sub, wp_mul, wp_mod, wp_div, wp_divW, wp_pow18, wp_pow17, wp_pow16, wp_pow30, wp_eqI, wp_neI, wp_cmpI, wp_isN, wp_isNotN, wp_lenL, wp_lenT, wp_abs, wp_int, wp_min2, wp_max2, wp_listL, wp_listT, wp_tupleL, wp_tupleT, wp_ixT0, wp_ixT1, wp_ixL0, wp_neg, wp_ok, wp_srcEL, wp_isB, wp_isNotB, wp_eqB, wp_neB, wp_all, wp_any, wp_slT, wp_slL, wp_rev, wp_revT, wp_revL, wp_disp, wp_pair, wp_pair0, wp_dict0, wipeW, List.foldl_cons, List.foldl_nil, wp_run, List.map, List.length, List.replicate, List.cons_append, List.nil_append, List.append_nil, List.set_cons_zero, List.set_cons_succ, if_true, if_false, Bool.not_true, Bool.not_false, Bool.true_eq_false, Bool.false_eq_true, Nat.reduceAdd, Nat.reduceSub, gName']
    exact ⟨hs, by trivial, z1, z2, z3⟩
/-! the demands -/
theorem dhist_ok {hs : List (Nat × Pt)} {st : Sto} (ho : HO st hs) (hh : Hist 0 (hs.map (·.2))) (hl : hs.length ≤ 20) : r_demand_history [mdW hs] st = .ok .non st := by
  refine pure_eq ?_
  simp only [r_demand_history, m_demand_history]
  rw [wp_run]
  have h300 : decide ((300 : Int) < (hs.length : Int)) = false := decide_eq_false (by omega)
  simp only [ws_seq, ws_if, ws_set, ws_sub, ws_ret, ws_retN, ws_expr, ws_sNx, ws_for, wp_op, wp_var0, wp_varS, wp_c, wp_mB, wp_toB, wp_tr, wp_trB_bl, wp_trB_non, wp_trB_int, wp_not, wp_and, wp_or, wp_if, wp_mBl, wp_nil, wp_cons, wp_tup, wp_lst, wp_lstS, wp_newL_t, wp_newL_f, wp_chain, wp_call, wp_fn, wp_sl, wp_noPart, wp_part, wp_comp, wp_yes, wp_iL, wp_iA, wp_srcL, wp_srcS, wp_srcAL, wp_srcAT, wp_iR1, wp_iR2, wp_rng1, wp_rng2, wp_iRv, wp_srcRL, wp_srcRT, wp_iEA, wp_srcEL, wp_srcET, wp_add, wp_sub, wp_mul, wp_mod, wp_div, wp_divW, wp_pow18, wp_pow17, wp_pow16, wp_pow30, wp_eqI, wp_neI, wp_cmpI, wp_isN, wp_isNotN, wp_lenL, wp_lenT, wp_abs, wp_int, wp_min2, wp_max2, wp_listL, wp_listT, wp_tupleL, wp_tupleT, wp_ixT0, wp_ixT1, wp_ixL0, wp_neg, wp_ok, wp_srcEL, wp_isB, wp_isNotB, wp_eqB, wp_neB, wp_all, wp_any, wp_slT, wp_slL, wp_rev, wp_revT, wp_revL, wp_disp, wp_pair, wp_pair0, wp_dict0, wipeW, List.foldl_cons, List.foldl_nil, wp_run, List.map, List.length, List.replicate, List.cons_append, List.nil_append, List.append_nil, List.set_cons_zero, List.set_cons_succ, if_true, if_false, Bool.not_true, Bool.not_false, Bool.true_eq_false, Bool.false_eq_true, Nat.reduceAdd, Nat.reduceSub, gName', isi_t, List.length_map, h300, enL_map]
  refine forS_fix (fun i e s => ∃ (L : Int) (o2 o3 : Option W), e = [some (mdW hs), some (.int L), o2, o3] ∧ L = lastF 0 ((hs.map (·.2)).take i) ∧ s = st) ⟨0, none, none, rfl, by simp [lastF], rfl⟩ (fun i w ew env s z => ?_) (fun env s z => ?_)
  · obtain ⟨L, o2, o3, rfl, z1, rfl⟩ := z
    rw [List.getElem?_map] at ew
    obtain ⟨q, eq, rfl⟩ := Option.map_eq_some_iff.mp ew
    have eq1 : hs[i]? = some q.1 ∧ q.2 = i := by
      rw [List.getElem?_zipIdx] at eq
      obtain ⟨x, ex, rfl⟩ := Option.map_eq_some_iff.mp eq
      exact ⟨ex, by simp⟩
    obtain ⟨eq1, eq2⟩ := eq1
    have ep : (hs.map (·.2))[i]? = some q.1.2 := by rw [List.getElem?_map, eq1]; rfl
    have pk := hh.at ep
    have eo := ho q.1 (List.mem_of_getElem? eq1)
    rw [← z1] at pk
    refine ⟨_, _, rfl, ?_⟩
    have h1 : decide (L < q.1.2.s) = false := decide_eq_false (by have := pk.s1; omega)
    simp only [ws_seq, ws_if, ws_set, ws_sub, ws_ret, ws_retN, ws_expr, ws_sNx, ws_for, wp_op, wp_var0, wp_varS, wp_c, wp_mB, wp_toB, wp_tr, wp_trB_bl, wp_trB_non, wp_trB_int, wp_not, wp_and, wp_or, wp_if, wp_mBl, wp_nil, wp_cons, wp_tup, wp_lst, wp_lstS, wp_newL_t, wp_newL_f, wp_chain, wp_call, wp_fn, wp_sl, wp_noPart, wp_part, wp_comp, wp_yes, wp_iL, wp_iA, wp_srcL, wp_srcS, wp_srcAL, wp_srcAT, wp_iR1, wp_iR2, wp_rng1, wp_rng2, wp_iRv, wp_srcRL, wp_srcRT, wp_iEA, wp_srcEL, wp_srcET, wp_add, wp_sub, wp_mul, wp_mod, wp_div, wp_divW, wp_pow18, wp_pow17, wp_pow16, wp_pow30, wp_eqI, wp_neI, wp_cmpI, wp_isN, wp_isNotN, wp_lenL, wp_lenT, wp_abs, wp_int, wp_min2, wp_max2, wp_listL, wp_listT, wp_tupleL, wp_tupleT, wp_ixT0, wp_ixT1, wp_ixL0, wp_neg, wp_ok, wp_srcEL, wp_isB, wp_isNotB, wp_eqB, wp_neB, wp_all, wp_any, wp_slT, wp_slL, wp_rev, wp_revT, wp_revL, wp_disp, wp_pair, wp_pair0, wp_dict0, wipeW, List.foldl_cons, List.foldl_nil, wp_run, List.map, List.length, List.replicate, List.cons_append, List.nil_append, List.append_nil, List.set_cons_zero, List.set_cons_succ, if_true, if_false, Bool.not_true, Bool.not_false, Bool.true_eq_false, Bool.false_eq_true, Nat.reduceAdd, Nat.reduceSub, gName', wp_isC3, isC3_eq eo, wp_fldF, f_s eo, f_n eo, h1]
    have hn := pk.num
    have nx : lastF 0 ((hs.map (·.2)).take (i + 1)) = nxL L q.1.2 := by rw [Mi.take_next ep, lastF_snoc, ← z1]
    by_cases hw : 0 < q.1.2.w.length
    · rw [if_pos hw] at hn
      rw [hn]
      simp only [ws_seq, ws_if, ws_set, ws_sub, ws_ret, ws_retN, ws_expr, ws_sNx, ws_for, wp_op, wp_var0, wp_varS, wp_c, wp_mB, wp_toB, wp_tr, wp_trB_bl, wp_trB_non, wp_trB_int, wp_not, wp_and, wp_or, wp_if, wp_mBl, wp_nil, wp_cons, wp_tup, wp_lst, wp_lstS, wp_newL_t, wp_newL_f, wp_chain, wp_call, wp_fn, wp_sl, wp_noPart, wp_part, wp_comp, wp_yes, wp_iL, wp_iA, wp_srcL, wp_srcS, wp_srcAL, wp_srcAT, wp_iR1, wp_iR2, wp_rng1, wp_rng2, wp_iRv, wp_srcRL, wp_srcRT, wp_iEA, wp_srcEL, wp_srcET, wp_add, wp_sub, wp_mul, wp_mod, wp_div, wp_divW, wp_pow18, wp_pow17, wp_pow16, wp_pow30, wp_eqI, wp_neI, wp_cmpI, wp_isN, wp_isNotN, wp_lenL, wp_lenT, wp_abs, wp_int, wp_min2, wp_max2, wp_listL, wp_listT, wp_tupleL, wp_tupleT, wp_ixT0, wp_ixT1, wp_ixL0, wp_neg, wp_ok, wp_srcEL, wp_isB, wp_isNotB, wp_eqB, wp_neB, wp_all, wp_any, wp_slT, wp_slL, wp_rev, wp_revT, wp_revL, wp_disp, wp_pair, wp_pair0, wp_dict0, wipeW, List.foldl_cons, List.foldl_nil, wp_run, List.map, List.length, List.replicate, List.cons_append, List.nil_append, List.append_nil, List.set_cons_zero, List.set_cons_succ, if_true, if_false, Bool.not_true, Bool.not_false, Bool.true_eq_false, Bool.false_eq_true, Nat.reduceAdd, Nat.reduceSub, gName', numW, Mi.isNon]
      rw [ws_aug (w := .int L) rfl]
      simp only [ws_seq, ws_if, ws_set, ws_sub, ws_ret, ws_retN, ws_expr, ws_sNx, ws_for, wp_op, wp_var0, wp_varS, wp_c, wp_mB, wp_toB, wp_tr, wp_trB_bl, wp_trB_non, wp_trB_int, wp_not, wp_and, wp_or, wp_if, wp_mBl, wp_nil, wp_cons, wp_tup, wp_lst, wp_lstS, wp_newL_t, wp_newL_f, wp_chain, wp_call, wp_fn, wp_sl, wp_noPart, wp_part, wp_comp, wp_yes, wp_iL, wp_iA, wp_srcL, wp_srcS, wp_srcAL, wp_srcAT, wp_iR1, wp_iR2, wp_rng1, wp_rng2, wp_iRv, wp_srcRL, wp_srcRT, wp_iEA, wp_srcEL, wp_srcET, wp_add, wp_sub, wp_mul, wp_mod, wp_div, wp_divW, wp_pow18, wp_pow17, wp_pow16, wp_pow30, wp_eqI, wp_neI, wp_cmpI, wp_isN, wp_isNotN, wp_lenL, wp_lenT, wp_abs, wp_int, wp_min2, wp_max2, wp_listL, wp_listT, wp_tupleL, wp_tupleT, wp_ixT0, wp_ixT1, wp_ixL0, wp_neg, wp_ok, wp_srcEL, wp_isB, wp_isNotB, wp_eqB, wp_neB, wp_all, wp_any, wp_slT, wp_slL, wp_rev, wp_revT, wp_revL, wp_disp, wp_pair, wp_pair0, wp_dict0, wipeW, List.foldl_cons, List.foldl_nil, wp_run, List.map, List.length, List.replicate, List.cons_append, List.nil_append, List.append_nil, List.set_cons_zero, List.set_cons_succ, if_true, if_false, Bool.not_true, Bool.not_false, Bool.true_eq_false, Bool.false_eq_true, Nat.reduceAdd, Nat.reduceSub, gName', wp_fldF, f_n eo, hn, numW, wp_isC3]
      have h2 : decide (L + 1 = L + 1) = true := by simp
      try simp only [ws_seq, ws_if, ws_set, ws_sub, ws_ret, ws_retN, ws_expr, ws_sNx, ws_for, wp_op, wp_var0, wp_varS, wp_c, wp_mB, wp_toB, wp_tr, wp_trB_bl, wp_trB_non, wp_trB_int, wp_not, wp_and, wp_or, wp_if, wp_mBl, wp_nil, wp_cons, wp_tup, wp_lst, wp_lstS, wp_newL_t, wp_newL_f, wp_chain, wp_call, wp_fn, wp_sl, wp_noPart, wp_part, wp_comp, wp_yes, wp_iL, wp_iA, wp_srcL, wp_srcS, wp_srcAL, wp_srcAT, wp_iR1, wp_iR2, wp_rng1, wp_rng2, wp_iRv, wp_srcRL, wp_srcRT, wp_iEA, wp_srcEL, wp_srcET, wp_add, wp_sub, wp_mul, wp_mod, wp_div, wp_divW, wp_pow18, wp_pow17, wp_pow16, wp_pow30, wp_eqI, wp_neI, wp_cmpI, wp_isN, wp_isNotN, wp_lenL, wp_lenT, wp_abs, wp_int, wp_min2, wp_max2, wp_listL, wp_listT, wp_tupleL, wp_tupleT, wp_ixT0, wp_ixT1, wp_ixL0, wp_neg, wp_ok, wp_srcEL, wp_isB, wp_isNotB, wp_eqB, wp_neB, wp_all, wp_any, wp_slT, wp_slL, wp_rev, wp_revT, wp_revL, wp_disp, wp_pair, wp_pair0, wp_dict0, wipeW, List.foldl_cons, List.foldl_nil, wp_run, List.map, List.length, List.replicate, List.cons_append, List.nil_append, List.append_nil, List.set_cons_zero, List.set_cons_succ, if_true, if_false, Bool.not_true, Bool.not_false, Bool.true_eq_false, Bool.false_eq_true, Nat.reduceAdd, Nat.reduceSub, gName', h2]
      exact ⟨_, _, _, rfl, by rw [nx, nxL, if_pos hw], by trivial⟩
    · rw [if_neg hw] at hn
      rw [hn]
      simp only [ws_seq, ws_if, ws_set, ws_sub, ws_ret, ws_retN, ws_expr, ws_sNx, ws_for, wp_op, wp_var0, wp_varS, wp_c, wp_mB, wp_toB, wp_tr, wp_trB_bl, wp_trB_non, wp_trB_int, wp_not, wp_and, wp_or, wp_if, wp_mBl, wp_nil, wp_cons, wp_tup, wp_lst, wp_lstS, wp_newL_t, wp_newL_f, wp_chain, wp_call, wp_fn, wp_sl, wp_noPart, wp_part, wp_comp, wp_yes, wp_iL, wp_iA, wp_srcL, wp_srcS, wp_srcAL, wp_srcAT, wp_iR1, wp_iR2, wp_rng1, wp_rng2, wp_iRv, wp_srcRL, wp_srcRT, wp_iEA, wp_srcEL, wp_srcET, wp_add, wp_sub, wp_mul, wp_mod, wp_div, wp_divW, wp_pow18, wp_pow17, wp_pow16, wp_pow30, wp_eqI, wp_neI, wp_cmpI, wp_isN, wp_isNotN, wp_lenL, wp_lenT, wp_abs, wp_int, wp_min2, wp_max2, wp_listL, wp_listT, wp_tupleL, wp_tupleT, wp_ixT0, wp_ixT1, wp_ixL0, wp_neg, wp_ok, wp_srcEL, wp_isB, wp_isNotB, wp_eqB, wp_neB, wp_all, wp_any, wp_slT, wp_slL, wp_rev, wp_revT, wp_revL, wp_disp, wp_pair, wp_pair0, wp_dict0, wipeW, List.foldl_cons, List.foldl_nil, wp_run, List.map, List.length, List.replicate, List.cons_append, List.nil_append, List.append_nil, List.set_cons_zero, List.set_cons_succ, if_true, if_false, Bool.not_true, Bool.not_false, Bool.true_eq_false, Bool.false_eq_true, Nat.reduceAdd, Nat.reduceSub, gName', numW, Mi.isNon]
      exact ⟨_, _, _, rfl, by rw [nx, nxL, if_neg hw], by trivial⟩
  · obtain ⟨L, o2, o3, rfl, z1, rfl⟩ := z
    exact ⟨by trivial, by trivial⟩
end Lw
namespace Lw
open PySem L2 Mi
theorem eqS {a b : Str} {st : Sto} : wEq (.str a) (.str b) st = .ok (.bl (decide (a = b))) st := by
  simp [wEq, eqW, scalV, scal]
def wroteB (p : Pt) (k : Str) : Bool := p.w.any fun x => decide (x.1 = k)
def keysOf (p : Pt) : List Str := p.w.map (·.1)
theorem wrote_ok {p : Pt} {st : Sto} (hl : p.w.length ≤ 100) : r_law_wrote [ptW p] st = .ok (.lst ((keysOf p).map W.str)) st := by
  refine pure_eq ?_
  simp only [r_law_wrote, m_law_wrote]
  simp only [ws_seq, ws_if, ws_set, ws_sub, ws_ret, ws_retN, ws_expr, ws_sNx, ws_for, wp_op, wp_var0, wp_varS, wp_c, wp_mB, wp_toB, wp_tr, wp_trB_bl, wp_trB_non, wp_trB_int, wp_not, wp_and, wp_or, wp_if, wp_mBl, wp_nil, wp_cons, wp_tup, wp_lst, wp_lstS, wp_newL_t, wp_newL_f, wp_chain, wp_call, wp_fn, wp_sl, wp_noPart, wp_part, wp_comp, wp_yes, wp_iL, wp_iA, wp_srcL, wp_srcS, wp_srcAL, wp_srcAT, wp_iR1, wp_iR2, wp_rng1, wp_rng2, wp_iRv, wp_srcRL, wp_srcRT, wp_iEA, wp_srcEL, wp_srcET, wp_add, wp_sub, wp_mul, wp_mod, wp_div, wp_divW, wp_pow18, wp_pow17, wp_pow16, wp_pow30, wp_eqI, wp_neI, wp_cmpI, wp_isN, wp_isNotN, wp_lenL, wp_lenT, wp_abs, wp_int, wp_min2, wp_max2, wp_listL, wp_listT, wp_tupleL, wp_tupleT, wp_ixT0, wp_ixT1, wp_ixL0, wp_neg, wp_ok, wp_srcEL, wp_isB, wp_isNotB, wp_eqB, wp_neB, wp_all, wp_any, wp_slT, wp_slL, wp_rev, wp_revT, wp_revL, wp_disp, wp_pair, wp_pair0, wp_dict0, wipeW, List.foldl_cons, List.foldl_nil, wp_run, List.map, List.length, List.replicate, List.cons_append, List.nil_append, List.append_nil, List.set_cons_zero, List.set_cons_succ, if_true, if_false, Bool.not_true, Bool.not_false, Bool.true_eq_false, Bool.false_eq_true, Nat.reduceAdd, Nat.reduceSub, gName', pt_4]
  refine compS_mapT (ys := p.w) (enc := wrW) (fun x => .str x.1) (sz (by omega)) (fun x hx => ⟨_, rfl, ?_⟩) ?_
  · simp only [ws_seq, ws_if, ws_set, ws_sub, ws_ret, ws_retN, ws_expr, ws_sNx, ws_for, wp_op, wp_var0, wp_varS, wp_c, wp_mB, wp_toB, wp_tr, wp_trB_bl, wp_trB_non, wp_trB_int, wp_not, wp_and, wp_or, wp_if, wp_mBl, wp_nil, wp_cons, wp_tup, wp_lst, wp_lstS, wp_newL_t, wp_newL_f, wp_chain, wp_call, wp_fn, wp_sl, wp_noPart, wp_part, wp_comp, wp_yes, wp_iL, wp_iA, wp_srcL, wp_srcS, wp_srcAL, wp_srcAT, wp_iR1, wp_iR2, wp_rng1, wp_rng2, wp_iRv, wp_srcRL, wp_srcRT, wp_iEA, wp_srcEL, wp_srcET, wp_add, wp_sub, wp_mul, wp_mod, wp_div, wp_divW, wp_pow18, wp_pow17, wp_pow16, wp_pow30, wp_eqI, wp_neI, wp_cmpI, wp_isN, wp_isNotN, wp_lenL, wp_lenT, wp_abs, wp_int, wp_min2, wp_max2, wp_listL, wp_listT, wp_tupleL, wp_tupleT, wp_ixT0, wp_ixT1, wp_ixL0, wp_neg, wp_ok, wp_srcEL, wp_isB, wp_isNotB, wp_eqB, wp_neB, wp_all, wp_any, wp_slT, wp_slL, wp_rev, wp_revT, wp_revL, wp_disp, wp_pair, wp_pair0, wp_dict0, wipeW, List.foldl_cons, List.foldl_nil, wp_run, List.map, List.length, List.replicate, List.cons_append, List.nil_append, List.append_nil, List.set_cons_zero, List.set_cons_succ, if_true, if_false, Bool.not_true, Bool.not_false, Bool.true_eq_false, Bool.false_eq_true, Nat.reduceAdd, Nat.reduceSub, gName']
    exact ⟨by trivial, by trivial⟩
  · try simp only [ws_seq, ws_if, ws_set, ws_sub, ws_ret, ws_retN, ws_expr, ws_sNx, ws_for, wp_op, wp_var0, wp_varS, wp_c, wp_mB, wp_toB, wp_tr, wp_trB_bl, wp_trB_non, wp_trB_int, wp_not, wp_and, wp_or, wp_if, wp_mBl, wp_nil, wp_cons, wp_tup, wp_lst, wp_lstS, wp_newL_t, wp_newL_f, wp_chain, wp_call, wp_fn, wp_sl, wp_noPart, wp_part, wp_comp, wp_yes, wp_iL, wp_iA, wp_srcL, wp_srcS, wp_srcAL, wp_srcAT, wp_iR1, wp_iR2, wp_rng1, wp_rng2, wp_iRv, wp_srcRL, wp_srcRT, wp_iEA, wp_srcEL, wp_srcET, wp_add, wp_sub, wp_mul, wp_mod, wp_div, wp_divW, wp_pow18, wp_pow17, wp_pow16, wp_pow30, wp_eqI, wp_neI, wp_cmpI, wp_isN, wp_isNotN, wp_lenL, wp_lenT, wp_abs, wp_int, wp_min2, wp_max2, wp_listL, wp_listT, wp_tupleL, wp_tupleT, wp_ixT0, wp_ixT1, wp_ixL0, wp_neg, wp_ok, wp_srcEL, wp_isB, wp_isNotB, wp_eqB, wp_neB, wp_all, wp_any, wp_slT, wp_slL, wp_rev, wp_revT, wp_revL, wp_disp, wp_pair, wp_pair0, wp_dict0, wipeW, List.foldl_cons, List.foldl_nil, wp_run, List.map, List.length, List.replicate, List.cons_append, List.nil_append, List.append_nil, List.set_cons_zero, List.set_cons_succ, if_true, if_false, Bool.not_true, Bool.not_false, Bool.true_eq_false, Bool.false_eq_true, Nat.reduceAdd, Nat.reduceSub, gName']
    exact ⟨by simp [keysOf], by trivial⟩
end Lw
namespace Lw
open PySem L2 Mi
/-! the law's own ties -/
theorem num_cases {p : Pt} : (p.n = none ∧ numW p.n = .non) ∨ ∃ i, p.n = some i ∧ numW p.n = .int i := by
  cases h : p.n with
  | none => exact .inl ⟨rfl, rfl⟩
  | some i => exact .inr ⟨i, rfl, rfl⟩
end Lw
namespace Lw
open PySem L2 Mi
/-! lost updates -/
def lostB (p q : Pt) : Bool := match p.n, q.n with
  | some i, some j => decide (q.s < i) && (decide (i < j) && p.w.any fun x => wroteB q x.1)
  | _, _ => false
theorem lost_ok {p q : Pt} {a b : Nat} {st : Sto} (ea : st[a]? = some (dn p)) (eb : st[b]? = some (dn q)) (lp : p.w.length ≤ 2) (lq : q.w.length ≤ 2) : r_is_lost [.ref a, .ref b] st = .ok (.bl (lostB p q)) st := by
  refine pure_eq ?_
  simp only [r_is_lost, m_is_lost]
  rw [wp_run]
  simp only [ws_seq, ws_if, ws_set, ws_sub, ws_ret, ws_retN, ws_expr, ws_sNx, ws_for, wp_op, wp_var0, wp_varS, wp_c, wp_mB, wp_toB, wp_tr, wp_trB_bl, wp_trB_non, wp_trB_int, wp_not, wp_and, wp_or, wp_if, wp_mBl, wp_nil, wp_cons, wp_tup, wp_lst, wp_lstS, wp_newL_t, wp_newL_f, wp_chain, wp_call, wp_fn, wp_sl, wp_noPart, wp_part, wp_comp, wp_yes, wp_iL, wp_iA, wp_srcL, wp_srcS, wp_srcAL, wp_srcAT, wp_iR1, wp_iR2, wp_rng1, wp_rng2, wp_iRv, wp_srcRL, wp_srcRT, wp_iEA, wp_srcEL, wp_srcET, wp_add, wp_sub, wp_mul, wp_mod, wp_div, wp_divW, wp_pow18, wp_pow17, wp_pow16, wp_pow30, wp_eqI, wp_neI, wp_cmpI, wp_isN, wp_isNotN, wp_lenL, wp_lenT, wp_abs, wp_int, wp_min2, wp_max2, wp_listL, wp_listT, wp_tupleL, wp_tupleT, wp_ixT0, wp_ixT1, wp_ixL0, wp_neg, wp_ok, wp_srcEL, wp_isB, wp_isNotB, wp_eqB, wp_neB, wp_all, wp_any, wp_slT, wp_slL, wp_rev, wp_revT, wp_revL, wp_disp, wp_pair, wp_pair0, wp_dict0, wipeW, List.foldl_cons, List.foldl_nil, wp_run, List.map, List.length, List.replicate, List.cons_append, List.nil_append, List.append_nil, List.set_cons_zero, List.set_cons_succ, if_true, if_false, Bool.not_true, Bool.not_false, Bool.true_eq_false, Bool.false_eq_true, Nat.reduceAdd, Nat.reduceSub, gName', wp_fldF, f_n ea, f_n eb, f_s eb]
  rcases num_cases (p := p) with ⟨h1, w1⟩ | ⟨i, h1, w1⟩
  · simp only [ws_seq, ws_if, ws_set, ws_sub, ws_ret, ws_retN, ws_expr, ws_sNx, ws_for, wp_op, wp_var0, wp_varS, wp_c, wp_mB, wp_toB, wp_tr, wp_trB_bl, wp_trB_non, wp_trB_int, wp_not, wp_and, wp_or, wp_if, wp_mBl, wp_nil, wp_cons, wp_tup, wp_lst, wp_lstS, wp_newL_t, wp_newL_f, wp_chain, wp_call, wp_fn, wp_sl, wp_noPart, wp_part, wp_comp, wp_yes, wp_iL, wp_iA, wp_srcL, wp_srcS, wp_srcAL, wp_srcAT, wp_iR1, wp_iR2, wp_rng1, wp_rng2, wp_iRv, wp_srcRL, wp_srcRT, wp_iEA, wp_srcEL, wp_srcET, wp_add, wp_sub, wp_mul, wp_mod, wp_div, wp_divW, wp_pow18, wp_pow17, wp_pow16, wp_pow30, wp_eqI, wp_neI, wp_cmpI, wp_isN, wp_isNotN, wp_lenL, wp_lenT, wp_abs, wp_int, wp_min2, wp_max2, wp_listL, wp_listT, wp_tupleL, wp_tupleT, wp_ixT0, wp_ixT1, wp_ixL0, wp_neg, wp_ok, wp_srcEL, wp_isB, wp_isNotB, wp_eqB, wp_neB, wp_all, wp_any, wp_slT, wp_slL, wp_rev, wp_revT, wp_revL, wp_disp, wp_pair, wp_pair0, wp_dict0, wipeW, List.foldl_cons, List.foldl_nil, wp_run, List.map, List.length, List.replicate, List.cons_append, List.nil_append, List.append_nil, List.set_cons_zero, List.set_cons_succ, if_true, if_false, Bool.not_true, Bool.not_false, Bool.true_eq_false, Bool.false_eq_true, Nat.reduceAdd, Nat.reduceSub, gName', w1, Mi.isNon]
    exact ⟨by simp [lostB, h1], by trivial⟩
  · rcases num_cases (p := q) with ⟨h2, w2⟩ | ⟨j, h2, w2⟩
    · simp only [ws_seq, ws_if, ws_set, ws_sub, ws_ret, ws_retN, ws_expr, ws_sNx, ws_for, wp_op, wp_var0, wp_varS, wp_c, wp_mB, wp_toB, wp_tr, wp_trB_bl, wp_trB_non, wp_trB_int, wp_not, wp_and, wp_or, wp_if, wp_mBl, wp_nil, wp_cons, wp_tup, wp_lst, wp_lstS, wp_newL_t, wp_newL_f, wp_chain, wp_call, wp_fn, wp_sl, wp_noPart, wp_part, wp_comp, wp_yes, wp_iL, wp_iA, wp_srcL, wp_srcS, wp_srcAL, wp_srcAT, wp_iR1, wp_iR2, wp_rng1, wp_rng2, wp_iRv, wp_srcRL, wp_srcRT, wp_iEA, wp_srcEL, wp_srcET, wp_add, wp_sub, wp_mul, wp_mod, wp_div, wp_divW, wp_pow18, wp_pow17, wp_pow16, wp_pow30, wp_eqI, wp_neI, wp_cmpI, wp_isN, wp_isNotN, wp_lenL, wp_lenT, wp_abs, wp_int, wp_min2, wp_max2, wp_listL, wp_listT, wp_tupleL, wp_tupleT, wp_ixT0, wp_ixT1, wp_ixL0, wp_neg, wp_ok, wp_srcEL, wp_isB, wp_isNotB, wp_eqB, wp_neB, wp_all, wp_any, wp_slT, wp_slL, wp_rev, wp_revT, wp_revL, wp_disp, wp_pair, wp_pair0, wp_dict0, wipeW, List.foldl_cons, List.foldl_nil, wp_run, List.map, List.length, List.replicate, List.cons_append, List.nil_append, List.append_nil, List.set_cons_zero, List.set_cons_succ, if_true, if_false, Bool.not_true, Bool.not_false, Bool.true_eq_false, Bool.false_eq_true, Nat.reduceAdd, Nat.reduceSub, gName', w1, w2, Mi.isNon]
      exact ⟨by simp [lostB, h1, h2], by trivial⟩
    · simp only [ws_seq, ws_if, ws_set, ws_sub, ws_ret, ws_retN, ws_expr, ws_sNx, ws_for, wp_op, wp_var0, wp_varS, wp_c, wp_mB, wp_toB, wp_tr, wp_trB_bl, wp_trB_non, wp_trB_int, wp_not, wp_and, wp_or, wp_if, wp_mBl, wp_nil, wp_cons, wp_tup, wp_lst, wp_lstS, wp_newL_t, wp_newL_f, wp_chain, wp_call, wp_fn, wp_sl, wp_noPart, wp_part, wp_comp, wp_yes, wp_iL, wp_iA, wp_srcL, wp_srcS, wp_srcAL, wp_srcAT, wp_iR1, wp_iR2, wp_rng1, wp_rng2, wp_iRv, wp_srcRL, wp_srcRT, wp_iEA, wp_srcEL, wp_srcET, wp_add, wp_sub, wp_mul, wp_mod, wp_div, wp_divW, wp_pow18, wp_pow17, wp_pow16, wp_pow30, wp_eqI, wp_neI, wp_cmpI, wp_isN, wp_isNotN, wp_lenL, wp_lenT, wp_abs, wp_int, wp_min2, wp_max2, wp_listL, wp_listT, wp_tupleL, wp_tupleT, wp_ixT0, wp_ixT1, wp_ixL0, wp_neg, wp_ok, wp_srcEL, wp_isB, wp_isNotB, wp_eqB, wp_neB, wp_all, wp_any, wp_slT, wp_slL, wp_rev, wp_revT, wp_revL, wp_disp, wp_pair, wp_pair0, wp_dict0, wipeW, List.foldl_cons, List.foldl_nil, wp_run, List.map, List.length, List.replicate, List.cons_append, List.nil_append, List.append_nil, List.set_cons_zero, List.set_cons_succ, if_true, if_false, Bool.not_true, Bool.not_false, Bool.true_eq_false, Bool.false_eq_true, Nat.reduceAdd, Nat.reduceSub, gName', w1, w2, Mi.isNon]
      by_cases h3 : q.s < i
      · by_cases h4 : i < j
        · simp only [ws_seq, ws_if, ws_set, ws_sub, ws_ret, ws_retN, ws_expr, ws_sNx, ws_for, wp_op, wp_var0, wp_varS, wp_c, wp_mB, wp_toB, wp_tr, wp_trB_bl, wp_trB_non, wp_trB_int, wp_not, wp_and, wp_or, wp_if, wp_mBl, wp_nil, wp_cons, wp_tup, wp_lst, wp_lstS, wp_newL_t, wp_newL_f, wp_chain, wp_call, wp_fn, wp_sl, wp_noPart, wp_part, wp_comp, wp_yes, wp_iL, wp_iA, wp_srcL, wp_srcS, wp_srcAL, wp_srcAT, wp_iR1, wp_iR2, wp_rng1, wp_rng2, wp_iRv, wp_srcRL, wp_srcRT, wp_iEA, wp_srcEL, wp_srcET, wp_add, wp_sub, wp_mul, wp_mod, wp_div, wp_divW, wp_pow18, wp_pow17, wp_pow16, wp_pow30, wp_eqI, wp_neI, wp_cmpI, wp_isN, wp_isNotN, wp_lenL, wp_lenT, wp_abs, wp_int, wp_min2, wp_max2, wp_listL, wp_listT, wp_tupleL, wp_tupleT, wp_ixT0, wp_ixT1, wp_ixL0, wp_neg, wp_ok, wp_srcEL, wp_isB, wp_isNotB, wp_eqB, wp_neB, wp_all, wp_any, wp_slT, wp_slL, wp_rev, wp_revT, wp_revL, wp_disp, wp_pair, wp_pair0, wp_dict0, wipeW, List.foldl_cons, List.foldl_nil, wp_run, List.map, List.length, List.replicate, List.cons_append, List.nil_append, List.append_nil, List.set_cons_zero, List.set_cons_succ, if_true, if_false, Bool.not_true, Bool.not_false, Bool.true_eq_false, Bool.false_eq_true, Nat.reduceAdd, Nat.reduceSub, gName', decide_eq_true h3, decide_eq_true h4, f_n eb, w2]
          simp only [mComp2]
          rw [wp_bind]
          simp only [ws_seq, ws_if, ws_set, ws_sub, ws_ret, ws_retN, ws_expr, ws_sNx, ws_for, wp_op, wp_var0, wp_varS, wp_c, wp_mB, wp_toB, wp_tr, wp_trB_bl, wp_trB_non, wp_trB_int, wp_not, wp_and, wp_or, wp_if, wp_mBl, wp_nil, wp_cons, wp_tup, wp_lst, wp_lstS, wp_newL_t, wp_newL_f, wp_chain, wp_call, wp_fn, wp_sl, wp_noPart, wp_part, wp_comp, wp_yes, wp_iL, wp_iA, wp_srcL, wp_srcS, wp_srcAL, wp_srcAT, wp_iR1, wp_iR2, wp_rng1, wp_rng2, wp_iRv, wp_srcRL, wp_srcRT, wp_iEA, wp_srcEL, wp_srcET, wp_add, wp_sub, wp_mul, wp_mod, wp_div, wp_divW, wp_pow18, wp_pow17, wp_pow16, wp_pow30, wp_eqI, wp_neI, wp_cmpI, wp_isN, wp_isNotN, wp_lenL, wp_lenT, wp_abs, wp_int, wp_min2, wp_max2, wp_listL, wp_listT, wp_tupleL, wp_tupleT, wp_ixT0, wp_ixT1, wp_ixL0, wp_neg, wp_ok, wp_srcEL, wp_isB, wp_isNotB, wp_eqB, wp_neB, wp_all, wp_any, wp_slT, wp_slL, wp_rev, wp_revT, wp_revL, wp_disp, wp_pair, wp_pair0, wp_dict0, wipeW, List.foldl_cons, List.foldl_nil, wp_run, List.map, List.length, List.replicate, List.cons_append, List.nil_append, List.append_nil, List.set_cons_zero, List.set_cons_succ, if_true, if_false, Bool.not_true, Bool.not_false, Bool.true_eq_false, Bool.false_eq_true, Nat.reduceAdd, Nat.reduceSub, gName', wp_fldF, f_w ea]
          rw [wp_bind]
          have src : ∀ (o : Option W) (x : Str × W), iT (mFld [3] "writes" (mVar 1)) [some (.ref a), some (.ref b), some (wrW x), o] st = .ok (fixS (q.w.map wrW)) st := by
            intro o x
            have e1 : mFld [3] "writes" (mVar 1) [some (.ref a), some (.ref b), some (wrW x), o] st = .ok (wW q) st := by
              refine pure_eq (wp_fldF.mpr ?_)
              simp only [ws_seq, ws_if, ws_set, ws_sub, ws_ret, ws_retN, ws_expr, ws_sNx, ws_for, wp_op, wp_var0, wp_varS, wp_c, wp_mB, wp_toB, wp_tr, wp_trB_bl, wp_trB_non, wp_trB_int, wp_not, wp_and, wp_or, wp_if, wp_mBl, wp_nil, wp_cons, wp_tup, wp_lst, wp_lstS, wp_newL_t, wp_newL_f, wp_chain, wp_call, wp_fn, wp_sl, wp_noPart, wp_part, wp_comp, wp_yes, wp_iL, wp_iA, wp_srcL, wp_srcS, wp_srcAL, wp_srcAT, wp_iR1, wp_iR2, wp_rng1, wp_rng2, wp_iRv, wp_srcRL, wp_srcRT, wp_iEA, wp_srcEL, wp_srcET, wp_add, wp_sub, wp_mul, wp_mod, wp_div, wp_divW, wp_pow18, wp_pow17, wp_pow16, wp_pow30, wp_eqI, wp_neI, wp_cmpI, wp_isN, wp_isNotN, wp_lenL, wp_lenT, wp_abs, wp_int, wp_min2, wp_max2, wp_listL, wp_listT, wp_tupleL, wp_tupleT, wp_ixT0, wp_ixT1, wp_ixL0, wp_neg, wp_ok, wp_srcEL, wp_isB, wp_isNotB, wp_eqB, wp_neB, wp_all, wp_any, wp_slT, wp_slL, wp_rev, wp_revT, wp_revL, wp_disp, wp_pair, wp_pair0, wp_dict0, wipeW, List.foldl_cons, List.foldl_nil, wp_run, List.map, List.length, List.replicate, List.cons_append, List.nil_append, List.append_nil, List.set_cons_zero, List.set_cons_succ, if_true, if_false, Bool.not_true, Bool.not_false, Bool.true_eq_false, Bool.false_eq_true, Nat.reduceAdd, Nat.reduceSub, gName', f_w eb]
              exact ⟨by trivial, by trivial⟩
            simp only [iT, e1, Rs.bind]
          have key := compS2_acc (st := st) (src := fixS (p.w.map wrW)) (ys := p.w) (enc := wrW) (zs := fun _ => q.w) (enc1 := wrW) (f := fun y z => W.bl (decide (y.1 = z.1))) (t := .one 2) (t1 := .one 3) (mi1 := iT (mFld [3] "writes" (mVar 1))) (vs1 := [3]) (elt := mOp (wEq) (mOp wIx (mVar 2) (mC (.int 0))) (mOp wIx (mVar 3) (mC (.int 0)))) (env := [some (.ref a), some (.ref b), none, none])
            (fun i => rfl)
            (fun y hy => ⟨_, _, rfl, src none y, by simp [fixS], fun i => rfl, fun z hz => ⟨_, rfl, by
              refine pure_eq ?_
              simp only [ws_seq, ws_if, ws_set, ws_sub, ws_ret, ws_retN, ws_expr, ws_sNx, ws_for, wp_op, wp_var0, wp_varS, wp_c, wp_mB, wp_toB, wp_tr, wp_trB_bl, wp_trB_non, wp_trB_int, wp_not, wp_and, wp_or, wp_if, wp_mBl, wp_nil, wp_cons, wp_tup, wp_lst, wp_lstS, wp_newL_t, wp_newL_f, wp_chain, wp_call, wp_fn, wp_sl, wp_noPart, wp_part, wp_comp, wp_yes, wp_iL, wp_iA, wp_srcL, wp_srcS, wp_srcAL, wp_srcAT, wp_iR1, wp_iR2, wp_rng1, wp_rng2, wp_iRv, wp_srcRL, wp_srcRT, wp_iEA, wp_srcEL, wp_srcET, wp_add, wp_sub, wp_mul, wp_mod, wp_div, wp_divW, wp_pow18, wp_pow17, wp_pow16, wp_pow30, wp_eqI, wp_neI, wp_cmpI, wp_isN, wp_isNotN, wp_lenL, wp_lenT, wp_abs, wp_int, wp_min2, wp_max2, wp_listL, wp_listT, wp_tupleL, wp_tupleT, wp_ixT0, wp_ixT1, wp_ixL0, wp_neg, wp_ok, wp_srcEL, wp_isB, wp_isNotB, wp_eqB, wp_neB, wp_all, wp_any, wp_slT, wp_slL, wp_rev, wp_revT, wp_revL, wp_disp, wp_pair, wp_pair0, wp_dict0, wipeW, List.foldl_cons, List.foldl_nil, wp_run, List.map, List.length, List.replicate, List.cons_append, List.nil_append, List.append_nil, List.set_cons_zero, List.set_cons_succ, if_true, if_false, Bool.not_true, Bool.not_false, Bool.true_eq_false, Bool.false_eq_true, Nat.reduceAdd, Nat.reduceSub, gName']
              simp only [wrW]
              simp only [ws_seq, ws_if, ws_set, ws_sub, ws_ret, ws_retN, ws_expr, ws_sNx, ws_for, wp_op, wp_var0, wp_varS, wp_c, wp_mB, wp_toB, wp_tr, wp_trB_bl, wp_trB_non, wp_trB_int, wp_not, wp_and, wp_or, wp_if, wp_mBl, wp_nil, wp_cons, wp_tup, wp_lst, wp_lstS, wp_newL_t, wp_newL_f, wp_chain, wp_call, wp_fn, wp_sl, wp_noPart, wp_part, wp_comp, wp_yes, wp_iL, wp_iA, wp_srcL, wp_srcS, wp_srcAL, wp_srcAT, wp_iR1, wp_iR2, wp_rng1, wp_rng2, wp_iRv, wp_srcRL, wp_srcRT, wp_iEA, wp_srcEL, wp_srcET, wp_add, wp_sub, wp_mul, wp_mod, wp_div, wp_divW, wp_pow18, wp_pow17, wp_pow16, wp_pow30, wp_eqI, wp_neI, wp_cmpI, wp_isN, wp_isNotN, wp_lenL, wp_lenT, wp_abs, wp_int, wp_min2, wp_max2, wp_listL, wp_listT, wp_tupleL, wp_tupleT, wp_ixT0, wp_ixT1, wp_ixL0, wp_neg, wp_ok, wp_srcEL, wp_isB, wp_isNotB, wp_eqB, wp_neB, wp_all, wp_any, wp_slT, wp_slL, wp_rev, wp_revT, wp_revL, wp_disp, wp_pair, wp_pair0, wp_dict0, wipeW, List.foldl_cons, List.foldl_nil, wp_run, List.map, List.length, List.replicate, List.cons_append, List.nil_append, List.append_nil, List.set_cons_zero, List.set_cons_succ, if_true, if_false, Bool.not_true, Bool.not_false, Bool.true_eq_false, Bool.false_eq_true, Nat.reduceAdd, Nat.reduceSub, gName', eqS]
              exact ⟨by trivial, by trivial⟩⟩⟩)
            (fixS (p.w.map wrW)).fuel 0 [] (by simp [fixS]) (Nat.zero_le _) (by
              have h1 : ∀ l : List (Str × W), (l.flatMap fun _ : Str × W => q.w).length ≤ 2 * l.length := by
                intro l
                induction l with
                | nil => simp
                | cons x l ih => rw [List.flatMap_cons, List.length_append, List.length_cons]; omega
              have h1 := h1 p.w
              simp only [List.drop_zero, List.length_nil, sizeLine]; omega)
          rw [List.drop_zero, List.nil_append] at key
          rw [key]
          have e2 : (p.w.flatMap fun y => q.w.map fun z => W.bl (decide (y.1 = z.1))) = (p.w.flatMap fun y => q.w.map fun z => decide (y.1 = z.1)).map W.bl := by
            rw [List.map_flatMap]
            congr 1
            funext y
            rw [List.map_map]; rfl
          rw [e2]
          simp only [ws_seq, ws_if, ws_set, ws_sub, ws_ret, ws_retN, ws_expr, ws_sNx, ws_for, wp_op, wp_var0, wp_varS, wp_c, wp_mB, wp_toB, wp_tr, wp_trB_bl, wp_trB_non, wp_trB_int, wp_not, wp_and, wp_or, wp_if, wp_mBl, wp_nil, wp_cons, wp_tup, wp_lst, wp_lstS, wp_newL_t, wp_newL_f, wp_chain, wp_call, wp_fn, wp_sl, wp_noPart, wp_part, wp_comp, wp_yes, wp_iL, wp_iA, wp_srcL, wp_srcS, wp_srcAL, wp_srcAT, wp_iR1, wp_iR2, wp_rng1, wp_rng2, wp_iRv, wp_srcRL, wp_srcRT, wp_iEA, wp_srcEL, wp_srcET, wp_add, wp_sub, wp_mul, wp_mod, wp_div, wp_divW, wp_pow18, wp_pow17, wp_pow16, wp_pow30, wp_eqI, wp_neI, wp_cmpI, wp_isN, wp_isNotN, wp_lenL, wp_lenT, wp_abs, wp_int, wp_min2, wp_max2, wp_listL, wp_listT, wp_tupleL, wp_tupleT, wp_ixT0, wp_ixT1, wp_ixL0, wp_neg, wp_ok, wp_srcEL, wp_isB, wp_isNotB, wp_eqB, wp_neB, wp_all, wp_any, wp_slT, wp_slL, wp_rev, wp_revT, wp_revL, wp_disp, wp_pair, wp_pair0, wp_dict0, wipeW, List.foldl_cons, List.foldl_nil, wp_run, List.map, List.length, List.replicate, List.cons_append, List.nil_append, List.append_nil, List.set_cons_zero, List.set_cons_succ, if_true, if_false, Bool.not_true, Bool.not_false, Bool.true_eq_false, Bool.false_eq_true, Nat.reduceAdd, Nat.reduceSub, gName', List.map_map]
          refine ⟨?_, by trivial⟩
          have e3 : ((p.w.flatMap fun y => q.w.map fun z => decide (y.1 = z.1)).any id) = p.w.any fun x => wroteB q x.1 := by
            rw [List.any_flatMap]
            congr 1
            funext y
            rw [List.any_map, wroteB]
            congr 1
            funext z
            simp [eq_comm]
          rw [e3]
          simp [lostB, h1, h2, h3, h4]
        · simp only [ws_seq, ws_if, ws_set, ws_sub, ws_ret, ws_retN, ws_expr, ws_sNx, ws_for, wp_op, wp_var0, wp_varS, wp_c, wp_mB, wp_toB, wp_tr, wp_trB_bl, wp_trB_non, wp_trB_int, wp_not, wp_and, wp_or, wp_if, wp_mBl, wp_nil, wp_cons, wp_tup, wp_lst, wp_lstS, wp_newL_t, wp_newL_f, wp_chain, wp_call, wp_fn, wp_sl, wp_noPart, wp_part, wp_comp, wp_yes, wp_iL, wp_iA, wp_srcL, wp_srcS, wp_srcAL, wp_srcAT, wp_iR1, wp_iR2, wp_rng1, wp_rng2, wp_iRv, wp_srcRL, wp_srcRT, wp_iEA, wp_srcEL, wp_srcET, wp_add, wp_sub, wp_mul, wp_mod, wp_div, wp_divW, wp_pow18, wp_pow17, wp_pow16, wp_pow30, wp_eqI, wp_neI, wp_cmpI, wp_isN, wp_isNotN, wp_lenL, wp_lenT, wp_abs, wp_int, wp_min2, wp_max2, wp_listL, wp_listT, wp_tupleL, wp_tupleT, wp_ixT0, wp_ixT1, wp_ixL0, wp_neg, wp_ok, wp_srcEL, wp_isB, wp_isNotB, wp_eqB, wp_neB, wp_all, wp_any, wp_slT, wp_slL, wp_rev, wp_revT, wp_revL, wp_disp, wp_pair, wp_pair0, wp_dict0, wipeW, List.foldl_cons, List.foldl_nil, wp_run, List.map, List.length, List.replicate, List.cons_append, List.nil_append, List.append_nil, List.set_cons_zero, List.set_cons_succ, if_true, if_false, Bool.not_true, Bool.not_false, Bool.true_eq_false, Bool.false_eq_true, Nat.reduceAdd, Nat.reduceSub, gName', decide_eq_true h3, decide_eq_false h4, f_n eb, w2]
          exact ⟨by simp [lostB, h1, h2, h4], by trivial⟩
      · simp only [ws_seq, ws_if, ws_set, ws_sub, ws_ret, ws_retN, ws_expr, ws_sNx, ws_for, wp_op, wp_var0, wp_varS, wp_c, wp_mB, wp_toB, wp_tr, wp_trB_bl, wp_trB_non, wp_trB_int, wp_not, wp_and, wp_or, wp_if, wp_mBl, wp_nil, wp_cons, wp_tup, wp_lst, wp_lstS, wp_newL_t, wp_newL_f, wp_chain, wp_call, wp_fn, wp_sl, wp_noPart, wp_part, wp_comp, wp_yes, wp_iL, wp_iA, wp_srcL, wp_srcS, wp_srcAL, wp_srcAT, wp_iR1, wp_iR2, wp_rng1, wp_rng2, wp_iRv, wp_srcRL, wp_srcRT, wp_iEA, wp_srcEL, wp_srcET, wp_add, wp_sub, wp_mul, wp_mod, wp_div, wp_divW, wp_pow18, wp_pow17, wp_pow16, wp_pow30, wp_eqI, wp_neI, wp_cmpI, wp_isN, wp_isNotN, wp_lenL, wp_lenT, wp_abs, wp_int, wp_min2, wp_max2, wp_listL, wp_listT, wp_tupleL, wp_tupleT, wp_ixT0, wp_ixT1, wp_ixL0, wp_neg, wp_ok, wp_srcEL, wp_isB, wp_isNotB, wp_eqB, wp_neB, wp_all, wp_any, wp_slT, wp_slL, wp_rev, wp_revT, wp_revL, wp_disp, wp_pair, wp_pair0, wp_dict0, wipeW, List.foldl_cons, List.foldl_nil, wp_run, List.map, List.length, List.replicate, List.cons_append, List.nil_append, List.append_nil, List.set_cons_zero, List.set_cons_succ, if_true, if_false, Bool.not_true, Bool.not_false, Bool.true_eq_false, Bool.false_eq_true, Nat.reduceAdd, Nat.reduceSub, gName', decide_eq_false h3]
        exact ⟨by simp [lostB, h1, h2, h3], by trivial⟩
/-! all pairs -/
def tie2 (R : Pt → Pt → Bool) (ps : List Pt) (i j : Nat) : Bool := match ps[i]?, ps[j]? with
  | some p, some q => R p q
  | _, _ => false
def rowOfR (ps : List Pt) (i n : Nat) : List Nat := (List.range n).filter (tie2 lostB ps i)
def pW (x : Nat × Nat) : W := .tup [.int (x.1 : Int), .int (x.2 : Int)]
def lostP (ps : List Pt) (i : Nat) : List (Nat × Nat) := (List.range i).flatMap fun i => (rowOfR ps i ps.length).map fun j => (i, j)
theorem rowR_len {ps : List Pt} {i n : Nat} : (rowOfR ps i n).length ≤ n := by
  refine Nat.le_trans (List.length_filter_le ..) ?_
  rw [List.length_range]; exact Nat.le_refl _
theorem flat_len {α β : Type} {f : α → List β} {n : Nat} : ∀ {l : List α}, (∀ x ∈ l, (f x).length ≤ n) → (l.flatMap f).length ≤ n * l.length
  | [], _ => by simp
  | x :: l, h => by
    have h1 := h x List.mem_cons_self
    have h2 := flat_len (f := f) (n := n) (l := l) fun y hy => h y (List.mem_cons_of_mem _ hy)
    rw [List.flatMap_cons, List.length_append, List.length_cons, Nat.mul_succ]
    omega
theorem lostP_len {ps : List Pt} {i : Nat} (hl : ps.length ≤ 20) (hi : i ≤ ps.length) : (lostP ps i).length ≤ 400 := by
  have h1 : (lostP ps i).length ≤ 20 * (List.range i).length := flat_len fun k _ => by
    rw [List.length_map]; exact Nat.le_trans rowR_len hl
  rw [List.length_range] at h1
  omega
theorem lostP_next {ps : List Pt} {i : Nat} : lostP ps (i + 1) = lostP ps i ++ (rowOfR ps i ps.length).map fun j => (i, j) := by
  rw [lostP, List.range_succ, List.flatMap_append]
  simp [lostP]
theorem rowR_next {ps : List Pt} {i j : Nat} : rowOfR ps i (j + 1) = if tie2 lostB ps i j = true then rowOfR ps i j ++ [j] else rowOfR ps i j := by
  rw [rowOfR, List.range_succ, List.filter_append]
  cases h : tie2 lostB ps i j <;> simp [h, rowOfR]
/-- what is found behind some rows and a part of the next one -/
def soFar (ps : List Pt) (i j : Nat) : List W := (lostP ps i ++ (rowOfR ps i j).map fun k => (i, k)).map pW
theorem soFar_0 {ps : List Pt} {i : Nat} : soFar ps i 0 = (lostP ps i).map pW := by simp [soFar, rowOfR]
theorem soFar_n {ps : List Pt} {i : Nat} : soFar ps i ps.length = (lostP ps (i + 1)).map pW := by rw [soFar, lostP_next]
theorem soFar_next {ps : List Pt} {i j : Nat} : soFar ps i (j + 1) = if tie2 lostB ps i j = true then soFar ps i j ++ [pW (i, j)] else soFar ps i j := by
  rw [soFar, rowR_next]
  cases tie2 lostB ps i j <;> simp [soFar]
theorem soFar_len {ps : List Pt} {i j : Nat} (hl : ps.length ≤ 20) (hi : i ≤ ps.length) (hj : j ≤ 20) : (soFar ps i j).length < 1000 := by
  have h1 := lostP_len hl hi
  have h2 := rowR_len (ps := ps) (i := i) (n := j)
  rw [soFar, List.length_map, List.length_append, List.length_map]
  omega
theorem updates_ok {hs : List (Nat × Pt)} {st : Sto} (ho : HO st hs) (hh : Hist 0 (hs.map (·.2))) (hl : hs.length ≤ 20) : wp (r_lost_updates [mdW hs] st) (fun w s => ∃ f, w = .ref f ∧ s[f]? = some (.lst ((lostP (hs.map (·.2)) hs.length).map pW)) ∧ Ext st s) NoE := by
  have hl' : (hs.map (·.2)).length ≤ 20 := by simpa using hl
  have few : ∀ x ∈ hs, x.2.w.length ≤ 2 := by
    intro x hx
    obtain ⟨j, hj, e⟩ := List.getElem_of_mem hx
    exact (hh.at (i := j) (p := x.2) (by rw [List.getElem?_map, List.getElem?_eq_getElem hj, e]; rfl)).wr.few
  have enat : ∀ {i : Nat} {w : W}, (enL (hs.map fun x => W.ref x.1))[i]? = some w → ∃ x, hs[i]? = some x ∧ w = .tup [.int (i : Int), .ref x.1] := by
    intro i w ew
    have il : i < hs.length := by
      have := (List.getElem?_eq_some_iff.mp ew).1
      simpa [enL] using this
    refine ⟨hs[i], List.getElem?_eq_getElem il, ?_⟩
    unfold enL at ew
    rw [List.getElem?_map, List.getElem?_range (by simpa using il)] at ew
    simp only [Option.map_some, Option.some.injEq] at ew
    rw [← ew]
    simp [List.getD, il]
  have lE : (enL (hs.map fun x => W.ref x.1)).length = (hs.map (·.2)).length := by simp [enL]
  simp only [r_lost_updates, m_lost_updates]
  rw [wp_run]
  simp only [ws_seq, ws_if, ws_set, ws_sub, ws_ret, ws_retN, ws_expr, ws_sNx, ws_for, wp_op, wp_var0, wp_varS, wp_c, wp_mB, wp_toB, wp_tr, wp_trB_bl, wp_trB_non, wp_trB_int, wp_not, wp_and, wp_or, wp_if, wp_mBl, wp_nil, wp_cons, wp_tup, wp_lst, wp_lstS, wp_newL_t, wp_newL_f, wp_chain, wp_call, wp_fn, wp_sl, wp_noPart, wp_part, wp_comp, wp_yes, wp_iL, wp_iA, wp_srcL, wp_srcS, wp_srcAL, wp_srcAT, wp_iR1, wp_iR2, wp_rng1, wp_rng2, wp_iRv, wp_srcRL, wp_srcRT, wp_iEA, wp_srcEL, wp_srcET, wp_add, wp_sub, wp_mul, wp_mod, wp_div, wp_divW, wp_pow18, wp_pow17, wp_pow16, wp_pow30, wp_eqI, wp_neI, wp_cmpI, wp_isN, wp_isNotN, wp_lenL, wp_lenT, wp_abs, wp_int, wp_min2, wp_max2, wp_listL, wp_listT, wp_tupleL, wp_tupleT, wp_ixT0, wp_ixT1, wp_ixL0, wp_neg, wp_ok, wp_srcEL, wp_isB, wp_isNotB, wp_eqB, wp_neB, wp_all, wp_any, wp_slT, wp_slL, wp_rev, wp_revT, wp_revL, wp_disp, wp_pair, wp_pair0, wp_dict0, wipeW, List.foldl_cons, List.foldl_nil, wp_run, List.map, List.length, List.replicate, List.cons_append, List.nil_append, List.append_nil, List.set_cons_zero, List.set_cons_succ, if_true, if_false, Bool.not_true, Bool.not_false, Bool.true_eq_false, Bool.false_eq_true, Nat.reduceAdd, Nat.reduceSub, gName', dhist_ok ho hh hl]
  refine forS_fix (fun i e s => ∃ o2 o3 o4 o5 : Option W, e = [some (mdW hs), some (.ref st.length), o2, o3, o4, o5] ∧ s[st.length]? = some (.lst ((lostP (hs.map (·.2)) i).map pW)) ∧ Ext st s)
    ⟨none, none, none, none, rfl, get_new, Ext.app⟩ (fun i w ew env s z => ?_) (fun env s z => ?_)
  · obtain ⟨o2, o3, o4, o5, rfl, z1, x⟩ := z
    obtain ⟨a, ea, rfl⟩ := enat ew
    have il := (List.getElem?_eq_some_iff.mp ea).1
    refine ⟨_, _, rfl, ?_⟩
    simp only [ws_seq, ws_if, ws_set, ws_sub, ws_ret, ws_retN, ws_expr, ws_sNx, ws_for, wp_op, wp_var0, wp_varS, wp_c, wp_mB, wp_toB, wp_tr, wp_trB_bl, wp_trB_non, wp_trB_int, wp_not, wp_and, wp_or, wp_if, wp_mBl, wp_nil, wp_cons, wp_tup, wp_lst, wp_lstS, wp_newL_t, wp_newL_f, wp_chain, wp_call, wp_fn, wp_sl, wp_noPart, wp_part, wp_comp, wp_yes, wp_iL, wp_iA, wp_srcL, wp_srcS, wp_srcAL, wp_srcAT, wp_iR1, wp_iR2, wp_rng1, wp_rng2, wp_iRv, wp_srcRL, wp_srcRT, wp_iEA, wp_srcEL, wp_srcET, wp_add, wp_sub, wp_mul, wp_mod, wp_div, wp_divW, wp_pow18, wp_pow17, wp_pow16, wp_pow30, wp_eqI, wp_neI, wp_cmpI, wp_isN, wp_isNotN, wp_lenL, wp_lenT, wp_abs, wp_int, wp_min2, wp_max2, wp_listL, wp_listT, wp_tupleL, wp_tupleT, wp_ixT0, wp_ixT1, wp_ixL0, wp_neg, wp_ok, wp_srcEL, wp_isB, wp_isNotB, wp_eqB, wp_neB, wp_all, wp_any, wp_slT, wp_slL, wp_rev, wp_revT, wp_revL, wp_disp, wp_pair, wp_pair0, wp_dict0, wipeW, List.foldl_cons, List.foldl_nil, wp_run, List.map, List.length, List.replicate, List.cons_append, List.nil_append, List.append_nil, List.set_cons_zero, List.set_cons_succ, if_true, if_false, Bool.not_true, Bool.not_false, Bool.true_eq_false, Bool.false_eq_true, Nat.reduceAdd, Nat.reduceSub, gName']
    refine forS_fix (fun j e s => ∃ o4 o5 : Option W, e = [some (mdW hs), some (.ref st.length), some (.int (i : Int)), some (.ref a.1), o4, o5] ∧ s[st.length]? = some (.lst (soFar (hs.map (·.2)) i j)) ∧ Ext st s)
      ⟨_, _, rfl, by rw [soFar_0]; exact z1, x⟩ (fun j w ew2 env s z => ?_) (fun env s z => ?_)
    · obtain ⟨o4, o5, rfl, z1, x⟩ := z
      obtain ⟨b, eb, rfl⟩ := enat ew2
      have jl := (List.getElem?_eq_some_iff.mp eb).1
      have ha := List.mem_of_getElem? ea
      have hb := List.mem_of_getElem? eb
      have ht : tie2 lostB (hs.map (·.2)) i j = lostB a.2 b.2 := by simp [tie2, ea, eb]
      refine ⟨_, _, rfl, ?_⟩
      simp only [ws_seq, ws_if, ws_set, ws_sub, ws_ret, ws_retN, ws_expr, ws_sNx, ws_for, wp_op, wp_var0, wp_varS, wp_c, wp_mB, wp_toB, wp_tr, wp_trB_bl, wp_trB_non, wp_trB_int, wp_not, wp_and, wp_or, wp_if, wp_mBl, wp_nil, wp_cons, wp_tup, wp_lst, wp_lstS, wp_newL_t, wp_newL_f, wp_chain, wp_call, wp_fn, wp_sl, wp_noPart, wp_part, wp_comp, wp_yes, wp_iL, wp_iA, wp_srcL, wp_srcS, wp_srcAL, wp_srcAT, wp_iR1, wp_iR2, wp_rng1, wp_rng2, wp_iRv, wp_srcRL, wp_srcRT, wp_iEA, wp_srcEL, wp_srcET, wp_add, wp_sub, wp_mul, wp_mod, wp_div, wp_divW, wp_pow18, wp_pow17, wp_pow16, wp_pow30, wp_eqI, wp_neI, wp_cmpI, wp_isN, wp_isNotN, wp_lenL, wp_lenT, wp_abs, wp_int, wp_min2, wp_max2, wp_listL, wp_listT, wp_tupleL, wp_tupleT, wp_ixT0, wp_ixT1, wp_ixL0, wp_neg, wp_ok, wp_srcEL, wp_isB, wp_isNotB, wp_eqB, wp_neB, wp_all, wp_any, wp_slT, wp_slL, wp_rev, wp_revT, wp_revL, wp_disp, wp_pair, wp_pair0, wp_dict0, wipeW, List.foldl_cons, List.foldl_nil, wp_run, List.map, List.length, List.replicate, List.cons_append, List.nil_append, List.append_nil, List.set_cons_zero, List.set_cons_succ, if_true, if_false, Bool.not_true, Bool.not_false, Bool.true_eq_false, Bool.false_eq_true, Nat.reduceAdd, Nat.reduceSub, gName', lost_ok (x.2 _ _ (ho a ha)) (x.2 _ _ (ho b hb)) (few a ha) (few b hb)]
      cases hc : lostB a.2 b.2 with
      | false =>
        simp only [ws_seq, ws_if, ws_set, ws_sub, ws_ret, ws_retN, ws_expr, ws_sNx, ws_for, wp_op, wp_var0, wp_varS, wp_c, wp_mB, wp_toB, wp_tr, wp_trB_bl, wp_trB_non, wp_trB_int, wp_not, wp_and, wp_or, wp_if, wp_mBl, wp_nil, wp_cons, wp_tup, wp_lst, wp_lstS, wp_newL_t, wp_newL_f, wp_chain, wp_call, wp_fn, wp_sl, wp_noPart, wp_part, wp_comp, wp_yes, wp_iL, wp_iA, wp_srcL, wp_srcS, wp_srcAL, wp_srcAT, wp_iR1, wp_iR2, wp_rng1, wp_rng2, wp_iRv, wp_srcRL, wp_srcRT, wp_iEA, wp_srcEL, wp_srcET, wp_add, wp_sub, wp_mul, wp_mod, wp_div, wp_divW, wp_pow18, wp_pow17, wp_pow16, wp_pow30, wp_eqI, wp_neI, wp_cmpI, wp_isN, wp_isNotN, wp_lenL, wp_lenT, wp_abs, wp_int, wp_min2, wp_max2, wp_listL, wp_listT, wp_tupleL, wp_tupleT, wp_ixT0, wp_ixT1, wp_ixL0, wp_neg, wp_ok, wp_srcEL, wp_isB, wp_isNotB, wp_eqB, wp_neB, wp_all, wp_any, wp_slT, wp_slL, wp_rev, wp_revT, wp_revL, wp_disp, wp_pair, wp_pair0, wp_dict0, wipeW, List.foldl_cons, List.foldl_nil, wp_run, List.map, List.length, List.replicate, List.cons_append, List.nil_append, List.append_nil, List.set_cons_zero, List.set_cons_succ, if_true, if_false, Bool.not_true, Bool.not_false, Bool.true_eq_false, Bool.false_eq_true, Nat.reduceAdd, Nat.reduceSub, gName']
        exact ⟨_, _, rfl, by rw [soFar_next, ht, hc]; exact z1, x⟩
      | true =>
        have hq : seqL s (.ref st.length) = some (soFar (hs.map (·.2)) i j) := by simp only [seqL, z1]
        simp only [ws_seq, ws_if, ws_set, ws_sub, ws_ret, ws_retN, ws_expr, ws_sNx, ws_for, wp_op, wp_var0, wp_varS, wp_c, wp_mB, wp_toB, wp_tr, wp_trB_bl, wp_trB_non, wp_trB_int, wp_not, wp_and, wp_or, wp_if, wp_mBl, wp_nil, wp_cons, wp_tup, wp_lst, wp_lstS, wp_newL_t, wp_newL_f, wp_chain, wp_call, wp_fn, wp_sl, wp_noPart, wp_part, wp_comp, wp_yes, wp_iL, wp_iA, wp_srcL, wp_srcS, wp_srcAL, wp_srcAT, wp_iR1, wp_iR2, wp_rng1, wp_rng2, wp_iRv, wp_srcRL, wp_srcRT, wp_iEA, wp_srcEL, wp_srcET, wp_add, wp_sub, wp_mul, wp_mod, wp_div, wp_divW, wp_pow18, wp_pow17, wp_pow16, wp_pow30, wp_eqI, wp_neI, wp_cmpI, wp_isN, wp_isNotN, wp_lenL, wp_lenT, wp_abs, wp_int, wp_min2, wp_max2, wp_listL, wp_listT, wp_tupleL, wp_tupleT, wp_ixT0, wp_ixT1, wp_ixL0, wp_neg, wp_ok, wp_srcEL, wp_isB, wp_isNotB, wp_eqB, wp_neB, wp_all, wp_any, wp_slT, wp_slL, wp_rev, wp_revT, wp_revL, wp_disp, wp_pair, wp_pair0, wp_dict0, wipeW, List.foldl_cons, List.foldl_nil, wp_run, List.map, List.length, List.replicate, List.cons_append, List.nil_append, List.append_nil, List.set_cons_zero, List.set_cons_succ, if_true, if_false, Bool.not_true, Bool.not_false, Bool.true_eq_false, Bool.false_eq_true, Nat.reduceAdd, Nat.reduceSub, gName', wp_lm, hq, Option.isSome, true_and]
        rw [wp_app z1 (szl (soFar_len hl' (by simp; omega) (by omega)))]
        refine ⟨_, _, rfl, ?_, x.set (Nat.le_refl _)⟩
        rw [get_setp z1, soFar_next, ht, hc]
        rfl
    · obtain ⟨o4, o5, rfl, z1, x⟩ := z
      rw [lE, soFar_n] at z1
      exact ⟨_, _, _, _, rfl, z1, x⟩
  · obtain ⟨o2, o3, o4, o5, rfl, z1, x⟩ := z
    rw [lE, List.length_map] at z1
    simp only [ws_seq, ws_if, ws_set, ws_sub, ws_ret, ws_retN, ws_expr, ws_sNx, ws_for, wp_op, wp_var0, wp_varS, wp_c, wp_mB, wp_toB, wp_tr, wp_trB_bl, wp_trB_non, wp_trB_int, wp_not, wp_and, wp_or, wp_if, wp_mBl, wp_nil, wp_cons, wp_tup, wp_lst, wp_lstS, wp_newL_t, wp_newL_f, wp_chain, wp_call, wp_fn, wp_sl, wp_noPart, wp_part, wp_comp, wp_yes, wp_iL, wp_iA, wp_srcL, wp_srcS, wp_srcAL, wp_srcAT, wp_iR1, wp_iR2, wp_rng1, wp_rng2, wp_iRv, wp_srcRL, wp_srcRT, wp_iEA, wp_srcEL, wp_srcET, wp_add, wp_sub, wp_mul, wp_mod, wp_div, wp_divW, wp_pow18, wp_pow17, wp_pow16, wp_pow30, wp_eqI, wp_neI, wp_cmpI, wp_isN, wp_isNotN, wp_lenL, wp_lenT, wp_abs, wp_int, wp_min2, wp_max2, wp_listL, wp_listT, wp_tupleL, wp_tupleT, wp_ixT0, wp_ixT1, wp_ixL0, wp_neg, wp_ok, wp_srcEL, wp_isB, wp_isNotB, wp_eqB, wp_neB, wp_all, wp_any, wp_slT, wp_slL, wp_rev, wp_revT, wp_revL, wp_disp, wp_pair, wp_pair0, wp_dict0, wipeW, List.foldl_cons, List.foldl_nil, wp_run, List.map, List.length, List.replicate, List.cons_append, List.nil_append, List.append_nil, List.set_cons_zero, List.set_cons_succ, if_true, if_false, Bool.not_true, Bool.not_false, Bool.true_eq_false, Bool.false_eq_true, Nat.reduceAdd, Nat.reduceSub, gName']
    exact ⟨_, by trivial, z1, x⟩
/-! in order -/
theorem upP_of : ∀ {ps : List (Int × Int)}, ps.Pairwise (fun p q => SrtO.lexB p q = true) → upP ps = true
  | [], _ => rfl
  | [p], _ => rfl
  | p :: q :: r, h => by
    obtain ⟨h1, h2⟩ := List.pairwise_cons.mp h
    simp only [upP, Bool.and_eq_true]
    exact ⟨h1 q List.mem_cons_self, upP_of h2⟩
theorem lostP_up {ps : List Pt} {n : Nat} : ((lostP ps n).map fun x : Nat × Nat => ((x.1 : Int), (x.2 : Int))).Pairwise (fun p q => SrtO.lexB p q = true) := by
  rw [List.pairwise_map]
  induction n with
  | zero => simp [lostP]
  | succ n ih =>
    rw [lostP_next, List.pairwise_append]
    refine ⟨ih, ?_, fun a ha b hb => ?_⟩
    · rw [List.pairwise_map]
      refine List.Pairwise.imp ?_ (List.pairwise_lt_range.filter _)
      intro j k hjk
      refine SrtO.lexB_iff.mpr ?_
      show ((n : Int) < n ∨ _)
      omega
    · obtain ⟨j, hj, rfl⟩ := List.mem_map.mp hb
      obtain ⟨i, hi, h2⟩ := List.mem_flatMap.mp ha
      obtain ⟨k, hk, rfl⟩ := List.mem_map.mp h2
      have := List.mem_range.mp hi
      refine SrtO.lexB_iff.mpr ?_
      show ((i : Int) < n ∨ _)
      omega
theorem pairs_pW : ∀ L : List (Nat × Nat), pairsOf (L.map pW) = some (L.map fun x => ((x.1 : Int), (x.2 : Int)))
  | [] => rfl
  | x :: L => by
    show (match pairOf (pW x), pairsOf (L.map pW) with | some p, some ps => some (p :: ps) | _, _ => none) = _
    rw [pairs_pW L]; rfl
end Lw
set_option maxRecDepth 1000000
namespace Lw
open PySem L2 Mi
noncomputable def phK : MS := sSeq (sAsg (mLst false (mCons (mTup (mCons (mC (.int 0)) (mCons (mC (.int 1)) (mCons (mTup (mNil)) (mCons (mTup (mCons (mTup (mCons (mVar 3) (mCons (mVar 4) (mCons (mTup (mNil)) (mNil))))) (mNil))) (mCons (mTup (mCons (mTup (mCons (mC (.str "zzz")) (mCons (mC (.int 1)) (mNil)))) (mNil))) (mNil))))))) (mCons (mTup (mCons (mC (.int 0)) (mCons (mC (.int 2)) (mCons (mTup (mCons (mC (.str "zzz")) (mNil))) (mCons (mTup (mNil)) (mCons (mTup (mCons (mTup (mCons (mVar 3) (mCons (mC (.int 2)) (mNil)))) (mNil))) (mNil))))))) (mNil)))) (gName' 5)) (sSeq (sIf (mB (mOp (wNe) (mCall r_ring (mCons (mCall r_law_made (mCons (mVar 5) (mNil))) (mNil))) (mTup (mCons (mC (.int 0)) (mCons (mC (.int 1)) (mNil)))))) (sRet (mC (.bl false))) (sNx)) (sSeq (sAsg (mTup (mCons (mC (.int 0)) (mCons (mC (.int 1)) (mCons (mTup (mNil)) (mCons (mTup (mCons (mTup (mCons (mVar 3) (mCons (mVar 4) (mCons (mTup (mCons (mVar 3) (mNil))) (mNil))))) (mNil))) (mCons (mTup (mCons (mTup (mCons (mC (.str "zzz")) (mCons (mC (.int 1)) (mNil)))) (mNil))) (mNil))))))) (gSub' (mVar 5) (mC (.int 0)))) (sIf (mOr (mB (mOp (wIsNot) (mCall r_ring (mCons (mCall r_law_made (mCons (mVar 5) (mNil))) (mNil))) (mC .non))) (mB (mOp (wNe) (mCall r_serial_order (mCons (mCall r_law_made (mCons (mVar 5) (mNil))) (mNil))) (mTup (mCons (mC (.int 1)) (mCons (mC (.int 0)) (mNil))))))) (sRet (mC (.bl false))) (sNx))))
noncomputable def law0 (P : MS) : MS := sSeq (sAsg (mCall r_law_hand (mCons (mVar 0) (mNil))) (gName' 1)) (sSeq (sAsg (mOp wIx (mLst true (mCons (mLst true (mCons (mC (.str "a")) (mCons (mC (.str "b")) (mNil)))) (mCons (mLst true (mCons (mC (.str "ab")) (mCons (mC (.str "b")) (mNil)))) (mCons (mLst true (mCons (mC (.str "z")) (mCons (mC (.str "zz")) (mNil)))) (mCons (mLst true (mCons (mC (.str "k")) (mCons (mC (.str "kkkkkkkkkkkk")) (mNil)))) (mNil)))))) (mCall r_law_draw (mCons (mVar 1) (mCons (mC (.int 4)) (mNil))))) (gName' 2)) (sSeq (sIf (mNot (mTr (mGc (mCall r_law_known_right (mCons (mOp wIx (mVar 2) (mC (.int 0))) (mCons (mOp wIx (mVar 2) (mC (.int 1))) (mNil))))))) (sRet (mC (.bl false))) (sNx)) (sSeq (sAsg (mOp wIx (mLst true (mCons (mTup (mCons (mC (.str "a")) (mCons (mC (.str "m")) (mNil)))) (mCons (mTup (mCons (mC (.str "b")) (mCons (mC (.str "b")) (mNil)))) (mCons (mTup (mCons (mC (.str "aa")) (mCons (mC (.str "zz")) (mNil)))) (mNil))))) (mCall r_law_draw (mCons (mVar 1) (mCons (mC (.int 3)) (mNil))))) (gTup' [gName' 3, gName' 4])) (sSeq (sGc [5, 0] P) (sSeq (sAsg (mCall r_law_history (mCons (mVar 1) (mCons (mC (.int 16)) (mCons (mSl true (mCall r_law_keys mNil) (mNoPart) (mPart (mOp (wAdd true) (mC (.int 2)) (mCall r_law_draw (mCons (mVar 1) (mCons (mC (.int 3)) (mNil))))))) (mCons (mC (.int 4)) (mNil)))))) (gName' 6)) (sRet (mOp (wEq) (mCall r_lost_updates (mCons (mCall r_law_made (mCons (mVar 6) (mNil))) (mNil))) (mCall r_law_lost (mCons (mVar 6) (mNil))))))))))
def hd (r : Rs W) : W × Option Nd := match r with
  | .ok w s => (w, s.head?)
  | _ => (.non, none)
def hdS (is : List Nat) (r : SRs) : Ev × Option Nd := match r with
  | .nx e s => (wipeW e is, s.head?)
  | _ => ([], none)
theorem kr1 (n : Nd) : hd (r_law_known_right [.str "a", .str "b"] [n]) = (.bl true, some n) := by kernel_rfl
theorem kr2 (n : Nd) : hd (r_law_known_right [.str "ab", .str "b"] [n]) = (.bl true, some n) := by kernel_rfl
theorem kr3 (n : Nd) : hd (r_law_known_right [.str "z", .str "zz"] [n]) = (.bl true, some n) := by kernel_rfl
theorem kr4 (n : Nd) : hd (r_law_known_right [.str "k", .str "kkkkkkkkkkkk"] [n]) = (.bl true, some n) := by kernel_rfl
theorem ph1 (sc kk : W) (n : Nd) : hdS [5, 0] (phK [some sc, some (.ref 0), some kk, some (.str "a"), some (.str "m"), none, none] [n]) = ([none, some (.ref 0), some kk, some (.str "a"), some (.str "m"), none, none], some n) := by kernel_rfl
theorem ph2 (sc kk : W) (n : Nd) : hdS [5, 0] (phK [some sc, some (.ref 0), some kk, some (.str "b"), some (.str "b"), none, none] [n]) = ([none, some (.ref 0), some kk, some (.str "b"), some (.str "b"), none, none], some n) := by kernel_rfl
theorem ph3 (sc kk : W) (n : Nd) : hdS [5, 0] (phK [some sc, some (.ref 0), some kk, some (.str "aa"), some (.str "zz"), none, none] [n]) = ([none, some (.ref 0), some kk, some (.str "aa"), some (.str "zz"), none, none], some n) := by kernel_rfl
end Lw
namespace Lw
open PySem L2 Mi
theorem anyK_len {l : List Str} {c : Str → Bool} : decide ((0 : Int) < (((l.filter c).map W.str).length : Int)) = l.any c := by
  rw [List.length_map]
  induction l with
  | nil => rfl
  | cons x l ih =>
    rw [List.any_cons, List.filter_cons]
    cases h : c x with
    | true => simp
    | false => simpa using ih
theorem sharedK_any (p q : Pt) : ((keysOf p).any fun k => decide (k ∈ keysOf q)) = p.w.any fun x => wroteB q x.1 := by
  have : (fun k => decide (k ∈ keysOf q)) = wroteB q := by
    funext k
    rw [keysOf, wroteB, Bool.eq_iff_iff, decide_eq_true_eq, List.any_eq_true, List.mem_map]
    exact ⟨fun ⟨x, a, b⟩ => ⟨x, a, by simpa using b⟩, fun ⟨x, a, b⟩ => ⟨x, a, by simpa using b⟩⟩
  rw [this, keysOf, List.any_map]; rfl
theorem lawlost_ok {pp : Nat} {ps : List Pt} {st : Sto} (e : st[pp]? = some (.lst (ps.map ptW))) (hl : ps.length ≤ 20) (few : ∀ p ∈ ps, p.w.length ≤ 2) : wp (r_law_lost [.ref pp] st) (fun w s => w = .lst ((lostP ps ps.length).map pW) ∧ Ext st s) NoE := by
  simp only [r_law_lost, m_law_lost]
  rw [wp_run]
  simp only [ws_seq, ws_if, ws_set, ws_sub, ws_ret, ws_retN, ws_expr, ws_sNx, ws_for, wp_op, wp_var0, wp_varS, wp_c, wp_mB, wp_toB, wp_tr, wp_trB_bl, wp_trB_non, wp_trB_int, wp_not, wp_and, wp_or, wp_if, wp_mBl, wp_nil, wp_cons, wp_tup, wp_lst, wp_lstS, wp_newL_t, wp_newL_f, wp_chain, wp_call, wp_fn, wp_sl, wp_noPart, wp_part, wp_comp, wp_yes, wp_iL, wp_iA, wp_srcL, wp_srcS, wp_srcAL, wp_srcAT, wp_iR1, wp_iR2, wp_rng1, wp_rng2, wp_iRv, wp_srcRL, wp_srcRT, wp_iEA, wp_srcEL, wp_srcET, wp_add, wp_sub, wp_mul, wp_mod, wp_div, wp_divW, wp_pow18, wp_pow17, wp_pow16, wp_pow30, wp_eqI, wp_neI, wp_cmpI, wp_isN, wp_isNotN, wp_lenL, wp_lenT, wp_abs, wp_int, wp_min2, wp_max2, wp_listL, wp_listT, wp_tupleL, wp_tupleT, wp_ixT0, wp_ixT1, wp_ixL0, wp_neg, wp_ok, wp_srcEL, wp_isB, wp_isNotB, wp_eqB, wp_neB, wp_all, wp_any, wp_slT, wp_slL, wp_rev, wp_revT, wp_revL, wp_disp, wp_pair, wp_pair0, wp_dict0, wipeW, List.foldl_cons, List.foldl_nil, wp_run, List.map, List.length, List.replicate, List.cons_append, List.nil_append, List.append_nil, List.set_cons_zero, List.set_cons_succ, if_true, if_false, Bool.not_true, Bool.not_false, Bool.true_eq_false, Bool.false_eq_true, Nat.reduceAdd, Nat.reduceSub, gName', wp_lenR (get_old e), List.length_map]
  refine ⟨s62 (by omega) (by omega), ?_⟩
  rw [Int.toNat_natCast]
  refine forS_fix (fun i e s => ∃ o2 o3 o4 o5 : Option W, e = [some (.ref pp), some (.ref st.length), o2, o3, o4, o5] ∧ s[st.length]? = some (.lst ((lostP ps i).map pW)) ∧ Ext st s)
    ⟨none, none, none, none, rfl, get_new, Ext.app⟩ (fun i w ew env s z => ?_) (fun env s z => ?_)
  · obtain ⟨rfl, il⟩ := rng_get ew
    obtain ⟨o2, o3, o4, o5, rfl, z1, x⟩ := z
    have ea : ps[i]? = some ps[i] := List.getElem?_eq_getElem il
    generalize ps[i] = p at ea
    have ep := x.2 _ _ e
    refine ⟨_, _, rfl, ?_⟩
    rw [Int.zero_add]
    simp only [ws_seq, ws_if, ws_set, ws_sub, ws_ret, ws_retN, ws_expr, ws_sNx, ws_for, wp_op, wp_var0, wp_varS, wp_c, wp_mB, wp_toB, wp_tr, wp_trB_bl, wp_trB_non, wp_trB_int, wp_not, wp_and, wp_or, wp_if, wp_mBl, wp_nil, wp_cons, wp_tup, wp_lst, wp_lstS, wp_newL_t, wp_newL_f, wp_chain, wp_call, wp_fn, wp_sl, wp_noPart, wp_part, wp_comp, wp_yes, wp_iL, wp_iA, wp_srcL, wp_srcS, wp_srcAL, wp_srcAT, wp_iR1, wp_iR2, wp_rng1, wp_rng2, wp_iRv, wp_srcRL, wp_srcRT, wp_iEA, wp_srcEL, wp_srcET, wp_add, wp_sub, wp_mul, wp_mod, wp_div, wp_divW, wp_pow18, wp_pow17, wp_pow16, wp_pow30, wp_eqI, wp_neI, wp_cmpI, wp_isN, wp_isNotN, wp_lenL, wp_lenT, wp_abs, wp_int, wp_min2, wp_max2, wp_listL, wp_listT, wp_tupleL, wp_tupleT, wp_ixT0, wp_ixT1, wp_ixL0, wp_neg, wp_ok, wp_srcEL, wp_isB, wp_isNotB, wp_eqB, wp_neB, wp_all, wp_any, wp_slT, wp_slL, wp_rev, wp_revT, wp_revL, wp_disp, wp_pair, wp_pair0, wp_dict0, wipeW, List.foldl_cons, List.foldl_nil, wp_run, List.map, List.length, List.replicate, List.cons_append, List.nil_append, List.append_nil, List.set_cons_zero, List.set_cons_succ, if_true, if_false, Bool.not_true, Bool.not_false, Bool.true_eq_false, Bool.false_eq_true, Nat.reduceAdd, Nat.reduceSub, gName', wp_lenR ep, List.length_map]
    refine ⟨s62 (by omega) (by omega), ?_⟩
    rw [Int.toNat_natCast]
    refine forS_fix (fun j e s => ∃ o3 o4 o5 : Option W, e = [some (.ref pp), some (.ref st.length), some (.int (i : Int)), o3, o4, o5] ∧ s[st.length]? = some (.lst (soFar ps i j)) ∧ Ext st s)
      ⟨_, _, _, rfl, by rw [soFar_0]; exact z1, x⟩ (fun j w ew2 env s z => ?_) (fun env s z => ?_)
    · obtain ⟨rfl, jl⟩ := rng_get ew2
      obtain ⟨o3, o4, o5, rfl, z1, x⟩ := z
      have eb : ps[j]? = some ps[j] := List.getElem?_eq_getElem jl
      generalize ps[j] = q at eb
      have ep := x.2 _ _ e
      have fp := few p (List.mem_of_getElem? ea)
      have fq := few q (List.mem_of_getElem? eb)
      have kp : (keysOf p).length ≤ 2 := by simpa [keysOf] using fp
      have ht : tie2 lostB ps i j = lostB p q := by simp [tie2, ea, eb]
      have a1 : wIx (.ref pp) (.int (i : Int)) s = .ok (ptW p) s := pure_eq ((wp_ixR ep (by rw [List.getElem?_map, ea]; rfl)).mpr ⟨rfl, rfl⟩)
      have a2 : wIx (.ref pp) (.int (j : Int)) s = .ok (ptW q) s := pure_eq ((wp_ixR ep (by rw [List.getElem?_map, eb]; rfl)).mpr ⟨rfl, rfl⟩)
      have hq : seqL s (.ref st.length) = some (soFar ps i j) := by simp only [seqL, z1]
      refine ⟨_, _, rfl, ?_⟩
      rw [Int.zero_add]
      have no : lostB p q = false → s[st.length]? = some (.lst (soFar ps i (j + 1))) := fun h => by rw [soFar_next, ht, h]; exact z1
      simp only [ws_seq, ws_if, ws_set, ws_sub, ws_ret, ws_retN, ws_expr, ws_sNx, ws_for, wp_op, wp_var0, wp_varS, wp_c, wp_mB, wp_toB, wp_tr, wp_trB_bl, wp_trB_non, wp_trB_int, wp_not, wp_and, wp_or, wp_if, wp_mBl, wp_nil, wp_cons, wp_tup, wp_lst, wp_lstS, wp_newL_t, wp_newL_f, wp_chain, wp_call, wp_fn, wp_sl, wp_noPart, wp_part, wp_comp, wp_yes, wp_iL, wp_iA, wp_srcL, wp_srcS, wp_srcAL, wp_srcAT, wp_iR1, wp_iR2, wp_rng1, wp_rng2, wp_iRv, wp_srcRL, wp_srcRT, wp_iEA, wp_srcEL, wp_srcET, wp_add, wp_sub, wp_mul, wp_mod, wp_div, wp_divW, wp_pow18, wp_pow17, wp_pow16, wp_pow30, wp_eqI, wp_neI, wp_cmpI, wp_isN, wp_isNotN, wp_lenL, wp_lenT, wp_abs, wp_int, wp_min2, wp_max2, wp_listL, wp_listT, wp_tupleL, wp_tupleT, wp_ixT0, wp_ixT1, wp_ixL0, wp_neg, wp_ok, wp_srcEL, wp_isB, wp_isNotB, wp_eqB, wp_neB, wp_all, wp_any, wp_slT, wp_slL, wp_rev, wp_revT, wp_revL, wp_disp, wp_pair, wp_pair0, wp_dict0, wipeW, List.foldl_cons, List.foldl_nil, wp_run, List.map, List.length, List.replicate, List.cons_append, List.nil_append, List.append_nil, List.set_cons_zero, List.set_cons_succ, if_true, if_false, Bool.not_true, Bool.not_false, Bool.true_eq_false, Bool.false_eq_true, Nat.reduceAdd, Nat.reduceSub, gName', a1, a2, pt_1]
      rcases num_cases (p := p) with ⟨h1, w1⟩ | ⟨m, h1, w1⟩
      · simp only [ws_seq, ws_if, ws_set, ws_sub, ws_ret, ws_retN, ws_expr, ws_sNx, ws_for, wp_op, wp_var0, wp_varS, wp_c, wp_mB, wp_toB, wp_tr, wp_trB_bl, wp_trB_non, wp_trB_int, wp_not, wp_and, wp_or, wp_if, wp_mBl, wp_nil, wp_cons, wp_tup, wp_lst, wp_lstS, wp_newL_t, wp_newL_f, wp_chain, wp_call, wp_fn, wp_sl, wp_noPart, wp_part, wp_comp, wp_yes, wp_iL, wp_iA, wp_srcL, wp_srcS, wp_srcAL, wp_srcAT, wp_iR1, wp_iR2, wp_rng1, wp_rng2, wp_iRv, wp_srcRL, wp_srcRT, wp_iEA, wp_srcEL, wp_srcET, wp_add, wp_sub, wp_mul, wp_mod, wp_div, wp_divW, wp_pow18, wp_pow17, wp_pow16, wp_pow30, wp_eqI, wp_neI, wp_cmpI, wp_isN, wp_isNotN, wp_lenL, wp_lenT, wp_abs, wp_int, wp_min2, wp_max2, wp_listL, wp_listT, wp_tupleL, wp_tupleT, wp_ixT0, wp_ixT1, wp_ixL0, wp_neg, wp_ok, wp_srcEL, wp_isB, wp_isNotB, wp_eqB, wp_neB, wp_all, wp_any, wp_slT, wp_slL, wp_rev, wp_revT, wp_revL, wp_disp, wp_pair, wp_pair0, wp_dict0, wipeW, List.foldl_cons, List.foldl_nil, wp_run, List.map, List.length, List.replicate, List.cons_append, List.nil_append, List.append_nil, List.set_cons_zero, List.set_cons_succ, if_true, if_false, Bool.not_true, Bool.not_false, Bool.true_eq_false, Bool.false_eq_true, Nat.reduceAdd, Nat.reduceSub, gName', w1, Mi.isNon]
        exact ⟨_, _, _, rfl, no (by simp [lostB, h1]), x⟩
      · rcases num_cases (p := q) with ⟨h2, w2⟩ | ⟨n, h2, w2⟩
        · simp only [ws_seq, ws_if, ws_set, ws_sub, ws_ret, ws_retN, ws_expr, ws_sNx, ws_for, wp_op, wp_var0, wp_varS, wp_c, wp_mB, wp_toB, wp_tr, wp_trB_bl, wp_trB_non, wp_trB_int, wp_not, wp_and, wp_or, wp_if, wp_mBl, wp_nil, wp_cons, wp_tup, wp_lst, wp_lstS, wp_newL_t, wp_newL_f, wp_chain, wp_call, wp_fn, wp_sl, wp_noPart, wp_part, wp_comp, wp_yes, wp_iL, wp_iA, wp_srcL, wp_srcS, wp_srcAL, wp_srcAT, wp_iR1, wp_iR2, wp_rng1, wp_rng2, wp_iRv, wp_srcRL, wp_srcRT, wp_iEA, wp_srcEL, wp_srcET, wp_add, wp_sub, wp_mul, wp_mod, wp_div, wp_divW, wp_pow18, wp_pow17, wp_pow16, wp_pow30, wp_eqI, wp_neI, wp_cmpI, wp_isN, wp_isNotN, wp_lenL, wp_lenT, wp_abs, wp_int, wp_min2, wp_max2, wp_listL, wp_listT, wp_tupleL, wp_tupleT, wp_ixT0, wp_ixT1, wp_ixL0, wp_neg, wp_ok, wp_srcEL, wp_isB, wp_isNotB, wp_eqB, wp_neB, wp_all, wp_any, wp_slT, wp_slL, wp_rev, wp_revT, wp_revL, wp_disp, wp_pair, wp_pair0, wp_dict0, wipeW, List.foldl_cons, List.foldl_nil, wp_run, List.map, List.length, List.replicate, List.cons_append, List.nil_append, List.append_nil, List.set_cons_zero, List.set_cons_succ, if_true, if_false, Bool.not_true, Bool.not_false, Bool.true_eq_false, Bool.false_eq_true, Nat.reduceAdd, Nat.reduceSub, gName', w1, w2, Mi.isNon]
          exact ⟨_, _, _, rfl, no (by simp [lostB, h1, h2]), x⟩
        · by_cases h3 : m < n
          · simp only [ws_seq, ws_if, ws_set, ws_sub, ws_ret, ws_retN, ws_expr, ws_sNx, ws_for, wp_op, wp_var0, wp_varS, wp_c, wp_mB, wp_toB, wp_tr, wp_trB_bl, wp_trB_non, wp_trB_int, wp_not, wp_and, wp_or, wp_if, wp_mBl, wp_nil, wp_cons, wp_tup, wp_lst, wp_lstS, wp_newL_t, wp_newL_f, wp_chain, wp_call, wp_fn, wp_sl, wp_noPart, wp_part, wp_comp, wp_yes, wp_iL, wp_iA, wp_srcL, wp_srcS, wp_srcAL, wp_srcAT, wp_iR1, wp_iR2, wp_rng1, wp_rng2, wp_iRv, wp_srcRL, wp_srcRT, wp_iEA, wp_srcEL, wp_srcET, wp_add, wp_sub, wp_mul, wp_mod, wp_div, wp_divW, wp_pow18, wp_pow17, wp_pow16, wp_pow30, wp_eqI, wp_neI, wp_cmpI, wp_isN, wp_isNotN, wp_lenL, wp_lenT, wp_abs, wp_int, wp_min2, wp_max2, wp_listL, wp_listT, wp_tupleL, wp_tupleT, wp_ixT0, wp_ixT1, wp_ixL0, wp_neg, wp_ok, wp_srcEL, wp_isB, wp_isNotB, wp_eqB, wp_neB, wp_all, wp_any, wp_slT, wp_slL, wp_rev, wp_revT, wp_revL, wp_disp, wp_pair, wp_pair0, wp_dict0, wipeW, List.foldl_cons, List.foldl_nil, wp_run, List.map, List.length, List.replicate, List.cons_append, List.nil_append, List.append_nil, List.set_cons_zero, List.set_cons_succ, if_true, if_false, Bool.not_true, Bool.not_false, Bool.true_eq_false, Bool.false_eq_true, Nat.reduceAdd, Nat.reduceSub, gName', w1, w2, Mi.isNon, decide_eq_true h3, a1, a2, wrote_ok (show p.w.length ≤ 100 by omega)]
            refine compS_map (ys := keysOf p) (enc := W.str) (fun k => decide (k ∈ keysOf q)) W.str (t := .one 5) (sz (by omega)) (fun y hy => ⟨_, rfl, ?_, fun _ => ?_⟩) ?_
            · simp only [ws_seq, ws_if, ws_set, ws_sub, ws_ret, ws_retN, ws_expr, ws_sNx, ws_for, wp_op, wp_var0, wp_varS, wp_c, wp_mB, wp_toB, wp_tr, wp_trB_bl, wp_trB_non, wp_trB_int, wp_not, wp_and, wp_or, wp_if, wp_mBl, wp_nil, wp_cons, wp_tup, wp_lst, wp_lstS, wp_newL_t, wp_newL_f, wp_chain, wp_call, wp_fn, wp_sl, wp_noPart, wp_part, wp_comp, wp_yes, wp_iL, wp_iA, wp_srcL, wp_srcS, wp_srcAL, wp_srcAT, wp_iR1, wp_iR2, wp_rng1, wp_rng2, wp_iRv, wp_srcRL, wp_srcRT, wp_iEA, wp_srcEL, wp_srcET, wp_add, wp_sub, wp_mul, wp_mod, wp_div, wp_divW, wp_pow18, wp_pow17, wp_pow16, wp_pow30, wp_eqI, wp_neI, wp_cmpI, wp_isN, wp_isNotN, wp_lenL, wp_lenT, wp_abs, wp_int, wp_min2, wp_max2, wp_listL, wp_listT, wp_tupleL, wp_tupleT, wp_ixT0, wp_ixT1, wp_ixL0, wp_neg, wp_ok, wp_srcEL, wp_isB, wp_isNotB, wp_eqB, wp_neB, wp_all, wp_any, wp_slT, wp_slL, wp_rev, wp_revT, wp_revL, wp_disp, wp_pair, wp_pair0, wp_dict0, wipeW, List.foldl_cons, List.foldl_nil, wp_run, List.map, List.length, List.replicate, List.cons_append, List.nil_append, List.append_nil, List.set_cons_zero, List.set_cons_succ, if_true, if_false, Bool.not_true, Bool.not_false, Bool.true_eq_false, Bool.false_eq_true, Nat.reduceAdd, Nat.reduceSub, gName', a2, wrote_ok (show q.w.length ≤ 100 by omega), wp_inLs]
              exact ⟨by trivial, by trivial⟩
            · simp only [ws_seq, ws_if, ws_set, ws_sub, ws_ret, ws_retN, ws_expr, ws_sNx, ws_for, wp_op, wp_var0, wp_varS, wp_c, wp_mB, wp_toB, wp_tr, wp_trB_bl, wp_trB_non, wp_trB_int, wp_not, wp_and, wp_or, wp_if, wp_mBl, wp_nil, wp_cons, wp_tup, wp_lst, wp_lstS, wp_newL_t, wp_newL_f, wp_chain, wp_call, wp_fn, wp_sl, wp_noPart, wp_part, wp_comp, wp_yes, wp_iL, wp_iA, wp_srcL, wp_srcS, wp_srcAL, wp_srcAT, wp_iR1, wp_iR2, wp_rng1, wp_rng2, wp_iRv, wp_srcRL, wp_srcRT, wp_iEA, wp_srcEL, wp_srcET, wp_add, wp_sub, wp_mul, wp_mod, wp_div, wp_divW, wp_pow18, wp_pow17, wp_pow16, wp_pow30, wp_eqI, wp_neI, wp_cmpI, wp_isN, wp_isNotN, wp_lenL, wp_lenT, wp_abs, wp_int, wp_min2, wp_max2, wp_listL, wp_listT, wp_tupleL, wp_tupleT, wp_ixT0, wp_ixT1, wp_ixL0, wp_neg, wp_ok, wp_srcEL, wp_isB, wp_isNotB, wp_eqB, wp_neB, wp_all, wp_any, wp_slT, wp_slL, wp_rev, wp_revT, wp_revL, wp_disp, wp_pair, wp_pair0, wp_dict0, wipeW, List.foldl_cons, List.foldl_nil, wp_run, List.map, List.length, List.replicate, List.cons_append, List.nil_append, List.append_nil, List.set_cons_zero, List.set_cons_succ, if_true, if_false, Bool.not_true, Bool.not_false, Bool.true_eq_false, Bool.false_eq_true, Nat.reduceAdd, Nat.reduceSub, gName']
              exact ⟨by trivial, by trivial⟩
            simp only [ws_seq, ws_if, ws_set, ws_sub, ws_ret, ws_retN, ws_expr, ws_sNx, ws_for, wp_op, wp_var0, wp_varS, wp_c, wp_mB, wp_toB, wp_tr, wp_trB_bl, wp_trB_non, wp_trB_int, wp_not, wp_and, wp_or, wp_if, wp_mBl, wp_nil, wp_cons, wp_tup, wp_lst, wp_lstS, wp_newL_t, wp_newL_f, wp_chain, wp_call, wp_fn, wp_sl, wp_noPart, wp_part, wp_comp, wp_yes, wp_iL, wp_iA, wp_srcL, wp_srcS, wp_srcAL, wp_srcAT, wp_iR1, wp_iR2, wp_rng1, wp_rng2, wp_iRv, wp_srcRL, wp_srcRT, wp_iEA, wp_srcEL, wp_srcET, wp_add, wp_sub, wp_mul, wp_mod, wp_div, wp_divW, wp_pow18, wp_pow17, wp_pow16, wp_pow30, wp_eqI, wp_neI, wp_cmpI, wp_isN, wp_isNotN, wp_lenL, wp_lenT, wp_abs, wp_int, wp_min2, wp_max2, wp_listL, wp_listT, wp_tupleL, wp_tupleT, wp_ixT0, wp_ixT1, wp_ixL0, wp_neg, wp_ok, wp_srcEL, wp_isB, wp_isNotB, wp_eqB, wp_neB, wp_all, wp_any, wp_slT, wp_slL, wp_rev, wp_revT, wp_revL, wp_disp, wp_pair, wp_pair0, wp_dict0, wipeW, List.foldl_cons, List.foldl_nil, wp_run, List.map, List.length, List.replicate, List.cons_append, List.nil_append, List.append_nil, List.set_cons_zero, List.set_cons_succ, if_true, if_false, Bool.not_true, Bool.not_false, Bool.true_eq_false, Bool.false_eq_true, Nat.reduceAdd, Nat.reduceSub, gName', anyK_len, sharedK_any, a1, a2, pt_1, pt_0, w1]
            cases h4 : p.w.any fun x => wroteB q x.1 with
            | false =>
              simp only [ws_seq, ws_if, ws_set, ws_sub, ws_ret, ws_retN, ws_expr, ws_sNx, ws_for, wp_op, wp_var0, wp_varS, wp_c, wp_mB, wp_toB, wp_tr, wp_trB_bl, wp_trB_non, wp_trB_int, wp_not, wp_and, wp_or, wp_if, wp_mBl, wp_nil, wp_cons, wp_tup, wp_lst, wp_lstS, wp_newL_t, wp_newL_f, wp_chain, wp_call, wp_fn, wp_sl, wp_noPart, wp_part, wp_comp, wp_yes, wp_iL, wp_iA, wp_srcL, wp_srcS, wp_srcAL, wp_srcAT, wp_iR1, wp_iR2, wp_rng1, wp_rng2, wp_iRv, wp_srcRL, wp_srcRT, wp_iEA, wp_srcEL, wp_srcET, wp_add, wp_sub, wp_mul, wp_mod, wp_div, wp_divW, wp_pow18, wp_pow17, wp_pow16, wp_pow30, wp_eqI, wp_neI, wp_cmpI, wp_isN, wp_isNotN, wp_lenL, wp_lenT, wp_abs, wp_int, wp_min2, wp_max2, wp_listL, wp_listT, wp_tupleL, wp_tupleT, wp_ixT0, wp_ixT1, wp_ixL0, wp_neg, wp_ok, wp_srcEL, wp_isB, wp_isNotB, wp_eqB, wp_neB, wp_all, wp_any, wp_slT, wp_slL, wp_rev, wp_revT, wp_revL, wp_disp, wp_pair, wp_pair0, wp_dict0, wipeW, List.foldl_cons, List.foldl_nil, wp_run, List.map, List.length, List.replicate, List.cons_append, List.nil_append, List.append_nil, List.set_cons_zero, List.set_cons_succ, if_true, if_false, Bool.not_true, Bool.not_false, Bool.true_eq_false, Bool.false_eq_true, Nat.reduceAdd, Nat.reduceSub, gName']
              exact ⟨_, _, _, rfl, no (by simp [lostB, h1, h2, h4]), x⟩
            | true =>
              by_cases h5 : q.s < m
              · simp only [ws_seq, ws_if, ws_set, ws_sub, ws_ret, ws_retN, ws_expr, ws_sNx, ws_for, wp_op, wp_var0, wp_varS, wp_c, wp_mB, wp_toB, wp_tr, wp_trB_bl, wp_trB_non, wp_trB_int, wp_not, wp_and, wp_or, wp_if, wp_mBl, wp_nil, wp_cons, wp_tup, wp_lst, wp_lstS, wp_newL_t, wp_newL_f, wp_chain, wp_call, wp_fn, wp_sl, wp_noPart, wp_part, wp_comp, wp_yes, wp_iL, wp_iA, wp_srcL, wp_srcS, wp_srcAL, wp_srcAT, wp_iR1, wp_iR2, wp_rng1, wp_rng2, wp_iRv, wp_srcRL, wp_srcRT, wp_iEA, wp_srcEL, wp_srcET, wp_add, wp_sub, wp_mul, wp_mod, wp_div, wp_divW, wp_pow18, wp_pow17, wp_pow16, wp_pow30, wp_eqI, wp_neI, wp_cmpI, wp_isN, wp_isNotN, wp_lenL, wp_lenT, wp_abs, wp_int, wp_min2, wp_max2, wp_listL, wp_listT, wp_tupleL, wp_tupleT, wp_ixT0, wp_ixT1, wp_ixL0, wp_neg, wp_ok, wp_srcEL, wp_isB, wp_isNotB, wp_eqB, wp_neB, wp_all, wp_any, wp_slT, wp_slL, wp_rev, wp_revT, wp_revL, wp_disp, wp_pair, wp_pair0, wp_dict0, wipeW, List.foldl_cons, List.foldl_nil, wp_run, List.map, List.length, List.replicate, List.cons_append, List.nil_append, List.append_nil, List.set_cons_zero, List.set_cons_succ, if_true, if_false, Bool.not_true, Bool.not_false, Bool.true_eq_false, Bool.false_eq_true, Nat.reduceAdd, Nat.reduceSub, gName', decide_eq_true h5, wp_lm, hq, Option.isSome, true_and]
                rw [wp_app z1 (szl (soFar_len hl (by omega) (by omega)))]
                refine ⟨_, _, _, rfl, ?_, x.set (Nat.le_refl _)⟩
                have hc : lostB p q = true := by simp [lostB, h1, h2, h3, h4, h5]
                rw [get_setp z1, soFar_next, ht, hc]
                rfl
              · simp only [ws_seq, ws_if, ws_set, ws_sub, ws_ret, ws_retN, ws_expr, ws_sNx, ws_for, wp_op, wp_var0, wp_varS, wp_c, wp_mB, wp_toB, wp_tr, wp_trB_bl, wp_trB_non, wp_trB_int, wp_not, wp_and, wp_or, wp_if, wp_mBl, wp_nil, wp_cons, wp_tup, wp_lst, wp_lstS, wp_newL_t, wp_newL_f, wp_chain, wp_call, wp_fn, wp_sl, wp_noPart, wp_part, wp_comp, wp_yes, wp_iL, wp_iA, wp_srcL, wp_srcS, wp_srcAL, wp_srcAT, wp_iR1, wp_iR2, wp_rng1, wp_rng2, wp_iRv, wp_srcRL, wp_srcRT, wp_iEA, wp_srcEL, wp_srcET, wp_add, wp_sub, wp_mul, wp_mod, wp_div, wp_divW, wp_pow18, wp_pow17, wp_pow16, wp_pow30, wp_eqI, wp_neI, wp_cmpI, wp_isN, wp_isNotN, wp_lenL, wp_lenT, wp_abs, wp_int, wp_min2, wp_max2, wp_listL, wp_listT, wp_tupleL, wp_tupleT, wp_ixT0, wp_ixT1, wp_ixL0, wp_neg, wp_ok, wp_srcEL, wp_isB, wp_isNotB, wp_eqB, wp_neB, wp_all, wp_any, wp_slT, wp_slL, wp_rev, wp_revT, wp_revL, wp_disp, wp_pair, wp_pair0, wp_dict0, wipeW, List.foldl_cons, List.foldl_nil, wp_run, List.map, List.length, List.replicate, List.cons_append, List.nil_append, List.append_nil, List.set_cons_zero, List.set_cons_succ, if_true, if_false, Bool.not_true, Bool.not_false, Bool.true_eq_false, Bool.false_eq_true, Nat.reduceAdd, Nat.reduceSub, gName', decide_eq_false h5]
                exact ⟨_, _, _, rfl, no (by simp [lostB, h1, h2, h5]), x⟩
          · simp only [ws_seq, ws_if, ws_set, ws_sub, ws_ret, ws_retN, ws_expr, ws_sNx, ws_for, wp_op, wp_var0, wp_varS, wp_c, wp_mB, wp_toB, wp_tr, wp_trB_bl, wp_trB_non, wp_trB_int, wp_not, wp_and, wp_or, wp_if, wp_mBl, wp_nil, wp_cons, wp_tup, wp_lst, wp_lstS, wp_newL_t, wp_newL_f, wp_chain, wp_call, wp_fn, wp_sl, wp_noPart, wp_part, wp_comp, wp_yes, wp_iL, wp_iA, wp_srcL, wp_srcS, wp_srcAL, wp_srcAT, wp_iR1, wp_iR2, wp_rng1, wp_rng2, wp_iRv, wp_srcRL, wp_srcRT, wp_iEA, wp_srcEL, wp_srcET, wp_add, wp_sub, wp_mul, wp_mod, wp_div, wp_divW, wp_pow18, wp_pow17, wp_pow16, wp_pow30, wp_eqI, wp_neI, wp_cmpI, wp_isN, wp_isNotN, wp_lenL, wp_lenT, wp_abs, wp_int, wp_min2, wp_max2, wp_listL, wp_listT, wp_tupleL, wp_tupleT, wp_ixT0, wp_ixT1, wp_ixL0, wp_neg, wp_ok, wp_srcEL, wp_isB, wp_isNotB, wp_eqB, wp_neB, wp_all, wp_any, wp_slT, wp_slL, wp_rev, wp_revT, wp_revL, wp_disp, wp_pair, wp_pair0, wp_dict0, wipeW, List.foldl_cons, List.foldl_nil, wp_run, List.map, List.length, List.replicate, List.cons_append, List.nil_append, List.append_nil, List.set_cons_zero, List.set_cons_succ, if_true, if_false, Bool.not_true, Bool.not_false, Bool.true_eq_false, Bool.false_eq_true, Nat.reduceAdd, Nat.reduceSub, gName', w1, w2, Mi.isNon, decide_eq_false h3]
            exact ⟨_, _, _, rfl, no (by simp [lostB, h1, h2, h3]), x⟩
    · obtain ⟨o3, o4, o5, rfl, z1, x⟩ := z
      rw [rng_len, soFar_n] at z1
      exact ⟨_, _, _, _, rfl, z1, x⟩
  · obtain ⟨o2, o3, o4, o5, rfl, z1, x⟩ := z
    rw [rng_len] at z1
    have es : fSortedPP true [.ref st.length] s = .ok (.lst ((lostP ps ps.length).map pW)) s := by
      simp only [fSortedPP, seqL, z1, pairs_pW]
      rw [if_pos (upP_of lostP_up)]; rfl
    simp only [ws_seq, ws_if, ws_set, ws_sub, ws_ret, ws_retN, ws_expr, ws_sNx, ws_for, wp_op, wp_var0, wp_varS, wp_c, wp_mB, wp_toB, wp_tr, wp_trB_bl, wp_trB_non, wp_trB_int, wp_not, wp_and, wp_or, wp_if, wp_mBl, wp_nil, wp_cons, wp_tup, wp_lst, wp_lstS, wp_newL_t, wp_newL_f, wp_chain, wp_call, wp_fn, wp_sl, wp_noPart, wp_part, wp_comp, wp_yes, wp_iL, wp_iA, wp_srcL, wp_srcS, wp_srcAL, wp_srcAT, wp_iR1, wp_iR2, wp_rng1, wp_rng2, wp_iRv, wp_srcRL, wp_srcRT, wp_iEA, wp_srcEL, wp_srcET, wp_add, wp_sub, wp_mul, wp_mod, wp_div, wp_divW, wp_pow18, wp_pow17, wp_pow16, wp_pow30, wp_eqI, wp_neI, wp_cmpI, wp_isN, wp_isNotN, wp_lenL, wp_lenT, wp_abs, wp_int, wp_min2, wp_max2, wp_listL, wp_listT, wp_tupleL, wp_tupleT, wp_ixT0, wp_ixT1, wp_ixL0, wp_neg, wp_ok, wp_srcEL, wp_isB, wp_isNotB, wp_eqB, wp_neB, wp_all, wp_any, wp_slT, wp_slL, wp_rev, wp_revT, wp_revL, wp_disp, wp_pair, wp_pair0, wp_dict0, wipeW, List.foldl_cons, List.foldl_nil, wp_run, List.map, List.length, List.replicate, List.cons_append, List.nil_append, List.append_nil, List.set_cons_zero, List.set_cons_succ, if_true, if_false, Bool.not_true, Bool.not_false, Bool.true_eq_false, Bool.false_eq_true, Nat.reduceAdd, Nat.reduceSub, gName', es]
    exact ⟨by trivial, x⟩
def pD (x : Nat × Nat) : PyData := .tuple [.int (x.1 : Int), .int (x.2 : Int)]
theorem toDs_p (st : Sto) : ∀ L : List (Nat × Nat), toDs st (L.map pW) = some (L.map pD)
  | [] => rfl
  | x :: L => by
    have e : toD st (pW x) = some (pD x) := by simp [pW, toD, toDs, pD]
    simp only [List.map_cons, toDs, e, toDs_p st L]
theorem toD0s_p : ∀ L : List (Nat × Nat), toD0s (L.map pW) = some (L.map pD)
  | [] => rfl
  | x :: L => by
    have e : toD0 (pW x) = some (pD x) := by simp [pW, toD0, toD0s, pD]
    simp only [List.map_cons, toD0s, e, toD0s_p L]
theorem lay_p : ∀ L : List (Nat × Nat), PyData.canLayAll0 (L.map pD) = true ∧ PyData.depthAll (L.map pD) ≤ 1
  | [] => ⟨rfl, by simp [PyData.depthAll]⟩
  | x :: L => by
    obtain ⟨h1, h2⟩ := lay_p L
    refine ⟨by simp [PyData.canLayAll0, pD, PyData.canLay0, h1], ?_⟩
    have e : (pD x).depth = 1 := by simp [pD, PyData.depth, PyData.depthAll]
    simp only [List.map_cons, PyData.depthAll, e]
    exact Nat.max_le.mpr ⟨Nat.le_refl _, h2⟩
theorem eq_sp {L : List (Nat × Nat)} {st : Sto} {f : Nat} (e : st[f]? = some (.lst (L.map pW))) : wEq (.ref f) (.lst (L.map pW)) st = .ok (.bl true) st := by
  obtain ⟨h1, h2⟩ := lay_p L
  have t1 : toD st (.lst (L.map pW)) = some (.list (L.map pD)) := by simp only [toD, toDs_p]; rfl
  have t2 : toD st (.ref f) = some (.list (L.map pD)) := by simp only [toD, e, toD0s_p]; rfl
  have c : (PyData.list (L.map pD)).canLay0 = true := by simp only [PyData.canLay0]; exact h1
  have sh : SeqAt.shaped (.list (L.map pD)) = true := by
    simp only [SeqAt.shaped, c, Bool.true_and, PyData.depth]
    exact decide_eq_true (by omega)
  simp only [wEq, eqW, scalV, eqWD, t1, t2, sh, Bool.and_self, if_true, SeqAt.eqv_refl _ c]
theorem bls_ints (n : Nat) : ∀ cs : List Int, blWs n (cs.map W.int) = true
  | [] => rfl
  | c :: cs => by simp only [List.map_cons, blWs, blW, bls_ints n cs, Bool.and_self]
theorem bag_bl {n : Nat} {nd : Nd} (g : Bg 0 [nd]) : blN n nd = true := by
  obtain ⟨cs, a, b, c, d, e⟩ := g
  simp only [List.getElem?_cons_zero, Option.some.injEq] at e
  subst e
  simp [BagN, blN, blWs, blW, bls_ints]
theorem wp_gc {r : RunM} {m : M (List W)} {env : Ev} {nd : Nd} {ws' : List W} {P : W → Sto → Prop} {E : Xc → Sto → Prop} (hm : m env [nd] = .ok ws' [nd]) (h : hd (r ws' [nd]) = (.bl true, some nd)) (b : blN 1 nd = true) : wp (mGc (mCall r m) env [nd]) P E ↔ P (.bl true) [nd] := by
  have e : mGc (mCall r m) env [nd] = .ok (.bl true) [nd] := by
    unfold mGc mCall
    rw [hm]
    cases q : r ws' [nd] with
    | ok w s =>
      simp only [hd, q, Prod.mk.injEq] at h
      obtain ⟨rfl, h2⟩ := h
      simp only [Rs.bind, q]
      cases s with
      | nil => simp at h2
      | cons a t =>
        simp only [List.head?_cons, Option.some.injEq] at h2
        subst h2
        simp [blW, b]
    | ex x s => simp [hd, q] at h
    | stuck => simp [hd, q] at h
  rw [e]; exact Iff.rfl
theorem ws_gc {P : MS} {env env1 : Ev} {nd : Nd} {is : List Nat} {N : KN} {R : KR} {B C : KN} {E : KX} (h : hdS is (P env [nd]) = (env1, some nd)) (b : blN 1 nd = true) (b2 : evBl 1 env1 = true) (hn : N env1 [nd]) : ws (sGc is P env [nd]) N R B C E := by
  have e : sGc is P env [nd] = .nx env1 [nd] := by
    unfold sGc
    cases q : P env [nd] with
    | nx e s =>
      simp only [hdS, q, Prod.mk.injEq] at h
      obtain ⟨rfl, h2⟩ := h
      cases s with
      | nil => simp at h2
      | cons a t =>
        simp only [List.head?_cons, Option.some.injEq] at h2
        subst h2
        simp [b, b2]
    | rt w s => simp [hdS, q] at h
    | bk e s => simp [hdS, q] at h
    | ct e s => simp [hdS, q] at h
    | ex x e s => simp [hdS, q] at h
    | stuck => simp [hdS, q] at h
  rw [e]; exact hn
end Lw
namespace Lw
open PySem L2 Mi
theorem hand_one (ns : List Int) (hl : ns.length ≤ 63) : wp (r_law_hand [.scr (ns.map W.int)] []) (fun w s => w = .ref 0 ∧ ∃ nd, s = [nd] ∧ Bg 0 s) NoE := by
  simp only [r_law_hand, m_law_hand]
  simp only [ws_seq, ws_if, ws_set, ws_sub, ws_ret, ws_retN, ws_expr, ws_sNx, ws_for, wp_op, wp_var0, wp_varS, wp_c, wp_mB, wp_toB, wp_tr, wp_trB_bl, wp_trB_non, wp_trB_int, wp_not, wp_and, wp_or, wp_if, wp_mBl, wp_nil, wp_cons, wp_tup, wp_lst, wp_lstS, wp_newL_t, wp_newL_f, wp_chain, wp_call, wp_fn, wp_sl, wp_noPart, wp_part, wp_comp, wp_yes, wp_iL, wp_iA, wp_srcL, wp_srcS, wp_srcAL, wp_srcAT, wp_iR1, wp_iR2, wp_rng1, wp_rng2, wp_iRv, wp_srcRL, wp_srcRT, wp_iEA, wp_srcEL, wp_srcET, wp_add, wp_sub, wp_mul, wp_mod, wp_div, wp_divW, wp_pow18, wp_pow17, wp_pow16, wp_pow30, wp_eqI, wp_neI, wp_cmpI, wp_isN, wp_isNotN, wp_lenL, wp_lenT, wp_abs, wp_int, wp_min2, wp_max2, wp_listL, wp_listT, wp_tupleL, wp_tupleT, wp_ixT0, wp_ixT1, wp_ixL0, wp_neg, wp_ok, wp_srcEL, wp_isB, wp_isNotB, wp_eqB, wp_neB, wp_all, wp_any, wp_slT, wp_slL, wp_rev, wp_revT, wp_revL, wp_disp, wp_pair, wp_pair0, wp_dict0, wipeW, List.foldl_cons, List.foldl_nil, wp_run, List.map, List.length, List.replicate, List.cons_append, List.nil_append, List.append_nil, List.set_cons_zero, List.set_cons_succ, if_true, if_false, Bool.not_true, Bool.not_false, Bool.true_eq_false, Bool.false_eq_true, Nat.reduceAdd, Nat.reduceSub, gName', wp_cut63]
  refine compS_fix (fun i acc s => s = [] ∧ acc.length = i ∧ ∃ cs : List Int, acc = cs.map W.int) ⟨rfl, rfl, [], rfl⟩ (by simp [sizeLine]; omega) (fun i acc s z => by omega) (fun i w e acc s z => ?_) (fun acc s z => ?_)
  · obtain ⟨rfl, rfl, cs, rfl⟩ := z
    have e' : ∃ c : Int, w = .int c := by
      rw [List.getElem?_take] at e
      split at e
      · rw [List.getElem?_map] at e
        cases q : ns[(cs.map W.int).length]? with
        | none => rw [q] at e; simp at e
        | some c => rw [q] at e; simp at e; exact ⟨c, e.symm⟩
      · simp at e
    obtain ⟨c, rfl⟩ := e'
    refine ⟨_, rfl, ?_⟩
    simp only [ws_seq, ws_if, ws_set, ws_sub, ws_ret, ws_retN, ws_expr, ws_sNx, ws_for, wp_op, wp_var0, wp_varS, wp_c, wp_mB, wp_toB, wp_tr, wp_trB_bl, wp_trB_non, wp_trB_int, wp_not, wp_and, wp_or, wp_if, wp_mBl, wp_nil, wp_cons, wp_tup, wp_lst, wp_lstS, wp_newL_t, wp_newL_f, wp_chain, wp_call, wp_fn, wp_sl, wp_noPart, wp_part, wp_comp, wp_yes, wp_iL, wp_iA, wp_srcL, wp_srcS, wp_srcAL, wp_srcAT, wp_iR1, wp_iR2, wp_rng1, wp_rng2, wp_iRv, wp_srcRL, wp_srcRT, wp_iEA, wp_srcEL, wp_srcET, wp_add, wp_sub, wp_mul, wp_mod, wp_div, wp_divW, wp_pow18, wp_pow17, wp_pow16, wp_pow30, wp_eqI, wp_neI, wp_cmpI, wp_isN, wp_isNotN, wp_lenL, wp_lenT, wp_abs, wp_int, wp_min2, wp_max2, wp_listL, wp_listT, wp_tupleL, wp_tupleT, wp_ixT0, wp_ixT1, wp_ixL0, wp_neg, wp_ok, wp_srcEL, wp_isB, wp_isNotB, wp_eqB, wp_neB, wp_all, wp_any, wp_slT, wp_slL, wp_rev, wp_revT, wp_revL, wp_disp, wp_pair, wp_pair0, wp_dict0, wipeW, List.foldl_cons, List.foldl_nil, wp_run, List.map, List.length, List.replicate, List.cons_append, List.nil_append, List.append_nil, List.set_cons_zero, List.set_cons_succ, if_true, if_false, Bool.not_true, Bool.not_false, Bool.true_eq_false, Bool.false_eq_true, Nat.reduceAdd, Nat.reduceSub, gName']
    exact ⟨by trivial, by simp, cs ++ [if c < 0 then -c else c], by simp⟩
  · obtain ⟨rfl, _, cs, rfl⟩ := z
    simp only [ws_seq, ws_if, ws_set, ws_sub, ws_ret, ws_retN, ws_expr, ws_sNx, ws_for, wp_op, wp_var0, wp_varS, wp_c, wp_mB, wp_toB, wp_tr, wp_trB_bl, wp_trB_non, wp_trB_int, wp_not, wp_and, wp_or, wp_if, wp_mBl, wp_nil, wp_cons, wp_tup, wp_lst, wp_lstS, wp_newL_t, wp_newL_f, wp_chain, wp_call, wp_fn, wp_sl, wp_noPart, wp_part, wp_comp, wp_yes, wp_iL, wp_iA, wp_srcL, wp_srcS, wp_srcAL, wp_srcAT, wp_iR1, wp_iR2, wp_rng1, wp_rng2, wp_iRv, wp_srcRL, wp_srcRT, wp_iEA, wp_srcEL, wp_srcET, wp_add, wp_sub, wp_mul, wp_mod, wp_div, wp_divW, wp_pow18, wp_pow17, wp_pow16, wp_pow30, wp_eqI, wp_neI, wp_cmpI, wp_isN, wp_isNotN, wp_lenL, wp_lenT, wp_abs, wp_int, wp_min2, wp_max2, wp_listL, wp_listT, wp_tupleL, wp_tupleT, wp_ixT0, wp_ixT1, wp_ixL0, wp_neg, wp_ok, wp_srcEL, wp_isB, wp_isNotB, wp_eqB, wp_neB, wp_all, wp_any, wp_slT, wp_slL, wp_rev, wp_revT, wp_revL, wp_disp, wp_pair, wp_pair0, wp_dict0, wipeW, List.foldl_cons, List.foldl_nil, wp_run, List.map, List.length, List.replicate, List.cons_append, List.nil_append, List.append_nil, List.set_cons_zero, List.set_cons_succ, if_true, if_false, Bool.not_true, Bool.not_false, Bool.true_eq_false, Bool.false_eq_true, Nat.reduceAdd, Nat.reduceSub, gName', wp_newL_f]
    exact ⟨by trivial, _, rfl, cs, 0, 0, 1 + (cs.length : Int), 0, by simp [BagN]⟩

theorem keys_eq (st : Sto) : r_law_keys [] st = .ok (.lst (K6.map W.str)) st := rfl
theorem law_run (ns : List Int) (hl : ns.length ≤ 63) : wp (r_law [.scr (ns.map W.int)] []) (fun v _ => v = .bl true) NoE := by
  have pf : ∀ y : Int, 0 ≤ y → y < 3 → ∃ lo hi : Str, [W.tup [.str "a", .str "m"], .tup [.str "b", .str "b"], .tup [.str "aa", .str "zz"]][y.toNat]? = some (.tup [.str lo, .str hi]) ∧
      ∀ (sc kk : W) (n : Nd), hdS [5, 0] (phK [some sc, some (.ref 0), some kk, some (.str lo), some (.str hi), none, none] [n]) = ([none, some (.ref 0), some kk, some (.str lo), some (.str hi), none, none], some n) := by
    intro y y0 y1
    have : y = 0 ∨ y = 1 ∨ y = 2 := by omega
    rcases this with rfl | rfl | rfl
    · exact ⟨_, _, rfl, ph1⟩
    · exact ⟨_, _, rfl, ph2⟩
    · exact ⟨_, _, rfl, ph3⟩
  have kf : ∀ y : Int, 0 ≤ y → y < 4 → ∃ a b : Str, [W.lst [.str "a", .str "b"], .lst [.str "ab", .str "b"], .lst [.str "z", .str "zz"], .lst [.str "k", .str "kkkkkkkkkkkk"]][y.toNat]? = some (.lst [.str a, .str b]) ∧
      ∀ n : Nd, hd (r_law_known_right [.str a, .str b] [n]) = (.bl true, some n) := by
    intro y y0 y1
    have : y = 0 ∨ y = 1 ∨ y = 2 ∨ y = 3 := by omega
    rcases this with rfl | rfl | rfl | rfl
    · exact ⟨_, _, rfl, kr1⟩
    · exact ⟨_, _, rfl, kr2⟩
    · exact ⟨_, _, rfl, kr3⟩
    · exact ⟨_, _, rfl, kr4⟩
  simp only [r_law]
  rw [show m_law = law0 phK from rfl, wp_run]
  revert pf
  generalize phK = PH
  intro pf
  simp only [law0]
  simp only [ws_seq, ws_if, ws_set, ws_sub, ws_ret, ws_retN, ws_expr, ws_sNx, ws_for, wp_op, wp_var0, wp_varS, wp_c, wp_mB, wp_toB, wp_tr, wp_trB_bl, wp_trB_non, wp_trB_int, wp_not, wp_and, wp_or, wp_if, wp_mBl, wp_nil, wp_cons, wp_tup, wp_lst, wp_lstS, wp_newL_t, wp_newL_f, wp_chain, wp_call, wp_fn, wp_sl, wp_noPart, wp_part, wp_comp, wp_yes, wp_iL, wp_iA, wp_srcL, wp_srcS, wp_srcAL, wp_srcAT, wp_iR1, wp_iR2, wp_rng1, wp_rng2, wp_iRv, wp_srcRL, wp_srcRT, wp_iEA, wp_srcEL, wp_srcET, wp_add, wp_sub, wp_mul, wp_mod, wp_div, wp_divW, wp_pow18, wp_pow17, wp_pow16, wp_pow30, wp_eqI, wp_neI, wp_cmpI, wp_isN, wp_isNotN, wp_lenL, wp_lenT, wp_abs, wp_int, wp_min2, wp_max2, wp_listL, wp_listT, wp_tupleL, wp_tupleT, wp_ixT0, wp_ixT1, wp_ixL0, wp_neg, wp_ok, wp_srcEL, wp_isB, wp_isNotB, wp_eqB, wp_neB, wp_all, wp_any, wp_slT, wp_slL, wp_rev, wp_revT, wp_revL, wp_disp, wp_pair, wp_pair0, wp_dict0, wipeW, List.foldl_cons, List.foldl_nil, wp_run, List.map, List.length, List.replicate, List.cons_append, List.nil_append, List.append_nil, List.set_cons_zero, List.set_cons_succ, if_true, if_false, Bool.not_true, Bool.not_false, Bool.true_eq_false, Bool.false_eq_true, Nat.reduceAdd, Nat.reduceSub, gName']
  refine wp_no (hand_one ns hl) ?_
  rintro _ _ ⟨rfl, nd, rfl, g⟩
  try simp only [ws_seq, ws_if, ws_set, ws_sub, ws_ret, ws_retN, ws_expr, ws_sNx, ws_for, wp_op, wp_var0, wp_varS, wp_c, wp_mB, wp_toB, wp_tr, wp_trB_bl, wp_trB_non, wp_trB_int, wp_not, wp_and, wp_or, wp_if, wp_mBl, wp_nil, wp_cons, wp_tup, wp_lst, wp_lstS, wp_newL_t, wp_newL_f, wp_chain, wp_call, wp_fn, wp_sl, wp_noPart, wp_part, wp_comp, wp_yes, wp_iL, wp_iA, wp_srcL, wp_srcS, wp_srcAL, wp_srcAT, wp_iR1, wp_iR2, wp_rng1, wp_rng2, wp_iRv, wp_srcRL, wp_srcRT, wp_iEA, wp_srcEL, wp_srcET, wp_add, wp_sub, wp_mul, wp_mod, wp_div, wp_divW, wp_pow18, wp_pow17, wp_pow16, wp_pow30, wp_eqI, wp_neI, wp_cmpI, wp_isN, wp_isNotN, wp_lenL, wp_lenT, wp_abs, wp_int, wp_min2, wp_max2, wp_listL, wp_listT, wp_tupleL, wp_tupleT, wp_ixT0, wp_ixT1, wp_ixL0, wp_neg, wp_ok, wp_srcEL, wp_isB, wp_isNotB, wp_eqB, wp_neB, wp_all, wp_any, wp_slT, wp_slL, wp_rev, wp_revT, wp_revL, wp_disp, wp_pair, wp_pair0, wp_dict0, wipeW, List.foldl_cons, List.foldl_nil, wp_run, List.map, List.length, List.replicate, List.cons_append, List.nil_append, List.append_nil, List.set_cons_zero, List.set_cons_succ, if_true, if_false, Bool.not_true, Bool.not_false, Bool.true_eq_false, Bool.false_eq_true, Nat.reduceAdd, Nat.reduceSub, gName']
  refine wp_no (draw1 g (by decide) (by decide)) ?_
  rintro _ s1 ⟨x, nd1, rfl, x0, x1, hs1, g⟩
  obtain rfl : s1 = [nd1] := hs1
  obtain ⟨a, b, ha, hk⟩ := kf x x0 x1
  rw [wp_ixLi x0 ha]
  try simp only [ws_seq, ws_if, ws_set, ws_sub, ws_ret, ws_retN, ws_expr, ws_sNx, ws_for, wp_op, wp_var0, wp_varS, wp_c, wp_mB, wp_toB, wp_tr, wp_trB_bl, wp_trB_non, wp_trB_int, wp_not, wp_and, wp_or, wp_if, wp_mBl, wp_nil, wp_cons, wp_tup, wp_lst, wp_lstS, wp_newL_t, wp_newL_f, wp_chain, wp_call, wp_fn, wp_sl, wp_noPart, wp_part, wp_comp, wp_yes, wp_iL, wp_iA, wp_srcL, wp_srcS, wp_srcAL, wp_srcAT, wp_iR1, wp_iR2, wp_rng1, wp_rng2, wp_iRv, wp_srcRL, wp_srcRT, wp_iEA, wp_srcEL, wp_srcET, wp_add, wp_sub, wp_mul, wp_mod, wp_div, wp_divW, wp_pow18, wp_pow17, wp_pow16, wp_pow30, wp_eqI, wp_neI, wp_cmpI, wp_isN, wp_isNotN, wp_lenL, wp_lenT, wp_abs, wp_int, wp_min2, wp_max2, wp_listL, wp_listT, wp_tupleL, wp_tupleT, wp_ixT0, wp_ixT1, wp_ixL0, wp_neg, wp_ok, wp_srcEL, wp_isB, wp_isNotB, wp_eqB, wp_neB, wp_all, wp_any, wp_slT, wp_slL, wp_rev, wp_revT, wp_revL, wp_disp, wp_pair, wp_pair0, wp_dict0, wipeW, List.foldl_cons, List.foldl_nil, wp_run, List.map, List.length, List.replicate, List.cons_append, List.nil_append, List.append_nil, List.set_cons_zero, List.set_cons_succ, if_true, if_false, Bool.not_true, Bool.not_false, Bool.true_eq_false, Bool.false_eq_true, Nat.reduceAdd, Nat.reduceSub, gName']
  rw [wp_gc (ws' := [.str a, .str b]) rfl (hk nd1) (bag_bl g)]
  simp only [ws_seq, ws_if, ws_set, ws_sub, ws_ret, ws_retN, ws_expr, ws_sNx, ws_for, wp_op, wp_var0, wp_varS, wp_c, wp_mB, wp_toB, wp_tr, wp_trB_bl, wp_trB_non, wp_trB_int, wp_not, wp_and, wp_or, wp_if, wp_mBl, wp_nil, wp_cons, wp_tup, wp_lst, wp_lstS, wp_newL_t, wp_newL_f, wp_chain, wp_call, wp_fn, wp_sl, wp_noPart, wp_part, wp_comp, wp_yes, wp_iL, wp_iA, wp_srcL, wp_srcS, wp_srcAL, wp_srcAT, wp_iR1, wp_iR2, wp_rng1, wp_rng2, wp_iRv, wp_srcRL, wp_srcRT, wp_iEA, wp_srcEL, wp_srcET, wp_add, wp_sub, wp_mul, wp_mod, wp_div, wp_divW, wp_pow18, wp_pow17, wp_pow16, wp_pow30, wp_eqI, wp_neI, wp_cmpI, wp_isN, wp_isNotN, wp_lenL, wp_lenT, wp_abs, wp_int, wp_min2, wp_max2, wp_listL, wp_listT, wp_tupleL, wp_tupleT, wp_ixT0, wp_ixT1, wp_ixL0, wp_neg, wp_ok, wp_srcEL, wp_isB, wp_isNotB, wp_eqB, wp_neB, wp_all, wp_any, wp_slT, wp_slL, wp_rev, wp_revT, wp_revL, wp_disp, wp_pair, wp_pair0, wp_dict0, wipeW, List.foldl_cons, List.foldl_nil, wp_run, List.map, List.length, List.replicate, List.cons_append, List.nil_append, List.append_nil, List.set_cons_zero, List.set_cons_succ, if_true, if_false, Bool.not_true, Bool.not_false, Bool.true_eq_false, Bool.false_eq_true, Nat.reduceAdd, Nat.reduceSub, gName', ws_asg]
  refine wp_no (draw1 g (by decide) (by decide)) ?_
  rintro _ s2 ⟨y, nd2, rfl, y0, y1, hs2, g⟩
  obtain rfl : s2 = [nd2] := hs2
  obtain ⟨lo, hi, hy, hp⟩ := pf y y0 y1
  rw [wp_ixLi y0 hy]
  refine ⟨_, _, rfl, ?_⟩
  refine ws_gc (hp _ _ nd2) (bag_bl g) rfl ?_
  simp only [ws_seq, ws_if, ws_set, ws_sub, ws_ret, ws_retN, ws_expr, ws_sNx, ws_for, wp_op, wp_var0, wp_varS, wp_c, wp_mB, wp_toB, wp_tr, wp_trB_bl, wp_trB_non, wp_trB_int, wp_not, wp_and, wp_or, wp_if, wp_mBl, wp_nil, wp_cons, wp_tup, wp_lst, wp_lstS, wp_newL_t, wp_newL_f, wp_chain, wp_call, wp_fn, wp_sl, wp_noPart, wp_part, wp_comp, wp_yes, wp_iL, wp_iA, wp_srcL, wp_srcS, wp_srcAL, wp_srcAT, wp_iR1, wp_iR2, wp_rng1, wp_rng2, wp_iRv, wp_srcRL, wp_srcRT, wp_iEA, wp_srcEL, wp_srcET, wp_add, wp_sub, wp_mul, wp_mod, wp_div, wp_divW, wp_pow18, wp_pow17, wp_pow16, wp_pow30, wp_eqI, wp_neI, wp_cmpI, wp_isN, wp_isNotN, wp_lenL, wp_lenT, wp_abs, wp_int, wp_min2, wp_max2, wp_listL, wp_listT, wp_tupleL, wp_tupleT, wp_ixT0, wp_ixT1, wp_ixL0, wp_neg, wp_ok, wp_srcEL, wp_isB, wp_isNotB, wp_eqB, wp_neB, wp_all, wp_any, wp_slT, wp_slL, wp_rev, wp_revT, wp_revL, wp_disp, wp_pair, wp_pair0, wp_dict0, wipeW, List.foldl_cons, List.foldl_nil, wp_run, List.map, List.length, List.replicate, List.cons_append, List.nil_append, List.append_nil, List.set_cons_zero, List.set_cons_succ, if_true, if_false, Bool.not_true, Bool.not_false, Bool.true_eq_false, Bool.false_eq_true, Nat.reduceAdd, Nat.reduceSub, gName', keys_eq]
  refine wp_no (draw1 g (by decide) (by decide)) ?_
  rintro _ s3 ⟨z, nd3, rfl, z0, z1, hs3, g⟩
  obtain ⟨ks, hks, k1, k2, k3⟩ : ∃ ks : List Str, cutW (K6.map W.str) none (some (2 + z)) = ks.map W.str ∧ ks ≠ [] ∧ ks.length ≤ 6 ∧ ∀ y ∈ ks, y ∈ K6 := by
    have : z = 0 ∨ z = 1 ∨ z = 2 := by omega
    rcases this with rfl | rfl | rfl
    · exact ⟨K6.take 2, rfl, by decide +kernel, by decide +kernel, fun y hy => List.mem_of_mem_take hy⟩
    · exact ⟨K6.take 3, rfl, by decide +kernel, by decide +kernel, fun y hy => List.mem_of_mem_take hy⟩
    · exact ⟨K6.take 4, rfl, by decide +kernel, by decide +kernel, fun y hy => List.mem_of_mem_take hy⟩
  try simp only [ws_seq, ws_if, ws_set, ws_sub, ws_ret, ws_retN, ws_expr, ws_sNx, ws_for, wp_op, wp_var0, wp_varS, wp_c, wp_mB, wp_toB, wp_tr, wp_trB_bl, wp_trB_non, wp_trB_int, wp_not, wp_and, wp_or, wp_if, wp_mBl, wp_nil, wp_cons, wp_tup, wp_lst, wp_lstS, wp_newL_t, wp_newL_f, wp_chain, wp_call, wp_fn, wp_sl, wp_noPart, wp_part, wp_comp, wp_yes, wp_iL, wp_iA, wp_srcL, wp_srcS, wp_srcAL, wp_srcAT, wp_iR1, wp_iR2, wp_rng1, wp_rng2, wp_iRv, wp_srcRL, wp_srcRT, wp_iEA, wp_srcEL, wp_srcET, wp_add, wp_sub, wp_mul, wp_mod, wp_div, wp_divW, wp_pow18, wp_pow17, wp_pow16, wp_pow30, wp_eqI, wp_neI, wp_cmpI, wp_isN, wp_isNotN, wp_lenL, wp_lenT, wp_abs, wp_int, wp_min2, wp_max2, wp_listL, wp_listT, wp_tupleL, wp_tupleT, wp_ixT0, wp_ixT1, wp_ixL0, wp_neg, wp_ok, wp_srcEL, wp_isB, wp_isNotB, wp_eqB, wp_neB, wp_all, wp_any, wp_slT, wp_slL, wp_rev, wp_revT, wp_revL, wp_disp, wp_pair, wp_pair0, wp_dict0, wipeW, List.foldl_cons, List.foldl_nil, wp_run, List.map, List.length, List.replicate, List.cons_append, List.nil_append, List.append_nil, List.set_cons_zero, List.set_cons_succ, if_true, if_false, Bool.not_true, Bool.not_false, Bool.true_eq_false, Bool.false_eq_true, Nat.reduceAdd, Nat.reduceSub, gName']
  rw [hks]
  refine wp_no (history_ok (most := 16) (by decide) g k1 k2 k3 (by decide) (by decide)) ?_
  rintro _ s4 ⟨pp, ps, rfl, ep, _, hh, hl20, _, g⟩
  try simp only [ws_seq, ws_if, ws_set, ws_sub, ws_ret, ws_retN, ws_expr, ws_sNx, ws_for, wp_op, wp_var0, wp_varS, wp_c, wp_mB, wp_toB, wp_tr, wp_trB_bl, wp_trB_non, wp_trB_int, wp_not, wp_and, wp_or, wp_if, wp_mBl, wp_nil, wp_cons, wp_tup, wp_lst, wp_lstS, wp_newL_t, wp_newL_f, wp_chain, wp_call, wp_fn, wp_sl, wp_noPart, wp_part, wp_comp, wp_yes, wp_iL, wp_iA, wp_srcL, wp_srcS, wp_srcAL, wp_srcAT, wp_iR1, wp_iR2, wp_rng1, wp_rng2, wp_iRv, wp_srcRL, wp_srcRT, wp_iEA, wp_srcEL, wp_srcET, wp_add, wp_sub, wp_mul, wp_mod, wp_div, wp_divW, wp_pow18, wp_pow17, wp_pow16, wp_pow30, wp_eqI, wp_neI, wp_cmpI, wp_isN, wp_isNotN, wp_lenL, wp_lenT, wp_abs, wp_int, wp_min2, wp_max2, wp_listL, wp_listT, wp_tupleL, wp_tupleT, wp_ixT0, wp_ixT1, wp_ixL0, wp_neg, wp_ok, wp_srcEL, wp_isB, wp_isNotB, wp_eqB, wp_neB, wp_all, wp_any, wp_slT, wp_slL, wp_rev, wp_revT, wp_revL, wp_disp, wp_pair, wp_pair0, wp_dict0, wipeW, List.foldl_cons, List.foldl_nil, wp_run, List.map, List.length, List.replicate, List.cons_append, List.nil_append, List.append_nil, List.set_cons_zero, List.set_cons_succ, if_true, if_false, Bool.not_true, Bool.not_false, Bool.true_eq_false, Bool.false_eq_true, Nat.reduceAdd, Nat.reduceSub, gName']
  refine wp_no (made_ok ep hh hl20) ?_
  rintro _ s5 ⟨hs, rfl, rfl, ho, u5⟩
  have e5 := u5.2 _ _ ep
  have hl' : hs.length ≤ 20 := by simpa using hl20
  have few : ∀ p ∈ hs.map (·.2), p.w.length ≤ 2 := by
    intro p hp
    obtain ⟨j, hj, e⟩ := List.getElem_of_mem hp
    exact (hh.at (i := j) (p := p) (by rw [List.getElem?_eq_getElem hj, e])).wr.few
  refine wp_no (updates_ok ho hh hl') ?_
  rintro _ s6 ⟨f, rfl, ef, u6⟩
  try simp only [ws_seq, ws_if, ws_set, ws_sub, ws_ret, ws_retN, ws_expr, ws_sNx, ws_for, wp_op, wp_var0, wp_varS, wp_c, wp_mB, wp_toB, wp_tr, wp_trB_bl, wp_trB_non, wp_trB_int, wp_not, wp_and, wp_or, wp_if, wp_mBl, wp_nil, wp_cons, wp_tup, wp_lst, wp_lstS, wp_newL_t, wp_newL_f, wp_chain, wp_call, wp_fn, wp_sl, wp_noPart, wp_part, wp_comp, wp_yes, wp_iL, wp_iA, wp_srcL, wp_srcS, wp_srcAL, wp_srcAT, wp_iR1, wp_iR2, wp_rng1, wp_rng2, wp_iRv, wp_srcRL, wp_srcRT, wp_iEA, wp_srcEL, wp_srcET, wp_add, wp_sub, wp_mul, wp_mod, wp_div, wp_divW, wp_pow18, wp_pow17, wp_pow16, wp_pow30, wp_eqI, wp_neI, wp_cmpI, wp_isN, wp_isNotN, wp_lenL, wp_lenT, wp_abs, wp_int, wp_min2, wp_max2, wp_listL, wp_listT, wp_tupleL, wp_tupleT, wp_ixT0, wp_ixT1, wp_ixL0, wp_neg, wp_ok, wp_srcEL, wp_isB, wp_isNotB, wp_eqB, wp_neB, wp_all, wp_any, wp_slT, wp_slL, wp_rev, wp_revT, wp_revL, wp_disp, wp_pair, wp_pair0, wp_dict0, wipeW, List.foldl_cons, List.foldl_nil, wp_run, List.map, List.length, List.replicate, List.cons_append, List.nil_append, List.append_nil, List.set_cons_zero, List.set_cons_succ, if_true, if_false, Bool.not_true, Bool.not_false, Bool.true_eq_false, Bool.false_eq_true, Nat.reduceAdd, Nat.reduceSub, gName']
  refine wp_no (lawlost_ok (u6.2 _ _ e5) hl20 few) ?_
  rintro _ s7 ⟨rfl, u7⟩
  have ef7 := u7.2 _ _ ef
  rw [List.length_map, eq_sp ef7]
  rfl
theorem law_true (ns : List Int) (hl : ns.length ≤ 63) : ∃ st, r_law [.scr (ns.map W.int)] [] = .ok (.bl true) st := by
  obtain ⟨w, s, e, rfl⟩ := wp_get (law_run ns hl)
  exact ⟨s, e⟩
end Lw
namespace Lw
open PySem PySem.Spec PyProof.Rows L2 Mi
theorem law_fn {P : Program} {w : World} {K : PySem.W.Frag} {mg : Str → Option Value} {base : Heap} (x : Tx K mg) (H0 : ∀ ns : List Int, ns.length ≤ 63 → ∃ st, r_law [.scr (ns.map W.int)] [] = .ok (.bl true) st) : FnOk P w K mg base (L2.CX P w) 12 x.a_law x.d_law ["script"] (spLaw K) := by
  refine (fn_law x).imp fun vs H Q E h => ?_
  obtain ⟨a, ns, e, hs, hl, q⟩ := h
  subst e
  obtain ⟨st, hr⟩ := H0 ns hl
  refine ⟨[], [], [], [.scr (ns.map W.int)], ⟨List.nodup_nil, rfl, by simp, by simp, by simp⟩, VRs.cons ?_ VRs.nil, rfl, ?_⟩
  · simp only [VR]
    exact ⟨a, _, rfl, hs.imp (fun h => ⟨by simp, by simp, h⟩) id, vints⟩
  · rw [hr]
    intro ρ' H' v g s r
    simp only [VR] at r
    rw [r]
    exact q H'
theorem walk {l : PySem.W.OpenLaw} {q : Program} {loose : List Str} {XP : (Str → Option Value) → Heap → Prop} {YP : World → Heap → Prop} {d : DefRec} {K : Params → PySem.W.Frag} (hn : l.most = some 63) (hdf : d.params.defaults = [])
    (hY : ∀ (w : World) (h : Heap), YP w h → (K w.params).In h) (H0 : ∀ ns : List Int, ns.length ≤ 63 → ∃ st, r_law [.scr (ns.map W.int)] [] = .ok (.bl true) st)
    (F : ∀ (w : World) (mg : Str → Option Value) (fa : Addr) (h : Heap), (K w.params).In h → h.Ns mainGlobals mg → mg d.name = some (.ref fa) → ∃ x : Tx (K w.params) mg, x.a_law = fa) :
    PySem.W.WalkO q loose XP YP l.row.toRowW d [] (fun f vs => PySem.call f vs) := by
  refine L2.walk_of (n := 63) (k := 12) (x := "script") (CX := fun w => L2.CX l.prog w) (sp := fun w => spLaw (K w.params)) hn (by decide) hdf ⟨rfl, by decide, by decide⟩ hY (fun w mg fa h hK hG hm => ?_) (fun _ _ a ns hl _ hS => ⟨a, ns, rfl, hS, hl, fun _ => rfl⟩) (fun w H s e s' z => ?_)
  · obtain ⟨x, e⟩ := F w mg fa h hK hG hm
    subst e
    exact ⟨x.d_law, x.bl, fun base _ _ => law_fn x H0⟩
  · obtain ⟨_, _, _, _, _, _, _, _, _, _, _, _, z⟩ := z
    exact z.elim
end Lw
open PySem PySem.W PyProof.Rows in
set_option maxRecDepth 100000 in
set_option maxHeartbeats 0 in
theorem PySem.Challenge.cw_wholecommits_k67_whole_lost_updates_and_holds : PySem.Challenge.rw_wholecommits_k67_whole_lost_updates_and.Holds := by
  w_on; o_law; k_head; (case hw => w_witness2)
  k_fill
  refine Lw.walk (l := PySem.Challenge.rw_wholecommits_k67_whole_lost_updates_and) rfl rfl (fun w h Y => PySem.W.kIn_of Y) Lw.law_true ?F
  case F =>
    intro w mg fa h KX G hmg
    refine' Lw.all_mk (w := w) KX G hmg ?aC_NoOrder ?aC_TooMany ?aC_BadHistory ?aC_Dealing ?aC_BadDealing ?aC_StoreError ?a0 ?l0 ?c0 ?k0 ?a1 ?l1 ?c1 ?k1 ?a2 ?l2 ?c2 ?k2 ?a3 ?l3 ?c3 ?k3 ?a4 ?l4 ?c4 ?k4 ?a5 ?l5 ?c5 ?k5 ?a6 ?l6 ?c6 ?k6 ?a7 ?l7 ?c7 ?k7 ?a8 ?l8 ?c8 ?k8 ?a9 ?l9 ?c9 ?k9 ?a10 ?l10 ?c10 ?k10 ?a11 ?l11 ?c11 ?k11 ?a12 ?l12 ?c12 ?k12 ?a13 ?l13 ?c13 ?k13 ?a14 ?l14 ?c14 ?k14 ?a15 ?l15 ?c15 ?k15 ?a16 ?l16 ?c16 ?k16 ?a17 ?l17 ?c17 ?k17 ?a18 ?l18 ?c18 ?k18 ?a19 ?l19 ?c19 ?k19 ?a20 ?i20 ?l20 ?c20 ?k20 ?a21 ?l21 ?c21 ?k21 ?a22 ?l22 ?c22 ?k22 ?a23 ?l23 ?c23 ?k23 ?a24 ?l24 ?c24 ?k24 ?a25 ?l25 ?c25 ?k25 ?a26 ?l26 ?c26 ?k26 ?a27 ?l27 ?c27 ?k27 ?a28 ?l28 ?c28 ?k28 ?a29 ?l29 ?c29 ?k29 ?a30 ?l30 ?c30 ?k30 ?a31 ?l31 ?c31 ?k31 ?a32 ?l32 ?c32 ?k32 ?a33 ?l33 ?c33 ?k33 ?a34 ?l34 ?c34 ?k34 ?a35 ?l35 ?c35 ?k35 ?a36 ?l36 ?c36 ?k36 ?a37 ?l37 ?c37 ?k37 ?a38 ?l38 ?c38 ?k38 ?a39 ?l39 ?c39 ?k39 ?a40 ?l40 ?c40 ?k40 ?a41 ?l41 ?c41 ?k41 ?a42 ?l42 ?c42 ?k42 ?a43 ?l43 ?c43 ?k43 ?a44 ?l44 ?c44 ?k44 ?a45 ?l45 ?c45 ?k45 ?a46 ?l46 ?c46 ?k46 ?a47 ?l47 ?c47 ?k47 ?a48 ?l48 ?c48 ?k48 ?a49 ?l49 ?c49 ?k49 ?a50 ?l50 ?c50 ?k50 ?a51 ?l51 ?c51 ?k51 ?ex_NoOrder ?ek_NoOrder ?es_NoOrder ?et_NoOrder ?qi_TooMany ?qt_TooMany ?ql_TooMany ?qc_TooMany ?qk_TooMany ?qo_TooMany ?qs_TooMany ?qn_TooMany ?qg_TooMany ?qa_TooMany ?qh_TooMany ?ek_TooMany ?es_TooMany ?et_TooMany ?ek_BadHistory ?es_BadHistory ?et_BadHistory ?pg_Dealing ?hd_Dealing ?po_Dealing ?sa_Dealing ?xa_Dealing ?xo_Dealing ?xn_all ?xt_all ?ki_Dealing_int ?ki_Dealing_bool ?ki_Dealing_str ?ki_Dealing_tuple ?ek_BadDealing ?es_BadDealing ?et_BadDealing ?ex_StoreError ?ek_StoreError ?es_StoreError ?et_StoreError ?mk_Dealing ?kc_Dealing ?nf_gets_Dealing ?nf_number_Dealing ?nf_ranges_Dealing ?nf_snapshot_Dealing ?nf_writes_Dealing ?co_GREATEST ?co_LONGEST_WORD ?co_MOST_COUNTED ?co_MOST_DEALINGS ?zb_abs ?zb_all ?zb_any ?zb_bool ?zb_enumerate ?zb_int ?zb_isinstance ?zb_len ?zb_max ?zb_range ?zb_set ?zb_sorted ?zb_str ?zb_tuple
    (case aC_NoOrder => k_is)
    (case aC_TooMany => k_is)
    (case aC_BadHistory => k_is)
    (case aC_Dealing => k_is)
    (case aC_BadDealing => k_is)
    (case aC_StoreError => k_is)
    (case a0 => k_is)
    (case l0 => k_is)
    (case c0 => k_is)
    (case k0 => k_is)
    (case a1 => k_is)
    (case l1 => k_is)
    (case c1 => k_is)
    (case k1 => k_is)
    (case a2 => k_is)
    (case l2 => k_is)
    (case c2 => k_is)
    (case k2 => k_is)
    (case a3 => k_is)
    (case l3 => k_is)
    (case c3 => k_is)
    (case k3 => k_is)
    (case a4 => k_is)
    (case l4 => k_is)
    (case c4 => k_is)
    (case k4 => k_is)
    (case a5 => k_is)
    (case l5 => k_is)
    (case c5 => k_is)
    (case k5 => k_is)
    (case a6 => k_is)
    (case l6 => k_is)
    (case c6 => k_is)
    (case k6 => k_is)
    (case a7 => k_is)
    (case l7 => k_is)
    (case c7 => k_is)
    (case k7 => k_is)
    (case a8 => k_is)
    (case l8 => k_is)
    (case c8 => k_is)
    (case k8 => k_is)
    (case a9 => k_is)
    (case l9 => k_is)
    (case c9 => k_is)
    (case k9 => k_is)
    (case a10 => k_is)
    (case l10 => k_is)
    (case c10 => k_is)
    (case k10 => k_is)
    (case a11 => k_is)
    (case l11 => k_is)
    (case c11 => k_is)
    (case k11 => k_is)
    (case a12 => k_is)
    (case l12 => k_is)
    (case c12 => k_is)
    (case k12 => k_is)
    (case a13 => k_is)
    (case l13 => k_is)
    (case c13 => k_is)
    (case k13 => k_is)
    (case a14 => k_is)
    (case l14 => k_is)
    (case c14 => k_is)
    (case k14 => k_is)
    (case a15 => k_is)
    (case l15 => k_is)
    (case c15 => k_is)
    (case k15 => k_is)
    (case a16 => k_is)
    (case l16 => k_is)
    (case c16 => k_is)
    (case k16 => k_is)
    (case a17 => k_is)
    (case l17 => k_is)
    (case c17 => k_is)
    (case k17 => k_is)
    (case a18 => k_is)
    (case l18 => k_is)
    (case c18 => k_is)
    (case k18 => k_is)
    (case a19 => k_is)
    (case l19 => k_is)
    (case c19 => k_is)
    (case k19 => k_is)
    (case a20 => k_is)
    (case i20 => k_is)
    (case l20 => k_is)
    (case c20 => k_is)
    (case k20 => k_is)
    (case a21 => k_is)
    (case l21 => k_is)
    (case c21 => k_is)
    (case k21 => k_is)
    (case a22 => k_is)
    (case l22 => k_is)
    (case c22 => k_is)
    (case k22 => k_is)
    (case a23 => k_is)
    (case l23 => k_is)
    (case c23 => k_is)
    (case k23 => k_is)
    (case a24 => k_is)
    (case l24 => k_is)
    (case c24 => k_is)
    (case k24 => k_is)
    (case a25 => k_is)
    (case l25 => k_is)
    (case c25 => k_is)
    (case k25 => k_is)
    (case a26 => k_is)
    (case l26 => k_is)
    (case c26 => k_is)
    (case k26 => k_is)
    (case a27 => k_is)
    (case l27 => k_is)
    (case c27 => k_is)
    (case k27 => k_is)
    (case a28 => k_is)
    (case l28 => k_is)
    (case c28 => k_is)
    (case k28 => k_is)
    (case a29 => k_is)
    (case l29 => k_is)
    (case c29 => k_is)
    (case k29 => k_is)
    (case a30 => k_is)
    (case l30 => k_is)
    (case c30 => k_is)
    (case k30 => k_is)
    (case a31 => k_is)
    (case l31 => k_is)
    (case c31 => k_is)
    (case k31 => k_is)
    (case a32 => k_is)
    (case l32 => k_is)
    (case c32 => k_is)
    (case k32 => k_is)
    (case a33 => k_is)
    (case l33 => k_is)
    (case c33 => k_is)
    (case k33 => k_is)
    (case a34 => k_is)
    (case l34 => k_is)
    (case c34 => k_is)
    (case k34 => k_is)
    (case a35 => k_is)
    (case l35 => k_is)
    (case c35 => k_is)
    (case k35 => k_is)
    (case a36 => k_is)
    (case l36 => k_is)
    (case c36 => k_is)
    (case k36 => k_is)
    (case a37 => k_is)
    (case l37 => k_is)
    (case c37 => k_is)
    (case k37 => k_is)
    (case a38 => k_is)
    (case l38 => k_is)
    (case c38 => k_is)
    (case k38 => k_is)
    (case a39 => k_is)
    (case l39 => k_is)
    (case c39 => k_is)
    (case k39 => k_is)
    (case a40 => k_is)
    (case l40 => k_is)
    (case c40 => k_is)
    (case k40 => k_is)
    (case a41 => k_is)
    (case l41 => k_is)
    (case c41 => k_is)
    (case k41 => k_is)
    (case a42 => k_is)
    (case l42 => k_is)
    (case c42 => k_is)
    (case k42 => k_is)
    (case a43 => k_is)
    (case l43 => k_is)
    (case c43 => k_is)
    (case k43 => k_is)
    (case a44 => k_is)
    (case l44 => k_is)
    (case c44 => k_is)
    (case k44 => k_is)
    (case a45 => k_is)
    (case l45 => k_is)
    (case c45 => k_is)
    (case k45 => k_is)
    (case a46 => k_is)
    (case l46 => k_is)
    (case c46 => k_is)
    (case k46 => k_is)
    (case a47 => k_is)
    (case l47 => k_is)
    (case c47 => k_is)
    (case k47 => k_is)
    (case a48 => k_is)
    (case l48 => k_is)
    (case c48 => k_is)
    (case k48 => k_is)
    (case a49 => k_is)
    (case l49 => k_is)
    (case c49 => k_is)
    (case k49 => k_is)
    (case a50 => k_is)
    (case l50 => k_is)
    (case c50 => k_is)
    (case k50 => k_is)
    (case a51 => k_is)
    (case l51 => k_is)
    (case c51 => k_is)
    (case k51 => k_is)
    (case ex_NoOrder => k_exc)
    (case ek_NoOrder => k_is)
    (case es_NoOrder => k_is)
    (case et_NoOrder => k_is)
    (case qi_TooMany => k_is)
    (case qt_TooMany => k_is)
    (case ql_TooMany => k_is)
    (case qc_TooMany => k_is)
    (case qk_TooMany => k_is)
    (case qo_TooMany => kernel_rfl)
    (case qs_TooMany => k_is)
    (case qn_TooMany => k_is)
    (case qg_TooMany => k_is)
    (case qa_TooMany => k_is)
    (case qh_TooMany => k_is)
    (case ek_TooMany => k_is)
    (case es_TooMany => k_is)
    (case et_TooMany => k_is)
    (case ek_BadHistory => k_is)
    (case es_BadHistory => k_is)
    (case et_BadHistory => k_is)
    (case pg_Dealing => k_is)
    (case hd_Dealing => k_is)
    (case po_Dealing => k_is)
    (case sa_Dealing => k_is)
    (case xa_Dealing => k_is)
    (case xo_Dealing => k_is)
    (case xn_all => k_is)
    (case xt_all => k_is)
    (case ki_Dealing_int => first | rfl | k_is)
    (case ki_Dealing_bool => first | rfl | k_is)
    (case ki_Dealing_str => first | rfl | k_is)
    (case ki_Dealing_tuple => first | rfl | k_is)
    (case ek_BadDealing => k_is)
    (case es_BadDealing => k_is)
    (case et_BadDealing => k_is)
    (case ex_StoreError => k_exc)
    (case ek_StoreError => k_is)
    (case es_StoreError => k_is)
    (case et_StoreError => k_is)
    (case mk_Dealing => k_is)
    (case kc_Dealing => k_is)
    (case nf_gets_Dealing => k_is)
    (case nf_number_Dealing => k_is)
    (case nf_ranges_Dealing => k_is)
    (case nf_snapshot_Dealing => k_is)
    (case nf_writes_Dealing => k_is)
    (case co_GREATEST => k_is)
    (case co_LONGEST_WORD => k_is)
    (case co_MOST_COUNTED => k_is)
    (case co_MOST_DEALINGS => k_is)
    (case zb_abs => k_is)
    (case zb_all => k_is)
    (case zb_any => k_is)
    (case zb_bool => k_is)
    (case zb_enumerate => k_is)
    (case zb_int => k_is)
    (case zb_isinstance => k_is)
    (case zb_len => k_is)
    (case zb_max => k_is)
    (case zb_range => k_is)
    (case zb_set => k_is)
    (case zb_sorted => k_is)
    (case zb_str => k_is)
    (case zb_tuple => k_is)
