import PyProof.Rows.All
import Wide.All
import OpenK.AllK
import Wide.FinOn
import HandS.ForMost
import HandS.WordsExc
import HandS.Wide
import HandS.Flow
import HandS.ExcOwn
import HandS.Small
import HandS.IsInst
import HandS.SortInts
import HandS.WordsDict
import HandS.SetFor
import HandS.SetKeys
import HandS.Conv
import HandS.DictComp
import HandS.More
import PySem.Challenge.RW_wholecommits_k04_whole_orders_in_which_w
set_option Elab.async false
set_option linter.all false
set_option maxRecDepth 100000
set_option maxHeartbeats 4000000
/-! The mirror: values, a store, and how they stand in the heap. -/
namespace Mi
open PySem L2

/-- a value of the mirror: lst is a list that is never changed again, ref a place of the store -/
inductive W where
  | non | bl (b : Bool) | int (i : Int) | str (x : Str) | ty (n : String)
  | tup (xs : List W) | lst (xs : List W) | scr (xs : List W) | ref (i : Nat) | at_ (a : Addr)
/-- what stands in the store -/
inductive Nd where
  | lst (xs : List W) | dk (kvs : List (Key × W)) | ins (c : Nat) (fs : List (Str × W)) | lk (kvs : List (Key × W))
abbrev Sto := List Nd
abbrev Ev := List (Option W)
/-- an exception of an own class, by its number -/
inductive Xc where
  | plain (c : Nat)
inductive Rs (α : Type) where
  | ok (a : α) (s : Sto) | ex (x : Xc) (s : Sto) | stuck
def Rs.bind {α β : Type} (r : Rs α) (k : α → Sto → Rs β) : Rs β := match r with
  | .ok a s => k a s
  | .ex x s => .ex x s
  | .stuck => .stuck

section
variable (K : PySem.W.Frag)
/-- a tuple, a list that stands still at a -/
def TupAt (ρ η : List Addr) (H : Hp) (a : Addr) (vs : List V) : Prop := (a ∉ ρ ∧ a ∉ η ∧ Rd H a (.tup vs)) ∨
  ∃ (o : Obj) (its : Array Value) (n : Nat), K.lookup a = some o ∧ o.cls = .type "tuple" ∧ o.data = .seq its n ∧ its.size ≤ sizeLine ∧ Vals vs its.toList
def LstAt (ρ η : List Addr) (H : Hp) (a : Addr) (vs : List V) : Prop := (a ∉ ρ ∧ a ∉ η ∧ Rd H a (.lst vs)) ∨
  ∃ (o : Obj) (its : Array Value) (n : Nat), K.lookup a = some o ∧ o.cls = .type "list" ∧ o.dict = none ∧ o.data = .seq its n ∧ its.size ≤ sizeLine ∧ Vals vs its.toList
mutual
def VR (ρ η : List Addr) (H : Hp) : W → V → Prop
  | .non, v => v = .non
  | .bl b, v => v = .bl b
  | .int i, v => v = .int i
  | .str x, v => v = .str x
  | .ty n, v => v = .ty n
  | .at_ a, v => v = .ref a
  | .ref i, v => ∃ a, ρ[i]? = some a ∧ v = .ref a
  | .tup xs, v => ∃ a vs, v = .ref a ∧ TupAt K ρ η H a vs ∧ VRs ρ η H xs vs
  | .lst xs, v => ∃ a vs, v = .ref a ∧ (a ∉ ρ ∧ a ∉ η ∧ H a = some (.lst vs)) ∧ VRs ρ η H xs vs
  | .scr xs, v => ∃ a vs, v = .ref a ∧ LstAt K ρ η H a vs ∧ VRs ρ η H xs vs
def VRs (ρ η : List Addr) (H : Hp) : List W → List V → Prop
  | [], vs => vs = []
  | x :: xs, vs => ∃ v r, vs = v :: r ∧ VR ρ η H x v ∧ VRs ρ η H xs r
end
end

/-- ahead (ρ, H), behind (ρ', H'): more places, what is no place stands as it stood -/
structure Grow (ρ : List Addr) (H : Hp) (ρ' : List Addr) (H' : Hp) : Prop where
  pre : ∃ t, ρ' = ρ ++ t ∧ ∀ a ∈ t, H a = none
  same : ∀ a o, a ∉ ρ → H a = some o → H' a = some o
  all : ∀ a o, H a = some o → ∃ o', H' a = some o'
  frz : ∀ a o u, H a = some (.frz o u) → H' a = some (.frz o u)

theorem Grow.refl {ρ : List Addr} {H : Hp} : Grow ρ H ρ H := ⟨⟨[], by simp, by simp⟩, fun _ _ _ h => h, fun _ o h => ⟨o, h⟩, fun _ _ _ h => h⟩
theorem Grow.back {ρ ρ' : List Addr} {H H' : Hp} (g : Grow ρ H ρ' H') {a : Addr} (h : H' a = none) : H a = none := by
  cases e : H a with
  | none => rfl
  | some o =>
    obtain ⟨o', q⟩ := g.all a o e
    rw [h] at q; cases q
theorem Grow.trans {ρ ρ1 ρ2 : List Addr} {H H1 H2 : Hp} (g : Grow ρ H ρ1 H1) (k : Grow ρ1 H1 ρ2 H2) : Grow ρ H ρ2 H2 := by
  obtain ⟨t, e, ht⟩ := g.pre
  obtain ⟨u, e2, hu⟩ := k.pre
  refine ⟨⟨t ++ u, by rw [e2, e, List.append_assoc], fun a ha => ?_⟩, fun a o na h => ?_, fun a o h => ?_, fun a o u h => k.frz a o u (g.frz a o u h)⟩
  · rcases List.mem_append.mp ha with ha | ha
    · exact ht a ha
    · exact g.back (hu a ha)
  · refine k.same a o (fun z => ?_) (g.same a o na h)
    rw [e] at z
    rcases List.mem_append.mp z with z | z
    · exact na z
    · rw [ht a z] at h; cases h
  · obtain ⟨o1, h1⟩ := g.all a o h
    exact k.all a o1 h1
theorem Grow.out {ρ ρ' : List Addr} {H H' : Hp} (g : Grow ρ H ρ' H') {a : Addr} {o : HO} (na : a ∉ ρ) (h : H a = some o) : a ∉ ρ' := fun z => by
  obtain ⟨t, e, ht⟩ := g.pre
  rw [e] at z
  rcases List.mem_append.mp z with z | z
  · exact na z
  · rw [ht a z] at h; cases h
theorem Grow.at {ρ ρ' : List Addr} {H H' : Hp} (g : Grow ρ H ρ' H') {i : Nat} {a : Addr} (h : ρ[i]? = some a) : ρ'[i]? = some a := by
  obtain ⟨t, e, _⟩ := g.pre
  rw [e]
  rw [List.getElem?_append_left (List.getElem?_eq_some_iff.mp h).1]
  exact h
/-- a new object that is no place -/
theorem Grow.new {ρ : List Addr} {H : Hp} {p : Addr} {o : HO} (h : H p = none) : Grow ρ H ρ (upd H p o) :=
  ⟨⟨[], by simp, by simp⟩, fun a u _ e => by rw [upd_ne (ne_of_none e h)]; exact e, fun a u e => ⟨u, by rw [upd_ne (ne_of_none e h)]; exact e⟩, fun a u z e => by rw [upd_ne (ne_of_none e h)]; exact e⟩
/-- a new place -/
theorem Grow.node {ρ : List Addr} {H : Hp} {p : Addr} {o : HO} (h : H p = none) : Grow ρ H (ρ ++ [p]) (upd H p o) :=
  ⟨⟨[p], rfl, by simp [h]⟩, fun a u _ e => by rw [upd_ne (ne_of_none e h)]; exact e, fun a u e => ⟨u, by rw [upd_ne (ne_of_none e h)]; exact e⟩, fun a u z e => by rw [upd_ne (ne_of_none e h)]; exact e⟩
/-- what may be written -/
def Open (H : Hp) (p : Addr) : Prop := ∀ o u, H p ≠ some (.frz o u)
/-- a place changes -/
theorem Grow.write {ρ : List Addr} {H : Hp} {p : Addr} {o : HO} (h : p ∈ ρ) (op : Open H p) : Grow ρ H ρ (upd H p o) :=
  ⟨⟨[], by simp, by simp⟩, fun a u na e => by rw [upd_ne (fun z => na (by rw [z]; exact h))]; exact e, fun a u e => by
    by_cases z : a = p
    · exact ⟨o, by rw [z, upd_same]⟩
    · exact ⟨u, by rw [upd_ne z]; exact e⟩, fun a u x e => by
    rw [upd_ne (fun z => op u x (by rw [← z]; exact e))]; exact e⟩
theorem open_of {H : Hp} {p : Addr} {x : HO} (e : H p = some x) (n : ∀ o u, x ≠ .frz o u) : Open H p := fun o u z => n o u (Option.some.inj (e.symm.trans z))

theorem rd_some {H : Hp} {a : Addr} {u : HO} (h : Rd H a u) : ∃ o, H a = some o := by
  rcases h with h | ⟨o, h⟩
  · exact ⟨_, h⟩
  · exact ⟨_, h⟩
theorem Grow.rd {ρ ρ' : List Addr} {H H' : Hp} (g : Grow ρ H ρ' H') {a : Addr} {u : HO} (na : a ∉ ρ) (h : Rd H a u) : Rd H' a u := by
  rcases h with h | ⟨o, h⟩
  · exact .inl (g.same _ _ na h)
  · exact .inr ⟨o, g.same _ _ na h⟩
section
variable {K : PySem.W.Frag} {ρ ρ' η η' : List Addr} {H H' : Hp}
theorem TupAt.mono {a : Addr} {vs : List V} (g : Grow ρ H ρ' H') (h : TupAt K ρ η H a vs) : TupAt K ρ' η H' a vs := by
  rcases h with ⟨h1, h2, h3⟩ | h
  · obtain ⟨o, e⟩ := rd_some h3
    exact .inl ⟨g.out h1 e, h2, g.rd h1 h3⟩
  · exact .inr h
theorem LstAt.mono {a : Addr} {vs : List V} (g : Grow ρ H ρ' H') (h : LstAt K ρ η H a vs) : LstAt K ρ' η H' a vs := by
  rcases h with ⟨h1, h2, h3⟩ | h
  · obtain ⟨o, e⟩ := rd_some h3
    exact .inl ⟨g.out h1 e, h2, g.rd h1 h3⟩
  · exact .inr h
theorem TupAt.sq {a : Addr} {vs : List V} (h : TupAt K ρ η H a vs) : SqT K H a vs := h.imp (fun h => h.2.2) id
theorem LstAt.sq {a : Addr} {vs : List V} (h : LstAt K ρ η H a vs) : SqL K H a vs := h.imp (fun h => h.2.2) id
mutual
theorem VR.mono (g : Grow ρ H ρ' H') : ∀ {w : W} {v : V}, VR K ρ η H w v → VR K ρ' η H' w v
  | .non, _, h => h
  | .bl _, _, h => h
  | .int _, _, h => h
  | .str _, _, h => h
  | .ty _, _, h => h
  | .at_ _, _, h => h
  | .ref i, v, h => by
    simp only [VR] at h ⊢
    obtain ⟨a, e, r⟩ := h
    exact ⟨a, g.at e, r⟩
  | .tup xs, v, h => by
    simp only [VR] at h ⊢
    obtain ⟨a, vs, e, t, r⟩ := h
    exact ⟨a, vs, e, t.mono g, VRs.mono g r⟩
  | .lst xs, v, h => by
    simp only [VR] at h ⊢
    obtain ⟨a, vs, e, ⟨t1, t2, t3⟩, r⟩ := h
    exact ⟨a, vs, e, ⟨g.out t1 t3, t2, g.same _ _ t1 t3⟩, VRs.mono g r⟩
  | .scr xs, v, h => by
    simp only [VR] at h ⊢
    obtain ⟨a, vs, e, t, r⟩ := h
    exact ⟨a, vs, e, t.mono g, VRs.mono g r⟩
theorem VRs.mono (g : Grow ρ H ρ' H') : ∀ {ws : List W} {vs : List V}, VRs K ρ η H ws vs → VRs K ρ' η H' ws vs
  | [], _, h => by simpa only [VRs] using h
  | x :: xs, vs, h => by
    simp only [VRs] at h ⊢
    obtain ⟨v, r, e, h1, h2⟩ := h
    exact ⟨v, r, e, VR.mono g h1, VRs.mono g h2⟩
end
/-- fewer hidden ones -/
theorem TupAt.less {a : Addr} {vs : List V} (g : ∀ b ∈ η', b ∈ η) (h : TupAt K ρ η H a vs) : TupAt K ρ η' H a vs := h.imp (fun h => ⟨h.1, fun z => h.2.1 (g _ z), h.2.2⟩) id
theorem LstAt.less {a : Addr} {vs : List V} (g : ∀ b ∈ η', b ∈ η) (h : LstAt K ρ η H a vs) : LstAt K ρ η' H a vs := h.imp (fun h => ⟨h.1, fun z => h.2.1 (g _ z), h.2.2⟩) id
mutual
theorem VR.less (g : ∀ b ∈ η', b ∈ η) : ∀ {w : W} {v : V}, VR K ρ η H w v → VR K ρ η' H w v
  | .non, _, h => h
  | .bl _, _, h => h
  | .int _, _, h => h
  | .str _, _, h => h
  | .ty _, _, h => h
  | .at_ _, _, h => h
  | .ref i, v, h => by
    simp only [VR] at h ⊢
    exact h
  | .tup xs, v, h => by
    simp only [VR] at h ⊢
    obtain ⟨a, vs, e, t, r⟩ := h
    exact ⟨a, vs, e, t.less g, VRs.less g r⟩
  | .lst xs, v, h => by
    simp only [VR] at h ⊢
    obtain ⟨a, vs, e, ⟨t1, t2, t3⟩, r⟩ := h
    exact ⟨a, vs, e, ⟨t1, fun z => t2 (g _ z), t3⟩, VRs.less g r⟩
  | .scr xs, v, h => by
    simp only [VR] at h ⊢
    obtain ⟨a, vs, e, t, r⟩ := h
    exact ⟨a, vs, e, t.less g, VRs.less g r⟩
theorem VRs.less (g : ∀ b ∈ η', b ∈ η) : ∀ {ws : List W} {vs : List V}, VRs K ρ η H ws vs → VRs K ρ η' H ws vs
  | [], _, h => by simpa only [VRs] using h
  | x :: xs, vs, h => by
    simp only [VRs] at h ⊢
    obtain ⟨v, r, e, h1, h2⟩ := h
    exact ⟨v, r, e, VR.less g h1, VRs.less g h2⟩
end
/-- a new hidden object D, or one that changes -/
theorem TupAt.hide {a D : Addr} {o : HO} {vs : List V} (n : H D = none ∨ D ∈ η) (h : TupAt K ρ η H a vs) : TupAt K ρ (D :: η) (upd H D o) a vs := by
  rcases h with ⟨h1, h2, h3⟩ | h
  · have ne : a ≠ D := by
      rintro rfl
      rcases n with n | n
      · obtain ⟨o, e⟩ := rd_some h3
        rw [n] at e; cases e
      · exact h2 n
    refine .inl ⟨h1, by simp [ne, h2], ?_⟩
    rcases h3 with e | ⟨o, e⟩
    · exact .inl (by rw [upd_ne ne]; exact e)
    · exact .inr ⟨o, by rw [upd_ne ne]; exact e⟩
  · exact .inr h
theorem LstAt.hide {a D : Addr} {o : HO} {vs : List V} (n : H D = none ∨ D ∈ η) (h : LstAt K ρ η H a vs) : LstAt K ρ (D :: η) (upd H D o) a vs := by
  rcases h with ⟨h1, h2, h3⟩ | h
  · have ne : a ≠ D := by
      rintro rfl
      rcases n with n | n
      · obtain ⟨o, e⟩ := rd_some h3
        rw [n] at e; cases e
      · exact h2 n
    refine .inl ⟨h1, by simp [ne, h2], ?_⟩
    rcases h3 with e | ⟨o, e⟩
    · exact .inl (by rw [upd_ne ne]; exact e)
    · exact .inr ⟨o, by rw [upd_ne ne]; exact e⟩
  · exact .inr h
mutual
theorem VR.hide {D : Addr} {o : HO} (n : H D = none ∨ D ∈ η) : ∀ {w : W} {v : V}, VR K ρ η H w v → VR K ρ (D :: η) (upd H D o) w v
  | .non, _, h => h
  | .bl _, _, h => h
  | .int _, _, h => h
  | .str _, _, h => h
  | .ty _, _, h => h
  | .at_ _, _, h => h
  | .ref i, v, h => by
    simp only [VR] at h ⊢
    exact h
  | .tup xs, v, h => by
    simp only [VR] at h ⊢
    obtain ⟨a, vs, e, t, r⟩ := h
    exact ⟨a, vs, e, t.hide n, VRs.hide n r⟩
  | .lst xs, v, h => by
    simp only [VR] at h ⊢
    obtain ⟨a, vs, e, ⟨t1, t2, t3⟩, r⟩ := h
    have ne : a ≠ D := by
      rintro rfl
      rcases n with n | n
      · rw [n] at t3; cases t3
      · exact t2 n
    exact ⟨a, vs, e, ⟨t1, by simp [ne, t2], by rw [upd_ne ne]; exact t3⟩, VRs.hide n r⟩
  | .scr xs, v, h => by
    simp only [VR] at h ⊢
    obtain ⟨a, vs, e, t, r⟩ := h
    exact ⟨a, vs, e, t.hide n, VRs.hide n r⟩
theorem VRs.hide {D : Addr} {o : HO} (n : H D = none ∨ D ∈ η) : ∀ {ws : List W} {vs : List V}, VRs K ρ η H ws vs → VRs K ρ (D :: η) (upd H D o) ws vs
  | [], _, h => by simpa only [VRs] using h
  | x :: xs, vs, h => by
    simp only [VRs] at h ⊢
    obtain ⟨v, r, e, h1, h2⟩ := h
    exact ⟨v, r, e, VR.hide n h1, VRs.hide n h2⟩
end
theorem VRs.append : ∀ {xs ys : List W} {vs us : List V}, VRs K ρ η H xs vs → VRs K ρ η H ys us → VRs K ρ η H (xs ++ ys) (vs ++ us)
  | [], _, _, _, h, k => by
    simp only [VRs] at h
    subst h
    exact k
  | x :: xs, _, _, _, h, k => by
    simp only [VRs, List.cons_append] at h ⊢
    obtain ⟨v, r, e, h1, h2⟩ := h
    exact ⟨v, r ++ _, by rw [e]; rfl, h1, h2.append k⟩
theorem VRs.len : ∀ {xs : List W} {vs : List V}, VRs K ρ η H xs vs → vs.length = xs.length
  | [], _, h => by
    simp only [VRs] at h
    subst h
    rfl
  | x :: xs, _, h => by
    simp only [VRs] at h
    obtain ⟨v, r, e, h1, h2⟩ := h
    rw [e, List.length_cons, List.length_cons, h2.len]
theorem VRs.get : ∀ {xs : List W} {vs : List V} {i : Nat} {x : W}, VRs K ρ η H xs vs → xs[i]? = some x → ∃ v, vs[i]? = some v ∧ VR K ρ η H x v
  | [], _, _, _, _, e => by simp at e
  | x :: xs, _, 0, _, h, e => by
    simp only [VRs] at h
    obtain ⟨v, r, e', h1, h2⟩ := h
    simp at e
    subst e
    exact ⟨v, by rw [e']; rfl, h1⟩
  | x :: xs, _, i + 1, y, h, e => by
    simp only [VRs] at h
    obtain ⟨v, r, e', h1, h2⟩ := h
    obtain ⟨u, q, k⟩ := h2.get (i := i) (x := y) (by simpa using e)
    exact ⟨u, by rw [e']; simpa using q, k⟩
theorem VRs.getv : ∀ {xs : List W} {vs : List V} {i : Nat} {v : V}, VRs K ρ η H xs vs → vs[i]? = some v → ∃ x, xs[i]? = some x ∧ VR K ρ η H x v := fun {xs vs i v} h e => by
  have hi : i < xs.length := by rw [← h.len]; exact (List.getElem?_eq_some_iff.mp e).1
  obtain ⟨u, q, k⟩ := h.get (i := i) (List.getElem?_eq_getElem hi)
  rw [e] at q
  cases q
  exact ⟨_, List.getElem?_eq_getElem hi, k⟩
theorem VRs.of_get : ∀ {xs : List W} {vs : List V}, vs.length = xs.length → (∀ (i : Nat) (x : W) (v : V), xs[i]? = some x → vs[i]? = some v → VR K ρ η H x v) → VRs K ρ η H xs vs
  | [], vs, l, _ => by
    simp only [VRs]
    exact List.eq_nil_of_length_eq_zero l
  | x :: xs, [], l, _ => by simp at l
  | x :: xs, v :: vs, l, h => by
    simp only [VRs]
    exact ⟨v, vs, rfl, h 0 x v rfl rfl, VRs.of_get (by simpa using l) fun i y u a b => h (i + 1) y u (by simpa using a) (by simpa using b)⟩
theorem VRs.nil : VRs K ρ η H [] [] := by simp only [VRs]
theorem VRs.cons {x : W} {xs : List W} {v : V} {vs : List V} (a : VR K ρ η H x v) (b : VRs K ρ η H xs vs) : VRs K ρ η H (x :: xs) (v :: vs) := by
  simp only [VRs]
  exact ⟨v, vs, rfl, a, b⟩
theorem VRs.set {x : W} {v : V} (a : VR K ρ η H x v) {xs : List W} {vs : List V} (i : Nat) (h : VRs K ρ η H xs vs) : VRs K ρ η H (xs.set i x) (vs.set i v) := by
  refine .of_get (by simp [h.len]) fun j y u e f => ?_
  rw [List.getElem?_set] at e f
  rw [h.len] at f
  split at e
  · rename_i q
    subst q
    split at e
    · rename_i q
      rw [if_pos q] at f
      simp at e f
      subst e; subst f
      exact a
    · simp at e
  · rename_i q
    rw [if_neg q] at f
    obtain ⟨z, h1, h2⟩ := h.get e
    rw [f] at h1
    cases h1
    exact h2
theorem VRs.take (n : Nat) {xs : List W} {vs : List V} (h : VRs K ρ η H xs vs) : VRs K ρ η H (xs.take n) (vs.take n) := by
  refine .of_get (by simp [h.len]) fun j y u e f => ?_
  rw [List.getElem?_take] at e f
  split at e
  · rename_i q
    rw [if_pos q] at f
    obtain ⟨z, h1, h2⟩ := h.get e
    rw [f] at h1
    cases h1
    exact h2
  · simp at e
theorem VRs.drop (n : Nat) {xs : List W} {vs : List V} (h : VRs K ρ η H xs vs) : VRs K ρ η H (xs.drop n) (vs.drop n) := by
  refine .of_get (by simp [h.len]) fun j y u e f => ?_
  rw [List.getElem?_drop] at e f
  obtain ⟨z, h1, h2⟩ := h.get e
  rw [f] at h1
  cases h1
  exact h2
theorem VRs.eraseIdx (n : Nat) {xs : List W} {vs : List V} (h : VRs K ρ η H xs vs) : VRs K ρ η H (xs.eraseIdx n) (vs.eraseIdx n) := by
  rw [List.eraseIdx_eq_take_drop_succ, List.eraseIdx_eq_take_drop_succ]
  exact (h.take n).append (h.drop (n + 1))
theorem VRs.rev {xs : List W} {vs : List V} (h : VRs K ρ η H xs vs) : VRs K ρ η H xs.reverse vs.reverse := by
  refine .of_get (by simp [h.len]) fun j y u e f => ?_
  have hj : j < xs.length := by simpa using (List.getElem?_eq_some_iff.mp e).1
  rw [List.getElem?_reverse hj] at e
  rw [List.getElem?_reverse (by rw [h.len]; exact hj), h.len] at f
  obtain ⟨z, h1, h2⟩ := h.get e
  rw [f] at h1
  cases h1
  exact h2
end
end Mi
namespace Mi
open PySem L2

section
variable (K : PySem.W.Frag) (T : Nat → Addr)
/-- a store's object as it stands at a -/
def NR (ρ η : List Addr) (H : Hp) (a : Addr) : Nd → Prop
  | .lst xs => ∃ vs, H a = some (.lst vs) ∧ VRs K ρ η H xs vs
  | .dk kvs => ∃ kv : List (Key × V), H a = some (.dK kv) ∧ kv.map (·.1) = kvs.map (·.1) ∧ VRs K ρ η H (kvs.map (·.2)) (kv.map (·.2))
  | .lk kvs => ∃ (od : Obj) (kv : List (Key × V)), H a = some (.frz od (.dK kv)) ∧ kv.map (·.1) = kvs.map (·.1) ∧ VRs K ρ η H (kvs.map (·.2)) (kv.map (·.2))
  | .ins c fs => ∃ (dx : Addr) (fv : List (Str × V)), H a = some (.ins (T c) dx fv) ∧ fv.map (·.1) = fs.map (·.1) ∧ VRs K ρ η H (fs.map (·.2)) (fv.map (·.2))
structure SR (ρ η : List Addr) (st : Sto) (H : Hp) : Prop where
  nd : ρ.Nodup
  len : ρ.length = st.length
  hid : ∀ a ∈ η, a ∉ ρ
  has : ∀ a ∈ η, ∃ o, H a = some o
  at_ : ∀ (i : Nat) (n : Nd) (a : Addr), st[i]? = some n → ρ[i]? = some a → NR K T ρ η H a n
/-- the names' values -/
def ER (ρ η : List Addr) (H : Hp) (env : Ev) (σ : St) : Prop := σ.length = env.length ∧ ∀ (i : Nat) (w : W), env[i]? = some (some w) → ∃ v, σ[i]? = some (some v) ∧ VR K ρ η H w v
def XR : Xc → Value → Option Addr → Prop
  | .plain n, c, d => c = .ref (T n) ∧ d = none
/-- what follows upon an answer -/
def After {α β : Type} (η : List Addr) (R : List Addr → Hp → α → β → Prop) (ρ : List Addr) (H : Hp) (r : Rs α) (Q : β → Hp → Prop) (E : Value → Option Addr → Hp → Prop) : Prop :=
  match r with
  | .ok w st => ∀ ρ' H' v, Grow ρ H ρ' H' → SR K T ρ' η st H' → R ρ' H' w v → Q v H'
  | .ex x st => ∀ ρ' H' c d, Grow ρ H ρ' H' → SR K T ρ' η st H' → XR T x c d → E c d H'
  | .stuck => False
end
section
variable {K : PySem.W.Frag} {T : Nat → Addr} {ρ ρ' η : List Addr} {H H' : Hp} {st : Sto}
theorem NR.mono {a : Addr} {n : Nd} (g : Grow ρ H ρ' H') (k : H' a = H a) (h : NR K T ρ η H a n) : NR K T ρ' η H' a n := by
  cases n with
  | lst xs => obtain ⟨vs, e, r⟩ := h; exact ⟨vs, k.trans e, r.mono g⟩
  | dk kvs => obtain ⟨kv, e, q, r⟩ := h; exact ⟨kv, k.trans e, q, r.mono g⟩
  | lk kvs => obtain ⟨od, kv, e, q, r⟩ := h; exact ⟨od, kv, k.trans e, q, r.mono g⟩
  | ins c fs => obtain ⟨dx, fv, e, q, r⟩ := h; exact ⟨dx, fv, k.trans e, q, r.mono g⟩
theorem ER.mono {env : Ev} {σ : St} (g : Grow ρ H ρ' H') (h : ER K ρ η H env σ) : ER K ρ' η H' env σ := ⟨h.1, fun i w e => by
  obtain ⟨v, q, r⟩ := h.2 i w e
  exact ⟨v, q, r.mono g⟩⟩
theorem ER.set {env : Ev} {σ : St} {i : Nat} {w : W} {v : V} (h : ER K ρ η H env σ) (r : VR K ρ η H w v) : ER K ρ η H (env.set i (some w)) (σ.set i (some v)) := ⟨by simp [h.1], fun j u e => by
  rw [List.getElem?_set] at e ⊢
  split at e
  · rename_i q
    rw [if_pos q]
    split at e
    · rename_i q2
      rw [h.1, if_pos q2]
      cases e
      exact ⟨v, rfl, r⟩
    · cases e
  · rename_i q
    rw [if_neg q]
    exact h.2 j u e⟩
/-- a new object that is no place -/
theorem SR.new {p : Addr} {o : HO} (h : SR K T ρ η st H) (n : H p = none) (np : ∀ (i : Nat) (a : Addr), ρ[i]? = some a → a ≠ p) : SR K T ρ η st (upd H p o) :=
  ⟨h.nd, h.len, h.hid, fun a ha => by
    obtain ⟨u, e⟩ := h.has a ha
    exact ⟨u, by rw [upd_ne (ne_of_none e n)]; exact e⟩, fun i nd a e q => (h.at_ i nd a e q).mono (Grow.new n) (upd_ne (np i a q))⟩
theorem SR.there {i : Nat} {a : Addr} (h : SR K T ρ η st H) (q : ρ[i]? = some a) : ∃ o, H a = some o := by
  have hi : i < st.length := by rw [← h.len]; exact (List.getElem?_eq_some_iff.mp q).1
  have k := h.at_ i _ a (List.getElem?_eq_getElem hi) q
  cases e : st[i] with
  | lst xs => rw [e] at k; obtain ⟨vs, z, _⟩ := k; exact ⟨_, z⟩
  | dk xs => rw [e] at k; obtain ⟨vs, z, _⟩ := k; exact ⟨_, z⟩
  | lk xs => rw [e] at k; obtain ⟨od, vs, z, _⟩ := k; exact ⟨_, z⟩
  | ins c xs => rw [e] at k; obtain ⟨dx, vs, z, _⟩ := k; exact ⟨_, z⟩
theorem SR.new' {p : Addr} {o : HO} (h : SR K T ρ η st H) (n : H p = none) : SR K T ρ η st (upd H p o) := h.new n fun i a q z => by
  obtain ⟨u, e⟩ := h.there q
  rw [z, n] at e; cases e
theorem SR.fresh {p : Addr} (h : SR K T ρ η st H) (n : H p = none) : p ∉ ρ := fun z => by
  obtain ⟨i, hi⟩ := List.getElem?_of_mem z
  obtain ⟨u, e⟩ := h.there hi
  rw [n] at e; cases e
theorem SR.freshH {p : Addr} (h : SR K T ρ η st H) (n : H p = none) : p ∉ η := fun z => by
  obtain ⟨u, e⟩ := h.has p z
  rw [n] at e; cases e
/-- a new place -/
theorem SR.node {p : Addr} {o : HO} {nd : Nd} (h : SR K T ρ η st H) (n : H p = none) (k : NR K T (ρ ++ [p]) η (upd H p o) p nd) : SR K T (ρ ++ [p]) η (st ++ [nd]) (upd H p o) := by
  refine ⟨?_, by simp [h.len], fun a ha z => ?_, fun a ha => ?_, fun i m a e q => ?_⟩
  · rw [List.nodup_append]
    exact ⟨h.nd, by simp, fun a ha b hb z => by
      rw [List.mem_singleton] at hb
      subst hb; subst z
      exact h.fresh n ha⟩
  · rcases List.mem_append.mp z with z | z
    · exact h.hid a ha z
    · rw [List.mem_singleton] at z
      subst z
      exact h.freshH n ha
  · obtain ⟨u, e⟩ := h.has a ha
    exact ⟨u, by rw [upd_ne (ne_of_none e n)]; exact e⟩
  · by_cases hi : i < st.length
    · rw [List.getElem?_append_left hi] at e
      rw [List.getElem?_append_left (by rw [h.len]; exact hi)] at q
      obtain ⟨u, z⟩ := h.there q
      exact (h.at_ i m a e q).mono (Grow.node n) (upd_ne (ne_of_none z n))
    · have l1 := (List.getElem?_eq_some_iff.mp e).1
      have hi2 : i = st.length := by
        rw [List.length_append, List.length_singleton] at l1
        omega
      subst hi2
      rw [List.getElem?_append_right (Nat.le_refl _)] at e
      rw [List.getElem?_append_right (by rw [h.len]; exact Nat.le_refl _)] at q
      simp at e
      simp [h.len] at q
      subst e; subst q
      exact k
/-- a place changes -/
theorem SR.write {p : Addr} {o : HO} {nd : Nd} {i : Nat} (h : SR K T ρ η st H) (op : Open H p) (q : ρ[i]? = some p) (k : NR K T ρ η (upd H p o) p nd) : SR K T ρ η (st.set i nd) (upd H p o) := by
  have hp : p ∈ ρ := List.mem_of_getElem? q
  refine ⟨h.nd, by simp [h.len], h.hid, fun a ha => ?_, fun j m a e r => ?_⟩
  · obtain ⟨u, e⟩ := h.has a ha
    exact ⟨u, by rw [upd_ne (fun z => h.hid a ha (by rw [z]; exact hp))]; exact e⟩
  · rw [List.getElem?_set] at e
    split at e
    · rename_i z
      subst z
      rw [q] at r
      cases r
      split at e
      · cases e
        exact k
      · cases e
    · rename_i z
      have ne : a ≠ p := by
        rintro rfl
        have l1 := (List.getElem?_eq_some_iff.mp q)
        have l2 := (List.getElem?_eq_some_iff.mp r)
        obtain ⟨b1, c1⟩ := l1
        obtain ⟨b2, c2⟩ := l2
        exact z ((List.getElem_inj h.nd).mp (c1.trans c2.symm))
      exact (h.at_ j m a e r).mono (Grow.write hp op) (upd_ne ne)

theorem After.grow {α β : Type} {R : List Addr → Hp → α → β → Prop} {r : Rs α} {Q : β → Hp → Prop} {E : Value → Option Addr → Hp → Prop} (g : Grow ρ H ρ' H') (h : After K T η R ρ H r Q E) : After K T η R ρ' H' r Q E := by
  cases r with
  | ok w s => exact fun ρ2 H2 v g2 => h ρ2 H2 v (g.trans g2)
  | ex x s => exact fun ρ2 H2 c d g2 => h ρ2 H2 c d (g.trans g2)
  | stuck => exact h
theorem After.bind {α β γ δ : Type} {R : List Addr → Hp → α → β → Prop} {R' : List Addr → Hp → γ → δ → Prop} {r : Rs α} {k : α → Sto → Rs γ} {Q : δ → Hp → Prop} {Q1 : β → Hp → Prop} {E : Value → Option Addr → Hp → Prop} (h : After K T η R' ρ H (r.bind k) Q E)
    (f : ∀ w st1 ρ1 H1 v, Grow ρ H ρ1 H1 → SR K T ρ1 η st1 H1 → R ρ1 H1 w v → After K T η R' ρ1 H1 (k w st1) Q E → Q1 v H1) : After K T η R ρ H r Q1 E := by
  cases r with
  | ok w s => exact fun ρ1 H1 v g s1 r1 => f w s ρ1 H1 v g s1 r1 (After.grow g h)
  | ex x s => exact h
  | stuck => exact h
theorem After.ok {α β : Type} {R : List Addr → Hp → α → β → Prop} {w : α} {Q : β → Hp → Prop} {E : Value → Option Addr → Hp → Prop} {v : β} (h : After K T η R ρ H (.ok w st) Q E) (s : SR K T ρ η st H) (r : R ρ H w v) : Q v H := h ρ H v Grow.refl s r
end

/-! ### what an expression does -/
abbrev M (α : Type) := Ev → Sto → Rs α
def tS (X : Cx) (e : Expr) : TE := fun σ H Q => ∃ t, PE X e t ∧ t σ H Q
theorem pe_S {X : Cx} {e : Expr} : PE X e (tS X e) := ⟨fun pins s σ H Q I ⟨_, h, q⟩ => h.run pins s σ H Q I q⟩
def tST (X : Cx) (e : Expr) : TT := fun σ H Q => ∃ t, PT X e t ∧ t σ H Q
theorem pt_S {X : Cx} {e : Expr} : PT X e (tST X e) := ⟨fun pins s σ H Q I ⟨_, h, q⟩ => h.run pins s σ H Q I q⟩
def tSW (X : Cx) (e : Expr) : TT := fun σ H Q => ∃ t, PW X e t ∧ t σ H Q
theorem pw_S {X : Cx} {e : Expr} : PW X e (tSW X e) := ⟨fun wh pins s σ H Q I ⟨_, h, q⟩ => h.run wh pins s σ H Q I q⟩
def tSA (X : Cx) (es : List Expr) : TA := fun σ H Q => ∃ t, PA X es t ∧ t σ H Q
theorem pa_S {X : Cx} {es : List Expr} : PA X es (tSA X es) := ⟨fun p pins s σ H Q I ⟨_, h, q⟩ => h.run p pins s σ H Q I q⟩
def tSS (X : Cx) (st : Stmt) : TS := fun D σ H => ∃ t, PS X st t ∧ t D σ H
theorem ps_S {X : Cx} {st : Stmt} : PS X st (tSS X st) := ⟨fun pins s σ H D I ⟨_, h, q⟩ => h.run pins s σ H D I q⟩
def tSSs (X : Cx) (st : List Stmt) : TS := fun D σ H => ∃ t, PSs X st t ∧ t D σ H
theorem pss_S {X : Cx} {st : List Stmt} : PSs X st (tSSs X st) := ⟨fun pins s σ H D I ⟨_, h, q⟩ => h.run pins s σ H D I q⟩

abbrev WX' := Value → Option Addr → St → Hp → Prop
section
variable (X : Cx) (T : Nat → Addr) (Wx : WX')
def SE (e : Expr) (m : M W) : Prop := ∀ ρ η st env σ H Q, SR X.K T ρ η st H → ER X.K ρ η H env σ → After X.K T η (fun ρ H => VR X.K ρ η H) ρ H (m env st) Q (fun c d H' => Wx c d σ H') → tS X e σ H Q
def STt (e : Expr) (m : M Bool) : Prop := ∀ ρ η st env σ H Q, SR X.K T ρ η st H → ER X.K ρ η H env σ → After X.K T η (fun _ _ => Eq) ρ H (m env st) Q (fun c d H' => Wx c d σ H') → tST X e σ H Q
def SWt (e : Expr) (m : M Bool) : Prop := ∀ ρ η st env σ H Q, SR X.K T ρ η st H → ER X.K ρ η H env σ → After X.K T η (fun _ _ => Eq) ρ H (m env st) Q (fun c d H' => Wx c d σ H') → tSW X e σ H Q
def SA (es : List Expr) (m : M (List W)) : Prop := ∀ ρ η st env σ H Q, SR X.K T ρ η st H → ER X.K ρ η H env σ → After X.K T η (fun ρ H => VRs X.K ρ η H) ρ H (m env st) Q (fun c d H' => Wx c d σ H') → tSA X es σ H Q
end
end Mi
namespace Mi
open PySem L2

/-! ### reading lists and tuples -/
def seqL (st : Sto) : W → Option (List W)
  | .lst xs => some xs
  | .scr xs => some xs
  | .ref i => match st[i]? with
    | some (.lst xs) => some xs
    | _ => none
  | _ => none
def trkL (st : Sto) : W → Option (List W)
  | .lst xs => some xs
  | .ref i => match st[i]? with
    | some (.lst xs) => some xs
    | _ => none
  | _ => none
def tupL : W → Option (List W)
  | .tup xs => some xs
  | _ => none
section
variable {K : PySem.W.Frag} {T : Nat → Addr} {ρ ρ' η : List Addr} {H H' : Hp} {st : Sto}
theorem node_at {i : Nat} {v : V} {n : Nd} (s : SR K T ρ η st H) (h : VR K ρ η H (.ref i) v) (e : st[i]? = some n) : ∃ a, v = .ref a ∧ ρ[i]? = some a ∧ NR K T ρ η H a n := by
  simp only [VR] at h
  obtain ⟨a, h1, h2⟩ := h
  exact ⟨a, h2, h1, s.at_ i n a e h1⟩
theorem trk_ok {w : W} {v : V} {xs : List W} (s : SR K T ρ η st H) (h : VR K ρ η H w v) (e : trkL st w = some xs) : ∃ a vs, v = .ref a ∧ H a = some (.lst vs) ∧ VRs K ρ η H xs vs := by
  cases w with
  | lst ys =>
    simp only [trkL, Option.some.injEq] at e
    subst e
    simp only [VR] at h
    obtain ⟨a, vs, h1, h2, h3⟩ := h
    exact ⟨a, vs, h1, h2.2.2, h3⟩
  | ref i =>
    simp only [trkL] at e
    split at e
    · rename_i ys q
      cases e
      obtain ⟨a, h1, _, h2⟩ := node_at s h q
      obtain ⟨vs, h3, h4⟩ := h2
      exact ⟨a, vs, h1, h3, h4⟩
    · cases e
  | _ => simp [trkL] at e
theorem seq_ok {w : W} {v : V} {xs : List W} (s : SR K T ρ η st H) (h : VR K ρ η H w v) (e : seqL st w = some xs) : ∃ a vs, v = .ref a ∧ SqL K H a vs ∧ VRs K ρ η H xs vs := by
  cases w with
  | lst ys =>
    obtain ⟨a, vs, h1, h2, h3⟩ := trk_ok s h (show trkL st (.lst ys) = some xs from e)
    exact ⟨a, vs, h1, SqL.of h2, h3⟩
  | ref i =>
    obtain ⟨a, vs, h1, h2, h3⟩ := trk_ok s h (show trkL st (.ref i) = some xs from e)
    exact ⟨a, vs, h1, SqL.of h2, h3⟩
  | scr ys =>
    simp only [seqL, Option.some.injEq] at e
    subst e
    simp only [VR] at h
    obtain ⟨a, vs, h1, h2, h3⟩ := h
    exact ⟨a, vs, h1, h2.sq, h3⟩
  | _ => simp [seqL] at e
theorem tup_ok {w : W} {v : V} {xs : List W} (h : VR K ρ η H w v) (e : tupL w = some xs) : ∃ a vs, v = .ref a ∧ SqT K H a vs ∧ VRs K ρ η H xs vs := by
  cases w with
  | tup ys =>
    simp only [tupL, Option.some.injEq] at e
    subst e
    simp only [VR] at h
    obtain ⟨a, vs, h1, h2, h3⟩ := h
    exact ⟨a, vs, h1, h2.sq, h3⟩
  | _ => simp [tupL] at e
end

/-! ### new lists and tuples -/
def newL (fz : Bool) (xs : List W) (st : Sto) : Rs W := if fz then .ok (.lst xs) st else .ok (.ref st.length) (st ++ [.lst xs])
section
variable {K : PySem.W.Frag} {T : Nat → Addr} {ρ ρ' η : List Addr} {H H' : Hp} {st : Sto} {Q : V → Hp → Prop} {E : Value → Option Addr → Hp → Prop}
theorem newL_ok {fz : Bool} {xs : List W} {vs : List V} {p : Addr} (h : After K T η (fun ρ H => VR K ρ η H) ρ H (newL fz xs st) Q E) (s : SR K T ρ η st H) (r : VRs K ρ η H xs vs) (n : H p = none) : Q (.ref p) (upd H p (.lst vs)) := by
  unfold newL at h
  cases fz with
  | true =>
    refine h ρ _ _ (Grow.new n) (s.new' n) ?_
    simp only [VR]
    exact ⟨p, vs, rfl, ⟨s.fresh n, s.freshH n, upd_same⟩, r.mono (Grow.new n)⟩
  | false =>
    refine h (ρ ++ [p]) _ _ (Grow.node n) (s.node n ⟨vs, upd_same, r.mono (Grow.node n)⟩) ?_
    simp only [VR]
    exact ⟨p, by rw [← s.len, List.getElem?_append_right (Nat.le_refl _)]; simp, rfl⟩
theorem newT_ok {xs : List W} {vs : List V} {p : Addr} (h : After K T η (fun ρ H => VR K ρ η H) ρ H (.ok (.tup xs) st) Q E) (s : SR K T ρ η st H) (r : VRs K ρ η H xs vs) (n : H p = none) : Q (.ref p) (upd H p (.tup vs)) := by
  refine h ρ _ _ (Grow.new n) (s.new' n) ?_
  simp only [VR]
  exact ⟨p, vs, rfl, .inl ⟨s.fresh n, s.freshH n, .inl upd_same⟩, r.mono (Grow.new n)⟩
end

/-! ### operators by values -/
abbrev F2 := W → W → Sto → Rs W
def OkR (K : PySem.W.Frag) (T : Nat → Addr) (f : F2) (r : R2) : Prop := ∀ ρ η st H a b x y Q E, SR K T ρ η st H → VR K ρ η H a x → VR K ρ η H b y → After K T η (fun ρ H => VR K ρ η H) ρ H (f a b st) Q E → r x y H Q
def rOr (r r' : R2) : R2 := fun x y H Q => r x y H Q ∨ r' x y H Q
theorem opr_or {X : Cx} {f : Value → Value → Sem Value} {r r' : R2} (h : OpR X f r) (h' : OpR X f r') : OpR X f (rOr r r') := fun pins s σ H x y v u Q I a b q => by
  rcases q with q | q
  · exact h pins s σ H x y v u Q I a b q
  · exact h' pins s σ H x y v u Q I a b q

def wAdd (fz : Bool) : F2 := fun a b st => match a, b with
  | .int i, .int j => .ok (.int (i + j)) st
  | .str x, .str y => if x.length + y.length ≤ sizeLine then .ok (.str (x ++ y)) st else .stuck
  | .tup xs, .tup ys => if xs ≠ [] ∧ xs.length + ys.length ≤ sizeLine then .ok (.tup (xs ++ ys)) st else .stuck
  | a, b => match trkL st a, trkL st b with
    | some xs, some ys => if xs.length + ys.length ≤ sizeLine then newL fz (xs ++ ys) st else .stuck
    | _, _ => .stuck
def wSub : F2 := fun a b st => match a, b with
  | .int i, .int j => .ok (.int (i - j)) st
  | _, _ => .stuck
def small64 (i : Int) : Bool := decide (i.natAbs < 2 ^ 64)
theorem small64_of {i : Int} (h : small64 i = true) : -(2 ^ 64) < i ∧ i < 2 ^ 64 := by
  simp only [small64, decide_eq_true_eq] at h
  omega
def wMul (fz : Bool) : F2 := fun a b st => match a, b with
  | .int i, .int j => if small64 i || small64 j then .ok (.int (i * j)) st else .stuck
  | a, .int k => match trkL st a with
    | some xs => if k.natAbs < 2 ^ 63 ∧ xs.length * k.toNat ≤ sizeLine then newL fz (List.replicate k.toNat xs).flatten st else .stuck
    | none => .stuck
  | _, _ => .stuck
def wDiv : F2 := fun a b st => match a, b with
  | .int i, .int j => if j ≠ 0 ∧ j.natAbs < 1073741824 then .ok (.int (i.fdiv j)) st else .stuck
  | _, _ => .stuck
def wMod : F2 := fun a b st => match a, b with
  | .int i, .int j => if j ≠ 0 then .ok (.int (i.fmod j)) st else .stuck
  | _, _ => .stuck
def wPow : F2 := fun a b st => match a, b with
  | .int i, .int j => if 0 ≤ j ∧ j.natAbs ≤ 1000000 ∧ i.natAbs < 2 ^ 64 then .ok (.int (i ^ j.toNat)) st else .stuck
  | _, _ => .stuck
def wCmp (p : Int → Int → Bool) : F2 := fun a b st => match a, b with
  | .int i, .int j => .ok (.bl (p i j)) st
  | _, _ => .stuck

section
variable {K : PySem.W.Frag} {T : Nat → Addr}
theorem VRs.flatrep {ρ η : List Addr} {H : Hp} {xs : List W} {vs : List V} (h : VRs K ρ η H xs vs) : ∀ n : Nat, VRs K ρ η H (List.replicate n xs).flatten (List.replicate n vs).flatten
  | 0 => by simpa using VRs.nil
  | n + 1 => by
    rw [List.replicate_succ, List.replicate_succ, List.flatten_cons, List.flatten_cons]
    exact h.append (VRs.flatrep h n)
theorem ok_add {fz : Bool} : OkR K T (wAdd fz) (rOr (rI0 fun i j => .int (i + j)) (rOr (fun x y H Q => ∃ i j, x = V.str i ∧ y = V.str j ∧ i.length + j.length ≤ sizeLine ∧ Q (V.str (i ++ j)) H) (rOr (rCatT K) rCat))) := by
  intro ρ η st H a b x y Q E s ha hb h
  unfold wAdd at h
  split at h
  · simp only [VR] at ha hb
    exact .inl ⟨_, _, ha, hb, h.ok s (by simp only [VR])⟩
  · split at h
    · rename_i q
      simp only [VR] at ha hb
      exact .inr (.inl ⟨_, _, ha, hb, q, h.ok s (by simp only [VR])⟩)
    · exact h.elim
  · split at h
    · rename_i xs ys q
      obtain ⟨p1, vs, e1, t1, r1⟩ := tup_ok ha rfl
      obtain ⟨p2, us, e2, t2, r2⟩ := tup_ok hb rfl
      refine .inr (.inr (.inl ⟨p1, p2, vs, us, e1, e2, t1, t2, fun z => ?_, by rw [r1.len, r2.len]; exact q.2, fun z => ?_, fun z p n => newT_ok h s (r1.append r2) n⟩))
      · have l := r1.len
        rw [z] at l
        exact q.1 (List.eq_nil_of_length_eq_zero l.symm)
      · refine h.ok s ?_
        have l := r2.len
        rw [z] at l
        have e : ys = [] := List.eq_nil_of_length_eq_zero l.symm
        rw [e, List.append_nil, ← e1]
        exact ha
    · exact h.elim
  · split at h
    · rename_i q1 q2
      obtain ⟨p1, vs, e1, t1, r1⟩ := trk_ok s ha q1
      obtain ⟨p2, us, e2, t2, r2⟩ := trk_ok s hb q2
      split at h
      · rename_i q
        exact .inr (.inr (.inr ⟨p1, p2, vs, us, e1, e2, t1, t2, by rw [r1.len, r2.len]; exact q, fun p n => newL_ok h s (r1.append r2) n⟩))
      · exact h.elim
    · exact h.elim
theorem ok_sub : OkR K T wSub (rI0 fun i j => .int (i - j)) := by
  intro ρ η st H a b x y Q E s ha hb h
  unfold wSub at h
  split at h
  · simp only [VR] at ha hb
    exact ⟨_, _, ha, hb, h.ok s (by simp only [VR])⟩
  · exact h.elim
theorem ok_mul {fz : Bool} : OkR K T (wMul fz) (rOr (rI CMul fun i j => .int (i * j)) rRep) := by
  intro ρ η st H a b x y Q E s ha hb h
  unfold wMul at h
  split at h
  · split at h
    · rename_i q
      simp only [VR] at ha hb
      refine .inl ⟨_, _, ha, hb, ?_, h.ok s (by simp only [VR])⟩
      simp only [Bool.or_eq_true] at q
      exact q.imp small64_of small64_of
    · exact h.elim
  · split at h
    · rename_i q1
      split at h
      · rename_i q
        obtain ⟨p1, vs, e1, t1, r1⟩ := trk_ok s ha q1
        simp only [VR] at hb
        exact .inr ⟨p1, _, vs, e1, hb, t1, by omega, by omega, by rw [r1.len]; exact q.2, fun p n => newL_ok h s (r1.flatrep _) n⟩
      · exact h.elim
    · exact h.elim
  · exact h.elim
theorem ok_div : OkR K T wDiv (rI CDivN fun i j => .int (i.fdiv j)) := by
  intro ρ η st H a b x y Q E s ha hb h
  unfold wDiv at h
  split at h
  · split at h
    · rename_i q
      simp only [VR] at ha hb
      exact ⟨_, _, ha, hb, q, h.ok s (by simp only [VR])⟩
    · exact h.elim
  · exact h.elim
theorem ok_mod : OkR K T wMod (rI (fun _ j => j ≠ 0) fun i j => .int (i.fmod j)) := by
  intro ρ η st H a b x y Q E s ha hb h
  unfold wMod at h
  split at h
  · split at h
    · rename_i q
      simp only [VR] at ha hb
      exact ⟨_, _, ha, hb, q, h.ok s (by simp only [VR])⟩
    · exact h.elim
  · exact h.elim
theorem ok_pow : OkR K T wPow (rI CPow fun i j => .int (i ^ j.toNat)) := by
  intro ρ η st H a b x y Q E s ha hb h
  unfold wPow at h
  split at h
  · split at h
    · rename_i q
      simp only [VR] at ha hb
      exact ⟨_, _, ha, hb, ⟨q.1, by omega, q.2.2⟩, h.ok s (by simp only [VR])⟩
    · exact h.elim
  · exact h.elim
theorem ok_cmp {p : Int → Int → Bool} : OkR K T (wCmp p) (rI0 fun i j => .bl (p i j)) := by
  intro ρ η st H a b x y Q E s ha hb h
  unfold wCmp at h
  split at h
  · simp only [VR] at ha hb
    exact ⟨_, _, ha, hb, h.ok s (by simp only [VR])⟩
  · exact h.elim
end
end Mi
namespace Mi
open PySem L2

/-! ### equality -/
def scalV : W → Option V
  | .non => some .non
  | .bl b => some (.bl b)
  | .int i => some (.int i)
  | .str x => some (.str x)
  | _ => none
mutual
def toD0 : W → Option PyData
  | .non => some .none
  | .bl b => some (.bool b)
  | .int i => some (.int i)
  | .str x => some (.str x)
  | .tup xs => (toD0s xs).map .tuple
  | .lst xs => (toD0s xs).map .list
  | .scr xs => (toD0s xs).map .list
  | _ => none
def toD0s : List W → Option (List PyData)
  | [] => some []
  | x :: xs => match toD0 x, toD0s xs with
    | some d, some ds => some (d :: ds)
    | _, _ => none
end
mutual
def toD (st : Sto) : W → Option PyData
  | .non => some .none
  | .bl b => some (.bool b)
  | .int i => some (.int i)
  | .str x => some (.str x)
  | .tup xs => (toDs st xs).map .tuple
  | .lst xs => (toDs st xs).map .list
  | .scr xs => (toDs st xs).map .list
  | .ref i => match st[i]? with
    | some (.lst xs) => (toD0s xs).map .list
    | _ => none
  | _ => none
def toDs (st : Sto) : List W → Option (List PyData)
  | [] => some []
  | x :: xs => match toD st x, toDs st xs with
    | some d, some ds => some (d :: ds)
    | _, _ => none
end
section
variable {K : PySem.W.Frag} {T : Nat → Addr} {ρ η : List Addr} {H : Hp} {st : Sto}
theorem scal_ok {w : W} {v x : V} (h : VR K ρ η H w v) (e : scalV w = some x) : v = x := by
  cases w <;> simp [scalV] at e <;> subst e <;> simpa only [VR] using h
mutual
theorem toD0_ok : ∀ {w : W} {v : V} {d : PyData}, VR K ρ η H w v → toD0 w = some d → Dp K H v d
  | .non, v, d, h, e => by
    simp only [VR] at h; simp only [toD0, Option.some.injEq] at e; subst h; subst e; exact .non
  | .bl b, v, d, h, e => by
    simp only [VR] at h; simp only [toD0, Option.some.injEq] at e; subst h; subst e; exact .bl b
  | .int b, v, d, h, e => by
    simp only [VR] at h; simp only [toD0, Option.some.injEq] at e; subst h; subst e; exact .int b
  | .str b, v, d, h, e => by
    simp only [VR] at h; simp only [toD0, Option.some.injEq] at e; subst h; subst e; exact .str b
  | .tup xs, v, d, h, e => by
    simp only [VR] at h
    simp only [toD0, Option.map_eq_some_iff] at e
    obtain ⟨a, vs, h1, h2, h3⟩ := h
    obtain ⟨ds, e1, e2⟩ := e
    subst h1; subst e2
    exact .tup h2.sq (toD0s_ok h3 e1)
  | .lst xs, v, d, h, e => by
    simp only [VR] at h
    simp only [toD0, Option.map_eq_some_iff] at e
    obtain ⟨a, vs, h1, h2, h3⟩ := h
    obtain ⟨ds, e1, e2⟩ := e
    subst h1; subst e2
    exact .lst (SqL.of h2.2.2) (toD0s_ok h3 e1)
  | .scr xs, v, d, h, e => by
    simp only [VR] at h
    simp only [toD0, Option.map_eq_some_iff] at e
    obtain ⟨a, vs, h1, h2, h3⟩ := h
    obtain ⟨ds, e1, e2⟩ := e
    subst h1; subst e2
    exact .lst h2.sq (toD0s_ok h3 e1)
  | .ty n, v, d, h, e => by simp [toD0] at e
  | .ref n, v, d, h, e => by simp [toD0] at e
  | .at_ n, v, d, h, e => by simp [toD0] at e
theorem toD0s_ok : ∀ {ws : List W} {vs : List V} {ds : List PyData}, VRs K ρ η H ws vs → toD0s ws = some ds → DpAll K H vs ds
  | [], vs, ds, h, e => by
    simp only [VRs] at h; simp only [toD0s, Option.some.injEq] at e; subst h; subst e; exact .nil
  | x :: xs, vs, ds, h, e => by
    simp only [VRs] at h
    obtain ⟨v, r, h1, h2, h3⟩ := h
    simp only [toD0s] at e
    split at e
    · rename_i d ds' q1 q2
      cases e
      subst h1
      exact .cons (toD0_ok h2 q1) (toD0s_ok h3 q2)
    · cases e
end
mutual
theorem toD_ok (s : SR K T ρ η st H) : ∀ {w : W} {v : V} {d : PyData}, VR K ρ η H w v → toD st w = some d → Dp K H v d
  | .non, v, d, h, e => by
    simp only [VR] at h; simp only [toD, Option.some.injEq] at e; subst h; subst e; exact .non
  | .bl b, v, d, h, e => by
    simp only [VR] at h; simp only [toD, Option.some.injEq] at e; subst h; subst e; exact .bl b
  | .int b, v, d, h, e => by
    simp only [VR] at h; simp only [toD, Option.some.injEq] at e; subst h; subst e; exact .int b
  | .str b, v, d, h, e => by
    simp only [VR] at h; simp only [toD, Option.some.injEq] at e; subst h; subst e; exact .str b
  | .tup xs, v, d, h, e => by
    simp only [VR] at h
    simp only [toD, Option.map_eq_some_iff] at e
    obtain ⟨a, vs, h1, h2, h3⟩ := h
    obtain ⟨ds, e1, e2⟩ := e
    subst h1; subst e2
    exact .tup h2.sq (toDs_ok s h3 e1)
  | .lst xs, v, d, h, e => by
    simp only [VR] at h
    simp only [toD, Option.map_eq_some_iff] at e
    obtain ⟨a, vs, h1, h2, h3⟩ := h
    obtain ⟨ds, e1, e2⟩ := e
    subst h1; subst e2
    exact .lst (SqL.of h2.2.2) (toDs_ok s h3 e1)
  | .scr xs, v, d, h, e => by
    simp only [VR] at h
    simp only [toD, Option.map_eq_some_iff] at e
    obtain ⟨a, vs, h1, h2, h3⟩ := h
    obtain ⟨ds, e1, e2⟩ := e
    subst h1; subst e2
    exact .lst h2.sq (toDs_ok s h3 e1)
  | .ty n, v, d, h, e => by simp [toD] at e
  | .at_ n, v, d, h, e => by simp [toD] at e
  | .ref i, v, d, h, e => by
    simp only [toD] at e
    split at e
    · rename_i xs q
      obtain ⟨a, h1, _, vs, h2, h3⟩ := node_at s h q
      simp only [Option.map_eq_some_iff] at e
      obtain ⟨ds, e1, e2⟩ := e
      subst h1; subst e2
      exact .lst (SqL.of h2) (toD0s_ok h3 e1)
    · cases e
theorem toDs_ok (s : SR K T ρ η st H) : ∀ {ws : List W} {vs : List V} {ds : List PyData}, VRs K ρ η H ws vs → toDs st ws = some ds → DpAll K H vs ds
  | [], vs, ds, h, e => by
    simp only [VRs] at h; simp only [toDs, Option.some.injEq] at e; subst h; subst e; exact .nil
  | x :: xs, vs, ds, h, e => by
    simp only [VRs] at h
    obtain ⟨v, r, h1, h2, h3⟩ := h
    simp only [toDs] at e
    split at e
    · rename_i d ds' q1 q2
      cases e
      subst h1
      exact .cons (toD_ok s h2 q1) (toDs_ok s h3 q2)
    · cases e
end
end
/-- whether two things are equal, where this is carried -/
def eqW (st : Sto) (a b : W) : Option Bool :=
  match scalV a, scalV b with
  | some x, some y => if scal x y then some (decide (x = y)) else none
  | _, _ => match toD st a, toD st b with
    | some d, some e => if SeqAt.shaped d && SeqAt.shaped e then some (d.eqv e) else none
    | _, _ => none
def wEq : F2 := fun a b st => match eqW st a b with
  | some c => .ok (.bl c) st
  | none => .stuck
def wNe : F2 := fun a b st => match eqW st a b with
  | some c => .ok (.bl (!c)) st
  | none => .stuck
def isNon : W → Bool
  | .non => true
  | _ => false
def wIs : F2 := fun a b st => match b with
  | .non => .ok (.bl (isNon a)) st
  | _ => .stuck
def wIsNot : F2 := fun a b st => match b with
  | .non => .ok (.bl (!isNon a)) st
  | _ => .stuck
def scalVs : List W → Option (List V)
  | [] => some []
  | x :: xs => match scalV x, scalVs xs with
    | some v, some vs => some (v :: vs)
    | _, _ => none
/-- in a list, a tuple of flat things -/
def inW (st : Sto) (a b : W) : Option Bool :=
  match scalV a, (match tupL b with | some xs => scalVs xs | none => match seqL st b with | some xs => scalVs xs | none => none) with
  | some x, some vs => some (inV x vs)
  | _, _ => none
def wIn (neg : Bool) : F2 := fun a b st => match inW st a b with
  | some c => .ok (.bl (if neg = true then !c else c)) st
  | none => match a, b with
    | .str x, .str z => match x.cps.toList with
      | [c] => .ok (.bl (if neg = true then !decide (c ∈ z.cps.toList) else decide (c ∈ z.cps.toList))) st
      | _ => .stuck
    | _, _ => .stuck
def wCmpS (p : Str → Str → Bool) (q : Int → Int → Bool) : F2 := fun a b st => match a, b with
  | .int i, .int j => .ok (.bl (q i j)) st
  | .str i, .str j => .ok (.bl (p i j)) st
  | _, _ => .stuck
section
variable {K : PySem.W.Frag} {T : Nat → Addr} {ρ η : List Addr} {H : Hp} {st : Sto}
theorem ok_eq : OkR K T wEq (rOr rEq (rEqD K)) := by
  intro ρ η st H a b x y Q E s ha hb h
  unfold wEq at h
  cases e : eqW st a b with
  | none => rw [e] at h; exact h.elim
  | some c =>
    rw [e] at h
    have q : Q (.bl c) H := h.ok s (by simp only [VR])
    unfold eqW at e
    split at e
    · rename_i x' y' e1 e2
      split at e
      · rename_i z
        cases e
        have := scal_ok ha e1
        have := scal_ok hb e2
        subst x; subst y
        exact .inl ⟨z, q⟩
      · cases e
    · split at e
      · rename_i d e' e1 e2
        split at e
        · rename_i z
          cases e
          rw [Bool.and_eq_true] at z
          exact .inr ⟨d, e', toD_ok s ha e1, toD_ok s hb e2, z.1, z.2, q⟩
        · cases e
      · cases e
theorem ok_ne : OkR K T wNe (rOr rNe (rNeD K)) := by
  intro ρ η st H a b x y Q E s ha hb h
  unfold wNe at h
  cases e : eqW st a b with
  | none => rw [e] at h; exact h.elim
  | some c =>
    rw [e] at h
    have q : Q (.bl (!c)) H := h.ok s (by simp only [VR])
    unfold eqW at e
    split at e
    · rename_i x' y' e1 e2
      split at e
      · rename_i z
        cases e
        have := scal_ok ha e1
        have := scal_ok hb e2
        subst x; subst y
        exact .inl ⟨z, q⟩
      · cases e
    · split at e
      · rename_i d e' e1 e2
        split at e
        · rename_i z
          cases e
          rw [Bool.and_eq_true] at z
          exact .inr ⟨d, e', toD_ok s ha e1, toD_ok s hb e2, z.1, z.2, q⟩
        · cases e
      · cases e
theorem non_iff {w : W} {v : V} (h : VR K ρ η H w v) : decide (v = .non) = isNon w := by
  cases w with
  | non => simp only [VR] at h; subst h; rfl
  | bl b => simp only [VR] at h; subst h; rfl
  | int b => simp only [VR] at h; subst h; rfl
  | str b => simp only [VR] at h; subst h; rfl
  | ty b => simp only [VR] at h; subst h; rfl
  | tup xs => simp only [VR] at h; obtain ⟨a, vs, e, _⟩ := h; subst e; rfl
  | lst xs => simp only [VR] at h; obtain ⟨a, vs, e, _⟩ := h; subst e; rfl
  | scr xs => simp only [VR] at h; obtain ⟨a, vs, e, _⟩ := h; subst e; rfl
  | ref i => simp only [VR] at h; obtain ⟨a, _, e⟩ := h; subst e; rfl
  | at_ i => simp only [VR] at h; subst h; rfl
theorem ok_is : OkR K T wIs (fun x y H Q => y = .non ∧ Q (.bl (decide (x = .non))) H) := by
  intro ρ η st H a b x y Q E s ha hb h
  unfold wIs at h
  split at h
  · simp only [VR] at hb
    refine ⟨hb, ?_⟩
    rw [non_iff ha]
    exact h.ok s (by simp only [VR])
  · exact h.elim
theorem ok_isnot : OkR K T wIsNot (fun x y H Q => y = .non ∧ Q (.bl (!decide (x = .non))) H) := by
  intro ρ η st H a b x y Q E s ha hb h
  unfold wIsNot at h
  split at h
  · simp only [VR] at hb
    refine ⟨hb, ?_⟩
    rw [non_iff ha]
    exact h.ok s (by simp only [VR])
  · exact h.elim
theorem scals_ok : ∀ {ws : List W} {vs us : List V}, VRs K ρ η H ws vs → scalVs ws = some us → vs = us
  | [], vs, us, h, e => by
    simp only [VRs] at h; simp only [scalVs, Option.some.injEq] at e; subst h; exact e
  | x :: xs, vs, us, h, e => by
    simp only [VRs] at h
    obtain ⟨v, r, h1, h2, h3⟩ := h
    simp only [scalVs] at e
    split at e
    · rename_i d ds' q1 q2
      cases e
      subst h1
      rw [scal_ok h2 q1, scals_ok h3 q2]
    · cases e
theorem scal_flat {w : W} {x : V} (e : scalV w = some x) : flatV x = true := by
  cases w <;> simp [scalV] at e <;> subst e <;> rfl
theorem scals_flat : ∀ {ws : List W} {us : List V}, scalVs ws = some us → us.all flatV = true
  | [], us, e => by simp only [scalVs, Option.some.injEq] at e; subst e; rfl
  | x :: xs, us, e => by
    simp only [scalVs] at e
    split at e
    · rename_i d ds' q1 q2
      cases e
      rw [List.all_cons, scal_flat q1, scals_flat q2]
      rfl
    · cases e
def rInSg (neg : Bool) : R2 := fun x y H Q => ∃ (c : Nat) (z : Str), x = .str ⟨#[c]⟩ ∧ y = .str z ∧ Q (.bl (if neg = true then !decide (c ∈ z.cps.toList) else decide (c ∈ z.cps.toList))) H
theorem ok_in {neg : Bool} : OkR K T (wIn neg) (rOr (rIn K neg) (rInSg neg)) := by
  intro ρ η st H a b x y Q E s ha hb h
  unfold wIn at h
  cases e : inW st a b with
  | some c =>
    rw [e] at h
    have q : Q (.bl (if neg = true then !c else c)) H := h.ok s (by simp only [VR])
    unfold inW at e
    split at e
    · rename_i x' us e1 e2
      cases e
      have := scal_ok ha e1
      subst x
      split at e2
      · rename_i xs q1
        obtain ⟨p, vs, h1, h2, h3⟩ := tup_ok hb q1
        have := scals_ok h3 e2
        subst vs
        exact .inl ⟨p, us, h1, .inr h2, scal_flat e1, scals_flat e2, q⟩
      · split at e2
        · rename_i xs q1
          obtain ⟨p, vs, h1, h2, h3⟩ := seq_ok s hb q1
          have := scals_ok h3 e2
          subst vs
          exact .inl ⟨p, us, h1, .inl h2, scal_flat e1, scals_flat e2, q⟩
        · cases e2
    · cases e
  | none =>
    rw [e] at h
    dsimp only at h
    split at h
    · rename_i cs z
      split at h
      · rename_i c q
        simp only [VR] at ha hb
        refine .inr ⟨c, z, ?_, hb, h.ok s (by simp only [VR])⟩
        rw [ha]
        obtain ⟨⟨l⟩⟩ := cs
        have q : l = [c] := q
        rw [q]
      · exact h.elim
    · exact h.elim
theorem ok_cmpS {p : Str → Str → Bool} {q : Int → Int → Bool} : OkR K T (wCmpS p q) (rOr (rI0 fun i j => .bl (q i j)) (fun x y H Q => ∃ i j, x = .str i ∧ y = .str j ∧ Q (.bl (p i j)) H)) := by
  intro ρ η st H a b x y Q E s ha hb h
  unfold wCmpS at h
  split at h
  · simp only [VR] at ha hb
    exact .inl ⟨_, _, ha, hb, h.ok s (by simp only [VR])⟩
  · simp only [VR] at ha hb
    exact .inr ⟨_, _, ha, hb, h.ok s (by simp only [VR])⟩
  · exact h.elim
end
end Mi
namespace Mi
open PySem L2

/-! ### the mirror of expressions -/
def mVar (i : Nat) : M W := fun env st => match env[i]? with
  | some (some w) => .ok w st
  | _ => .stuck
def mC (w : W) : M W := fun _ st => .ok w st
def mOp (f : F2) (ma mb : M W) : M W := fun env st => (ma env st).bind fun a s1 => (mb env s1).bind fun b s2 => f a b s2
def mNeg (ma : M W) : M W := fun env st => (ma env st).bind fun a s1 => match a with
  | .int i => .ok (.int (-i)) s1
  | _ => .stuck
def toB : W → Sto → Rs Bool
  | .bl b, st => .ok b st
  | _, _ => .stuck
/-- a value's truth -/
def trW (st : Sto) : W → Option Bool
  | .non => some false
  | .bl b => some b
  | .int i => some (i != 0)
  | .str x => if x.length ≤ sizeLine then some ((x.length : Int) != 0) else none
  | .lst xs => some (!xs.isEmpty)
  | .scr xs => some (!xs.isEmpty)
  | .tup xs => some (!xs.isEmpty)
  | .ref i => match st[i]? with
    | some (.lst xs) => some (!xs.isEmpty)
    | some (.dk kvs) => some (!kvs.isEmpty)
    | _ => none
  | _ => none
def mB (ma : M W) : M Bool := fun env st => (ma env st).bind toB
def mTr (ma : M W) : M Bool := fun env st => (ma env st).bind fun a s1 => match trW s1 a with
  | some b => .ok b s1
  | none => .stuck
def mNot (m : M Bool) : M Bool := fun env st => (m env st).bind fun b s1 => .ok (!b) s1
def mAnd (m k : M Bool) : M Bool := fun env st => (m env st).bind fun b s1 => if b = true then k env s1 else .ok false s1
def mOr (m k : M Bool) : M Bool := fun env st => (m env st).bind fun b s1 => if b = true then .ok true s1 else k env s1
def mIf {α : Type} (c : M Bool) (ma mb : M α) : M α := fun env st => (c env st).bind fun b s1 => if b = true then ma env s1 else mb env s1
def mBl (m : M Bool) : M W := fun env st => (m env st).bind fun b s1 => .ok (.bl b) s1
def mNil : M (List W) := fun _ st => .ok [] st
def mCons (ma : M W) (mr : M (List W)) : M (List W) := fun env st => (ma env st).bind fun a s1 => (mr env s1).bind fun r s2 => .ok (a :: r) s2
def mTup (m : M (List W)) : M W := fun env st => (m env st).bind fun ws s1 => .ok (.tup ws) s1
def mLst (fz : Bool) (m : M (List W)) : M W := fun env st => (m env st).bind fun ws s1 => newL fz ws s1
def mDict0 : M W := fun _ st => .ok (.ref st.length) (st ++ [.dk []])
/-- two comparisons in a row -/
def mChain (f g : F2) (ma mb mc : M W) : M W := fun env st => (ma env st).bind fun a s1 => (mb env s1).bind fun b s2 => (f a b s2).bind fun z s3 => match z with
  | .bl true => (mc env s3).bind fun c s4 => g b c s4
  | .bl false => .ok (.bl false) s3
  | _ => .stuck
def wNth (xs : List W) (i : Int) (st : Sto) : Rs W := match atI xs i with
  | some w => .ok w st
  | none => .stuck
def dkOf (st : Sto) : W → Option (List (Key × W))
  | .ref i => match st[i]? with
    | some (.dk kvs) => some kvs
    | some (.lk kvs) => some kvs
    | _ => none
  | _ => none
def keyOf : W → Option Key
  | .int i => some (.inl i)
  | .str x => some (.inr x)
  | _ => none
def lkW (kvs : List (Key × W)) (k : Key) : Option W := (kvs.find? fun kv => decide (kv.1 = k)).map (·.2)
def isDk (st : Sto) (a : W) : Bool := (dkOf st a).isSome
/-- a[b] -/
def wIx : F2 := fun a b st => match dkOf st a with
  | some kvs => match keyOf b with
    | some k => match lkW kvs k with
      | some w => .ok w st
      | none => .stuck
    | none => .stuck
  | none => match b with
    | .int i => match seqL st a with
      | some xs => wNth xs i st
      | none => match a with
        | .tup xs => wNth xs i st
        | .str z => if z.length ≤ sizeLine then (match atI z.cps.toList i with | some c => .ok (.str ⟨#[c]⟩) st | none => .stuck) else .stuck
        | _ => .stuck
    | _ => .stuck
def cutW (xs : List W) (lo hi : Option Int) : List W := List.take (HT.sIx xs.length xs.length hi - HT.sIx xs.length 0 lo) (List.drop (HT.sIx xs.length 0 lo) xs)
def wSl (fz : Bool) (a : W) (lo hi : Option Int) (st : Sto) : Rs W := match seqL st a with
  | some xs => newL fz (cutW xs lo hi) st
  | none => match a with
    | .tup xs => if HT.sIx xs.length 0 lo = 0 ∧ HT.sIx xs.length xs.length hi = xs.length then .stuck else .ok (.tup (cutW xs lo hi)) st
    | _ => .stuck
def mPart (m : M W) : M (Option Int) := fun env st => (m env st).bind fun a s1 => match a with
  | .int i => .ok (some i) s1
  | _ => .stuck
def mNoPart : M (Option Int) := fun _ st => .ok none st
def mSl (fz : Bool) (ma : M W) (ml mh : M (Option Int)) : M W := fun env st => (ma env st).bind fun a s1 => (ml env s1).bind fun lo s2 => (mh env s2).bind fun hi s3 => wSl fz a lo hi s3
def mFld (cs : List Nat) (f : Str) (ma : M W) : M W := fun env st => (ma env st).bind fun a s1 => match a with
  | .ref i => match s1[i]? with
    | some (.ins c fs) => if cs.contains c then (match fs.lookup f with | some w => .ok w s1 | none => .stuck) else .stuck
    | _ => .stuck
  | _ => .stuck

section
variable {X : Cx} {T : Nat → Addr} {Wx : WX'} {pos : Pos}
theorem se_var {i : Nat} {x : Str} (hN : X.N[i]? = some x) (hv : Vis X.env.scope x) (hd : (x == ("__debug__" : Str)) = false := by decide) (hcd : (x == ("__classdict__" : Str)) = false := by decide) : SE X T Wx (.Name x pos) (mVar i) := by
  intro ρ η st env σ H Q s er h
  unfold mVar at h
  split at h
  · rename_i w q
    obtain ⟨v, e, r⟩ := er.2 i w q
    exact ⟨_, pe_var hN hv hd hcd, v, e, h.ok s r⟩
  · exact h.elim
theorem se_c {e : Expr} {v : V} {w : W} (he : PE X e (tC v)) (r : ∀ ρ η H, VR X.K ρ η H w v) : SE X T Wx e (mC w) := fun ρ η st env σ H Q s er h => ⟨_, he, h.ok s (r ρ η H)⟩
theorem se_int {i j} : SE X T Wx (.Constant (.int i) j pos) (mC (.int i)) := se_c pe_int fun _ _ _ => by simp only [VR]
theorem se_bl {i j} : SE X T Wx (.Constant (.bool i) j pos) (mC (.bl i)) := se_c pe_bl fun _ _ _ => by simp only [VR]
theorem se_non {j} : SE X T Wx (.Constant .none j pos) (mC .non) := se_c pe_non fun _ _ _ => by simp only [VR]
theorem se_str {i j} : SE X T Wx (.Constant (.str i) j pos) (mC (.str i)) := se_c pe_str fun _ _ _ => by simp only [VR]
/-- a whole number of the module -/
theorem se_globI {x : Str} {i : Int} {u : Value} (hg : Gl X x) (hm : X.mg x = some u) (hr : RelV (.int i) u) (hd : (x == ("__debug__" : Str)) = false := by decide) : SE X T Wx (.Name x pos) (mC (.int i)) := se_c (pe_glob hg hm hr hd) fun _ _ _ => by simp only [VR]
theorem se_globS {x : Str} {i : Str} {u : Value} (hg : Gl X x) (hm : X.mg x = some u) (hr : RelV (.str i) u) (hd : (x == ("__debug__" : Str)) = false := by decide) : SE X T Wx (.Name x pos) (mC (.str i)) := se_c (pe_glob hg hm hr hd) fun _ _ _ => by simp only [VR]

theorem se_op {a b : Expr} {op : Operator} {r : R2} {f : F2} {ma mb : M W} (ho : OpR X (binaryOp op) r) (hf : OkR X.K T f r) (ha : SE X T Wx a ma) (hb : SE X T Wx b mb) : SE X T Wx (.BinOp a op b pos) (mOp f ma mb) := by
  intro ρ η st env σ H Q s er h
  refine ⟨_, pe_op ho pe_S pe_S, ?_⟩
  refine ha ρ η st env σ H _ s er (h.bind fun w s1 ρ1 H1 v g1 sr1 r1 h1 => ?_)
  refine hb ρ1 η s1 env σ H1 _ sr1 (er.mono g1) (h1.bind fun u s2 ρ2 H2 v2 g2 sr2 r2 h2 => ?_)
  exact hf ρ2 η s2 H2 w u v v2 Q _ sr2 (r1.mono g2) r2 h2
theorem se_cmp {a b : Expr} {op : CmpOp} {r : R2} {f : F2} {ma mb : M W} (ho : OpR X (compareOp op) r) (hf : OkR X.K T f r) (ha : SE X T Wx a ma) (hb : SE X T Wx b mb) (hm : behindInMarks op b = false) : SE X T Wx (.Compare a [op] [b] pos) (mOp f ma mb) := by
  intro ρ η st env σ H Q s er h
  refine ⟨_, pe_cmpR ho pe_S pe_S hm, ?_⟩
  refine ha ρ η st env σ H _ s er (h.bind fun w s1 ρ1 H1 v g1 sr1 r1 h1 => ?_)
  refine hb ρ1 η s1 env σ H1 _ sr1 (er.mono g1) (h1.bind fun u s2 ρ2 H2 v2 g2 sr2 r2 h2 => ?_)
  exact hf ρ2 η s2 H2 w u v v2 Q _ sr2 (r1.mono g2) r2 h2
theorem Rs.bind_assoc {α β γ : Type} (r : Rs α) (k : α → Sto → Rs β) (l : β → Sto → Rs γ) : (r.bind k).bind l = r.bind fun a s => (k a s).bind l := by
  cases r <;> rfl
theorem toB_ok {ρ η : List Addr} {H : Hp} {st : Sto} {w : W} {v : V} {Q : Bool → Hp → Prop} {E : Value → Option Addr → Hp → Prop} (s : SR X.K T ρ η st H) (r : VR X.K ρ η H w v) (h : After X.K T η (fun _ _ => Eq) ρ H (toB w st) Q E) : ∃ k, v = .bl k ∧ Q k H := by
  unfold toB at h
  split at h
  · simp only [VR] at r
    exact ⟨_, r, h.ok s rfl⟩
  · exact h.elim
theorem st_cmp {a b : Expr} {op : CmpOp} {r : R2} {f : F2} {ma mb : M W} (ho : OpR X (compareOp op) r) (hf : OkR X.K T f r) (ha : SE X T Wx a ma) (hb : SE X T Wx b mb) (hm : behindInMarks op b = false) : STt X T Wx (.Compare a [op] [b] pos) (mB (mOp f ma mb)) := by
  intro ρ η st env σ H Q s er h
  refine ⟨_, pt_cmpR ho pe_S pe_S hm, ?_⟩
  unfold mB mOp at h
  rw [Rs.bind_assoc] at h
  refine ha ρ η st env σ H _ s er (h.bind fun w s1 ρ1 H1 v g1 sr1 r1 h1 => ?_)
  rw [Rs.bind_assoc] at h1
  refine hb ρ1 η s1 env σ H1 _ sr1 (er.mono g1) (h1.bind fun u s2 ρ2 H2 v2 g2 sr2 r2 h2 => ?_)
  refine hf ρ2 η s2 H2 w u v v2 _ _ sr2 (r1.mono g2) r2 (h2.bind fun z s3 ρ3 H3 v3 g3 sr3 r3 h3 => ?_)
  exact toB_ok sr3 r3 h3
theorem st_val {e : Expr} {m : M W} (he : SE X T Wx e m) (hi : ∀ whole, isTrue e X.env whole = (do let v ← whole; standAt e.pos; holding [v] (truthy v)) := by intro _; rfl) : STt X T Wx e (mB m) := by
  intro ρ η st env σ H Q s er h
  refine ⟨_, pt_val pe_S hi, ?_⟩
  refine he ρ η st env σ H _ s er (h.bind fun w s1 ρ1 H1 v g1 sr1 r1 h1 => ?_)
  exact toB_ok sr1 r1 h1
theorem tr_ok {ρ η : List Addr} {H : Hp} {st : Sto} {w : W} {v : V} {b : Bool} (s : SR X.K T ρ η st H) (r : VR X.K ρ η H w v) (e : trW st w = some b) : TruV X.K v H b := by
  have emp : ∀ {xs : List W} {vs : List V}, VRs X.K ρ η H xs vs → (!xs.isEmpty) = !vs.isEmpty := fun {xs vs} h => by
    have := h.len
    cases xs <;> cases vs <;> simp_all
  cases w with
  | non => simp only [VR] at r; subst r; simp only [trW, Option.some.injEq] at e; exact e.symm
  | bl k => simp only [VR] at r; subst r; simp only [trW, Option.some.injEq] at e; exact e.symm
  | int k => simp only [VR] at r; subst r; simp only [trW, Option.some.injEq] at e; exact e.symm
  | str k =>
    simp only [VR] at r
    subst r
    simp only [trW] at e
    split at e
    · rename_i q
      cases e
      exact ⟨q, rfl⟩
    · cases e
  | ty n => simp [trW] at e
  | at_ n => simp [trW] at e
  | lst xs =>
    obtain ⟨a, vs, h1, h2, h3⟩ := seq_ok s r (show seqL st (.lst xs) = some xs from rfl)
    simp only [trW, Option.some.injEq] at e
    subst h1; subst e
    exact .inl ⟨vs, h2, emp h3⟩
  | scr xs =>
    obtain ⟨a, vs, h1, h2, h3⟩ := seq_ok s r (show seqL st (.scr xs) = some xs from rfl)
    simp only [trW, Option.some.injEq] at e
    subst h1; subst e
    exact .inl ⟨vs, h2, emp h3⟩
  | tup xs =>
    obtain ⟨a, vs, h1, h2, h3⟩ := tup_ok r (show tupL (.tup xs) = some xs from rfl)
    simp only [trW, Option.some.injEq] at e
    subst h1; subst e
    exact .inr (.inl ⟨vs, h2, emp h3⟩)
  | ref i =>
    simp only [trW] at e
    split at e
    · rename_i xs q
      obtain ⟨a, h1, _, vs, h2, h3⟩ := node_at s r q
      cases e
      subst h1
      exact .inl ⟨vs, SqL.of h2, emp h3⟩
    · rename_i xs q
      obtain ⟨a, h1, _, kv, h2, h3, h4⟩ := node_at s r q
      cases e
      subst h1
      refine .inr (.inr ⟨kv, h2, ?_⟩)
      have := congrArg List.length h3
      cases xs <;> cases kv <;> simp_all
    · cases e
theorem st_tr {e : Expr} {m : M W} (he : SE X T Wx e m) (hi : ∀ whole, isTrue e X.env whole = (do let v ← whole; standAt e.pos; holding [v] (truthy v)) := by intro _; rfl) : STt X T Wx e (mTr m) := by
  intro ρ η st env σ H Q s er h
  refine ⟨_, pt_truth pe_S hi, ?_⟩
  refine he ρ η st env σ H _ s er (h.bind fun w s1 ρ1 H1 v g1 sr1 r1 h1 => ?_)
  cases e : trW s1 w with
  | none => rw [e] at h1; exact h1.elim
  | some b =>
    rw [e] at h1
    exact ⟨b, tr_ok sr1 r1 e, h1.ok sr1 rfl⟩
theorem st_not {e : Expr} {m : M Bool} (he : STt X T Wx e m) : STt X T Wx (.UnaryOp .Not e pos) (mNot m) := by
  intro ρ η st env σ H Q s er h
  refine ⟨_, pt_not pt_S, ?_⟩
  refine he ρ η st env σ H _ s er (h.bind fun b s1 ρ1 H1 v g1 sr1 r1 h1 => ?_)
  subst r1
  exact h1.ok sr1 rfl
theorem sw_and1 {e : Expr} {m : M Bool} (he : STt X T Wx e m) : SWt X T Wx (.BoolOp .And [e] pos) m := fun ρ η st env σ H Q s er h => ⟨_, pw_and1 pt_S, he ρ η st env σ H _ s er h⟩
theorem sw_or1 {e : Expr} {m : M Bool} (he : STt X T Wx e m) : SWt X T Wx (.BoolOp .Or [e] pos) m := fun ρ η st env σ H Q s er h => ⟨_, pw_or1 pt_S, he ρ η st env σ H _ s er h⟩
theorem sw_and {a b : Expr} {rest : List Expr} {m k : M Bool} (ha : STt X T Wx a m) (hb : SWt X T Wx (.BoolOp .And (b :: rest) pos) k) : SWt X T Wx (.BoolOp .And (a :: b :: rest) pos) (mAnd m k) := by
  intro ρ η st env σ H Q s er h
  refine ⟨_, pw_and pt_S pw_S, ?_⟩
  refine ha ρ η st env σ H _ s er (h.bind fun b s1 ρ1 H1 v g1 sr1 r1 h1 => ?_)
  subst r1
  cases b with
  | true => exact iteT (hb ρ1 η s1 env σ H1 Q sr1 (er.mono g1) h1)
  | false => exact iteF (h1.ok sr1 rfl)
theorem sw_or {a b : Expr} {rest : List Expr} {m k : M Bool} (ha : STt X T Wx a m) (hb : SWt X T Wx (.BoolOp .Or (b :: rest) pos) k) : SWt X T Wx (.BoolOp .Or (a :: b :: rest) pos) (mOr m k) := by
  intro ρ η st env σ H Q s er h
  refine ⟨_, pw_or pt_S pw_S, ?_⟩
  refine ha ρ η st env σ H _ s er (h.bind fun b s1 ρ1 H1 v g1 sr1 r1 h1 => ?_)
  subst r1
  cases b with
  | true => exact iteT (h1.ok sr1 rfl)
  | false => exact iteF (hb ρ1 η s1 env σ H1 Q sr1 (er.mono g1) h1)
theorem st_w {e : Expr} {m : M Bool} (h : SWt X T Wx e m) : STt X T Wx e m := fun ρ η st env σ H Q s er q => by
  obtain ⟨t, h1, h2⟩ := h ρ η st env σ H Q s er q
  exact ⟨t, h1.pt, h2⟩
/-- bools as values -/
theorem se_and1 {op} {e : Expr} {m : M Bool} (he : SE X T Wx e (mBl m)) : SE X T Wx (.BoolOp op [e] pos) (mBl m) := fun ρ η st env σ H Q s er h => ⟨_, pe_one pe_S, he ρ η st env σ H _ s er h⟩
theorem bl_ok {ρ η : List Addr} {H : Hp} {w : W} {v : V} {b : Bool} {st : Sto} {m : M Bool} (r : VR X.K ρ η H (.bl b) v) : v = .bl b := by simpa only [VR] using r
theorem se_and {a b : Expr} {rest : List Expr} {m k : M Bool} (ha : SE X T Wx a (mBl m)) (hb : SE X T Wx (.BoolOp .And (b :: rest) pos) (mBl k)) : SE X T Wx (.BoolOp .And (a :: b :: rest) pos) (mBl (mAnd m k)) := by
  intro ρ η st env σ H Q s er h
  refine ⟨_, pe_and pe_S pe_S, ?_⟩
  unfold mBl mAnd at h
  rw [Rs.bind_assoc] at h
  have h' : After X.K T η (fun ρ H => VR X.K ρ η H) ρ H ((mBl m env st).bind fun w s1 => match w with | .bl b => (if b = true then k env s1 else Rs.ok false s1).bind fun b s1 => .ok (.bl b) s1 | _ => .stuck) Q (fun c d H' => Wx c d σ H') := by
    unfold mBl
    rw [Rs.bind_assoc]
    exact h
  refine ha ρ η st env σ H _ s er (h'.bind fun w s1 ρ1 H1 v g1 sr1 r1 h1 => ?_)
  split at h1
  · rename_i c
    simp only [VR] at r1
    refine ⟨c, r1, ?_⟩
    cases c with
    | true => exact iteT (hb ρ1 η s1 env σ H1 Q sr1 (er.mono g1) h1)
    | false => exact iteF (h1.ok sr1 (by simp only [VR]))
  · exact h1.elim
theorem se_or {a b : Expr} {rest : List Expr} {m k : M Bool} (ha : SE X T Wx a (mBl m)) (hb : SE X T Wx (.BoolOp .Or (b :: rest) pos) (mBl k)) : SE X T Wx (.BoolOp .Or (a :: b :: rest) pos) (mBl (mOr m k)) := by
  intro ρ η st env σ H Q s er h
  refine ⟨_, pe_or pe_S pe_S, ?_⟩
  unfold mBl mOr at h
  rw [Rs.bind_assoc] at h
  have h' : After X.K T η (fun ρ H => VR X.K ρ η H) ρ H ((mBl m env st).bind fun w s1 => match w with | .bl b => (if b = true then Rs.ok true s1 else k env s1).bind fun b s1 => .ok (.bl b) s1 | _ => .stuck) Q (fun c d H' => Wx c d σ H') := by
    unfold mBl
    rw [Rs.bind_assoc]
    exact h
  refine ha ρ η st env σ H _ s er (h'.bind fun w s1 ρ1 H1 v g1 sr1 r1 h1 => ?_)
  split at h1
  · rename_i c
    simp only [VR] at r1
    refine ⟨c, r1, ?_⟩
    cases c with
    | true => exact iteT (h1.ok sr1 (by simp only [VR]))
    | false => exact iteF (hb ρ1 η s1 env σ H1 Q sr1 (er.mono g1) h1)
  · exact h1.elim
theorem se_not {e : Expr} {m : M Bool} (he : SE X T Wx e (mBl m)) : SE X T Wx (.UnaryOp .Not e pos) (mBl (mNot m)) := by
  intro ρ η st env σ H Q s er h
  refine ⟨_, pe_not pe_S, ?_⟩
  have h' : After X.K T η (fun ρ H => VR X.K ρ η H) ρ H ((mBl m env st).bind fun w s1 => match w with | .bl b => .ok (.bl (!b)) s1 | _ => .stuck) Q (fun c d H' => Wx c d σ H') := by
    unfold mBl
    rw [Rs.bind_assoc]
    unfold mBl mNot at h
    rw [Rs.bind_assoc] at h
    exact h
  refine he ρ η st env σ H _ s er (h'.bind fun w s1 ρ1 H1 v g1 sr1 r1 h1 => ?_)
  split at h1
  · rename_i c
    simp only [VR] at r1
    exact ⟨c, r1, h1.ok sr1 (by simp only [VR])⟩
  · exact h1.elim
/-- a bool as a value, by its mirror -/
theorem se_bB {e : Expr} {m : M W} (he : SE X T Wx e m) : SE X T Wx e (mBl (mB m)) := by
  intro ρ η st env σ H Q s er h
  refine he ρ η st env σ H Q s er ?_
  unfold mBl mB at h
  rw [Rs.bind_assoc] at h
  cases q : m env st with
  | ok w s1 =>
    rw [q] at h
    cases w with
    | bl b => exact h
    | _ => exact h.elim
  | ex x s1 => rw [q] at h; exact h
  | stuck => rw [q] at h; exact h
theorem se_ifx {c a b : Expr} {m : M Bool} {ma mb : M W} (hc : STt X T Wx c m) (ha : SE X T Wx a ma) (hb : SE X T Wx b mb) : SE X T Wx (.IfExp c a b pos) (mIf m ma mb) := by
  intro ρ η st env σ H Q s er h
  refine ⟨_, pe_ifExp pt_S pe_S pe_S, ?_⟩
  refine hc ρ η st env σ H _ s er (h.bind fun b s1 ρ1 H1 v g1 sr1 r1 h1 => ?_)
  subst r1
  cases b with
  | true => exact iteT (ha ρ1 η s1 env σ H1 Q sr1 (er.mono g1) h1)
  | false => exact iteF (hb ρ1 η s1 env σ H1 Q sr1 (er.mono g1) h1)
theorem se_neg {e : Expr} {m : M W} (he : SE X T Wx e m) : SE X T Wx (.UnaryOp .USub e pos) (mNeg m) := by
  intro ρ η st env σ H Q s er h
  refine ⟨_, pe_un un_neg pe_S, ?_⟩
  refine he ρ η st env σ H _ s er (h.bind fun w s1 ρ1 H1 v g1 sr1 r1 h1 => ?_)
  split at h1
  · simp only [VR] at r1
    exact ⟨_, r1, h1.ok sr1 (by simp only [VR])⟩
  · exact h1.elim
end
end Mi
namespace Mi
open PySem L2
section
variable {X : Cx} {T : Nat → Addr} {Wx : WX'} {pos : Pos}
/-! ### argument lists, displays -/
theorem sa_nil : SA X T Wx [] mNil := fun ρ η st env σ H Q s er h => ⟨_, pa_nil, h.ok s VRs.nil⟩
theorem sa_cons {e : Expr} {es : List Expr} {m : M W} {k : M (List W)} (he : SE X T Wx e m) (hs : SA X T Wx es k) (hst : starEach (e :: es) X.env = (false, eval e X.env) :: starEach es X.env := by rfl) : SA X T Wx (e :: es) (mCons m k) := by
  intro ρ η st env σ H Q s er h
  refine ⟨_, pa_cons pe_S pa_S hst, ?_⟩
  refine he ρ η st env σ H _ s er (h.bind fun w s1 ρ1 H1 v g1 sr1 r1 h1 => ?_)
  refine hs ρ1 η s1 env σ H1 _ sr1 (er.mono g1) (h1.bind fun ws s2 ρ2 H2 vs g2 sr2 r2 h2 => ?_)
  exact h2.ok sr2 (VRs.cons (r1.mono g2) r2)
/-- how long an argument list is -/
def ArgLen (n : Nat) (m : M (List W)) : Prop := ∀ env st ws st', m env st = .ok ws st' → ws.length = n
theorem len_nil : ArgLen 0 mNil := fun env st ws st' h => by
  simp only [mNil, Rs.ok.injEq] at h
  rw [← h.1]; rfl
theorem len_cons {n : Nat} {m : M W} {k : M (List W)} (h : ArgLen n k) : ArgLen (n + 1) (mCons m k) := fun env st ws st' e => by
  unfold mCons at e
  cases q : m env st with
  | ok w s1 =>
    rw [q] at e
    simp only [Rs.bind] at e
    cases q2 : k env s1 with
    | ok r s2 =>
      rw [q2] at e
      simp only [Rs.ok.injEq] at e
      rw [← e.1, List.length_cons, h env s1 r s2 q2]
    | ex x s2 => rw [q2] at e; cases e
    | stuck => rw [q2] at e; cases e
  | ex x s1 => rw [q] at e; cases e
  | stuck => rw [q] at e; cases e
theorem se_tup {es : List Expr} {k : M (List W)} {n : Nat} {x1} (h : SA X T Wx es k) (hl : ArgLen n k) (hn : n ≤ 1000 := by decide) : SE X T Wx (.Tuple es x1 pos) (mTup k) := by
  intro ρ η st env σ H Q s er q
  refine ⟨_, pe_tup pa_S, ?_⟩
  have ql : ∀ ws st', k env st = .ok ws st' → ws.length = n := fun ws st' e => hl env st ws st' e
  refine h ρ η st env σ H _ s er ?_
  unfold mTup at q
  cases e : k env st with
  | ok ws s1 =>
    rw [e] at q
    refine fun ρ1 H1 vs g1 sr1 r1 => ⟨?_, fun p hp => newT_ok (After.grow g1 q) sr1 r1 hp⟩
    rw [r1.len, ql ws s1 e]
    exact Nat.le_trans hn (by decide)
  | ex x s1 => rw [e] at q; exact q
  | stuck => rw [e] at q; exact q
theorem se_lst {fz : Bool} {es : List Expr} {k : M (List W)} {n : Nat} (h : SA X T Wx es k) (hl : ArgLen n k) (hn : n ≤ 1000 := by decide) : SE X T Wx (.List es pos) (mLst fz k) := by
  intro ρ η st env σ H Q s er q
  refine ⟨_, pe_lst pa_S, ?_⟩
  have ql : ∀ ws st', k env st = .ok ws st' → ws.length = n := fun ws st' e => hl env st ws st' e
  refine h ρ η st env σ H _ s er ?_
  unfold mLst at q
  cases e : k env st with
  | ok ws s1 =>
    rw [e] at q
    refine fun ρ1 H1 vs g1 sr1 r1 => ⟨?_, fun p hp => newL_ok (After.grow g1 q) sr1 r1 hp⟩
    rw [r1.len, ql ws s1 e]
    exact Nat.le_trans hn (by decide)
  | ex x s1 => rw [e] at q; exact q
  | stuck => rw [e] at q; exact q
theorem se_dict0 : SE X T Wx (.Dict [] [] pos) mDict0 := by
  intro ρ η st env σ H Q s er h
  refine ⟨_, pe_dnewK, fun d hd => ?_⟩
  refine h (ρ ++ [d]) _ _ (Grow.node hd) (s.node hd ⟨[], upd_same, rfl, VRs.nil⟩) ?_
  simp only [VR]
  exact ⟨d, by rw [← s.len, List.getElem?_append_right (Nat.le_refl _)]; simp, rfl⟩
/-- a op b op' c -/
theorem se_chain {a b c : Expr} {op op' : CmpOp} {r r' : R2} {f g : F2} {ma mb mc : M W} (ho : OpR X (compareOp op) r) (hf : OkR X.K T f r) (ho' : OpR X (compareOp op') r') (hg : OkR X.K T g r') (ha : SE X T Wx a ma) (hb : SE X T Wx b mb) (hc : SE X T Wx c mc)
    (hl : lastMarks [op, op'] [b, c] = false := by rfl) : SE X T Wx (.Compare a [op, op'] [b, c] pos) (mChain f g ma mb mc) := by
  intro ρ η st env σ H Q s er h
  refine ⟨_, pe_chain ho ho' pe_S pe_S pe_S hl, ?_⟩
  refine ha ρ η st env σ H _ s er (h.bind fun w s1 ρ1 H1 v g1 sr1 r1 h1 => ?_)
  refine hb ρ1 η s1 env σ H1 _ sr1 (er.mono g1) (h1.bind fun u s2 ρ2 H2 v2 g2 sr2 r2 h2 => ?_)
  refine hf ρ2 η s2 H2 w u v v2 _ _ sr2 (r1.mono g2) r2 (h2.bind fun z s3 ρ3 H3 v3 g3 sr3 r3 h3 => ?_)
  split at h3
  · simp only [VR] at r3
    refine ⟨true, r3, iteT ?_⟩
    refine hc ρ3 η s3 env σ H3 _ sr3 ((er.mono g1).mono (g2.trans g3)) (h3.bind fun x s4 ρ4 H4 v4 g4 sr4 r4 h4 => ?_)
    exact hg ρ4 η s4 H4 u x v2 v4 Q _ sr4 (r2.mono (g3.trans g4)) r4 h4
  · simp only [VR] at r3
    exact ⟨false, r3, iteF (h3.ok sr3 (by simp only [VR]))⟩
  · exact h3.elim
theorem st_chain {a b c : Expr} {op op' : CmpOp} {r r' : R2} {f g : F2} {ma mb mc : M W} (ho : OpR X (compareOp op) r) (hf : OkR X.K T f r) (ho' : OpR X (compareOp op') r') (hg : OkR X.K T g r') (ha : SE X T Wx a ma) (hb : SE X T Wx b mb) (hc : SE X T Wx c mc)
    (hl : lastMarks [op, op'] [b, c] = false := by rfl) : STt X T Wx (.Compare a [op, op'] [b, c] pos) (mB (mChain f g ma mb mc)) := by
  intro ρ η st env σ H Q s er h
  refine ⟨_, pt_chain ho ho' pe_S pe_S pe_S hl, ?_⟩
  unfold mB mChain at h
  rw [Rs.bind_assoc] at h
  refine ha ρ η st env σ H _ s er (h.bind fun w s1 ρ1 H1 v g1 sr1 r1 h1 => ?_)
  rw [Rs.bind_assoc] at h1
  refine hb ρ1 η s1 env σ H1 _ sr1 (er.mono g1) (h1.bind fun u s2 ρ2 H2 v2 g2 sr2 r2 h2 => ?_)
  rw [Rs.bind_assoc] at h2
  refine hf ρ2 η s2 H2 w u v v2 _ _ sr2 (r1.mono g2) r2 (h2.bind fun z s3 ρ3 H3 v3 g3 sr3 r3 h3 => ?_)
  split at h3
  · simp only [VR] at r3
    refine ⟨true, r3, iteT ?_⟩
    rw [Rs.bind_assoc] at h3
    refine hc ρ3 η s3 env σ H3 _ sr3 ((er.mono g1).mono (g2.trans g3)) (h3.bind fun x s4 ρ4 H4 v4 g4 sr4 r4 h4 => ?_)
    exact hg ρ4 η s4 H4 u x v2 v4 _ _ sr4 (r2.mono (g3.trans g4)) r4 (h4.bind fun y s5 ρ5 H5 v5 g5 sr5 r5 h5 => toB_ok sr5 r5 h5)
  · simp only [VR] at r3
    exact ⟨false, r3, iteF ⟨false, rfl, h3.ok sr3 rfl⟩⟩
  · exact h3.elim

/-! ### subscripts -/
theorem VRs.atI {ρ η : List Addr} {H : Hp} {xs : List W} {vs : List V} {i : Int} {w : W} (r : VRs X.K ρ η H xs vs) (e : atI xs i = some w) : ∃ v, atI vs i = some v ∧ VR X.K ρ η H w v := by
  unfold L2.atI at e ⊢
  rw [r.len]
  cases q : ixN xs.length i with
  | none => rw [q] at e; cases e
  | some j =>
    rw [q] at e
    exact r.get e
theorem kv_find {ρ η : List Addr} {H : Hp} : ∀ {kvs : List (Key × W)} {kv : List (Key × V)} {k : Key}, kv.map (·.1) = kvs.map (·.1) → VRs X.K ρ η H (kvs.map (·.2)) (kv.map (·.2)) →
    (lkW kvs k = none ∧ valV kv k = none) ∨ ∃ w v, lkW kvs k = some w ∧ valV kv k = some v ∧ VR X.K ρ η H w v
  | [], [], k, _, _ => .inl ⟨rfl, rfl⟩
  | [], p :: kv, k, e, _ => by simp at e
  | p :: kvs, [], k, e, _ => by simp at e
  | (a, w) :: kvs, (b, v) :: kv, k, e, r => by
    simp only [List.map_cons, List.cons.injEq] at e
    obtain ⟨e1, e2⟩ := e
    subst e1
    rw [List.map_cons, List.map_cons] at r
    simp only [VRs] at r
    obtain ⟨v', r', q1, q2, q3⟩ := r
    simp only [List.cons.injEq] at q1
    obtain ⟨q1, q4⟩ := q1
    subst q1; subst q4
    by_cases z : b = k
    · refine .inr ⟨w, v, ?_, ?_, q2⟩
      · simp [lkW, z]
      · simp [valV, z]
    · rcases kv_find (k := k) e2 q3 with ⟨h1, h2⟩ | ⟨w', v', h1, h2, h3⟩
      · refine .inl ⟨?_, ?_⟩
        · simpa [lkW, z] using h1
        · simpa [valV, z] using h2
      · refine .inr ⟨w', v', ?_, ?_, h3⟩
        · simpa [lkW, z] using h1
        · simpa [valV, z] using h2
theorem key_ok {ρ η : List Addr} {H : Hp} {w : W} {v : V} {k : Key} (r : VR X.K ρ η H w v) (e : keyOf w = some k) : v = kV k := by
  cases w <;> simp [keyOf] at e <;> subst e <;> simp only [VR] at r <;> exact r
theorem dk_ok {ρ η : List Addr} {H : Hp} {st : Sto} {w : W} {v : V} {kvs : List (Key × W)} (s : SR X.K T ρ η st H) (r : VR X.K ρ η H w v) (e : dkOf st w = some kvs) :
    ∃ a kv, v = .ref a ∧ Rd H a (.dK kv) ∧ kv.map (·.1) = kvs.map (·.1) ∧ VRs X.K ρ η H (kvs.map (·.2)) (kv.map (·.2)) := by
  cases w with
  | ref i =>
    simp only [dkOf] at e
    split at e
    · rename_i ks q
      cases e
      obtain ⟨a, h1, _, kv, h2, h3, h4⟩ := node_at s r q
      exact ⟨a, kv, h1, .inl h2, h3, h4⟩
    · rename_i ks q
      cases e
      obtain ⟨a, h1, _, od, kv, h2, h3, h4⟩ := node_at s r q
      exact ⟨a, kv, h1, .inr ⟨od, h2⟩, h3, h4⟩
    · cases e
  | _ => simp [dkOf] at e
theorem nth_ok {ρ η : List Addr} {H : Hp} {st : Sto} {xs : List W} {vs : List V} {i : Int} {Q : V → Hp → Prop} {E : Value → Option Addr → Hp → Prop} (s : SR X.K T ρ η st H) (r : VRs X.K ρ η H xs vs) (h : After X.K T η (fun ρ H => VR X.K ρ η H) ρ H (wNth xs i st) Q E) :
    ∃ v, atI vs i = some v ∧ Q v H := by
  unfold wNth at h
  split at h
  · rename_i w q
    obtain ⟨v, h1, h2⟩ := r.atI q
    exact ⟨v, h1, h.ok s h2⟩
  · exact h.elim
theorem After.bindE {α β γ δ : Type} {K : PySem.W.Frag} {ρ η : List Addr} {H : Hp} {R : List Addr → Hp → α → β → Prop} {R' : List Addr → Hp → γ → δ → Prop} {r : Rs α} {k : α → Sto → Rs γ} {Q : δ → Hp → Prop} {Q1 : β → Hp → Prop} {E : Value → Option Addr → Hp → Prop} (h : After K T η R' ρ H (r.bind k) Q E)
    (f : ∀ w st1 ρ1 H1 v, r = .ok w st1 → Grow ρ H ρ1 H1 → SR K T ρ1 η st1 H1 → R ρ1 H1 w v → After K T η R' ρ1 H1 (k w st1) Q E → Q1 v H1) : After K T η R ρ H r Q1 E := by
  cases r with
  | ok w s => exact fun ρ1 H1 v g s1 r1 => f w s ρ1 H1 v rfl g s1 r1 (After.grow g h)
  | ex x s => exact h
  | stuck => exact h
theorem se_ix {a b : Expr} {ma mb : M W} (hu : X.A.units + 1 < cLine) (ha : SE X T Wx a ma) (hb : SE X T Wx b mb) (hp : PlainIx b := by intro _ _; rfl) : SE X T Wx (.Subscript a b pos) (mOp wIx ma mb) := by
  intro ρ η st env σ H Q s er h
  by_cases hd : ∃ w s1 u s2 kvs, ma env st = .ok w s1 ∧ mb env s1 = .ok u s2 ∧ dkOf s2 w = some kvs
  · obtain ⟨w, s1, u, s2, kvs, e1, e2, e3⟩ := hd
    refine ⟨_, pe_dget hu pe_S pe_S hp, ?_⟩
    refine ha ρ η st env σ H _ s er (After.bindE h fun w' s1' ρ1 H1 v q1 g1 sr1 r1 h1 => ?_)
    rw [e1] at q1
    cases q1
    refine hb ρ1 η s1 env σ H1 _ sr1 (er.mono g1) (After.bindE h1 fun u' s2' ρ2 H2 v2 q2 g2 sr2 r2 h2 => ?_)
    rw [e2] at q2
    cases q2
    unfold wIx at h2
    rw [e3] at h2
    dsimp only at h2
    split at h2
    · rename_i k q3
      obtain ⟨p, kv, f1, f2, f3, f4⟩ := dk_ok sr2 (r1.mono g2) e3
      rcases kv_find (k := k) f3 f4 with ⟨z1, z2⟩ | ⟨y, z, z1, z2, z3⟩
      · rw [z1] at h2; exact h2.elim
      · rw [z1] at h2
        refine ⟨p, z, f1, .inl ⟨kv, k, f2, key_ok r2 q3, z2.symm⟩, h2.ok sr2 z3⟩
    · exact h2.elim
  · refine ⟨_, pe_ix (IxR.or ix_list (IxR.or ix_tup ix_str)) pe_S pe_S hp, ?_⟩
    refine ha ρ η st env σ H _ s er (After.bindE h fun w s1 ρ1 H1 v q1 g1 sr1 r1 h1 => ?_)
    refine hb ρ1 η s1 env σ H1 _ sr1 (er.mono g1) (After.bindE h1 fun u s2 ρ2 H2 v2 q2 g2 sr2 r2 h2 => ?_)
    have nd : dkOf s2 w = none := by
      cases e : dkOf s2 w with
      | none => rfl
      | some kvs => exact absurd ⟨w, s1, u, s2, kvs, q1, q2, e⟩ hd
    unfold wIx at h2
    rw [nd] at h2
    dsimp only at h2
    have rw1 := r1.mono g2
    split at h2
    · rename_i i
      simp only [VR] at r2
      split at h2
      · rename_i xs q3
        obtain ⟨p, vs, f1, f2, f3⟩ := seq_ok sr2 rw1 q3
        obtain ⟨z, z1, z2⟩ := nth_ok sr2 f3 h2
        exact .inl ⟨p, vs, i, z, f1, r2, f2, z1, z2⟩
      · split at h2
        · rename_i xs _
          obtain ⟨p, vs, f1, f2, f3⟩ := tup_ok rw1 (show tupL (.tup xs) = some xs from rfl)
          obtain ⟨z, z1, z2⟩ := nth_ok sr2 f3 h2
          exact .inr (.inl ⟨p, vs, i, z, f1, r2, f2, z1, z2⟩)
        · rename_i z _
          split at h2
          · rename_i lz
            split at h2
            · rename_i c q4
              simp only [VR] at rw1
              exact .inr (.inr ⟨z, i, c, rw1, r2, lz, q4, h2.ok sr2 (by simp only [VR])⟩)
            · exact h2.elim
          · exact h2.elim
        · exact h2.elim
    · exact h2.elim
/-! ### slices -/
theorem VRs.cut {ρ η : List Addr} {H : Hp} {xs : List W} {vs : List V} (r : VRs X.K ρ η H xs vs) (lo hi : Option Int) : VRs X.K ρ η H (cutW xs lo hi) (cutV vs lo hi) := by
  unfold cutW cutV
  rw [r.len]
  exact (r.drop _).take _
def SPt (e : Option Expr) (m : M (Option Int)) : Prop := ∀ ρ η st env σ H Q, SR X.K T ρ η st H → ER X.K ρ η H env σ → After X.K T η (fun _ _ => Eq) ρ H (m env st) Q (fun c d H' => Wx c d σ H') → ∃ t, PO X e t ∧ t σ H Q
theorem sp_none : SPt (X := X) (T := T) (Wx := Wx) none mNoPart := fun ρ η st env σ H Q s er h => ⟨_, po_none, h.ok s rfl⟩
theorem sp_some {e : Expr} {m : M W} (he : SE X T Wx e m) : SPt (X := X) (T := T) (Wx := Wx) (some e) (mPart m) := by
  intro ρ η st env σ H Q s er h
  refine ⟨_, po_some pe_S, ?_⟩
  refine he ρ η st env σ H _ s er (h.bind fun w s1 ρ1 H1 v g1 sr1 r1 h1 => ?_)
  split at h1
  · rename_i i
    simp only [VR] at r1
    exact ⟨i, r1, h1.ok sr1 rfl⟩
  · exact h1.elim
def tSO (e : Option Expr) : TO := fun σ H Q => ∃ t, PO X e t ∧ t σ H Q
theorem po_S {e : Option Expr} : PO X e (tSO (X := X) e) := ⟨fun pins s σ H Q I ⟨_, h, q⟩ => h.run pins s σ H Q I q⟩
theorem se_sl {fz : Bool} {a : Expr} {lo hi : Option Expr} {ma : M W} {ml mh : M (Option Int)} {p2 : Pos} (ha : SE X T Wx a ma) (hl : SPt (X := X) (T := T) (Wx := Wx) lo ml) (hh : SPt (X := X) (T := T) (Wx := Wx) hi mh) :
    SE X T Wx (.Subscript a (.Slice lo hi none p2) pos) (mSl fz ma ml mh) := by
  intro ρ η st env σ H Q s er h
  refine ⟨_, pe_slice (L2.SlR.or sl_list sl_tup) pe_S po_S po_S, ?_⟩
  refine ha ρ η st env σ H _ s er (h.bind fun w s1 ρ1 H1 v g1 sr1 r1 h1 => ?_)
  refine hl ρ1 η s1 env σ H1 _ sr1 (er.mono g1) (h1.bind fun l s2 ρ2 H2 l' g2 sr2 r2 h2 => ?_)
  subst r2
  refine hh ρ2 η s2 env σ H2 _ sr2 ((er.mono g1).mono g2) (h2.bind fun u s3 ρ3 H3 u' g3 sr3 r3 h3 => ?_)
  subst r3
  have r := r1.mono (g2.trans g3)
  unfold wSl at h3
  split at h3
  · rename_i xs q
    obtain ⟨p, vs, f1, f2, f3⟩ := seq_ok sr3 r q
    exact .inl ⟨p, vs, f1, f2, fun d hd => newL_ok h3 sr3 (f3.cut l u) hd⟩
  · split at h3
    · rename_i xs q
      split at h3
      · exact h3.elim
      · rename_i z
        obtain ⟨p, vs, f1, f2, f3⟩ := tup_ok r (show tupL (.tup xs) = some xs from rfl)
        exact .inr ⟨p, vs, f1, f2, by rw [f3.len]; exact z, fun d hd => newT_ok h3 sr3 (f3.cut l u) hd⟩
    · exact h3.elim
/-! ### fields -/
theorem fv_find {ρ η : List Addr} {H : Hp} : ∀ {fs : List (Str × W)} {fv : List (Str × V)} {f : Str} {w : W}, fv.map (·.1) = fs.map (·.1) → VRs X.K ρ η H (fs.map (·.2)) (fv.map (·.2)) → fs.lookup f = some w → ∃ v, fv.lookup f = some v ∧ VR X.K ρ η H w v
  | [], _, _, _, _, _, h => by simp at h
  | (a, y) :: fs, [], _, _, e, _, _ => by simp at e
  | (a, y) :: fs, (b, z) :: fv, f, w, e, r, h => by
    simp only [List.map_cons, List.cons.injEq] at e
    obtain ⟨e1, e2⟩ := e
    subst e1
    rw [List.map_cons, List.map_cons] at r
    simp only [VRs] at r
    obtain ⟨v', r', q1, q2, q3⟩ := r
    simp only [List.cons.injEq] at q1
    obtain ⟨q1, q4⟩ := q1
    subst q1; subst q4
    rw [List.lookup_cons] at h ⊢
    split at h
    · cases h
      exact ⟨z, rfl, q2⟩
    · exact fv_find e2 q3 h
theorem se_fld {cs : List Nat} {a : Expr} {f : Str} {ma : M W} (ha : SE X T Wx a ma) (hc : ∀ c ∈ cs, Cls X.K (T c) ∧ NoAttr X.K (T c) f) (hb : attributeBase a f X.env (eval a X.env) = eval a X.env := by rfl) : SE X T Wx (.Attribute a f pos) (mFld cs f ma) := by
  intro ρ η st env σ H Q s er h
  refine ⟨_, pe_fld pe_S hb, ?_⟩
  refine ha ρ η st env σ H _ s er (h.bind fun w s1 ρ1 H1 v g1 sr1 r1 h1 => ?_)
  split at h1
  · rename_i i
    split at h1
    · rename_i c fs q
      split at h1
      · rename_i z
        split at h1
        · rename_i w' q2
          obtain ⟨p, e1, _, dx, fv, e2, e3, e4⟩ := node_at sr1 r1 q
          obtain ⟨v', e5, e6⟩ := fv_find e3 e4 q2
          obtain ⟨k1, k2⟩ := hc c (by simpa using z)
          exact ⟨p, T c, dx, fv, v', e1, e2, k1, k2, e5, h1.ok sr1 e6⟩
        · exact h1.elim
      · exact h1.elim
    · exact h1.elim
  · exact h1.elim
end
end Mi
namespace Mi
open PySem L2
inductive SRs where
  | nx (env : Ev) (s : Sto) | rt (w : W) (s : Sto) | bk (env : Ev) (s : Sto) | ct (env : Ev) (s : Sto) | ex (x : Xc) (env : Ev) (s : Sto) | stuck
abbrev MS := Ev → Sto → SRs
def SAfter (K : PySem.W.Frag) (T : Nat → Addr) (η ρ : List Addr) (H : Hp) (r : SRs) (D : Ends) (Wx : WX') : Prop := match r with
  | .nx env st => ∀ ρ' H' σ', Grow ρ H ρ' H' → SR K T ρ' η st H' → ER K ρ' η H' env σ' → D.nx σ' H'
  | .bk env st => ∀ ρ' H' σ', Grow ρ H ρ' H' → SR K T ρ' η st H' → ER K ρ' η H' env σ' → D.bk σ' H'
  | .ct env st => ∀ ρ' H' σ', Grow ρ H ρ' H' → SR K T ρ' η st H' → ER K ρ' η H' env σ' → D.ct σ' H'
  | .rt w st => ∀ ρ' H' v, Grow ρ H ρ' H' → SR K T ρ' η st H' → VR K ρ' η H' w v → D.rt v H'
  | .ex x env st => ∀ ρ' H' σ' c d, Grow ρ H ρ' H' → SR K T ρ' η st H' → ER K ρ' η H' env σ' → XR T x c d → Wx c d σ' H'
  | .stuck => False
def Rs.to {α : Type} (r : Rs α) (env : Ev) (k : α → Sto → SRs) : SRs := match r with
  | .ok a s => k a s
  | .ex x s => .ex x env s
  | .stuck => .stuck
section
variable {K : PySem.W.Frag} {T : Nat → Addr} {ρ ρ' η : List Addr} {H H' : Hp} {st : Sto}
theorem SAfter.grow {r : SRs} {D : Ends} {Wx : WX'} (g : Grow ρ H ρ' H') (h : SAfter K T η ρ H r D Wx) : SAfter K T η ρ' H' r D Wx := by
  cases r with
  | nx env s => exact fun ρ2 H2 σ g2 => h ρ2 H2 σ (g.trans g2)
  | bk env s => exact fun ρ2 H2 σ g2 => h ρ2 H2 σ (g.trans g2)
  | ct env s => exact fun ρ2 H2 σ g2 => h ρ2 H2 σ (g.trans g2)
  | rt w s => exact fun ρ2 H2 v g2 => h ρ2 H2 v (g.trans g2)
  | ex x env s => exact fun ρ2 H2 σ c d g2 => h ρ2 H2 σ c d (g.trans g2)
  | stuck => exact h
theorem SAfter.bind {α β : Type} {R : List Addr → Hp → α → β → Prop} {r : Rs α} {env : Ev} {σ : St} {k : α → Sto → SRs} {D : Ends} {Wx : WX'} {Q1 : β → Hp → Prop} (h : SAfter K T η ρ H (r.to env k) D Wx) (er : ER K ρ η H env σ)
    (f : ∀ w st1 ρ1 H1 v, r = .ok w st1 → Grow ρ H ρ1 H1 → SR K T ρ1 η st1 H1 → R ρ1 H1 w v → SAfter K T η ρ1 H1 (k w st1) D Wx → Q1 v H1) : After K T η R ρ H r Q1 (fun c d H' => Wx c d σ H') := by
  cases r with
  | ok w s => exact fun ρ1 H1 v g s1 r1 => f w s ρ1 H1 v rfl g s1 r1 (SAfter.grow g h)
  | ex x s => exact fun ρ1 H1 c d g s1 xr => h ρ1 H1 σ c d g s1 (er.mono g) xr
  | stuck => exact h
theorem SAfter.nx {env : Ev} {σ : St} {D : Ends} {Wx : WX'} (h : SAfter K T η ρ H (.nx env st) D Wx) (s : SR K T ρ η st H) (e : ER K ρ η H env σ) : D.nx σ H := h ρ H σ Grow.refl s e
end
section
variable (X : Cx) (T : Nat → Addr) (Wx : WX')
def SSt (c : Stmt) (m : MS) : Prop := ∀ ρ η st env σ H D, SR X.K T ρ η st H → ER X.K ρ η H env σ → SAfter X.K T η ρ H (m env st) D Wx → tSS X c D σ H
def SSs (c : List Stmt) (m : MS) : Prop := ∀ ρ η st env σ H D, SR X.K T ρ η st H → ER X.K ρ η H env σ → SAfter X.K T η ρ H (m env st) D Wx → tSSs X c D σ H
end
/-- targets -/
abbrev MG := W → Ev → Sto → Option (Ev × Sto)
def gName' (i : Nat) : MG := fun w env st => some (env.set i (some w), st)
def gAll : List MG → List W → Ev → Sto → Option (Ev × Sto)
  | [], [], env, st => some (env, st)
  | g :: gs, w :: ws, env, st => match g w env st with
    | some (env1, st1) => gAll gs ws env1 st1
    | none => none
  | _, _, _, _ => none
def gTup' (gs : List MG) : MG := fun w env st => match w with
  | .tup ws => gAll gs ws env st
  | _ => none
def wSet (o i v : W) (st : Sto) : Option Sto := match o with
  | .ref n => match st[n]? with
    | some (.lst xs) => match i with
      | .int k => match ixN xs.length k with
        | some j => some (st.set n (.lst (xs.set j v)))
        | none => none
      | _ => none
    | _ => none
  | _ => none
def gOk (K : PySem.W.Frag) (T : Nat → Addr) (η ρ : List Addr) (H : Hp) (r : Option (Ev × Sto)) (Q : St → Hp → Prop) : Prop := match r with
  | some (env, st) => ∀ ρ' H' σ', Grow ρ H ρ' H' → SR K T ρ' η st H' → ER K ρ' η H' env σ' → Q σ' H'
  | none => False
def tSG (X : Cx) (e : Expr) : TG := fun v σ H Q => ∃ t, PG X e t ∧ t v σ H Q
theorem pg_S {X : Cx} {e : Expr} : PG X e (tSG X e) := ⟨fun pins s σ H v u Q I r ⟨_, h, q⟩ => h.run pins s σ H v u Q I r q⟩
def SGt (X : Cx) (T : Nat → Addr) (e : Expr) (g : MG) : Prop := ∀ ρ η st env σ H w v Q, SR X.K T ρ η st H → ER X.K ρ η H env σ → VR X.K ρ η H w v → gOk X.K T η ρ H (g w env st) Q → tSG X e v σ H Q
def SGs (X : Cx) (T : Nat → Addr) (es : List Expr) (gs : List MG) : Prop := ∀ ρ η st env σ H ws vs Q, SR X.K T ρ η st H → ER X.K ρ η H env σ → VRs X.K ρ η H ws vs → gOk X.K T η ρ H (gAll gs ws env st) Q → ∃ t, PGs X es t ∧ t vs σ H Q
theorem pgs_S {X : Cx} {es : List Expr} : PGs X es (fun vs σ H Q => ∃ t, PGs X es t ∧ t vs σ H Q) := ⟨fun pins s σ H vs us Q I r ⟨_, h, q⟩ => h.run pins s σ H vs us Q I r q⟩

def sNx : MS := fun env st => .nx env st
def sSeq (m k : MS) : MS := fun env st => match m env st with
  | .nx env1 st1 => k env1 st1
  | r => r
def sExpr (m : M W) : MS := fun env st => (m env st).to env fun _ s => .nx env s
def sRet (m : M W) : MS := fun env st => (m env st).to env fun w s => .rt w s
def sRetN : MS := fun _ st => .rt .non st
def sIf (c : M Bool) (m k : MS) : MS := fun env st => (c env st).to env fun b s => if b = true then m env s else k env s
def sBrk : MS := fun env st => .bk env st
def sCnt : MS := fun env st => .ct env st
def gDo (r : Option (Ev × Sto)) : SRs := match r with
  | some (env, st) => .nx env st
  | none => .stuck
def sAsg (m : M W) (g : MG) : MS := fun env st => (m env st).to env fun w s => gDo (g w env s)
def sAug (i : Nat) (f : F2) (m : M W) : MS := fun env st => match env[i]? with
  | some (some w) => (m env st).to env fun u s => (f w u s).to env fun z s2 => .nx (env.set i (some z)) s2
  | _ => .stuck
def putW (f : Str) (v : W) : List (Str × W) → List (Str × W)
  | [] => [(f, v)]
  | (g, w) :: r => if g = f then (f, v) :: r else (g, w) :: putW f v r
def wSetF (cs : List Nat) (f : Str) (o v : W) (st : Sto) : Option Sto := match o with
  | .ref n => match st[n]? with
    | some (.ins c fs) => if cs.contains c ∧ fs.length < 1000 then some (st.set n (.ins c (putW f v fs))) else none
    | _ => none
  | _ => none
/-- o.f = e: e first -/
def sFld' (cs : List Nat) (f : Str) (mo m : M W) : MS := fun env st => (m env st).to env fun v s => (mo env s).to env fun o s2 => match wSetF cs f o v s2 with
  | some s3 => .nx env s3
  | none => .stuck

section
variable {X : Cx} {T : Nat → Addr} {Wx : WX'} {pos : Pos}
theorem sss_nil : SSs X T Wx [] sNx := fun ρ η st env σ H D s er h => ⟨_, pss_nil, h.nx s er⟩
theorem sss_one {c : Stmt} {m : MS} (h : SSt X T Wx c m) : SSs X T Wx [c] m := fun ρ η st env σ H D s er q => ⟨_, pss_one ps_S, h ρ η st env σ H D s er q⟩
theorem sss_cons {c : Stmt} {cs : List Stmt} {m k : MS} (h : SSt X T Wx c m) (hs : SSs X T Wx cs k) : SSs X T Wx (c :: cs) (sSeq m k) := by
  intro ρ η st env σ H D s er q
  refine ⟨_, pss_cons ps_S pss_S, ?_⟩
  refine h ρ η st env σ H _ s er ?_
  unfold sSeq at q
  cases e : m env st with
  | nx env1 st1 =>
    rw [e] at q
    exact fun ρ1 H1 σ1 g1 sr1 er1 => hs ρ1 η st1 env1 σ1 H1 D sr1 er1 (SAfter.grow g1 q)
  | rt w s1 => rw [e] at q; exact q
  | bk env1 s1 => rw [e] at q; exact q
  | ct env1 s1 => rw [e] at q; exact q
  | ex x env1 s1 => rw [e] at q; exact q
  | stuck => rw [e] at q; exact q
theorem ss_pass : SSt X T Wx (.Pass pos) sNx := fun ρ η st env σ H D s er h => ⟨_, ps_pass, h.nx s er⟩
theorem ss_break : SSt X T Wx (.Break pos) sBrk := fun ρ η st env σ H D s er h => ⟨_, ps_break, h ρ H σ Grow.refl s er⟩
theorem ss_cont : SSt X T Wx (.Continue pos) sCnt := fun ρ η st env σ H D s er h => ⟨_, ps_continue, h ρ H σ Grow.refl s er⟩
theorem ss_retN : SSt X T Wx (.Return none pos) sRetN := fun ρ η st env σ H D s er h => ⟨_, ps_retN, h ρ H .non Grow.refl s (by simp only [VR])⟩
theorem ss_ret {e : Expr} {m : M W} (h : SE X T Wx e m) : SSt X T Wx (.Return (some e) pos) (sRet m) := by
  intro ρ η st env σ H D s er q
  refine ⟨_, ps_ret pe_S, ?_⟩
  exact h ρ η st env σ H _ s er (q.bind er fun w s1 ρ1 H1 v _ g1 sr1 r1 h1 => h1 ρ1 H1 v Grow.refl sr1 r1)
theorem ss_expr {e : Expr} {m : M W} (h : SE X T Wx e m) (hs : swapsWith e none pos.line X.env = pure false := by rfl) : SSt X T Wx (.Expr e pos) (sExpr m) := by
  intro ρ η st env σ H D s er q
  refine ⟨_, ps_expr pe_S hs, ?_⟩
  exact h ρ η st env σ H _ s er (q.bind er fun w s1 ρ1 H1 v _ g1 sr1 r1 h1 => h1.nx sr1 (er.mono g1))
theorem ss_if {c : Expr} {a b : List Stmt} {mc : M Bool} {m k : MS} (hc : STt X T Wx c mc) (ha : SSs X T Wx a m) (hb : SSs X T Wx b k) : SSt X T Wx (.If c a b pos) (sIf mc m k) := by
  intro ρ η st env σ H D s er q
  refine ⟨_, ps_if pt_S pss_S pss_S, ?_⟩
  refine hc ρ η st env σ H _ s er (q.bind er fun w s1 ρ1 H1 v _ g1 sr1 r1 h1 => ?_)
  subst r1
  cases w with
  | true => exact iteT (ha ρ1 η s1 env σ H1 D sr1 (er.mono g1) h1)
  | false => exact iteF (hb ρ1 η s1 env σ H1 D sr1 (er.mono g1) h1)
/-! ### targets -/
theorem sg_name {i : Nat} {x : Str} (hN : X.N.Nodup) (hi : X.N[i]? = some x) (hx : Loc X.env.scope x) (hf : X.fn x = true ∨ X.env.scope.names.lookup x = some .local := by first | exact .inl rfl | exact .inr rfl) : SGt X T (.Name x pos) (gName' i) :=
  fun ρ η st env σ H w v Q s er r h => ⟨_, pg_name hN hi hx hf, h ρ H _ Grow.refl s (er.set r)⟩
theorem sgs_nil : SGs X T [] [] := by
  intro ρ η st env σ H ws vs Q s er r h
  refine ⟨_, pgs_nil, ?_⟩
  cases ws with
  | nil => simp only [VRs] at r; exact ⟨r, h ρ H σ Grow.refl s er⟩
  | cons w ws => exact h.elim
theorem sgs_cons {e : Expr} {es : List Expr} {g : MG} {gs : List MG} (h1 : SGt X T e g) (h2 : SGs X T es gs) (hs : (assignEach (e :: es) X.env).map (·.2) = assign e X.env :: (assignEach es X.env).map (·.2) := by rfl) : SGs X T (e :: es) (g :: gs) := by
  intro ρ η st env σ H ws vs Q s er r h
  refine ⟨_, pgs_cons pg_S pgs_S hs, ?_⟩
  cases ws with
  | nil => exact h.elim
  | cons w ws =>
    simp only [VRs] at r
    obtain ⟨v, rv, e1, r1, r2⟩ := r
    refine ⟨v, rv, e1, h1 ρ η st env σ H w v _ s er r1 ?_⟩
    unfold gAll at h
    cases q : g w env st with
    | none => rw [q] at h; exact h.elim
    | some p =>
      rw [q] at h
      obtain ⟨env1, st1⟩ := p
      intro ρ1 H1 σ1 g1 sr1 er1
      refine h2 ρ1 η st1 env1 σ1 H1 ws rv Q sr1 er1 (r2.mono g1) ?_
      dsimp only at h
      cases q2 : gAll gs ws env1 st1 with
      | none => rw [q2] at h; exact h.elim
      | some p2 =>
        rw [q2] at h
        obtain ⟨env2, st2⟩ := p2
        exact fun ρ2 H2 σ2 g2 => h ρ2 H2 σ2 (g1.trans g2)
theorem sg_tup {es : List Expr} {k : Nat} {gs : List MG} (hc : X.calm = true) (h : SGs X T es gs) (hn : (assignEach es X.env).length = gs.length := by rfl) (hst : (assignEach es X.env).findIdx? (·.1) = none := by rfl) : SGt X T (.Tuple es k pos) (gTup' gs) := by
  intro ρ η st env σ H w v Q s er r q
  refine ⟨_, pg_tup hc pgs_S hn hst, ?_⟩
  unfold gTup' at q
  split at q
  · rename_i ws
    obtain ⟨a, vs, e1, e2, e3⟩ := tup_ok r (show tupL (.tup ws) = some ws from rfl)
    refine ⟨a, vs, e1, e2, ?_, h ρ η st env σ H ws vs Q s er e3 q⟩
    rw [e3.len]
    have : ∀ (gs : List MG) (ws : List W) (env : Ev) (st : Sto), (gAll gs ws env st).isSome = true → ws.length = gs.length := by
      intro gs
      induction gs with
      | nil => intro ws env st; cases ws <;> simp [gAll]
      | cons g gs ih =>
        intro ws env st
        cases ws with
        | nil => simp [gAll]
        | cons w ws =>
          intro z
          unfold gAll at z
          cases q : g w env st with
          | none => rw [q] at z; cases z
          | some p =>
            rw [q] at z
            simp only [List.length_cons, ih ws p.1 p.2 z]
    refine this gs ws env st ?_
    cases z : gAll gs ws env st with
    | none => rw [z] at q; exact q.elim
    | some p => rfl
  · exact q.elim
theorem ss_asg {tg e : Expr} {m : M W} {g : MG} (he : SE X T Wx e m) (hg : SGt X T tg g) (hs : swapsWithSole [tg] e pos.line X.env = pure false := by rfl) (hw : swappedStores [tg] e X.env = pure none := by rfl)
    (h1 : (assignEach [tg] X.env).map (·.2) = [assign tg X.env] := by rfl) : SSt X T Wx (.Assign [tg] e pos) (sAsg m g) := by
  intro ρ η st env σ H D s er q
  refine ⟨_, ps_asg pe_S pg_S hs hw h1, ?_⟩
  refine he ρ η st env σ H _ s er (q.bind er fun w s1 ρ1 H1 v _ g1 sr1 r1 h2 => ?_)
  refine hg ρ1 η s1 env σ H1 w v _ sr1 (er.mono g1) r1 ?_
  unfold gDo at h2
  cases z : g w env s1 with
  | none => rw [z] at h2; exact h2.elim
  | some p => rw [z] at h2; exact h2
theorem ss_set {i : Nat} {x : Str} {e : Expr} {m : M W} {pos' : Pos} (hN : X.N.Nodup) (hi : X.N[i]? = some x) (hx : Loc X.env.scope x) (he : SE X T Wx e m) (hs : swapsWith e (some (.Name x pos')) pos.line X.env = pure false := by rfl) (hf : X.fn x = true ∨ X.env.scope.names.lookup x = some .local := by first | exact .inl rfl | exact .inr rfl) :
    SSt X T Wx (.Assign [.Name x pos'] e pos) (sAsg m (gName' i)) := by
  intro ρ η st env σ H D s er q
  refine ⟨_, ps_set hN hi hx pe_S hs hf, ?_⟩
  exact he ρ η st env σ H _ s er (q.bind er fun w s1 ρ1 H1 v _ g1 sr1 r1 h2 => h2 ρ1 H1 _ Grow.refl sr1 ((er.mono g1).set r1))
end
end Mi
namespace Mi
open PySem L2
/-- more hidden ones, all of them new -/
def Hid (η : List Addr) (H : Hp) (η' : List Addr) : Prop := (∀ a ∈ η, a ∈ η') ∧ ∀ a ∈ η', a ∈ η ∨ H a = none
section
variable {K : PySem.W.Frag} {T : Nat → Addr} {ρ ρ' η η' : List Addr} {H H' : Hp} {st : Sto}
theorem Hid.refl : Hid η H η := ⟨fun _ h => h, fun _ h => .inl h⟩
theorem Hid.not {a : Addr} {o : HO} (k : Hid η H η') (n : a ∉ η) (h : H a = some o) : a ∉ η' := fun z => by
  rcases k.2 a z with z | z
  · exact n z
  · rw [z] at h; cases h
theorem TupAt.more {a : Addr} {vs : List V} (g : Grow ρ H ρ' H') (k : Hid η H η') (h : TupAt K ρ η H a vs) : TupAt K ρ' η' H' a vs := by
  rcases h with ⟨h1, h2, h3⟩ | h
  · obtain ⟨o, e⟩ := rd_some h3
    exact .inl ⟨g.out h1 e, k.not h2 e, g.rd h1 h3⟩
  · exact .inr h
theorem LstAt.more {a : Addr} {vs : List V} (g : Grow ρ H ρ' H') (k : Hid η H η') (h : LstAt K ρ η H a vs) : LstAt K ρ' η' H' a vs := by
  rcases h with ⟨h1, h2, h3⟩ | h
  · obtain ⟨o, e⟩ := rd_some h3
    exact .inl ⟨g.out h1 e, k.not h2 e, g.rd h1 h3⟩
  · exact .inr h
mutual
theorem VR.more (g : Grow ρ H ρ' H') (k : Hid η H η') : ∀ {w : W} {v : V}, VR K ρ η H w v → VR K ρ' η' H' w v
  | .non, _, h => h
  | .bl _, _, h => h
  | .int _, _, h => h
  | .str _, _, h => h
  | .ty _, _, h => h
  | .at_ _, _, h => h
  | .ref i, v, h => by
    simp only [VR] at h ⊢
    obtain ⟨a, e, r⟩ := h
    exact ⟨a, g.at e, r⟩
  | .tup xs, v, h => by
    simp only [VR] at h ⊢
    obtain ⟨a, vs, e, t, r⟩ := h
    exact ⟨a, vs, e, t.more g k, VRs.more g k r⟩
  | .lst xs, v, h => by
    simp only [VR] at h ⊢
    obtain ⟨a, vs, e, ⟨t1, t2, t3⟩, r⟩ := h
    exact ⟨a, vs, e, ⟨g.out t1 t3, k.not t2 t3, g.same _ _ t1 t3⟩, VRs.more g k r⟩
  | .scr xs, v, h => by
    simp only [VR] at h ⊢
    obtain ⟨a, vs, e, t, r⟩ := h
    exact ⟨a, vs, e, t.more g k, VRs.more g k r⟩
theorem VRs.more (g : Grow ρ H ρ' H') (k : Hid η H η') : ∀ {ws : List W} {vs : List V}, VRs K ρ η H ws vs → VRs K ρ' η' H' ws vs
  | [], _, h => by simpa only [VRs] using h
  | x :: xs, vs, h => by
    simp only [VRs] at h ⊢
    obtain ⟨v, r, e, h1, h2⟩ := h
    exact ⟨v, r, e, VR.more g k h1, VRs.more g k h2⟩
end
end

/-! ### what a loop walks -/
structure Src where
  fuel : Nat
  at_ : Nat → Sto → Option (Option W)
def fixS (xs : List W) : Src := ⟨xs.length + 1, fun i _ => some xs[i]?⟩
def nodS (n : Nat) (len : Nat) : Src := ⟨len + 1, fun i st => match st[n]? with
  | some (.lst xs) => some xs[i]?
  | _ => none⟩
def SrcOk (K : PySem.W.Frag) (T : Nat → Addr) (ρ η : List Addr) (H : Hp) (s : Src) (J : It) : Prop := ∀ η', Hid η H η' → ∀ (i : Nat) (ρ' : List Addr) (H' : Hp) (st' : Sto), Grow ρ H ρ' H' → SR K T ρ' η' st' H' →
  match s.at_ i st' with
  | some (some w) => J.go i H' ∧ ∀ x H2, J.yld i H' x H2 → Grow ρ' H' ρ' H2 ∧ SR K T ρ' η' st' H2 ∧ VR K ρ' η' H2 w x
  | some none => J.stop i H'
  | none => True
abbrev MI := Ev → Sto → Rs Src
def SI (X : Cx) (T : Nat → Addr) (Wx : WX') (tg iter : Expr) (m : MI) : Prop := ∀ ρ η st env σ H (Q : It → Hp → Prop), SR X.K T ρ η st H → ER X.K ρ η H env σ → After X.K T η (fun ρ H s J => SrcOk X.K T ρ η H s J) ρ H (m env st) Q (fun c d H' => Wx c d σ H') → ∃ t, PI X tg iter t ∧ t σ H Q
def tSI (X : Cx) (tg iter : Expr) : TI := fun σ H Q => ∃ t, PI X tg iter t ∧ t σ H Q
theorem pi_S {X : Cx} {tg iter : Expr} : PI X tg iter (tSI X tg iter) := ⟨fun pins s σ H R I ⟨_, h, q⟩ => h.run pins s σ H R I q⟩
/-- the loop -/
def forS (s : Src) (g : MG) (body : MS) : Nat → Nat → MS
  | 0, _ => fun _ _ => .stuck
  | n + 1, i => fun env st => match s.at_ i st with
    | some (some w) => match g w env st with
      | some (env1, st1) => match body env1 st1 with
        | .nx env2 st2 => forS s g body n (i + 1) env2 st2
        | .ct env2 st2 => forS s g body n (i + 1) env2 st2
        | .bk env2 st2 => .nx env2 st2
        | r => r
      | none => .stuck
    | some none => .nx env st
    | none => .stuck
def sFor (m : MI) (g : MG) (body : MS) : MS := fun env st => (m env st).to env fun s st1 => forS s g body s.fuel 0 env st1
def whileS (c : M Bool) (body : MS) : Nat → MS
  | 0 => fun _ _ => .stuck
  | n + 1 => fun env st => (c env st).to env fun b s => if b = true then (match body env s with
        | .nx env2 st2 => whileS c body n env2 st2
        | .ct env2 st2 => whileS c body n env2 st2
        | .bk env2 st2 => .nx env2 st2
        | r => r) else .nx env s
def sWhile (fuel : Nat) (c : M Bool) (body : MS) : MS := whileS c body fuel
section
variable {X : Cx} {T : Nat → Addr} {Wx : WX'} {pos : Pos}
theorem ss_for {tg iter : Expr} {body : List Stmt} {mi : MI} {g : MG} {m : MS} (hp : PassesOwn (model X.prog X.w) X.A X.env X.xe) (hc : X.calm = true) (hi : SI X T Wx tg iter mi) (hg : SGt X T tg g) (hb : SSs X T Wx body m)
    (hs : ∀ x, foldedSetIterable iter X.env x = pure x := by intro _; rfl) : SSt X T Wx (.For tg iter body [] pos) (sFor mi g m) := by
  intro ρ η st env σ H D s er q
  refine ⟨_, ps_for hp hc pi_S pg_S pss_S hs, ?_⟩
  refine hi ρ η st env σ H _ s er (q.bind er fun src s1 ρ1 H1 J _ g1 sr1 ok h1 => ?_)
  refine ⟨fun i n σ' H' => ∃ ρ' st' env', Grow ρ1 H1 ρ' H' ∧ SR X.K T ρ' η st' H' ∧ ER X.K ρ' η H' env' σ' ∧ SAfter X.K T η ρ' H' (forS src g m n i env' st') D Wx, ⟨src.fuel, ρ1, s1, env, Grow.refl, sr1, er.mono g1, h1⟩, ?_⟩
  rintro i n σ2 H2 ⟨ρ2, st2, env2, g2, sr2, er2, h2⟩
  cases n with
  | zero => exact h2.elim
  | succ n =>
    have k := ok η Hid.refl i ρ2 H2 st2 g2 sr2
    unfold forS at h2
    split at h2
    · rename_i w e
      rw [e] at k
      obtain ⟨k1, k2⟩ := k
      refine .inr ⟨k1, fun σ' H' => ∃ ρ' st' env', Grow ρ1 H1 ρ' H' ∧ SR X.K T ρ' η st' H' ∧ ER X.K ρ' η H' env' σ' ∧ SAfter X.K T η ρ' H' (forS src g m n (i + 1) env' st') D Wx, fun σ' H' z => ⟨n, Nat.lt_succ_self n, z⟩, fun x H3 y => ?_⟩
      obtain ⟨g3, sr3, r3⟩ := k2 x H3 y
      refine hg ρ2 η st2 env2 σ2 H3 w x _ sr3 (er2.mono g3) r3 ?_
      split at h2
      · rename_i env4 st4 e2
        rw [e2]
        intro ρ4 H4 σ4 g4 sr4 er4
        refine hb ρ4 η st4 env4 σ4 H4 _ sr4 er4 ?_
        split at h2
        · rename_i env5 st5 e5
          rw [e5]
          exact fun ρ5 H5 σ5 g5 sr5 er5 => ⟨ρ5, st5, env5, ((g2.trans g3).trans g4).trans g5, sr5, er5, SAfter.grow ((g3.trans g4).trans g5) h2⟩
        · rename_i env5 st5 e5
          rw [e5]
          exact fun ρ5 H5 σ5 g5 sr5 er5 => ⟨ρ5, st5, env5, ((g2.trans g3).trans g4).trans g5, sr5, er5, SAfter.grow ((g3.trans g4).trans g5) h2⟩
        · rename_i env5 st5 e5
          rw [e5]
          exact fun ρ5 H5 σ5 g5 sr5 er5 => h2 ρ5 H5 σ5 ((g3.trans g4).trans g5) sr5 er5
        · rename_i r n1 n2 n3
          cases e5 : m env4 st4 with
          | nx a b => exact absurd e5 (n1 a b)
          | ct a b => exact absurd e5 (n2 a b)
          | bk a b => exact absurd e5 (n3 a b)
          | rt w5 s5 => rw [e5] at h2; exact fun ρ5 H5 v5 g5 sr5 r5 => h2 ρ5 H5 v5 ((g3.trans g4).trans g5) sr5 r5
          | ex x5 a b => rw [e5] at h2; exact fun ρ5 H5 σ5 c5 d5 g5 sr5 er5 xr5 => h2 ρ5 H5 σ5 c5 d5 ((g3.trans g4).trans g5) sr5 er5 xr5
          | stuck => rw [e5] at h2; exact h2
      · exact h2.elim
    · rename_i e
      rw [e] at k
      exact .inl ⟨k, h2.nx sr2 er2⟩
    · exact h2.elim
theorem ss_while {c : Expr} {body : List Stmt} {mc : M Bool} {m : MS} {fuel : Nat} (hp : PassesOwn (model X.prog X.w) X.A X.env X.xe) (hc : STt X T Wx c mc) (hb : SSs X T Wx body m) : SSt X T Wx (.While c body [] pos) (sWhile fuel mc m) := by
  intro ρ η st env σ H D s er q
  refine ⟨_, ps_while hp pt_S pss_S, ?_⟩
  refine ⟨fun n σ' H' => ∃ ρ' st' env', Grow ρ H ρ' H' ∧ SR X.K T ρ' η st' H' ∧ ER X.K ρ' η H' env' σ' ∧ SAfter X.K T η ρ' H' (whileS mc m n env' st') D Wx, ⟨fuel, ρ, st, env, Grow.refl, s, er, q⟩, ?_⟩
  rintro n σ2 H2 ⟨ρ2, st2, env2, g2, sr2, er2, h2⟩
  cases n with
  | zero => exact h2.elim
  | succ n =>
    unfold whileS at h2
    refine hc ρ2 η st2 env2 σ2 H2 _ sr2 er2 (h2.bind er2 fun b s3 ρ3 H3 b' _ g3 sr3 r3 h3 => ?_)
    subst r3
    cases b with
    | false => exact iteF (h3.nx sr3 (er2.mono g3))
    | true =>
      refine iteT ⟨fun σ' H' => ∃ ρ' st' env', Grow ρ H ρ' H' ∧ SR X.K T ρ' η st' H' ∧ ER X.K ρ' η H' env' σ' ∧ SAfter X.K T η ρ' H' (whileS mc m n env' st') D Wx, fun σ' H' z => ⟨n, Nat.lt_succ_self n, z⟩, ?_⟩
      rw [if_pos rfl] at h3
      refine hb ρ3 η s3 env2 σ2 H3 _ sr3 (er2.mono g3) ?_
      split at h3
      · rename_i env5 st5 e5
        rw [e5]
        exact fun ρ5 H5 σ5 g5 sr5 er5 => ⟨ρ5, st5, env5, (g2.trans g3).trans g5, sr5, er5, SAfter.grow g5 h3⟩
      · rename_i env5 st5 e5
        rw [e5]
        exact fun ρ5 H5 σ5 g5 sr5 er5 => ⟨ρ5, st5, env5, (g2.trans g3).trans g5, sr5, er5, SAfter.grow g5 h3⟩
      · rename_i env5 st5 e5
        rw [e5]
        exact fun ρ5 H5 σ5 g5 sr5 er5 => h3 ρ5 H5 σ5 g5 sr5 er5
      · rename_i r n1 n2 n3
        cases e5 : m env2 s3 with
        | nx a b => exact absurd e5 (n1 a b)
        | ct a b => exact absurd e5 (n2 a b)
        | bk a b => exact absurd e5 (n3 a b)
        | rt w5 s5 => rw [e5] at h3; exact h3
        | ex x5 a b => rw [e5] at h3; exact h3
        | stuck => rw [e5] at h3; exact h3
/-! ### sources -/
def iL (m : M W) : MI := fun env st => (m env st).bind fun w s => match w with
  | .lst xs => .ok (fixS xs) s
  | .scr xs => .ok (fixS xs) s
  | .tup xs => .stuck
  | .ref n => match s[n]? with
    | some (.lst xs) => .ok (nodS n xs.length) s
    | _ => .stuck
  | _ => .stuck
def iT (m : M W) : MI := fun env st => (m env st).bind fun w s => match w with
  | .tup xs => .ok (fixS xs) s
  | _ => .stuck
def rngW (lo : Int) (n : Nat) : List W := (List.range n).map fun (i : Nat) => W.int (lo + (i : Int))
def small62 (i : Int) : Bool := decide (i.natAbs < 2 ^ 62)
theorem small62_of {i : Int} (h : small62 i = true) : -(2 ^ 62) ≤ i ∧ i < 2 ^ 62 := by
  simp only [small62, decide_eq_true_eq] at h
  omega
def iR1 (m : M (List W)) : MI := fun env st => (m env st).bind fun ws s => match ws with
  | [.int j] => if small62 j then .ok (fixS (rngW 0 j.toNat)) s else .stuck
  | _ => .stuck
def iR2 (m : M (List W)) : MI := fun env st => (m env st).bind fun ws s => match ws with
  | [.int i, .int j] => if small62 i ∧ small62 j then .ok (fixS (rngW i (j - i).toNat)) s else .stuck
  | _ => .stuck
theorem src_seq {ρ η : List Addr} {H : Hp} {a : Addr} {xs : List W} {vs : List V} (hl : ∀ ρ' H', Grow ρ H ρ' H' → SqL X.K H' a vs) (r : VRs X.K ρ η H xs vs) : SrcOk X.K T ρ η H (fixS xs) (Itl X.K a) := by
  intro η' k i ρ' H' st' g sr
  have q := hl ρ' H' g
  show match some xs[i]? with | some (some w) => _ | some none => _ | none => _
  cases e : xs[i]? with
  | none => exact ⟨vs, q, by rw [r.len]; exact List.getElem?_eq_none_iff.mp e⟩
  | some w =>
    obtain ⟨v, e1, e2⟩ := r.get e
    refine ⟨⟨vs, v, q, e1⟩, fun x H2 y => ?_⟩
    obtain ⟨y1, y2⟩ := y
    subst y1
    have := y2 vs q
    rw [e1] at this
    cases this
    exact ⟨Grow.refl, sr, e2.more g k⟩
theorem lst_at {ρ η : List Addr} {H : Hp} {a : Addr} {vs : List V} (h : a ∉ ρ ∧ a ∉ η ∧ H a = some (.lst vs)) : ∀ ρ' H', Grow ρ H ρ' H' → SqL X.K H' a vs := fun ρ' H' g => SqL.of (g.same _ _ h.1 h.2.2)
theorem src_nod {ρ η : List Addr} {H : Hp} {a : Addr} {n len : Nat} (h : ρ[n]? = some a) : SrcOk X.K T ρ η H (nodS n len) (Itl X.K a) := by
  intro η' k i ρ' H' st' g sr
  show match (match st'[n]? with | some (.lst xs) => some xs[i]? | _ => none) with | some (some w) => _ | some none => _ | none => True
  cases e : st'[n]? with
  | none => trivial
  | some nd =>
    have q := sr.at_ n nd a e (g.at h)
    cases nd with
    | lst xs =>
      obtain ⟨vs, q1, q2⟩ := q
      dsimp only
      cases e2 : xs[i]? with
      | none => exact ⟨vs, SqL.of q1, by rw [q2.len]; exact List.getElem?_eq_none_iff.mp e2⟩
      | some w =>
        obtain ⟨v, e3, e4⟩ := q2.get e2
        refine ⟨⟨vs, v, SqL.of q1, e3⟩, fun x H2 y => ?_⟩
        obtain ⟨y1, y2⟩ := y
        subst y1
        have := y2 vs (SqL.of q1)
        rw [e3] at this
        cases this
        exact ⟨Grow.refl, sr, e4⟩
    | _ => trivial
theorem si_list {tg l : Expr} {m : M W} (h : SE X T Wx l m) : SI X T Wx tg l (iL m) := by
  intro ρ η st env σ H Q s er q
  refine ⟨_, pi_list pe_S, ?_⟩
  refine h ρ η st env σ H _ s er (q.bind fun w s1 ρ1 H1 v g1 sr1 r1 h1 => ?_)
  split at h1
  · rename_i xs
    simp only [VR] at r1
    obtain ⟨a, vs, e1, e2, e3⟩ := r1
    exact ⟨a, e1, ⟨vs, SqL.of e2.2.2⟩, h1.ok sr1 (src_seq (lst_at e2) e3)⟩
  · rename_i xs
    simp only [VR] at r1
    obtain ⟨a, vs, e1, e2, e3⟩ := r1
    exact ⟨a, e1, ⟨vs, e2.sq⟩, h1.ok sr1 (src_seq (fun ρ' H' g => (e2.mono g).sq) e3)⟩
  · exact h1.elim
  · rename_i n
    split at h1
    · rename_i xs e
      obtain ⟨a, e1, e2, vs, e3, e4⟩ := node_at sr1 r1 e
      exact ⟨a, e1, ⟨vs, SqL.of e3⟩, h1.ok sr1 (src_nod e2)⟩
    · exact h1.elim
  · exact h1.elim
theorem si_tup {tg l : Expr} {m : M W} (h : SE X T Wx l m) : SI X T Wx tg l (iT m) := by
  intro ρ η st env σ H Q s er q
  refine ⟨_, pi_tup pe_S, ?_⟩
  refine h ρ η st env σ H _ s er (q.bind fun w s1 ρ1 H1 v g1 sr1 r1 h1 => ?_)
  split at h1
  · rename_i xs
    simp only [VR] at r1
    obtain ⟨a, vs, e1, e2, e3⟩ := r1
    refine ⟨a, e1, ⟨vs, e2.sq⟩, h1.ok sr1 ?_⟩
    intro η' k i ρ' H' st' g sr
    have q : SqT X.K H' a vs := (e2.mono g).sq
    show match some xs[i]? with | some (some w) => _ | some none => _ | none => _
    cases e : xs[i]? with
    | none => exact ⟨vs, q, by rw [e3.len]; exact List.getElem?_eq_none_iff.mp e⟩
    | some w =>
      obtain ⟨v, f1, f2⟩ := e3.get e
      refine ⟨⟨vs, v, q, f1⟩, fun x H2 y => ?_⟩
      obtain ⟨y1, y2⟩ := y
      subst y1
      have := y2 vs q
      rw [f1] at this
      cases this
      exact ⟨Grow.refl, sr, f2.more g k⟩
  · exact h1.elim
theorem src_rng {ρ η : List Addr} {H : Hp} {lo : Int} {n : Nat} : SrcOk X.K T ρ η H (fixS (rngW lo n)) (Itr lo n) := by
  intro η' k i ρ' H' st' g sr
  show match some (rngW lo n)[i]? with | some (some w) => _ | some none => _ | none => _
  unfold rngW
  rw [List.getElem?_map]
  by_cases hi : i < n
  · rw [List.getElem?_eq_getElem (by simpa using hi)]
    simp only [List.getElem_range, Option.map_some]
    refine ⟨hi, fun x H2 y => ?_⟩
    obtain ⟨y1, y2⟩ := y
    subst y1
    exact ⟨Grow.refl, sr, by simp only [VR]; exact y2⟩
  · rw [List.getElem?_eq_none (by simpa using Nat.le_of_not_lt hi)]
    exact Nat.le_of_not_lt hi
theorem si_range1 {tg a : Expr} {m : M (List W)} {p pos : Pos} (hg : Gl X (Str.ofString "range")) (hm : X.mg (Str.ofString "range") = none) (h : SA X T Wx [a] m) (hst : starEach [a] X.env = [(false, eval a X.env)] := by rfl) :
    SI X T Wx tg (.Call (.Name (Str.ofString "range") p) [a] [] pos) (iR1 m) := by
  intro ρ η st env σ H Q s er q
  refine ⟨_, pi_range1 hg hm pa_S hst, ?_⟩
  refine h ρ η st env σ H _ s er (q.bind fun ws s1 ρ1 H1 vs g1 sr1 r1 h1 => ?_)
  split at h1
  · rename_i j
    split at h1
    · rename_i z
      simp only [VRs, VR] at r1
      obtain ⟨v, r, e1, e2, e3⟩ := r1
      subst e2; subst e3
      have z := small62_of z
      exact ⟨j, e1, z.1, z.2, h1.ok sr1 src_rng⟩
    · exact h1.elim
  · exact h1.elim
theorem si_range2 {tg a b : Expr} {m : M (List W)} {p pos : Pos} (hg : Gl X (Str.ofString "range")) (hm : X.mg (Str.ofString "range") = none) (h : SA X T Wx [a, b] m) (hst : starEach [a, b] X.env = [(false, eval a X.env), (false, eval b X.env)] := by rfl) (hst2 : starEach [b] X.env = [(false, eval b X.env)] := by rfl) :
    SI X T Wx tg (.Call (.Name (Str.ofString "range") p) [a, b] [] pos) (iR2 m) := by
  intro ρ η st env σ H Q s er q
  refine ⟨_, pi_range2 hg hm pa_S hst hst2, ?_⟩
  refine h ρ η st env σ H _ s er (q.bind fun ws s1 ρ1 H1 vs g1 sr1 r1 h1 => ?_)
  split at h1
  · rename_i i j
    split at h1
    · rename_i z
      simp only [VRs, VR] at r1
      obtain ⟨v, r, e1, e2, v2, r2, e3, e4, e5⟩ := r1
      subst e2; subst e4; subst e5; subst e3
      have z1 := small62_of z.1
      have z2 := small62_of z.2
      exact ⟨i, j, e1, ⟨z1.1, z1.2, z2.1, z2.2⟩, h1.ok sr1 src_rng⟩
    · exact h1.elim
  · exact h1.elim
end
end Mi
namespace Mi
open PySem L2
/-! ### list comprehensions -/
def wipeW (env : Ev) : List Nat → Ev
  | [] => env
  | v :: vs => (wipeW env vs).set v none
/-- what a comprehension binds: a name, or some names at once -/
inductive CT where
  | one (i : Nat) | tup (is : List Nat)
def CT.ix : CT → List Nat
  | .one i => [i]
  | .tup is => is
def setAll : List Nat → List W → Ev → Option Ev
  | [], [], env => some env
  | i :: is, w :: ws, env => setAll is ws (env.set i (some w))
  | _, _, _ => none
def CT.put (t : CT) (w : W) (env : Ev) : Option Ev := match t with
  | .one i => some (env.set i (some w))
  | .tup is => match w with
    | .tup ws => setAll is ws env
    | _ => none
def gNames : List Nat → TGs
  | [] => gNil
  | i :: is => gCons (gName i) (gNames is)
def CT.tg (K : PySem.W.Frag) : CT → TG
  | .one i => gName i
  | .tup is => gTup K is.length (gNames is)
/-- the loop: what was made so far -/
def compS (s : Src) (t : CT) (cond : M Bool) (elt : M W) (env : Ev) : Nat → Nat → List W → Sto → Rs (List W)
  | 0, _, _, _ => .stuck
  | n + 1, i, acc, st => match s.at_ i st with
    | some (some w) => match t.put w env with
      | some env1 => match cond env1 st with
        | .ok true st1 => match elt env1 st1 with
          | .ok v st2 => if acc.length < sizeLine then compS s t cond elt env n (i + 1) (acc ++ [v]) st2 else .stuck
          | _ => .stuck
        | .ok false st1 => compS s t cond elt env n (i + 1) acc st1
        | _ => .stuck
      | none => .stuck
    | some none => .ok acc st
    | none => .stuck
def mComp (fz : Bool) (mi : MI) (vs : List Nat) (t : CT) (cond : M Bool) (elt : M W) : M W := fun env st => (mi env st).bind fun s st1 => (compS s t cond elt (wipeW env vs) s.fuel 0 [] st1).bind fun ws st2 => newL fz ws st2
def mYes : M Bool := fun _ st => .ok true st
def W0 : WX' := fun _ _ _ _ => False
section
variable {K : PySem.W.Frag} {T : Nat → Addr} {ρ ρ' η η' : List Addr} {H H' : Hp} {st : Sto}
theorem ER.wipe {env : Ev} {σ : St} (h : ER K ρ η H env σ) : ∀ vs : List Nat, ER K ρ η H (wipeW env vs) (wipe σ vs)
  | [] => h
  | v :: vs => by
    have k := ER.wipe h vs
    refine ⟨by simp only [wipeW, L2.wipe, List.length_set]; exact k.1, fun j u e => ?_⟩
    unfold wipeW at e
    unfold L2.wipe
    rw [List.getElem?_set] at e ⊢
    split at e
    · split at e <;> cases e
    · rename_i q
      rw [if_neg q]
      exact k.2 j u e
theorem wipe_set {i : Nat} {x : V} : ∀ {vs : List Nat} {σ : St}, i ∈ vs → wipe (σ.set i (some x)) vs = wipe σ vs
  | [], _, h => by simp at h
  | v :: vs, σ, h => by
    unfold wipe
    by_cases e : i ∈ vs
    · rw [wipe_set e]
    · have : i = v := by
        rcases List.mem_cons.mp h with h | h
        · exact h
        · exact absurd h e
      subst this
      have com : ∀ (vs : List Nat) (σ : St), i ∉ vs → wipe (σ.set i (some x)) vs = (wipe σ vs).set i (some x) := by
        intro vs
        induction vs with
        | nil => intro σ _; rfl
        | cons u us ih =>
          intro σ hn
          unfold wipe
          rw [ih σ (fun z => hn (List.mem_cons_of_mem _ z)), List.set_comm]
          rintro rfl
          exact hn List.mem_cons_self
      rw [com vs σ e, List.set_set]
theorem hid_new {D : Addr} (n : H D = none) : Hid η H (D :: η) := ⟨fun _ h => List.mem_cons_of_mem _ h, fun a h => by
  rcases List.mem_cons.mp h with h | h
  · exact .inr (h ▸ n)
  · exact .inl h⟩
theorem ER.more {env : Ev} {σ : St} (g : Grow ρ H ρ' H') (k : Hid η H η') (h : ER K ρ η H env σ) : ER K ρ' η' H' env σ := ⟨h.1, fun i w e => by
  obtain ⟨v, q, r⟩ := h.2 i w e
  exact ⟨v, q, r.more g k⟩⟩
theorem NR.more {a : Addr} {n : Nd} (g : Grow ρ H ρ' H') (k : Hid η H η') (e : H' a = H a) (h : NR K T ρ η H a n) : NR K T ρ' η' H' a n := by
  cases n with
  | lst xs => obtain ⟨vs, z, r⟩ := h; exact ⟨vs, e.trans z, r.more g k⟩
  | dk kvs => obtain ⟨kv, z, q, r⟩ := h; exact ⟨kv, e.trans z, q, r.more g k⟩
  | lk kvs => obtain ⟨od, kv, z, q, r⟩ := h; exact ⟨od, kv, e.trans z, q, r.more g k⟩
  | ins c fs => obtain ⟨dx, fv, z, q, r⟩ := h; exact ⟨dx, fv, e.trans z, q, r.more g k⟩
/-- a hidden object is made -/
theorem SR.hide {D : Addr} {o : HO} (s : SR K T ρ η st H) (n : H D = none) : SR K T ρ (D :: η) st (upd H D o) := by
  refine ⟨s.nd, s.len, fun a ha => ?_, fun a ha => ?_, fun i nd a e q => ?_⟩
  · rcases List.mem_cons.mp ha with h | h
    · rw [h]; exact s.fresh n
    · exact s.hid a h
  · rcases List.mem_cons.mp ha with h | h
    · exact ⟨o, by rw [h, upd_same]⟩
    · obtain ⟨u, e⟩ := s.has a h
      exact ⟨u, by rw [upd_ne (ne_of_none e n)]; exact e⟩
  · obtain ⟨u, z⟩ := s.there q
    exact (s.at_ i nd a e q).more (Grow.new n) (hid_new n) (upd_ne (ne_of_none z n))
/-- a hidden object changes: what else stands -/
theorem TupAt.hid {a D : Addr} {o : HO} {vs : List V} (n : D ∈ η) (h : TupAt K ρ η H a vs) : TupAt K ρ η (upd H D o) a vs := by
  have := (h.hide (o := o) (.inr n)).less (η' := η) fun b hb => List.mem_cons_of_mem _ hb
  exact this
theorem VR.hid {D : Addr} {o : HO} (n : D ∈ η) {w : W} {v : V} (h : VR K ρ η H w v) : VR K ρ η (upd H D o) w v := (h.hide (o := o) (.inr n)).less fun b hb => List.mem_cons_of_mem _ hb
theorem VRs.hid {D : Addr} {o : HO} (n : D ∈ η) {w : List W} {v : List V} (h : VRs K ρ η H w v) : VRs K ρ η (upd H D o) w v := (h.hide (o := o) (.inr n)).less fun b hb => List.mem_cons_of_mem _ hb
theorem SR.hid' {D : Addr} {o : HO} (n : D ∈ η) (s : SR K T ρ η st H) : SR K T ρ η st (upd H D o) := by
  have nr : D ∉ ρ := s.hid D n
  refine ⟨s.nd, s.len, s.hid, fun a ha => ?_, fun i nd a e q => ?_⟩
  · by_cases z : a = D
    · exact ⟨o, by rw [z, upd_same]⟩
    · obtain ⟨u, e⟩ := s.has a ha
      exact ⟨u, by rw [upd_ne z]; exact e⟩
  · have ne : a ≠ D := fun z => nr (z ▸ List.mem_of_getElem? q)
    have k := s.at_ i nd a e q
    cases nd with
    | lst xs => obtain ⟨vs, z, r⟩ := k; exact ⟨vs, by rw [upd_ne ne]; exact z, r.hid n⟩
    | dk kvs => obtain ⟨kv, z, q, r⟩ := k; exact ⟨kv, by rw [upd_ne ne]; exact z, q, r.hid n⟩
    | lk kvs => obtain ⟨od, kv, z, q, r⟩ := k; exact ⟨od, kv, by rw [upd_ne ne]; exact z, q, r.hid n⟩
    | ins c fs => obtain ⟨dx, fv, z, q, r⟩ := k; exact ⟨dx, fv, by rw [upd_ne ne]; exact z, q, r.hid n⟩
/-- an object that was not there at the start changes -/
theorem Grow.hid {D : Addr} {o : HO} (g : Grow ρ H ρ' H') (n : H D = none) : Grow ρ H ρ' (upd H' D o) := by
  obtain ⟨t, e, ht⟩ := g.pre
  refine ⟨⟨t, e, ht⟩, fun a u na h => ?_, fun a u h => ?_, fun a u x h => by rw [upd_ne (ne_of_none h n)]; exact g.frz a u x h⟩
  · rw [upd_ne (ne_of_none h n)]
    exact g.same a u na h
  · by_cases z : a = D
    · exact ⟨o, by rw [z, upd_same]⟩
    · obtain ⟨u', k⟩ := g.all a u h
      exact ⟨u', by rw [upd_ne z]; exact k⟩
/-- the hidden object is let go as a list that stands still -/
theorem SR.unhide {D : Addr} (s : SR K T ρ (D :: η) st H) : SR K T ρ η st H := by
  refine ⟨s.nd, s.len, fun a ha => s.hid a (List.mem_cons_of_mem _ ha), fun a ha => s.has a (List.mem_cons_of_mem _ ha), fun i nd a e q => ?_⟩
  have k := s.at_ i nd a e q
  have l : ∀ b ∈ η, b ∈ D :: η := fun b hb => List.mem_cons_of_mem _ hb
  cases nd with
  | lst xs => obtain ⟨vs, z, r⟩ := k; exact ⟨vs, z, r.less l⟩
  | dk kvs => obtain ⟨kv, z, q, r⟩ := k; exact ⟨kv, z, q, r.less l⟩
  | lk kvs => obtain ⟨od, kv, z, q, r⟩ := k; exact ⟨od, kv, z, q, r.less l⟩
  | ins c fs => obtain ⟨dx, fv, z, q, r⟩ := k; exact ⟨dx, fv, z, q, r.less l⟩
/-- a hidden one becomes a place -/
theorem TupAt.shift {a D : Addr} {vs : List V} (h : TupAt K ρ (D :: η) H a vs) : TupAt K (ρ ++ [D]) η H a vs := h.imp (fun h => ⟨by
  have := h.2.1
  simp only [List.mem_cons, not_or] at this
  simp [h.1, this.1], fun z => h.2.1 (List.mem_cons_of_mem _ z), h.2.2⟩) id
theorem LstAt.shift {a D : Addr} {vs : List V} (h : LstAt K ρ (D :: η) H a vs) : LstAt K (ρ ++ [D]) η H a vs := h.imp (fun h => ⟨by
  have := h.2.1
  simp only [List.mem_cons, not_or] at this
  simp [h.1, this.1], fun z => h.2.1 (List.mem_cons_of_mem _ z), h.2.2⟩) id
mutual
theorem VR.shift {D : Addr} : ∀ {w : W} {v : V}, VR K ρ (D :: η) H w v → VR K (ρ ++ [D]) η H w v
  | .non, _, h => h
  | .bl _, _, h => h
  | .int _, _, h => h
  | .str _, _, h => h
  | .ty _, _, h => h
  | .at_ _, _, h => h
  | .ref i, v, h => by
    simp only [VR] at h ⊢
    obtain ⟨a, e, r⟩ := h
    exact ⟨a, by rw [List.getElem?_append_left (List.getElem?_eq_some_iff.mp e).1]; exact e, r⟩
  | .tup xs, v, h => by
    simp only [VR] at h ⊢
    obtain ⟨a, vs, e, t, r⟩ := h
    exact ⟨a, vs, e, t.shift, VRs.shift r⟩
  | .lst xs, v, h => by
    simp only [VR] at h ⊢
    obtain ⟨a, vs, e, ⟨t1, t2, t3⟩, r⟩ := h
    simp only [List.mem_cons, not_or] at t2
    exact ⟨a, vs, e, ⟨by simp [t1, t2.1], t2.2, t3⟩, VRs.shift r⟩
  | .scr xs, v, h => by
    simp only [VR] at h ⊢
    obtain ⟨a, vs, e, t, r⟩ := h
    exact ⟨a, vs, e, t.shift, VRs.shift r⟩
theorem VRs.shift {D : Addr} : ∀ {ws : List W} {vs : List V}, VRs K ρ (D :: η) H ws vs → VRs K (ρ ++ [D]) η H ws vs
  | [], _, h => by simpa only [VRs] using h
  | x :: xs, vs, h => by
    simp only [VRs] at h ⊢
    obtain ⟨v, r, e, h1, h2⟩ := h
    exact ⟨v, r, e, VR.shift h1, VRs.shift h2⟩
end
theorem NR.shift {a D : Addr} {n : Nd} (h : NR K T ρ (D :: η) H a n) : NR K T (ρ ++ [D]) η H a n := by
  cases n with
  | lst xs => obtain ⟨vs, z, r⟩ := h; exact ⟨vs, z, r.shift⟩
  | dk kvs => obtain ⟨kv, z, q, r⟩ := h; exact ⟨kv, z, q, r.shift⟩
  | lk kvs => obtain ⟨od, kv, z, q, r⟩ := h; exact ⟨od, kv, z, q, r.shift⟩
  | ins c fs => obtain ⟨dx, fv, z, q, r⟩ := h; exact ⟨dx, fv, z, q, r.shift⟩
theorem SR.shift {D : Addr} {nd : Nd} (s : SR K T ρ (D :: η) st H) (nD : D ∉ η) (k : NR K T (ρ ++ [D]) η H D nd) : SR K T (ρ ++ [D]) η (st ++ [nd]) H := by
  have nr : D ∉ ρ := s.hid D List.mem_cons_self
  refine ⟨?_, by simp [s.len], fun a ha z => ?_, fun a ha => s.has a (List.mem_cons_of_mem _ ha), fun i m a e q => ?_⟩
  · rw [List.nodup_append]
    exact ⟨s.nd, by simp, fun a ha b hb z => by
      rw [List.mem_singleton] at hb
      subst hb; subst z
      exact nr ha⟩
  · rcases List.mem_append.mp z with z | z
    · exact s.hid a (List.mem_cons_of_mem _ ha) z
    · rw [List.mem_singleton] at z
      exact nD (z ▸ ha)
  · by_cases hi : i < st.length
    · rw [List.getElem?_append_left hi] at e
      rw [List.getElem?_append_left (by rw [s.len]; exact hi)] at q
      exact (s.at_ i m a e q).shift
    · have l1 := (List.getElem?_eq_some_iff.mp e).1
      have hi2 : i = st.length := by
        rw [List.length_append, List.length_singleton] at l1
        omega
      subst hi2
      rw [List.getElem?_append_right (Nat.le_refl _)] at e
      rw [List.getElem?_append_right (by rw [s.len]; exact Nat.le_refl _)] at q
      simp at e
      simp [s.len] at q
      subst e; subst q
      exact k
theorem Grow.shift {D : Addr} (g : Grow ρ H ρ' H') (n : H D = none) : Grow ρ H (ρ' ++ [D]) H' := by
  obtain ⟨t, e, ht⟩ := g.pre
  refine ⟨⟨t ++ [D], by rw [e, List.append_assoc], fun a ha => ?_⟩, g.same, g.all, g.frz⟩
  rcases List.mem_append.mp ha with ha | ha
  · exact ht a ha
  · rw [List.mem_singleton] at ha
    rw [ha]; exact n
theorem gNames_ok {vs : List Nat} : ∀ {is : List Nat} {ws : List W} {us : List V} {env env1 : Ev} {σ : St} {H : Hp} {Q : St → Hp → Prop}, setAll is ws env = some env1 → VRs K ρ η H ws us → ER K ρ η H env σ → (∀ i ∈ is, i ∈ vs) →
    (∀ σ1, ER K ρ η H env1 σ1 → wipe σ1 vs = wipe σ vs → Q σ1 H) → gNames is us σ H Q ∧ us.length = is.length
  | [], [], us, env, env1, σ, H, Q, e, r, er, hv, q => by
    simp only [setAll, Option.some.injEq] at e
    subst e
    simp only [VRs] at r
    subst r
    exact ⟨⟨rfl, q σ er rfl⟩, rfl⟩
  | i :: is, w :: ws, us, env, env1, σ, H, Q, e, r, er, hv, q => by
    simp only [setAll] at e
    simp only [VRs] at r
    obtain ⟨v, rr, e1, r1, r2⟩ := r
    subst e1
    have ih := gNames_ok (Q := Q) e r2 (er.set (i := i) r1) (fun j hj => hv j (List.mem_cons_of_mem _ hj)) fun σ1 e1 e2 => q σ1 e1 (e2.trans (wipe_set (hv i List.mem_cons_self)))
    exact ⟨⟨v, rr, rfl, ih.1⟩, by simp [ih.2]⟩
  | [], w :: ws, us, env, env1, σ, H, Q, e, r, er, hv, q => by simp [setAll] at e
  | i :: is, [], us, env, env1, σ, H, Q, e, r, er, hv, q => by simp [setAll] at e
theorem ct_ok {vs : List Nat} {t : CT} {w : W} {v : V} {env env1 : Ev} {σ : St} {H : Hp} {Q : St → Hp → Prop} (e : t.put w env = some env1) (r : VR K ρ η H w v) (er : ER K ρ η H env σ) (hv : ∀ i ∈ t.ix, i ∈ vs)
    (q : ∀ σ1, ER K ρ η H env1 σ1 → wipe σ1 vs = wipe σ vs → Q σ1 H) : t.tg K v σ H Q := by
  cases t with
  | one i =>
    simp only [CT.put, Option.some.injEq] at e
    subst e
    exact q _ (er.set r) (wipe_set (hv i (by simp [CT.ix])))
  | tup is =>
    simp only [CT.put] at e
    split at e
    · rename_i ws
      simp only [VR] at r
      obtain ⟨a, us, e1, e2, e3⟩ := r
      obtain ⟨h1, h2⟩ := gNames_ok (vs := vs) e e3 er hv q
      exact ⟨a, us, e1, e2.sq, h2, h1⟩
    · cases e
end
section
variable {X : Cx} {T : Nat → Addr} {Wx : WX'} {pos : Pos}
theorem wipe_wipe {σ : St} : ∀ {vs : List Nat}, wipe (wipe σ vs) vs = wipe σ vs := by
  intro vs
  have gt : ∀ (us : List Nat) (σ : St) (j : Nat), (wipe σ us)[j]? = if j ∈ us then (if j < σ.length then some none else none) else σ[j]? := by
    intro us
    induction us with
    | nil => intro σ j; simp [wipe]
    | cons u us ih =>
      intro σ j
      unfold wipe
      rw [List.getElem?_set, wipe_length, ih]
      by_cases e : u = j
      · subst e
        simp
      · have e2 : ¬ j = u := fun z => e z.symm
        rw [if_neg e]
        simp [e2]
  apply List.ext_getElem?
  intro j
  rw [gt, gt, wipe_length]
  split <;> rfl
/-- an expression that is read by t alone -/
def SEt (X : Cx) (T : Nat → Addr) (Wx : WX') (t : TE) (m : M W) : Prop := ∀ ρ η st env σ H Q, SR X.K T ρ η st H → ER X.K ρ η H env σ → After X.K T η (fun ρ H => VR X.K ρ η H) ρ H (m env st) Q (fun c d H' => Wx c d σ H') → t σ H Q
theorem se_T {e : Expr} {t : TE} {m : M W} (h : SEt X T Wx t m) (hp : PE X e t) : SE X T Wx e m := fun ρ η st env σ H Q s er q => ⟨t, hp, h ρ η st env σ H Q s er q⟩
theorem ss_setT {i : Nat} {c : Stmt} {t : TE} {m : M W} (h : SEt X T Wx t m) (hp : PS X c (tAsg t (gName i))) : SSt X T Wx c (sAsg m (gName' i)) := by
  intro ρ η st env σ H D s er q
  refine ⟨_, hp, ?_⟩
  exact h ρ η st env σ H _ s er (q.bind er fun w s1 ρ1 H1 v _ g1 sr1 r1 h2 => h2 ρ1 H1 _ Grow.refl sr1 ((er.mono g1).set r1))
theorem comp_T {fz : Bool} {elt tg iter : Expr} {ifs : List Expr} {scope : Scope} {own : List (Str × Nat)} {mi : MI} {t : CT} {cond : M Bool} {m : M W} (hi : SI X T Wx tg iter mi)
    (hv : ∀ i ∈ t.ix, i ∈ own.map (fun p : Str × Nat => p.2))
    (ht : (ifs = [] ∧ cond = mYes) ∨ ∃ c, ifs = [c] ∧ ∀ (s : Shared) (H : Hp) (C : Addr) (cl : List (Str × Addr)) (fp : List Addr), STt (X.blk s H scope (compEnvC scope cl C X.env) fp) T W0 c cond)
    (he : ∀ (s : Shared) (H : Hp) (C : Addr) (cl : List (Str × Addr)) (fp : List Addr), SE (X.blk s H scope (compEnvC scope cl C X.env) fp) T W0 elt m) :
    ∃ tt te, (∀ (s : Shared) (H : Hp) (C : Addr) (cl : List (Str × Addr)) (fp : List Addr), PTs (X.blk s H scope (compEnvC scope cl C X.env) fp) ifs tt) ∧
      (∀ (s : Shared) (H : Hp) (C : Addr) (cl : List (Str × Addr)) (fp : List Addr), PE (X.blk s H scope (compEnvC scope cl C X.env) fp) elt te) ∧
      SEt X T Wx (tLc (tSI X tg iter) (t.tg X.K) tt te (own.map (fun p : Str × Nat => p.2))) (mComp fz mi (own.map (fun p : Str × Nat => p.2)) t cond m) := by
  -- the test and the element, by what they do in each block
  let tt : TT := fun σ H Q => ∀ (s : Shared) (G : Hp) (C : Addr) (cl : List (Str × Addr)) (fp : List Addr), (∃ u, PTs (X.blk s G scope (compEnvC scope cl C X.env) fp) ifs u ∧ u σ H Q)
  let te : TE := fun σ H Q => ∀ (s : Shared) (G : Hp) (C : Addr) (cl : List (Str × Addr)) (fp : List Addr), (∃ u, PE (X.blk s G scope (compEnvC scope cl C X.env) fp) elt u ∧ u σ H Q)
  refine ⟨tt, te, fun s G C cl fp => ⟨fun pins s' σ' H' Q' I h => ?_⟩, fun s G C cl fp => ⟨fun pins s' σ' H' Q' I h => ?_⟩, ?_⟩
  · obtain ⟨u, h1, h2⟩ := h s G C cl fp
    exact h1.run pins s' σ' H' Q' I h2
  · obtain ⟨u, h1, h2⟩ := h s G C cl fp
    exact h1.run pins s' σ' H' Q' I h2
  intro ρ η st env σ H Q s er q
  refine hi ρ η st env σ H _ s er (q.bind fun src s1 ρ1 H1 J g1 sr1 ok1 h1 => ?_)
  intro D hD
  have D1 : Hid η H1 (D :: η) := hid_new hD
  have er0 : ER X.K ρ1 η H1 (wipeW env (own.map (fun p : Str × Nat => p.2))) (wipe σ (own.map (fun p : Str × Nat => p.2))) := (er.mono g1).wipe _
  refine ⟨fun (i n : Nat) (H' : Hp) => ∃ (ρ' : List Addr) (st' : Sto) (acc : List W) (accv : List V), Grow ρ1 H1 ρ' H' ∧ SR X.K T ρ' (D :: η) st' H' ∧ H' D = some (.lst accv) ∧ VRs X.K ρ' (D :: η) H' acc accv ∧
      After X.K T η (fun ρ H => VR X.K ρ η H) ρ1 H1 ((compS src t cond m (wipeW env (own.map (fun p : Str × Nat => p.2))) n i acc st').bind fun ws st2 => newL fz ws st2) Q (fun c d H' => Wx c d σ H'), ⟨src.fuel, ρ1, s1, [], [], Grow.new hD, sr1.hide hD, upd_same, VRs.nil, h1⟩, ?_⟩
  rintro i n H2 ⟨ρ2, st2, acc, accv, g2, sr2, hD2, rac, h2⟩
  cases n with
  | zero => exact h2.elim
  | succ n =>
    have k := ok1 (D :: η) D1 i ρ2 H2 st2 g2 sr2
    unfold compS at h2
    split at h2
    · rename_i w e
      rw [e] at k
      obtain ⟨k1, k2⟩ := k
      refine .inr ⟨k1, fun (H' : Hp) => ∃ (ρ' : List Addr) (st' : Sto) (acc : List W) (accv : List V), Grow ρ1 H1 ρ' H' ∧ SR X.K T ρ' (D :: η) st' H' ∧ H' D = some (.lst accv) ∧ VRs X.K ρ' (D :: η) H' acc accv ∧
        After X.K T η (fun ρ H => VR X.K ρ η H) ρ1 H1 ((compS src t cond m (wipeW env (own.map (fun p : Str × Nat => p.2))) n (i + 1) acc st').bind fun ws st2 => newL fz ws st2) Q (fun c d H' => Wx c d σ H'), fun H' z => ⟨n, Nat.lt_succ_self n, z⟩, fun x H3 y => ?_⟩
      obtain ⟨g3, sr3, r3⟩ := k2 x H3 y
      have hD3 : H3 D = some (.lst accv) := g3.same D _ (sr2.hid D List.mem_cons_self) hD2
      split at h2
      · rename_i env4 e4
        refine ct_ok (vs := own.map (fun p : Str × Nat => p.2)) e4 r3 (er0.more (g2.trans g3) D1) hv fun σ4 er4 w4 => ?_
        rw [wipe_wipe] at w4
        refine ⟨w4, ?_⟩
        -- the test
        have step : ∀ (b : Bool) (st5 : Sto) (ρ5 : List Addr) (H5 : Hp), Grow ρ2 H3 ρ5 H5 → SR X.K T ρ5 (D :: η) st5 H5 →
            After X.K T η (fun ρ H => VR X.K ρ η H) ρ1 H1 ((match b with
              | true => (match m env4 st5 with
                | .ok v st2 => if acc.length < sizeLine then compS src t cond m (wipeW env (own.map (fun p : Str × Nat => p.2))) n (i + 1) (acc ++ [v]) st2 else .stuck
                | _ => .stuck)
              | false => compS src t cond m (wipeW env (own.map (fun p : Str × Nat => p.2))) n (i + 1) acc st5).bind fun ws st2 => newL fz ws st2) Q (fun c d H' => Wx c d σ H') →
            (if b = true then te σ4 H5 fun y H4 => ∃ acc, H4 D = some (.lst acc) ∧ acc.length < sizeLine ∧ (∃ (ρ' : List Addr) (st' : Sto) (acc' : List W) (accv : List V), Grow ρ1 H1 ρ' (upd H4 D (.lst (acc ++ [y]))) ∧ SR X.K T ρ' (D :: η) st' (upd H4 D (.lst (acc ++ [y]))) ∧ (upd H4 D (.lst (acc ++ [y]))) D = some (.lst accv) ∧ VRs X.K ρ' (D :: η) (upd H4 D (.lst (acc ++ [y]))) acc' accv ∧
              After X.K T η (fun ρ H => VR X.K ρ η H) ρ1 H1 ((compS src t cond m (wipeW env (own.map (fun p : Str × Nat => p.2))) n (i + 1) acc' st').bind fun ws st2 => newL fz ws st2) Q (fun c d H' => Wx c d σ H'))
            else ∃ (ρ' : List Addr) (st' : Sto) (acc : List W) (accv : List V), Grow ρ1 H1 ρ' H5 ∧ SR X.K T ρ' (D :: η) st' H5 ∧ H5 D = some (.lst accv) ∧ VRs X.K ρ' (D :: η) H5 acc accv ∧
              After X.K T η (fun ρ H => VR X.K ρ η H) ρ1 H1 ((compS src t cond m (wipeW env (own.map (fun p : Str × Nat => p.2))) n (i + 1) acc st').bind fun ws st2 => newL fz ws st2) Q (fun c d H' => Wx c d σ H')) := by
          intro b st5 ρ5 H5 g5 sr5 h5
          have hD5 : H5 D = some (.lst accv) := g5.same D _ (sr3.hid D List.mem_cons_self) hD3
          have gA : Grow ρ1 H1 ρ5 H5 := (g2.trans g3).trans g5
          cases b with
          | false => exact iteF ⟨ρ5, st5, acc, accv, gA, sr5, hD5, (rac.mono g3).mono g5, h5⟩
          | true =>
            refine iteT ?_
            intro s' G C cl fp
            refine he s' G C cl fp ρ5 (D :: η) st5 env4 σ4 H5 _ sr5 (er4.mono g5) ?_
            dsimp only at h5
            cases e6 : m env4 st5 with
            | ok v st6 =>
              rw [e6] at h5
              dsimp only at h5
              split at h5
              · rename_i lz
                intro ρ6 H6 y g6 sr6 r6
                have hD6 : H6 D = some (.lst accv) := g6.same D _ (sr5.hid D List.mem_cons_self) hD5
                have rac6 : VRs X.K ρ6 (D :: η) H6 acc accv := ((rac.mono g3).mono g5).mono g6
                refine ⟨accv, hD6, by rw [rac6.len]; exact lz, ρ6, st6, acc ++ [v], accv ++ [y], (gA.trans g6).hid hD, sr6.hid' List.mem_cons_self, upd_same, ?_, h5⟩
                exact (rac6.hid List.mem_cons_self).append (VRs.cons (r6.hid List.mem_cons_self) VRs.nil)
              · exact h5.elim
            | ex x s' => rw [e6] at h5; exact h5.elim
            | stuck => rw [e6] at h5; exact h5.elim
        rcases ht with ⟨z1, z2⟩ | ⟨c, z1, z2⟩
        · subst z2
          intro s' G C cl fp
          refine ⟨tYes, by rw [z1]; exact pts_nil, ?_⟩
          exact step true st2 ρ2 H3 Grow.refl sr3 h2
        · intro s' G C cl fp
          obtain ⟨u, hu1, hu2⟩ := z2 s' G C cl fp ρ2 (D :: η) st2 env4 σ4 H3 (fun (b : Bool) (H3 : Hp) => if b = true then te σ4 H3 fun y H4 => ∃ acc, H4 D = some (.lst acc) ∧ acc.length < sizeLine ∧ (∃ (ρ' : List Addr) (st' : Sto) (acc' : List W) (accv : List V), Grow ρ1 H1 ρ' (upd H4 D (.lst (acc ++ [y]))) ∧ SR X.K T ρ' (D :: η) st' (upd H4 D (.lst (acc ++ [y]))) ∧ (upd H4 D (.lst (acc ++ [y]))) D = some (.lst accv) ∧ VRs X.K ρ' (D :: η) (upd H4 D (.lst (acc ++ [y]))) acc' accv ∧
              After X.K T η (fun ρ H => VR X.K ρ η H) ρ1 H1 ((compS src t cond m (wipeW env (own.map (fun p : Str × Nat => p.2))) n (i + 1) acc' st').bind fun ws st2 => newL fz ws st2) Q (fun c d H' => Wx c d σ H'))
            else ∃ (ρ' : List Addr) (st' : Sto) (acc : List W) (accv : List V), Grow ρ1 H1 ρ' H3 ∧ SR X.K T ρ' (D :: η) st' H3 ∧ H3 D = some (.lst accv) ∧ VRs X.K ρ' (D :: η) H3 acc accv ∧
              After X.K T η (fun ρ H => VR X.K ρ η H) ρ1 H1 ((compS src t cond m (wipeW env (own.map (fun p : Str × Nat => p.2))) n (i + 1) acc st').bind fun ws st2 => newL fz ws st2) Q (fun c d H' => Wx c d σ H')) sr3 er4 (by
            cases e6 : cond env4 st2 with
            | ok b st6 =>
              rw [e6] at h2
              intro ρ6 H6 b' g6 sr6 r6
              subst r6
              refine step b st6 ρ6 H6 g6 sr6 ?_
              cases b <;> exact h2
            | ex x s' => rw [e6] at h2; exact h2.elim
            | stuck => rw [e6] at h2; exact h2.elim)
          exact ⟨u, by rw [z1]; exact pts_one hu1, hu2⟩
      · exact h2.elim
    · rename_i e
      rw [e] at k
      refine .inl ⟨k, ?_⟩
      have h2 : After X.K T η (fun ρ H => VR X.K ρ η H) ρ1 H1 (newL fz acc st2) Q (fun c d H' => Wx c d σ H') := h2
      unfold newL at h2
      have l : ∀ b ∈ η, b ∈ D :: η := fun b hb => List.mem_cons_of_mem _ hb
      have nD : D ∉ η := fun z => by
        obtain ⟨o, e⟩ := sr1.has D z
        rw [hD] at e; cases e
      cases fz with
      | true =>
        refine h2 ρ2 H2 _ g2 sr2.unhide ?_
        simp only [VR]
        exact ⟨D, accv, rfl, ⟨sr2.hid D List.mem_cons_self, nD, hD2⟩, rac.less l⟩
      | false =>
        refine h2 (ρ2 ++ [D]) H2 _ (g2.shift hD) (sr2.shift nD ⟨accv, hD2, rac.shift⟩) ?_
        simp only [VR]
        exact ⟨D, by rw [← sr2.len, List.getElem?_append_right (Nat.le_refl _)]; simp, rfl⟩
    · exact h2.elim
theorem se_comp {fz : Bool} {elt tg iter : Expr} {ifs : List Expr} {scope : Scope} {own : List (Str × Nat)} {mi : MI} {t : CT} {cond : M Bool} {m : M W} (hc : X.calm = true) (hN : X.N.Nodup) (hi : SI X T Wx tg iter mi) (ok : BlkOk X.N X.env.scope scope own)
    (hv : ∀ i ∈ t.ix, i ∈ own.map (fun p : Str × Nat => p.2))
    (hg : ∀ (s : Shared) (H : Hp) (C : Addr) (cl : List (Str × Addr)) (fp : List Addr), PG (X.blk s H scope (compEnvC scope cl C X.env) fp) tg (t.tg X.K))
    (ht : (ifs = [] ∧ cond = mYes) ∨ ∃ c, ifs = [c] ∧ ∀ (s : Shared) (H : Hp) (C : Addr) (cl : List (Str × Addr)) (fp : List Addr), STt (X.blk s H scope (compEnvC scope cl C X.env) fp) T W0 c cond)
    (he : ∀ (s : Shared) (H : Hp) (C : Addr) (cl : List (Str × Addr)) (fp : List Addr), SE (X.blk s H scope (compEnvC scope cl C X.env) fp) T W0 elt m) (hs : ∀ x, foldedSetIterable iter X.env x = pure x := by intro _; rfl) :
    SE X T Wx (.ListComp elt [⟨tg, iter, ifs, 0⟩] scope pos) (mComp fz mi (own.map (fun p : Str × Nat => p.2)) t cond m) := by
  obtain ⟨tt, te, h1, h2, h3⟩ := comp_T (fz := fz) (own := own) (Wx := Wx) hi hv ht he
  exact se_T h3 (pe_lc hc hN pi_S ok hg h1 h2 hs)
/-- name = [..], the name not read within another block -/
theorem ss_comp {fz : Bool} {i : Nat} {y : Str} {py spos : Pos} {elt tg iter : Expr} {ifs : List Expr} {scope : Scope} {own : List (Str × Nat)} {mi : MI} {t : CT} {cond : M Bool} {m : M W} (hc : X.calm = true) (hN : X.N.Nodup) (hy : X.N[i]? = some y) (hyl : X.env.scope.names.lookup y = some .local)
    (hsw : swapsWith (.ListComp elt [⟨tg, iter, ifs, 0⟩] scope pos) (some (.Name y py)) spos.line X.env = pure true) (hi : SI X T Wx tg iter mi) (ok : BlkOk X.N X.env.scope scope own)
    (hv : ∀ i ∈ t.ix, i ∈ own.map (fun p : Str × Nat => p.2))
    (hg : ∀ (s : Shared) (H : Hp) (C : Addr) (cl : List (Str × Addr)) (fp : List Addr), PG (X.blk s H scope (compEnvC scope cl C X.env) fp) tg (t.tg X.K))
    (ht : (ifs = [] ∧ cond = mYes) ∨ ∃ c, ifs = [c] ∧ ∀ (s : Shared) (H : Hp) (C : Addr) (cl : List (Str × Addr)) (fp : List Addr), STt (X.blk s H scope (compEnvC scope cl C X.env) fp) T W0 c cond)
    (he : ∀ (s : Shared) (H : Hp) (C : Addr) (cl : List (Str × Addr)) (fp : List Addr), SE (X.blk s H scope (compEnvC scope cl C X.env) fp) T W0 elt m) (hs : ∀ x, foldedSetIterable iter X.env x = pure x := by intro _; rfl) :
    SSt X T Wx (.Assign [.Name y py] (.ListComp elt [⟨tg, iter, ifs, 0⟩] scope pos) spos) (sAsg (mComp fz mi (own.map (fun p : Str × Nat => p.2)) t cond m) (gName' i)) := by
  obtain ⟨tt, te, h1, h2, h3⟩ := comp_T (fz := fz) (own := own) (Wx := Wx) hi hv ht he
  exact ss_setT h3 (ps_setLc hc hN hy hyl hsw pi_S ok hg h1 h2 hs)
end
end Mi
namespace Mi
open PySem L2
/-- what a def does: from its arguments and the store -/
abbrev RunM := List W → Sto → Rs W
/-- the promise of a def that does what run does -/
def spM (K : PySem.W.Frag) (T : Nat → Addr) (n : Nat) (run : RunM) : Sp := fun vs H Q E => ∃ ρ η st ws, SR K T ρ η st H ∧ VRs K ρ η H ws vs ∧ ws.length = n ∧ After K T η (fun ρ H => VR K ρ η H) ρ H (run ws st) Q E
theorem spM_len {K : PySem.W.Frag} {T : Nat → Addr} {n : Nat} {run : RunM} : ∀ vs H Q E, spM K T n run vs H Q E → vs.length = n := fun vs H Q E ⟨_, _, _, _, _, r, l, _⟩ => by rw [r.len, l]
abbrev FnM (P : Program) (w : World) (K : PySem.W.Frag) (mg : Str → Option Value) (base : Heap) (T : Nat → Addr) (k : Nat) (f : Addr) (fd : FuncData) (ps : List Str) (run : RunM) : Prop :=
  FnOk P w K mg base (L2.CX P w) k f fd ps (spM K T ps.length run)
def mCall (run : RunM) (m : M (List W)) : M W := fun env st => (m env st).bind run
def mMeth (tb : List (Nat × RunM)) (m : Str) (mo : M W) (ma : M (List W)) : M W := fun env st => (mo env st).bind fun o s1 => match o with
  | .ref i => match s1[i]? with
    | some (.ins c fs) => match fs.lookup m, tb.lookup c with
      | none, some run => (ma env s1).bind fun ws s2 => run (o :: ws) s2
      | _, _ => .stuck
    | _ => .stuck
  | _ => .stuck
def mMake (c : Nat) (run : RunM) (m : M (List W)) : M W := fun env st => (m env st).bind fun ws s1 => (run (.ref s1.length :: ws) (s1 ++ [.ins c []])).bind fun v s2 => match v with
  | .non => .ok (.ref s1.length) s2
  | _ => .stuck
/-- an argument list by its own count -/
structure SAn (X : Cx) (T : Nat → Addr) (Wx : WX') (n : Nat) (es : List Expr) (m : M (List W)) : Prop where
  run : SA X T Wx es m
  len : ArgLen n m
theorem san_nil {X : Cx} {T : Nat → Addr} {Wx : WX'} : SAn X T Wx 0 [] mNil := ⟨sa_nil, len_nil⟩
theorem san_cons {X : Cx} {T : Nat → Addr} {Wx : WX'} {n : Nat} {e : Expr} {es : List Expr} {m : M W} {k : M (List W)} (he : SE X T Wx e m) (hs : SAn X T Wx n es k) (hst : starEach (e :: es) X.env = (false, eval e X.env) :: starEach es X.env := by rfl) : SAn X T Wx (n + 1) (e :: es) (mCons m k) := ⟨sa_cons he hs.run hst, len_cons hs.len⟩
section
variable {X : Cx} {T : Nat → Addr} {Wx : WX'} {pos p apos : Pos} {k : Nat} {f : Addr} {fd : FuncData} {ps : List Str} {run : RunM} {x m : Str} {e o : Expr} {es : List Expr} {ma : M (List W)}
theorem wx_at {σ : St} : (fun c d H' => Wx c d σ H') = WE Wx σ := rfl
/-- the state behind the arguments is what the callee wants -/
theorem sp_of {ρ η : List Addr} {H : Hp} {st : Sto} {ws : List W} {vs : List V} {n : Nat} {Q : VK} {E : XK} (s : SR X.K T ρ η st H) (r : VRs X.K ρ η H ws vs) (l : ws.length = n) (h : After X.K T η (fun ρ H => VR X.K ρ η H) ρ H (run ws st) Q E) : spM X.K T n run vs H Q E := ⟨ρ, η, st, ws, s, r, l, h⟩
theorem se_call (F : FnM X.prog X.w X.K X.mg X.base T k f fd ps run) (hr : Room k X.A) (tk : Takes X Wx) (hg : Gl X x) (hm : X.mg x = some (.ref f)) (hk : PySem.W.keepIn X.K (.ref f) = true) (hb : Binds X.K fd ps [])
    (ha : SAn X T Wx ps.length (e :: es) ma) (hdb : (x == ("__debug__" : Str)) = false := by decide) (he : starEach (e :: es) X.env = (false, eval e X.env) :: starEach es X.env := by rfl) (hpl : (backTo pos (starEach es X.env)).any (·.1) = false := by rfl) :
    SE X T Wx (.Call (.Name x p) (e :: es) [] pos) (mCall run ma) := by
  intro ρ η st env σ H Q s er q
  refine ⟨_, pe_callS (E := WE Wx) F hr hg hm hk hb (fun σ => passAt tk σ) pa_S hdb he hpl, ?_⟩
  refine ha.run ρ η st env σ H _ s er (After.bindE q fun ws s1 ρ1 H1 vs e1 g1 sr1 r1 h1 => ?_)
  exact sp_of sr1 r1 (ha.len env st ws s1 e1) h1
theorem se_call0 (F : FnM X.prog X.w X.K X.mg X.base T k f fd [] run) (hr : Room k X.A) (tk : Takes X Wx) (hg : Gl X x) (hm : X.mg x = some (.ref f)) (hk : PySem.W.keepIn X.K (.ref f) = true) (hb : Binds X.K fd [] [])
    (hdb : (x == ("__debug__" : Str)) = false := by decide) : SE X T Wx (.Call (.Name x p) [] [] pos) (mCall run mNil) := by
  intro ρ η st env σ H Q s er q
  refine ⟨fun σ' H' Q' => spM X.K T 0 run [] H' Q' (WE Wx σ'), ⟨fun pins s' σ' H' Q' I h => ?_⟩, sp_of s VRs.nil rfl q⟩
  refine wpAny_Call_Name_kw (ld_glob I hg hm (PySem.W.callWith_K0 I.kIn hk ?_) hdb)
  exact run_fnS (us := []) (E := WE Wx) F hr hb (passAt tk σ') I .nil h
/-- a method of an own class -/
structure MethM (X : Cx) (T : Nat → Addr) (k : Nat) (m : Str) (n : Nat) (c : Nat) (run : RunM) : Prop where
  cls : Cls X.K (T c)
  ex : ∃ f fd ps, Meth X.K (T c) m f ∧ FnM X.prog X.w X.K X.mg X.base T k f fd ps run ∧ Binds X.K fd ps [] ∧ ps.length = n + 1
theorem tb_mem : ∀ {tb : List (Nat × RunM)} {c : Nat} {r : RunM}, tb.lookup c = some r → (c, r) ∈ tb
  | [], _, _, h => by simp at h
  | (a, b) :: tb, c, r, h => by
    rw [List.lookup_cons] at h
    split at h
    · rename_i z
      cases h
      rw [beq_iff_eq] at z
      subst z
      exact List.mem_cons_self
    · exact List.mem_cons_of_mem _ (tb_mem h)
theorem se_meth {n : Nat} {pl : Sem Bool} {tb : List (Nat × RunM)} {mo : M W} (ho : SE X T Wx o mo) (ht : ∀ p ∈ tb, MethM X T k m n p.1 p.2) (hr : Room k X.A) (tk : Takes X Wx) (ha : SAn X T Wx n (e :: es) ma)
    (hst : starEach (e :: es) X.env = (false, eval e X.env) :: starEach es X.env := by rfl) (hpl : (backTo pos (starEach es X.env)).any (·.1) = false := by rfl)
    (hev : eval (.Call (.Attribute o m apos) (e :: es) [] pos) X.env = (do
      let ov ← eval o X.env
      standAt apos.atName
      let q ← holding [ov] (getMethod ov m pl)
      callWith pos q.1 q.2 (backTo pos (starEach (e :: es) X.env)) (backToKw pos (keywordEach [] X.env))) := by rfl) :
    SE X T Wx (.Call (.Attribute o m apos) (e :: es) [] pos) (mMeth tb m mo ma) := by
  intro ρ η st env σ H Q s er q
  refine ⟨fun σ' H' Q' => tS X o σ' H' fun x H1 => ∃ a c dx fs run, x = .ref a ∧ H1 a = some (.ins (T c) dx fs) ∧ fs.lookup m = none ∧ MethM X T k m n c run ∧ tSA X (e :: es) σ' H1 fun vs H2 => spM X.K T (n + 1) run (x :: vs) H2 Q' (WE Wx σ'), ⟨fun pins s' σ' H' Q' I h => ?_⟩, ?_⟩
  · refine PySem.W.methodCall_KW (pl := pl) (thn (pe_S.run pins s' σ' H' _ I h) fun u s1 ⟨x, H1, I1, rx, a, c, dx, fs, run, ex, ea, l, mm, q1⟩ => ?_) hev
    subst ex
    obtain rfl : u = Value.ref a := rx
    obtain ⟨cl, g, gd, gs, hme, F, hb, hl⟩ := mm
    refine getmeth_ok I1 ea cl hme l ?_
    refine PySem.W.callWith_K (first := [.ref a]) (h₀ := X.base) I.ok.mod.kin hme.kp (thn (pa_S.run pos pins s1 σ' H1 _ I1 q1) fun us s2 ⟨vs, H2, I2, r, q2⟩ => ⟨I2.kIn, ?_⟩) hst hpl
    exact run_fnS (us := .ref a :: us) (vs := .ref a :: vs) (E := WE Wx) F hr hb (passAt tk σ') I2 (.cons rfl r) (by rw [hl]; exact q2)
  · refine ho ρ η st env σ H _ s er (q.bind fun w s1 ρ1 H1 v g1 sr1 r1 h1 => ?_)
    split at h1
    · rename_i i
      split at h1
      · rename_i c fs e1
        split at h1
        · rename_i run e2 e3
          obtain ⟨a, f1, _, dx, fv, f2, f3, f4⟩ := node_at sr1 r1 e1
          refine ⟨a, c, dx, fv, run, f1, f2, ?_, ht (c, run) (tb_mem e3), ?_⟩
          · have : ∀ {fs : List (Str × W)} {fv : List (Str × V)}, fv.map (·.1) = fs.map (·.1) → fs.lookup m = none → fv.lookup m = none := by
              intro fs
              induction fs with
              | nil => intro fv h _; simp at h; subst h; rfl
              | cons p fs ih =>
                intro fv h z
                cases fv with
                | nil => simp at h
                | cons q fv =>
                  obtain ⟨a1, b1⟩ := p
                  obtain ⟨a2, b2⟩ := q
                  simp only [List.map_cons, List.cons.injEq] at h
                  obtain ⟨h1, h2⟩ := h
                  subst h1
                  rw [List.lookup_cons] at z ⊢
                  split at z
                  · cases z
                  · exact ih h2 z
            exact this f3 e2
          · refine ha.run ρ1 η s1 env σ H1 _ sr1 (er.mono g1) (After.bindE h1 fun ws s2 ρ2 H2 vs q2 g2 sr2 r2 h2 => ?_)
            exact sp_of (ws := .ref i :: ws) sr2 (VRs.cons (r1.mono g2) r2) (by rw [List.length_cons, ha.len env s1 ws s2 q2]) h2
        · exact h1.elim
      · exact h1.elim
    · exact h1.elim
theorem se_meth0 {pl : Sem Bool} {tb : List (Nat × RunM)} {mo : M W} (ho : SE X T Wx o mo) (ht : ∀ p ∈ tb, MethM X T k m 0 p.1 p.2) (hr : Room k X.A) (tk : Takes X Wx)
    (hev : eval (.Call (.Attribute o m apos) [] [] pos) X.env = (do
      let ov ← eval o X.env
      standAt apos.atName
      let q ← holding [ov] (getMethod ov m pl)
      callWith pos q.1 q.2 (backTo pos (starEach [] X.env)) (backToKw pos (keywordEach [] X.env))) := by rfl) :
    SE X T Wx (.Call (.Attribute o m apos) [] [] pos) (mMeth tb m mo mNil) := by
  intro ρ η st env σ H Q s er q
  refine ⟨fun σ' H' Q' => tS X o σ' H' fun x H1 => ∃ a c dx fs run, x = .ref a ∧ H1 a = some (.ins (T c) dx fs) ∧ fs.lookup m = none ∧ MethM X T k m 0 c run ∧ spM X.K T 1 run [x] H1 Q' (WE Wx σ'), ⟨fun pins s' σ' H' Q' I h => ?_⟩, ?_⟩
  · refine PySem.W.methodCall_KW (pl := pl) (thn (pe_S.run pins s' σ' H' _ I h) fun u s1 ⟨x, H1, I1, rx, a, c, dx, fs, run, ex, ea, l, mm, q1⟩ => ?_) hev
    subst ex
    obtain rfl : u = Value.ref a := rx
    obtain ⟨cl, g, gd, gs, hme, F, hb, hl⟩ := mm
    refine getmeth_ok I1 ea cl hme l ?_
    exact PySem.W.callWith_K0 (first := [.ref a]) I1.kIn hme.kp (run_fnS (us := [.ref a]) (vs := [.ref a]) (E := WE Wx) F hr hb (passAt tk σ') I1 (.cons rfl .nil) (by rw [hl]; exact q1))
  · refine ho ρ η st env σ H _ s er (q.bind fun w s1 ρ1 H1 v g1 sr1 r1 h1 => ?_)
    split at h1
    · rename_i i
      split at h1
      · rename_i c fs e1
        split at h1
        · rename_i run e2 e3
          obtain ⟨a, f1, _, dx, fv, f2, f3, f4⟩ := node_at sr1 r1 e1
          refine ⟨a, c, dx, fv, run, f1, f2, ?_, ht (c, run) (tb_mem e3), ?_⟩
          · have : ∀ {fs : List (Str × W)} {fv : List (Str × V)}, fv.map (·.1) = fs.map (·.1) → fs.lookup m = none → fv.lookup m = none := by
              intro fs
              induction fs with
              | nil => intro fv h _; simp at h; subst h; rfl
              | cons p fs ih =>
                intro fv h z
                cases fv with
                | nil => simp at h
                | cons q fv =>
                  obtain ⟨a1, b1⟩ := p
                  obtain ⟨a2, b2⟩ := q
                  simp only [List.map_cons, List.cons.injEq] at h
                  obtain ⟨h1, h2⟩ := h
                  subst h1
                  rw [List.lookup_cons] at z ⊢
                  split at z
                  · cases z
                  · exact ih h2 z
            exact this f3 e2
          · exact sp_of (ws := [.ref i]) sr1 (VRs.cons r1 VRs.nil) rfl h1
        · exact h1.elim
      · exact h1.elim
    · exact h1.elim
/-- a new instance, ahead of its __init__ -/
theorem make_ok {ρ η : List Addr} {H : Hp} {st : Sto} {ws : List W} {vs : List V} {n c : Nat} {Q : VK} {E : XK} (s : SR X.K T ρ η st H) (r : VRs X.K ρ η H ws vs) (l : ws.length = n)
    (h : After X.K T η (fun ρ H => VR X.K ρ η H) ρ H ((run (.ref st.length :: ws) (st ++ [.ins c []])).bind fun v s2 => match v with | .non => .ok (.ref st.length) s2 | _ => .stuck) Q E)
    (x dx : Addr) (hx : H x = none) (hdx : H dx = none) (ne : dx ≠ x) : spM X.K T (n + 1) run (.ref x :: vs) (upd (upd H dx (.own x)) x (.ins (T c) dx [])) (fun v H2 => v = .non ∧ Q (.ref x) H2) E := by
  have hx1 : (upd H dx (.own x)) x = none := by rw [upd_ne (Ne.symm ne)]; exact hx
  have g : Grow ρ H (ρ ++ [x]) (upd (upd H dx (.own x)) x (.ins (T c) dx [])) := (Grow.new hdx).trans (Grow.node hx1)
  have rx : VR X.K (ρ ++ [x]) η (upd (upd H dx (.own x)) x (.ins (T c) dx [])) (.ref st.length) (.ref x) := by
    simp only [VR]
    exact ⟨x, by rw [← s.len, List.getElem?_append_right (Nat.le_refl _)]; simp, rfl⟩
  refine sp_of (ws := .ref st.length :: ws) ((s.new' hdx).node (nd := .ins c []) hx1 ⟨dx, [], upd_same, rfl, VRs.nil⟩) (VRs.cons rx (r.mono g)) (by rw [List.length_cons, l]) ?_
  refine (After.grow g h).bind fun v s2 ρ2 H2 v' g2 sr2 r2 h2 => ?_
  split at h2
  · simp only [VR] at r2
    exact ⟨r2, h2.ok sr2 (rx.mono g2)⟩
  · exact h2.elim
/-- a new instance is made at these slots -/
theorem run_mk {pins : List (Addr × Obj)} {σ : St} {H : Hp} {s : Shared} {Q : VK} {us : List Value} {vs : List V} {C : Addr} {sp : Sp} {E : XK} (M : Mk X.K C f)
    (F : FnOk X.prog X.w X.K X.mg X.base (L2.CX X.prog X.w) k f fd ps sp) (hr : Room (k + 1) X.A) (hb : Binds X.K fd ps []) (hx : PassesAt (L2.CX X.prog X.w) X σ E) (I : Inv X pins σ H s) (r : Vals vs us)
    (h : ∀ x dx, H x = none → H dx = none → dx ≠ x → sp (.ref x :: vs) (upd (upd H dx (.own x)) x (.ins C dx [])) (fun v H2 => v = .non ∧ Q (.ref x) H2) E) : wpAny (model X.prog X.w) X.A (call (.ref C) us) (EP X pins σ Q) X.xe s := by
  have want := h (s.heap.objs.size + 1) s.heap.objs.size (I.hok.fresh (Nat.le_succ _)) (I.hok.fresh (Nat.le_refl _)) (Nat.ne_of_lt (Nat.lt_succ_self _))
  have J := Inv.made (C := C) I
  have rv : Vals (V.ref (s.heap.objs.size + 1) :: vs) (Value.ref (s.heap.objs.size + 1) :: us) := .cons rfl r
  have len : (Value.ref (s.heap.objs.size + 1) :: us).length = ps.length := rv.length.symm.trans (F.len _ _ _ _ want)
  have bd := hb _ (Value.ref (s.heap.objs.size + 1) :: us) J.kIn (by rw [List.append_nil]; exact len)
  rw [List.append_nil] at bd
  have go := F.run _ X.stack _ _ ⟨Value.ref (s.heap.objs.size + 1) :: us, []⟩ _ _ _ E (hr.make C us []) (J.env0.make C us []) bd rv want
  refine wpAny_call (make_map (f := f) I.kIn M.makes M.init (beq_iff_eq.mp M.fn) (codeAny_mono go fun res s' got => ?_))
  match res, got with
  | .error e, got => exact hx pins _ _ e s' J got
  | .ok (.ret u), got =>
    obtain ⟨v, H', J3, rv3, ev, q3⟩ := J.after got
    subst ev
    exact ⟨rv3, ⟨V.ref (s.heap.objs.size + 1), H', J3, rfl, q3⟩⟩
  | .ok .next, got => exact False.elim got
  | .ok .brk, got => exact False.elim got
  | .ok .cont, got => exact False.elim got
theorem se_make {c : Nat} (M : Mk X.K (T c) f) (F : FnM X.prog X.w X.K X.mg X.base T k f fd ps run) (hr : Room (k + 1) X.A) (tk : Takes X Wx) (hg : Gl X x) (hm : X.mg x = some (.ref (T c))) (hb : Binds X.K fd ps []) {n : Nat} (hn : ps.length = n + 1)
    (ha : SAn X T Wx n (e :: es) ma) (hdb : (x == ("__debug__" : Str)) = false := by decide) (he : starEach (e :: es) X.env = (false, eval e X.env) :: starEach es X.env := by rfl) (hpl : (backTo pos (starEach es X.env)).any (·.1) = false := by rfl) :
    SE X T Wx (.Call (.Name x p) (e :: es) [] pos) (mMake c run ma) := by
  intro ρ η st env σ H Q s er q
  -- what is let out, at these slots alone
  refine ⟨fun σ' H' Q' => tSA X (e :: es) σ' H' fun vs H1 => ∀ x dx, H1 x = none → H1 dx = none → dx ≠ x → spM X.K T (n + 1) run (.ref x :: vs) (upd (upd H1 dx (.own x)) x (.ins (T c) dx [])) (fun v H2 => v = .non ∧ Q' (.ref x) H2) (WE Wx σ'), ⟨fun pins s' σ' H' Q' I h => ?_⟩, ?_⟩
  · refine wpAny_Call_Name_kw (ld_glob I hg hm ?_ hdb)
    refine PySem.W.callWith_K (h₀ := X.base) I.ok.mod.kin M.kp (thn (pa_S.run pos pins s' σ' H' _ I h) fun us s1 ⟨vs, H1, I1, r, q1⟩ => ⟨I1.kIn, ?_⟩) he hpl
    exact run_mk (sp := spM X.K T ps.length run) M F hr hb (passAt tk σ') I1 r (fun x dx h1 h2 h3 => by rw [hn]; exact q1 x dx h1 h2 h3)
  · refine ha.run ρ η st env σ H _ s er (After.bindE q fun ws s1 ρ1 H1 vs e1 g1 sr1 r1 h1 => ?_)
    intro x dx hx hdx ne
    exact make_ok sr1 r1 (ha.len env st ws s1 e1) h1 x dx hx hdx ne
end
end Mi
namespace Mi
open PySem PySem.Spec PyProof.Rows L2
/-! ### a def by its body -/
def outOf (r : SRs) : Rs W := match r with
  | .rt w st => .ok w st
  | .nx _ st => .ok .non st
  | .ex x _ st => .ex x st
  | _ => .stuck
def runOf (n : Nat) (m : MS) : RunM := fun ws st => outOf (m (ws.map some ++ List.replicate (n - ws.length) none) st)
/-- the wish of a def about what leaves it -/
abbrev WD (E : XK) : WX' := fun c d _ H => E c d H
theorem er_start {K : PySem.W.Frag} {ρ η : List Addr} {H : Hp} {ws : List W} {vs : List V} {N : List Str} (r : VRs K ρ η H ws vs) : ER K ρ η H (ws.map some ++ List.replicate (N.length - ws.length) none) (L2.start N vs) := by
  unfold L2.start
  refine ⟨by simp [r.len], fun i w e => ?_⟩
  by_cases hi : i < ws.length
  · rw [List.getElem?_append_left (by simpa using hi), List.getElem?_map] at e
    cases q : ws[i]? with
    | none => rw [q] at e; cases e
    | some u =>
      rw [q] at e
      cases e
      obtain ⟨v, h1, h2⟩ := r.get q
      refine ⟨v, ?_, h2⟩
      rw [List.getElem?_append_left (by rw [List.length_map, r.len]; exact hi), List.getElem?_map, h1]
      rfl
  · rw [List.getElem?_append_right (by simpa using Nat.le_of_not_lt hi), List.getElem?_replicate] at e
    split at e <;> cases e
section
variable {P : Program} {w : World} {K : PySem.W.Frag} {mg : Str → Option Value} {base : Heap} {T : Nat → Addr} {k : Nat}
theorem fn_ok {x qual : Str} {st : Stmt} {f : Addr} {fd : FuncData} {N ps : List Str} {m : MS} (F : Fun K x qual st f fd) (S : FnScope N ps (defScope st))
    (hb : ∀ (cdv : Value) (A : Around) (outer : List Env) (s : Shared) (H : Hp) (E : XK), Room k (A.deeper (envOfC qual (defScope st) s.heap.objs.size f cdv)) →
      SSs (L2.cxOf (L2.CX P w) P w K mg base N qual (defScope st) f cdv A outer s H E) T (WD E) (defBody st) m) : FnM P w K mg base T (k + 1) f fd ps (runOf N.length m) := by
  refine F.okX S (fun vs H Q E h => spM_len vs H Q E h) fun cdv A outer s H vs Q E hr h => ?_
  obtain ⟨ρ, η, sto, ws, sr, r, l, a⟩ := h
  have go := hb cdv A outer s H E hr ρ η sto _ _ H { nx := fun _ H' => Q .non H', rt := Q } sr (er_start (N := N) r) ?_
  · exact go
  · unfold runOf at a
    cases e : m (ws.map some ++ List.replicate (N.length - ws.length) none) sto with
    | nx env s1 => rw [e] at a; exact fun ρ1 H1 σ1 g1 sr1 er1 => a ρ1 H1 _ g1 sr1 (by simp only [VR])
    | rt w1 s1 => rw [e] at a; exact a
    | bk env s1 => rw [e] at a; exact a.elim
    | ct env s1 => rw [e] at a; exact a.elim
    | ex x env s1 => rw [e] at a; exact fun ρ1 H1 σ1 c d g1 sr1 er1 xr => a ρ1 H1 c d g1 sr1 xr
    | stuck => rw [e] at a; exact a
end
/-! ### raise -/
def sRaise (c : Nat) : MS := fun env st => .ex (.plain c) env st
section
variable {X : Cx} {T : Nat → Addr} {Wx : WX'} {pos : Pos}
theorem pmk_own0 {C : Addr} {bmB : List Value} {B newId initId : String} {x : Str} {p : Pos} (F : ExcBaseFacts B newId initId bmB) (q : PySem.W.excIn X.K C bmB newId = true) (gC : X.mg x = some (.ref C)) (kC : PySem.W.keepIn X.K (.ref C) = true)
    (r : Raises X (.ref C)) (hg : Gl X x) (hdb : (x == ("__debug__" : Str)) = false := by decide) : PMk X (.Call (.Name x p) [] [] pos) (fun _ H Q => Q (.ref C) none H) := by
  intro pins s σ H Q I h
  refine wpAny_Call_Name_kw (ld_glob I hg gC (PySem.W.callWith_K0 I.kIn kC ?_) hdb)
  obtain ⟨bm, N, nm, qn, bs, hdct, sn, sub, ab, col, dd, k0, k1, k2, k3, k5, mN, hC, hN, hni, TT⟩ := exc_obj I.kIn q
  exact wpAny_call_exc_subT F TT hC hN hni (fun h' e hm => mk_of I hm r h (I.hok.gone hm.new)) (Nat.zero_le _)
/-- what must be known of an own exception class (over ValueError, no __init__) -/
structure ExcOk (X : Cx) (C : Addr) (x : Str) : Prop where
  ex : PySem.W.excIn X.K C veTail "ValueError.__new__" = true
  mg : X.mg x = some (.ref C)
  kp : PySem.W.keepIn X.K (.ref C) = true
  sub : PySem.W.subIn X.K (.ref C) (.type "BaseException") = some true
  ty : PySem.W.typeIn X.K (.ref C) = some (.type "type")
theorem ss_raise0 {c : Nat} {x : Str} {p p2 : Pos} (hc : X.calm = true) (tk : Takes X Wx) (e : ExcOk X (T c) x) (hg : Gl X x) (hdb : (x == ("__debug__" : Str)) = false := by decide) : SSt X T Wx (.Raise (some (.Call (.Name x p) [] [] p2)) none pos) (sRaise c) := by
  intro ρ η st env σ H D s er h
  refine ⟨_, ps_raise hc tk (pmk_own0 PySem.F.excBase_ValueError e.ex e.mg e.kp (raises_own e.sub e.ty) hg hdb), ?_⟩
  exact h ρ H σ _ _ Grow.refl s er ⟨rfl, rfl⟩
/-! ### stores -/
theorem wset_ok {ρ η : List Addr} {H : Hp} {st st1 : Sto} {o i v : W} {ov iv vv : V} (s : SR X.K T ρ η st H) (ro : VR X.K ρ η H o ov) (ri : VR X.K ρ η H i iv) (rv : VR X.K ρ η H v vv) (e : wSet o i v st = some st1) :
    ∃ (p : Addr) (xs : List V) (k : Int) (j : Nat), ov = .ref p ∧ iv = .int k ∧ H p = some (.lst xs) ∧ ixN xs.length k = some j ∧ Grow ρ H ρ (upd H p (.lst (xs.set j vv))) ∧ SR X.K T ρ η st1 (upd H p (.lst (xs.set j vv))) := by
  unfold wSet at e
  split at e
  · rename_i n
    split at e
    · rename_i xs q
      split at e
      · rename_i k
        split at e
        · rename_i j z
          cases e
          obtain ⟨p, e1, e2, vs, e3, e4⟩ := node_at s ro q
          simp only [VR] at ri
          have g : Grow ρ H ρ (upd H p (.lst (vs.set j vv))) := Grow.write (List.mem_of_getElem? e2) (open_of e3 fun _ _ z => nomatch z)
          exact ⟨p, vs, k, j, e1, ri, e3, by rw [e4.len]; exact z, g, s.write (open_of e3 fun _ _ z => nomatch z) e2 ⟨_, upd_same, (e4.set rv j).mono g⟩⟩
        · cases e
      · cases e
    · cases e
  · cases e
def putKW (kvs : List (Key × W)) (k : Key) (v : W) : List (Key × W) :=
  if (kvs.any fun kv => decide (kv.1 = k)) = true then kvs.map fun kv => if kv.1 = k then (kv.1, v) else kv else kvs ++ [(k, v)]
def dropKW (kvs : List (Key × W)) (k : Key) : List (Key × W) := kvs.filter fun kv => decide (kv.1 ≠ k)
/-- a dict's pairs, here and there -/
def KVs (K : PySem.W.Frag) (ρ η : List Addr) (H : Hp) (kvs : List (Key × W)) (kv : List (Key × V)) : Prop := kv.map (·.1) = kvs.map (·.1) ∧ VRs K ρ η H (kvs.map (·.2)) (kv.map (·.2))
theorem KVs.mono {K : PySem.W.Frag} {ρ ρ' η : List Addr} {H H' : Hp} {kvs : List (Key × W)} {kv : List (Key × V)} (g : Grow ρ H ρ' H') (h : KVs K ρ η H kvs kv) : KVs K ρ' η H' kvs kv := ⟨h.1, h.2.mono g⟩
theorem KVs.nil' {K : PySem.W.Frag} {ρ η : List Addr} {H : Hp} {kv : List (Key × V)} (h : KVs K ρ η H [] kv) : kv = [] := by
  have := h.1
  simpa using this
theorem KVs.cons' {K : PySem.W.Frag} {ρ η : List Addr} {H : Hp} {a : Key} {w : W} {kvs : List (Key × W)} {kv : List (Key × V)} (h : KVs K ρ η H ((a, w) :: kvs) kv) : ∃ v r, kv = (a, v) :: r ∧ VR K ρ η H w v ∧ KVs K ρ η H kvs r := by
  obtain ⟨h1, h2⟩ := h
  cases kv with
  | nil => simp at h1
  | cons p r =>
    obtain ⟨b, v⟩ := p
    simp only [List.map_cons, List.cons.injEq] at h1
    rw [List.map_cons, List.map_cons] at h2
    simp only [VRs] at h2
    obtain ⟨v', r', q1, q2, q3⟩ := h2
    simp only [List.cons.injEq] at q1
    obtain ⟨q1, q4⟩ := q1
    refine ⟨v, r, by rw [h1.1], by rw [q1]; exact q2, h1.2, by rw [q4]; exact q3⟩
theorem KVs.mk' {K : PySem.W.Frag} {ρ η : List Addr} {H : Hp} {a : Key} {w : W} {v : V} {kvs : List (Key × W)} {kv : List (Key × V)} (r : VR K ρ η H w v) (h : KVs K ρ η H kvs kv) : KVs K ρ η H ((a, w) :: kvs) ((a, v) :: kv) :=
  ⟨by simp [h.1], by rw [List.map_cons, List.map_cons]; exact VRs.cons r h.2⟩
theorem KVs.append {K : PySem.W.Frag} {ρ η : List Addr} {H : Hp} : ∀ {kvs ks : List (Key × W)} {kv kw : List (Key × V)}, KVs K ρ η H kvs kv → KVs K ρ η H ks kw → KVs K ρ η H (kvs ++ ks) (kv ++ kw)
  | [], ks, kv, kw, h, k => by
    rw [h.nil']
    exact k
  | (a, w) :: kvs, ks, kv, kw, h, k => by
    obtain ⟨v, r, e, h1, h2⟩ := h.cons'
    subst e
    exact KVs.mk' h1 (h2.append k)
theorem KVs.drop {K : PySem.W.Frag} {ρ η : List Addr} {H : Hp} {k : Key} : ∀ {kvs : List (Key × W)} {kv : List (Key × V)}, KVs K ρ η H kvs kv → KVs K ρ η H (dropKW kvs k) (dropK kv k)
  | [], kv, h => by
    rw [h.nil']
    exact ⟨rfl, VRs.nil⟩
  | (a, w) :: kvs, kv, h => by
    obtain ⟨v, r, e, h1, h2⟩ := h.cons'
    subst e
    have ih := KVs.drop (k := k) h2
    unfold dropKW dropK at ih ⊢
    rw [List.filter_cons, List.filter_cons]
    by_cases z : a = k
    · simp only [z, ne_eq, not_true_eq_false, decide_false, Bool.false_eq_true, if_false]
      simp only [ne_eq] at ih
      exact ih
    · simp only [z, ne_eq, not_false_eq_true, decide_true, if_true]
      simp only [ne_eq] at ih
      exact KVs.mk' h1 ih
theorem KVs.any {K : PySem.W.Frag} {ρ η : List Addr} {H : Hp} {k : Key} : ∀ {kvs : List (Key × W)} {kv : List (Key × V)}, KVs K ρ η H kvs kv → (kvs.any fun x => decide (x.1 = k)) = kv.any fun x => decide (x.1 = k)
  | [], kv, h => by rw [h.nil']; rfl
  | (a, w) :: kvs, kv, h => by
    obtain ⟨v, r, e, h1, h2⟩ := h.cons'
    subst e
    rw [List.any_cons, List.any_cons, KVs.any h2]
theorem KVs.upd {K : PySem.W.Frag} {ρ η : List Addr} {H : Hp} {k : Key} {w : W} {v : V} (r : VR K ρ η H w v) : ∀ {kvs : List (Key × W)} {kv : List (Key × V)}, KVs K ρ η H kvs kv → KVs K ρ η H (kvs.map fun x => if x.1 = k then (x.1, w) else x) (kv.map fun x => if x.1 = k then (x.1, v) else x)
  | [], kv, h => by
    rw [h.nil']
    exact ⟨rfl, VRs.nil⟩
  | (a, u) :: kvs, kv, h => by
    obtain ⟨z, r', e, h1, h2⟩ := h.cons'
    subst e
    have ih := KVs.upd (k := k) r h2
    rw [List.map_cons, List.map_cons]
    by_cases q : a = k
    · rw [if_pos q, if_pos q]
      exact KVs.mk' r ih
    · rw [if_neg q, if_neg q]
      exact KVs.mk' h1 ih
theorem KVs.put {K : PySem.W.Frag} {ρ η : List Addr} {H : Hp} {k : Key} {w : W} {v : V} (r : VR K ρ η H w v) {kvs : List (Key × W)} {kv : List (Key × V)} (h : KVs K ρ η H kvs kv) : KVs K ρ η H (putKW kvs k w) (putK kv k v) := by
  unfold putKW putK
  rw [h.any]
  split
  · exact h.upd r
  · exact h.append (KVs.mk' r ⟨rfl, VRs.nil⟩)
theorem KVs.len {K : PySem.W.Frag} {ρ η : List Addr} {H : Hp} {kvs : List (Key × W)} {kv : List (Key × V)} (h : KVs K ρ η H kvs kv) : kv.length = kvs.length := by
  have := congrArg List.length h.1
  simpa using this
/-- o[i] = v of a dict -/
def wPutD (o i v : W) (st : Sto) : Option Sto := match o with
  | .ref n => match st[n]? with
    | some (.dk kvs) => match keyOf i with
      | some k => if kvs.length < sizeLine then some (st.set n (.dk (putKW kvs k v))) else none
      | none => none
    | _ => none
  | _ => none
def wStore (o i v : W) (st : Sto) : Option Sto := match wSet o i v st with
  | some s => some s
  | none => wPutD o i v st
def gSub' (mo mi : M W) : MG := fun w env st => match mo env st with
  | .ok o s1 => match mi env s1 with
    | .ok i s2 => match wStore o i w s2 with
      | some s3 => some (env, s3)
      | none => none
    | _ => none
  | _ => none
theorem wputd_ok {ρ η : List Addr} {H : Hp} {st st1 : Sto} {o i v : W} {ov iv vv : V} (s : SR X.K T ρ η st H) (ro : VR X.K ρ η H o ov) (ri : VR X.K ρ η H i iv) (rv : VR X.K ρ η H v vv) (e : wPutD o i v st = some st1) :
    ∃ (p : Addr) (H1 : Hp), ov = .ref p ∧ DPut H p iv vv H1 ∧ Grow ρ H ρ H1 ∧ SR X.K T ρ η st1 H1 := by
  unfold wPutD at e
  split at e
  · rename_i n
    split at e
    · rename_i kvs q
      split at e
      · rename_i k z
        split at e
        · rename_i lz
          cases e
          obtain ⟨p, e1, e2, kv, e3, e4, e5⟩ := node_at s ro q
          have kk : KVs X.K ρ η H kvs kv := ⟨e4, e5⟩
          have g : Grow ρ H ρ (upd H p (.dK (putK kv k vv))) := Grow.write (List.mem_of_getElem? e2) (open_of e3 fun _ _ z => nomatch z)
          have k2 := (kk.put (k := k) rv).mono g
          rw [key_ok ri z]
          exact ⟨p, _, e1, DPut.k e3 (by rw [kk.len]; exact lz), g, s.write (open_of e3 fun _ _ z => nomatch z) e2 ⟨_, upd_same, k2.1, k2.2⟩⟩
        · cases e
      · cases e
    · cases e
  · cases e
/-- o[i] = .. -/
theorem sg_sub {o i : Expr} {mo mi : M W} (hu : X.A.units + 1 < cLine) (ho : SE X T W0 o mo) (hi : SE X T W0 i mi)
    (ha : ∀ v, assign (.Subscript o i pos) X.env v = (do
      let ov ← holding [v] (eval o X.env)
      let iv ← holding [v, ov] (eval i X.env)
      standAt pos
      holding [v, ov, iv] (setItem ov iv v)
      release [v, ov, iv] []) := by intro _; rfl) : SGt X T (.Subscript o i pos) (gSub' mo mi) := by
  intro ρ η st env σ H w v Q s er r h
  have pset : PSet X (fun o i v H Q => rSetL o i v H Q ∨ rSetD o i v H Q) := fun pins s σ H o i v ov iv u Q I ro ri rv h => h.elim (fun h => set_list pins s σ H o i v ov iv u Q I ro ri rv h) fun h => set_dict hu pins s σ H o i v ov iv u Q I ro ri rv h
  refine ⟨_, pg_sub pe_S pe_S pset ha, ?_⟩
  unfold gSub' at h
  refine ho ρ η st env σ H _ s er ?_
  cases e1 : mo env st with
  | ok ow s1 =>
    rw [e1] at h
    dsimp only at h
    intro ρ1 H1 ov g1 sr1 r1
    refine hi ρ1 η s1 env σ H1 _ sr1 (er.mono g1) ?_
    cases e2 : mi env s1 with
    | ok iw s2 =>
      rw [e2] at h
      intro ρ2 H2 iv g2 sr2 r2
      dsimp only at h
      have rv := (r.mono g1).mono g2
      have ro := r1.mono g2
      have er2 := (er.mono g1).mono g2
      split at h
      · rename_i s3 e3
        unfold wStore at e3
        split at e3
        · rename_i s4 e4
          cases e3
          obtain ⟨p, xs, k, j, f1, f2, f3, f4, f5, f6⟩ := wset_ok sr2 ro r2 rv e4
          exact .inl ⟨p, xs, k, j, f1, f2, f3, f4, h ρ2 _ σ ((g1.trans g2).trans f5) f6 (er2.mono f5)⟩
        · obtain ⟨p, H3, f1, f2, f3, f4⟩ := wputd_ok sr2 ro r2 rv e3
          exact .inr ⟨p, H3, f1, f2, h ρ2 H3 σ ((g1.trans g2).trans f3) f4 (er2.mono f3)⟩
      · exact h.elim
    | ex x s2 => rw [e2] at h; exact h.elim
    | stuck => rw [e2] at h; exact h.elim
  | ex x s1 => rw [e1] at h; exact h.elim
  | stuck => rw [e1] at h; exact h.elim
/-! ### fields -/
theorem putW_ok {ρ η : List Addr} {H : Hp} {f : Str} {w : W} {v : V} (r : VR X.K ρ η H w v) : ∀ {fs : List (Str × W)} {fv : List (Str × V)}, fv.map (·.1) = fs.map (·.1) → VRs X.K ρ η H (fs.map (·.2)) (fv.map (·.2)) →
    (putF f v fv).map (·.1) = (putW f w fs).map (·.1) ∧ VRs X.K ρ η H ((putW f w fs).map (·.2)) ((putF f v fv).map (·.2))
  | [], [], _, _ => ⟨rfl, VRs.cons r VRs.nil⟩
  | [], p :: fv, e, _ => by simp at e
  | p :: fs, [], e, _ => by simp at e
  | (a, y) :: fs, (b, z) :: fv, e, h => by
    simp only [List.map_cons, List.cons.injEq] at e
    obtain ⟨e1, e2⟩ := e
    subst e1
    rw [List.map_cons, List.map_cons] at h
    simp only [VRs] at h
    obtain ⟨v', r', q1, q2, q3⟩ := h
    simp only [List.cons.injEq] at q1
    obtain ⟨q1, q4⟩ := q1
    subst q1; subst q4
    have ih := putW_ok (f := f) r e2 q3
    unfold putW putF
    by_cases q : b = f
    · rw [if_pos q, if_pos q]
      exact ⟨by simp [e2, q], VRs.cons r q3⟩
    · rw [if_neg q, if_neg q]
      exact ⟨by simp [ih.1], VRs.cons q2 ih.2⟩
theorem wsetf_ok {ρ η : List Addr} {H : Hp} {st st1 : Sto} {cs : List Nat} {f : Str} {o v : W} {ov vv : V} (s : SR X.K T ρ η st H) (ro : VR X.K ρ η H o ov) (rv : VR X.K ρ η H v vv) (e : wSetF cs f o v st = some st1) :
    ∃ (a : Addr) (c : Nat) (dx : Addr) (fs : List (Str × V)), ov = .ref a ∧ H a = some (.ins (T c) dx fs) ∧ c ∈ cs ∧ fs.length < 1000 ∧ Grow ρ H ρ (upd H a (.ins (T c) dx (putF f vv fs))) ∧ SR X.K T ρ η st1 (upd H a (.ins (T c) dx (putF f vv fs))) := by
  unfold wSetF at e
  split at e
  · rename_i n
    split at e
    · rename_i c fs q
      split at e
      · rename_i z
        cases e
        obtain ⟨p, e1, e2, dx, fv, e3, e4, e5⟩ := node_at s ro q
        have g : Grow ρ H ρ (upd H p (.ins (T c) dx (putF f vv fv))) := Grow.write (List.mem_of_getElem? e2) (open_of e3 fun _ _ z => nomatch z)
        have l := congrArg List.length e4
        simp only [List.length_map] at l
        obtain ⟨k1, k2⟩ := putW_ok (f := f) rv e4 e5
        exact ⟨p, c, dx, fv, e1, e3, by simpa using z.1, by rw [l]; exact z.2, g, s.write (open_of e3 fun _ _ z => nomatch z) e2 ⟨dx, _, upd_same, k1, k2.mono g⟩⟩
      · cases e
    · cases e
  · cases e
theorem ss_fld {cs : List Nat} {f : Str} {o e : Expr} {mo m : M W} {pos' : Pos} (ho : SE X T Wx o mo) (he : SE X T Wx e m) (hc : ∀ c ∈ cs, Cls X.K (T c) ∧ NoAttr X.K (T c) f) (hs : swapsWith e (some (.Attribute o f pos')) pos.line X.env = pure false := by rfl) :
    SSt X T Wx (.Assign [.Attribute o f pos'] e pos) (sFld' cs f mo m) := by
  intro ρ η st env σ H D s er q
  refine ⟨_, ps_fld pe_S pe_S hs, ?_⟩
  refine he ρ η st env σ H _ s er (q.bind er fun w s1 ρ1 H1 v _ g1 sr1 r1 h1 => ?_)
  refine ho ρ1 η s1 env σ H1 _ sr1 (er.mono g1) (h1.bind (er.mono g1) fun ow s2 ρ2 H2 ov _ g2 sr2 r2 h2 => ?_)
  split at h2
  · rename_i s3 e3
    obtain ⟨a, c, dx, fs, f1, f2, f3, f4, f5, f6⟩ := wsetf_ok sr2 r2 (r1.mono g2) e3
    obtain ⟨k1, k2⟩ := hc c f3
    exact ⟨a, T c, dx, fs, f1, f2, k1, k2, f4, h2 ρ2 _ σ f5 f6 (((er.mono g1).mono g2).mono f5)⟩
  · exact h2.elim
end
end Mi
namespace Mi
open PySem PySem.Spec PyProof.Rows L2
abbrev FC := List W → Sto → Rs W
def OkC (K : PySem.W.Frag) (T : Nat → Addr) (f : FC) (r : List V → Hp → VK → Prop) : Prop := ∀ ρ η st H ws vs Q E, SR K T ρ η st H → VRs K ρ η H ws vs → After K T η (fun ρ H => VR K ρ η H) ρ H (f ws st) Q E → r vs H Q
def mFn (f : FC) (m : M (List W)) : M W := fun env st => (m env st).bind f
section
variable {X : Cx} {T : Nat → Addr} {Wx : WX'} {pos p : Pos} {x : Str} {e : Expr} {es : List Expr} {ma : M (List W)} {r : List V → Hp → VK → Prop} {f : FC}
theorem se_blt {id : String} (hr : CallR X (.builtin id) r) (hf : OkC X.K T f r) (hg : Gl X x) (hm : X.mg x = none) (hv : bootBuiltins x = some (.builtin id)) (ha : SA X T Wx (e :: es) ma) (hn : x ≠ "__name__" := by decide) (hdb : (x == ("__debug__" : Str)) = false := by decide)
    (hst : starEach (e :: es) X.env = (false, eval e X.env) :: starEach es X.env := by rfl) (hpl : (backTo pos (starEach es X.env)).any (·.1) = false := by rfl) : SE X T Wx (.Call (.Name x p) (e :: es) [] pos) (mFn f ma) := by
  intro ρ η st env σ H Q s er q
  refine ⟨_, pe_callB hr hg hm hv pa_S hn hdb hst hpl, ?_⟩
  exact ha ρ η st env σ H _ s er (q.bind fun ws s1 ρ1 H1 vs g1 sr1 r1 h1 => hf ρ1 η s1 H1 ws vs Q _ sr1 r1 h1)
theorem se_bty {id : String} (hr : CallR X (.type id) r) (hf : OkC X.K T f r) (hg : Gl X x) (hm : X.mg x = none) (hv : bootBuiltins x = some (.type id)) (ha : SA X T Wx (e :: es) ma) (hn : x ≠ "__name__" := by decide) (hdb : (x == ("__debug__" : Str)) = false := by decide)
    (hst : starEach (e :: es) X.env = (false, eval e X.env) :: starEach es X.env := by rfl) (hpl : (backTo pos (starEach es X.env)).any (·.1) = false := by rfl) : SE X T Wx (.Call (.Name x p) (e :: es) [] pos) (mFn f ma) := by
  intro ρ η st env σ H Q s er q
  refine ⟨_, pe_callTy hr hg hm hv pa_S hn hdb hst hpl, ?_⟩
  exact ha ρ η st env σ H _ s er (q.bind fun ws s1 ρ1 H1 vs g1 sr1 r1 h1 => hf ρ1 η s1 H1 ws vs Q _ sr1 r1 h1)
end
/-! ### by values -/
def fLen : FC := fun ws st => match ws with
  | [w] => match seqL st w with
    | some xs => .ok (.int xs.length) st
    | none => match w with
      | .tup xs => .ok (.int xs.length) st
      | .str z => if z.length ≤ sizeLine then .ok (.int z.length) st else .stuck
      | .ref i => match st[i]? with
        | some (.dk kvs) => .ok (.int kvs.length) st
        | _ => .stuck
      | _ => .stuck
  | _ => .stuck
def fAbs : FC := fun ws st => match ws with
  | [.int i] => .ok (.int (if i < 0 then -i else i)) st
  | _ => .stuck
def fInt : FC := fun ws st => match ws with
  | [.int i] => .ok (.int i) st
  | [.bl k] => .ok (.int (if k = true then 1 else 0)) st
  | _ => .stuck
def fList (fz : Bool) : FC := fun ws st => match ws with
  | [w] => match seqL st w with
    | some xs => newL fz xs st
    | none => match w with
      | .tup xs => newL fz xs st
      | _ => .stuck
  | _ => .stuck
def fTuple : FC := fun ws st => match ws with
  | [w] => match seqL st w with
    | some xs => .ok (.tup xs) st
    | none => match w with
      | .tup xs => .ok (.tup xs) st
      | _ => .stuck
  | _ => .stuck
/-- the name of a built-in value's type -/
def tyOf (st : Sto) : W → Option String
  | .non => some "NoneType"
  | .bl _ => some "bool"
  | .int _ => some "int"
  | .str _ => some "str"
  | .tup _ => some "tuple"
  | .lst _ => some "list"
  | .ref i => match st[i]? with
    | some (.lst _) => some "list"
    | some (.dk _) => some "dict"
    | some (.lk _) => some "dict"
    | _ => none
  | _ => none
/-- isinstance for built-in types; own: for an own class's instance -/
def fIsi (own : Nat → String → Option Bool) : FC := fun ws st => match ws with
  | [w, .ty n] => match tyOf st w with
    | some t => match kitB t n with
      | some b => .ok (.bl b) st
      | none => .stuck
    | none => match w with
      | .ref i => match st[i]? with
        | some (.ins c _) => match own c n with
          | some b => .ok (.bl b) st
          | none => .stuck
        | _ => .stuck
      | _ => .stuck
  | _ => .stuck
def blsOf : List W → Option (List Bool)
  | [] => some []
  | .bl b :: r => (blsOf r).map (b :: ·)
  | _ => none
def fAll : FC := fun ws st => match ws with
  | [w] => match seqL st w with
    | some xs => match blsOf xs with
      | some bs => .ok (.bl (bs.all id)) st
      | none => .stuck
    | none => .stuck
  | _ => .stuck
def fAny : FC := fun ws st => match ws with
  | [w] => match seqL st w with
    | some xs => match blsOf xs with
      | some bs => .ok (.bl (bs.any id)) st
      | none => .stuck
    | none => .stuck
  | _ => .stuck
def intsOf : List W → Option (List Int)
  | [] => some []
  | .int b :: r => (intsOf r).map (b :: ·)
  | _ => none
def fSum : FC := fun ws st => match ws with
  | [w] => match seqL st w with
    | some xs => match intsOf xs with
      | some bs => .ok (.int bs.sum) st
      | none => .stuck
    | none => .stuck
  | _ => .stuck
def sortZ (ns : List Int) : List Int := ns.mergeSort fun a b => decide (a ≤ b)
def fSorted (fz : Bool) : FC := fun ws st => match ws with
  | [w] => match seqL st w with
    | some xs => match intsOf xs with
      | some ns => newL fz ((sortZ ns).map W.int) st
      | none => .stuck
    | none => match dkOf st w with
      | some kvs => match intsOf (kvs.map fun p => match p.1 with | .inl i => W.int i | .inr x => W.str x) with
        | some ns => if ns.length < 64 then newL fz ((sortZ ns).map W.int) st else .stuck
        | none => .stuck
      | none => .stuck
  | _ => .stuck
section
variable {K : PySem.W.Frag} {T : Nat → Addr} {ρ η : List Addr} {H : Hp} {st : Sto}
theorem vrs1 {w : W} {vs : List V} (h : VRs K ρ η H [w] vs) : ∃ v, vs = [v] ∧ VR K ρ η H w v := by
  simp only [VRs] at h
  obtain ⟨v, r, e, h1, h2⟩ := h
  subst h2
  exact ⟨v, e, h1⟩
theorem vrs2 {w u : W} {vs : List V} (h : VRs K ρ η H [w, u] vs) : ∃ v z, vs = [v, z] ∧ VR K ρ η H w v ∧ VR K ρ η H u z := by
  simp only [VRs] at h
  obtain ⟨v, r, e, h1, v2, r2, e2, h2, h3⟩ := h
  subst h3; subst e2
  exact ⟨v, v2, e, h1, h2⟩
theorem okc_len : OkC K T fLen (fun xs H Q => (∃ x n, xs = [x] ∧ LenV K x H n ∧ Q (.int (n : Nat)) H) ∨ ∃ a kvs, xs = [V.ref a] ∧ H a = some (.dK kvs) ∧ Q (.int (kvs.length : Nat)) H) := by
  intro ρ η st H ws vs Q E s r h
  unfold fLen at h
  split at h
  · rename_i w
    obtain ⟨v, e, rr⟩ := vrs1 r
    clear r
    have r := rr
    clear rr
    subst e
    split at h
    · rename_i xs q
      obtain ⟨a, us, e1, e2, e3⟩ := seq_ok s r q
      subst e1
      exact .inl ⟨_, xs.length, rfl, .inl ⟨us, e2, e3.len.symm⟩, h.ok s (by simp only [VR])⟩
    · split at h
      · rename_i xs q
        obtain ⟨a, us, e1, e2, e3⟩ := tup_ok r (show tupL (.tup xs) = some xs from rfl)
        subst e1
        exact .inl ⟨_, xs.length, rfl, .inr ⟨us, e2, e3.len.symm⟩, h.ok s (by simp only [VR])⟩
      · rename_i z q
        split at h
        · rename_i lz
          simp only [VR] at r
          subst r
          exact .inl ⟨_, z.length, rfl, ⟨lz, rfl⟩, h.ok s (by simp only [VR])⟩
        · exact h.elim
      · rename_i i q
        split at h
        · rename_i kvs e
          obtain ⟨a, e1, _, kv, e2, e3, e4⟩ := node_at s r e
          subst e1
          have l := congrArg List.length e3
          simp only [List.length_map] at l
          refine .inr ⟨a, kv, rfl, e2, ?_⟩
          rw [l]
          exact h.ok s (by simp only [VR])
        · exact h.elim
      · exact h.elim
  · exact h.elim
theorem okc_abs : OkC K T fAbs (fun xs H Q => ∃ i, xs = [.int i] ∧ Q (.int (if i < 0 then -i else i)) H) := by
  intro ρ η st H ws vs Q E s r h
  unfold fAbs at h
  split at h
  · obtain ⟨v, e, rr⟩ := vrs1 r
    clear r
    have r := rr
    clear rr
    simp only [VR] at r
    subst r
    exact ⟨_, e, h.ok s (by simp only [VR])⟩
  · exact h.elim
theorem okc_int : OkC K T fInt (fun xs H Q => (∃ i, xs = [.int i] ∧ Q (.int i) H) ∨ ∃ k, xs = [.bl k] ∧ Q (.int (if k then 1 else 0)) H) := by
  intro ρ η st H ws vs Q E s r h
  unfold fInt at h
  split at h
  · obtain ⟨v, e, rr⟩ := vrs1 r
    clear r
    have r := rr
    clear rr
    simp only [VR] at r
    subst r
    exact .inl ⟨_, e, h.ok s (by simp only [VR])⟩
  · obtain ⟨v, e, rr⟩ := vrs1 r
    clear r
    have r := rr
    clear rr
    simp only [VR] at r
    subst r
    exact .inr ⟨_, e, h.ok s (by simp only [VR])⟩
  · exact h.elim
theorem okc_list {fz : Bool} : OkC K T (fList fz) (fun xs H Q => ∃ p ys, xs = [.ref p] ∧ (SqL K H p ys ∨ SqT K H p ys) ∧ ∀ l, H l = none → Q (.ref l) (upd H l (.lst ys))) := by
  intro ρ η st H ws vs Q E s r h
  unfold fList at h
  split at h
  · rename_i w
    obtain ⟨v, e, rr⟩ := vrs1 r
    clear r
    have r := rr
    clear rr
    subst e
    split at h
    · rename_i xs q
      obtain ⟨a, us, e1, e2, e3⟩ := seq_ok s r q
      subst e1
      exact ⟨a, us, rfl, .inl e2, fun l hl => newL_ok h s e3 hl⟩
    · split at h
      · rename_i xs q
        obtain ⟨a, us, e1, e2, e3⟩ := tup_ok r (show tupL (.tup xs) = some xs from rfl)
        subst e1
        exact ⟨a, us, rfl, .inr e2, fun l hl => newL_ok h s e3 hl⟩
      · exact h.elim
  · exact h.elim
theorem okc_tuple : OkC K T fTuple (fun xs H Q => ∃ p ys, xs = [.ref p] ∧ ((SqL K H p ys ∧ ∀ l, H l = none → Q (.ref l) (upd H l (.tup ys))) ∨ (SqT K H p ys ∧ Q (.ref p) H))) := by
  intro ρ η st H ws vs Q E s r h
  unfold fTuple at h
  split at h
  · rename_i w
    obtain ⟨v, e, rr⟩ := vrs1 r
    clear r
    have r := rr
    clear rr
    subst e
    split at h
    · rename_i xs q
      obtain ⟨a, us, e1, e2, e3⟩ := seq_ok s r q
      subst e1
      exact ⟨a, us, rfl, .inl ⟨e2, fun l hl => newT_ok h s e3 hl⟩⟩
    · split at h
      · rename_i xs q
        obtain ⟨a, us, e1, e2, e3⟩ := tup_ok r (show tupL (.tup xs) = some xs from rfl)
        subst e1
        exact ⟨a, us, rfl, .inr ⟨e2, h.ok s r⟩⟩
      · exact h.elim
  · exact h.elim
theorem ty_ok {w : W} {v : V} {t : String} (s : SR K T ρ η st H) (r : VR K ρ η H w v) (e : tyOf st w = some t) : TyX K H v (.type t) := by
  cases w with
  | non => simp only [VR] at r; subst r; simp only [tyOf, Option.some.injEq] at e; subst e; exact .base .non
  | bl b => simp only [VR] at r; subst r; simp only [tyOf, Option.some.injEq] at e; subst e; exact .base (.bl b)
  | int b => simp only [VR] at r; subst r; simp only [tyOf, Option.some.injEq] at e; subst e; exact .base (.int b)
  | str b => simp only [VR] at r; subst r; simp only [tyOf, Option.some.injEq] at e; subst e; exact .base (.str b)
  | ty n => simp [tyOf] at e
  | at_ n => simp [tyOf] at e
  | scr n => simp [tyOf] at e
  | tup xs =>
    simp only [tyOf, Option.some.injEq] at e
    subst e
    simp only [VR] at r
    obtain ⟨a, vs, e1, e2, e3⟩ := r
    subst e1
    rcases e2 with ⟨_, _, h⟩ | ⟨o, its, n, h1, h2, _⟩
    · rcases h with h | ⟨o, h⟩
      · exact .base (.tup h)
      · exact .fTuple h
    · exact .kTuple h1 h2
  | lst xs =>
    simp only [tyOf, Option.some.injEq] at e
    subst e
    simp only [VR] at r
    obtain ⟨a, vs, e1, e2, e3⟩ := r
    subst e1
    exact .base (.lst e2.2.2)
  | ref i =>
    simp only [tyOf] at e
    split at e
    · rename_i xs q
      cases e
      obtain ⟨a, e1, _, vs, e2, _⟩ := node_at s r q
      subst e1
      exact .base (.lst e2)
    · rename_i xs q
      cases e
      obtain ⟨a, e1, _, vs, e2, _⟩ := node_at s r q
      subst e1
      exact .base (.dK e2)
    · rename_i xs q
      cases e
      obtain ⟨a, e1, _, od, vs, e2, _⟩ := node_at s r q
      subst e1
      exact .fDict e2
    · cases e
/-- what isinstance asks of an own class's instance -/
structure IsiOwn (K : PySem.W.Frag) (C : Addr) : Prop where
  cl : Cls K C
  ha : PySem.W.findIn K (.ref C) "__class__" = some (some (.builtin "object.__class__"))
  hn : PySem.W.specialIn K (.builtin "object.__class__") "__get__" = some (some (.builtin "getset_descriptor.__get__"))
  htk : PySem.W.takesIn K (.builtin "object.__class__") = some true
  hm : PySem.W.mroIn K C (.type "object") = some true
theorem okc_isi {own : Nat → String → Option Bool} (ho : ∀ c n b, own c n = some b → IsiOwn K (T c) ∧ PySem.W.kitOne K (.ref (T c)) (.type n) = some b) : OkC K T (fIsi own) (rIsi K) := by
  intro ρ η st H ws vs Q E s r h
  unfold fIsi at h
  split at h
  · rename_i w n
    obtain ⟨v, z, e, r1, r2⟩ := vrs2 r
    simp only [VR] at r2
    subst r2
    split at h
    · rename_i t q
      split at h
      · rename_i b q2
        exact ⟨v, .ty n, .type t, .type n, b, e, .ty n, ty_ok s r1 q, kit_ty q2, h.ok s (by simp only [VR])⟩
      · exact h.elim
    · split at h
      · rename_i i q
        split at h
        · rename_i c fs q2
          split at h
          · rename_i b q3
            obtain ⟨o1, o2⟩ := ho c n b q3
            obtain ⟨a, e1, _, dx, fv, e2, _⟩ := node_at s r1 q2
            subst e1
            exact ⟨_, .ty n, .ref (T c), .type n, b, e, .ty n, .base (.ins e2 o1.cl o1.ha o1.hn o1.htk o1.hm), o2, h.ok s (by simp only [VR])⟩
          · exact h.elim
        · exact h.elim
      · exact h.elim
  · exact h.elim
theorem bls_ok : ∀ {ws : List W} {vs : List V} {bs : List Bool}, VRs K ρ η H ws vs → blsOf ws = some bs → vs = bs.map V.bl
  | [], vs, bs, r, e => by
    simp only [VRs] at r
    simp only [blsOf, Option.some.injEq] at e
    subst r; subst e; rfl
  | .bl b :: ws, vs, bs, r, e => by
    simp only [VRs, VR] at r
    obtain ⟨v, rr, e1, e2, e3⟩ := r
    simp only [blsOf, Option.map_eq_some_iff] at e
    obtain ⟨cs, e4, e5⟩ := e
    subst e1; subst e2; subst e5
    rw [bls_ok e3 e4, List.map_cons]
  | .non :: ws, vs, bs, r, e => by simp [blsOf] at e
  | .int _ :: ws, vs, bs, r, e => by simp [blsOf] at e
  | .str _ :: ws, vs, bs, r, e => by simp [blsOf] at e
  | .ty _ :: ws, vs, bs, r, e => by simp [blsOf] at e
  | .tup _ :: ws, vs, bs, r, e => by simp [blsOf] at e
  | .lst _ :: ws, vs, bs, r, e => by simp [blsOf] at e
  | .scr _ :: ws, vs, bs, r, e => by simp [blsOf] at e
  | .ref _ :: ws, vs, bs, r, e => by simp [blsOf] at e
  | .at_ _ :: ws, vs, bs, r, e => by simp [blsOf] at e
theorem ints_ok : ∀ {ws : List W} {vs : List V} {bs : List Int}, VRs K ρ η H ws vs → intsOf ws = some bs → vs = bs.map V.int
  | [], vs, bs, r, e => by
    simp only [VRs] at r
    simp only [intsOf, Option.some.injEq] at e
    subst r; subst e; rfl
  | .int b :: ws, vs, bs, r, e => by
    simp only [VRs, VR] at r
    obtain ⟨v, rr, e1, e2, e3⟩ := r
    simp only [intsOf, Option.map_eq_some_iff] at e
    obtain ⟨cs, e4, e5⟩ := e
    subst e1; subst e2; subst e5
    rw [ints_ok e3 e4, List.map_cons]
  | .non :: ws, vs, bs, r, e => by simp [intsOf] at e
  | .bl _ :: ws, vs, bs, r, e => by simp [intsOf] at e
  | .str _ :: ws, vs, bs, r, e => by simp [intsOf] at e
  | .ty _ :: ws, vs, bs, r, e => by simp [intsOf] at e
  | .tup _ :: ws, vs, bs, r, e => by simp [intsOf] at e
  | .lst _ :: ws, vs, bs, r, e => by simp [intsOf] at e
  | .scr _ :: ws, vs, bs, r, e => by simp [intsOf] at e
  | .ref _ :: ws, vs, bs, r, e => by simp [intsOf] at e
  | .at_ _ :: ws, vs, bs, r, e => by simp [intsOf] at e
theorem okc_all : OkC K T fAll (rAll K) := by
  intro ρ η st H ws vs Q E s r h
  unfold fAll at h
  split at h
  · rename_i w
    obtain ⟨v, e, rr⟩ := vrs1 r
    clear r
    have r := rr
    clear rr
    subst e
    split at h
    · rename_i xs q
      obtain ⟨a, us, e1, e2, e3⟩ := seq_ok s r q
      split at h
      · rename_i bs q2
        have := bls_ok e3 q2
        subst us; subst e1
        exact ⟨a, bs, rfl, e2, h.ok s (by simp only [VR])⟩
      · exact h.elim
    · exact h.elim
  · exact h.elim
theorem okc_any : OkC K T fAny (rAny K) := by
  intro ρ η st H ws vs Q E s r h
  unfold fAny at h
  split at h
  · rename_i w
    obtain ⟨v, e, rr⟩ := vrs1 r
    clear r
    have r := rr
    clear rr
    subst e
    split at h
    · rename_i xs q
      obtain ⟨a, us, e1, e2, e3⟩ := seq_ok s r q
      split at h
      · rename_i bs q2
        have := bls_ok e3 q2
        subst us; subst e1
        exact ⟨a, bs, rfl, e2, h.ok s (by simp only [VR])⟩
      · exact h.elim
    · exact h.elim
  · exact h.elim
theorem okc_sum : OkC K T fSum (rSum K) := by
  intro ρ η st H ws vs Q E s r h
  unfold fSum at h
  split at h
  · rename_i w
    obtain ⟨v, e, rr⟩ := vrs1 r
    clear r
    have r := rr
    clear rr
    subst e
    split at h
    · rename_i xs q
      obtain ⟨a, us, e1, e2, e3⟩ := seq_ok s r q
      split at h
      · rename_i bs q2
        have := ints_ok e3 q2
        subst us; subst e1
        exact ⟨a, bs, rfl, e2, h.ok s (by simp only [VR])⟩
      · exact h.elim
    · exact h.elim
  · exact h.elim
theorem sortZ_of {ns ms : List Int} (p : ms.Perm ns) (q : ms.Pairwise (· ≤ ·)) : ms = sortZ ns := by
  have p2 : (sortZ ns).Perm ns := List.mergeSort_perm ns _
  have q2 : (sortZ ns).Pairwise (· ≤ ·) := by
    have := List.pairwise_mergeSort (le := fun a b : Int => decide (a ≤ b)) (by intro a b c; simp; omega) (by intro a b; simp; omega) ns
    exact this.imp (by intro a b; simp)
  exact (p.trans p2.symm).eq_of_pairwise (fun a b _ _ h1 h2 => Int.le_antisymm h1 h2) q q2
theorem vints {ns : List Int} : VRs K ρ η H (ns.map W.int) (ns.map V.int) := by
  refine VRs.of_get (by simp) fun i x v e1 e2 => ?_
  rw [List.getElem?_map] at e1 e2
  cases q : ns[i]? with
  | none => rw [q] at e1; cases e1
  | some n =>
    rw [q] at e1 e2
    cases e1; cases e2
    simp only [VR]
def rSortDI : List V → Hp → VK → Prop := fun xs H Q => ∃ (a : Addr) (kvs : List (Key × V)) (ks : List Int), xs = [.ref a] ∧ Rd H a (.dK kvs) ∧ kvs.map (·.1) = ks.map Sum.inl ∧ ks.length < 64 ∧ ∀ (ys : List Int) (p : Addr), ys.Perm ks → ys.Pairwise (· ≤ ·) → H p = none → Q (.ref p) (upd H p (.lst (ys.map V.int)))
theorem okc_sorted {fz : Bool} : OkC K T (fSorted fz) (fun xs H Q => rSortedI K xs H Q ∨ rSortDI xs H Q) := by
  intro ρ η st H ws vs Q E s r h
  unfold fSorted at h
  split at h
  · rename_i w
    obtain ⟨v, e, rr⟩ := vrs1 r
    clear r
    have r := rr
    clear rr
    subst e
    split at h
    · rename_i xs q
      obtain ⟨a, us, e1, e2, e3⟩ := seq_ok s r q
      split at h
      · rename_i ns q2
        have := ints_ok e3 q2
        subst us; subst e1
        refine .inl ⟨a, ns, rfl, e2, fun ns' p p1 p2 hp => ?_⟩
        rw [sortZ_of p1 p2]
        exact newL_ok h s vints hp
      · exact h.elim
    · split at h
      · rename_i kvs q
        split at h
        · rename_i ns q2
          split at h
          · rename_i lz
            have hs : ∀ {st : Sto} {w : W} {v : V} {kvs : List (Key × W)}, SR K T ρ η st H → VR K ρ η H w v → dkOf st w = some kvs → ∃ a kv, v = .ref a ∧ Rd H a (.dK kv) ∧ kv.map (·.1) = kvs.map (·.1) := by
              intro st w v kvs s r e
              cases w with
              | ref i =>
                simp only [dkOf] at e
                split at e
                · rename_i ks q
                  cases e
                  obtain ⟨a, h1, _, kv, h2, h3, h4⟩ := node_at s r q
                  exact ⟨a, kv, h1, .inl h2, h3⟩
                · rename_i ks q
                  cases e
                  obtain ⟨a, h1, _, od, kv, h2, h3, h4⟩ := node_at s r q
                  exact ⟨a, kv, h1, .inr ⟨od, h2⟩, h3⟩
                · cases e
              | _ => simp [dkOf] at e
            obtain ⟨a, kv, e1, e2, e3⟩ := hs s r q
            have ks : ∀ {kvs : List (Key × W)} {ns : List Int}, intsOf (kvs.map fun p => match p.1 with | .inl i => W.int i | .inr x => W.str x) = some ns → kvs.map (·.1) = ns.map Sum.inl := by
              intro kvs
              induction kvs with
              | nil => intro ns e; simp [intsOf] at e; subst e; rfl
              | cons p kvs ih =>
                intro ns e
                obtain ⟨k, w⟩ := p
                cases k with
                | inl i =>
                  simp only [List.map_cons, intsOf, Option.map_eq_some_iff] at e
                  obtain ⟨ms, e1, e2⟩ := e
                  subst e2
                  rw [List.map_cons, ih e1, List.map_cons]
                | inr x => simp [intsOf] at e
            subst e1
            refine .inr ⟨a, kv, ns, rfl, e2, by rw [e3]; exact ks q2, lz, fun ys p p1 p2 hp => ?_⟩
            rw [sortZ_of p1 p2]
            exact newL_ok h s vints hp
          · exact h.elim
        · exact h.elim
      · exact h.elim
  · exact h.elim
end
end Mi
namespace Mi
open PySem PySem.Spec PyProof.Rows L2
/-- one of two readings -/
def mAlt {α : Type} (m k : M α) : M α := fun env st => match m env st with
  | .stuck => k env st
  | r => r
section
variable {X : Cx} {T : Nat → Addr} {Wx : WX'} {pos : Pos}
theorem se_alt {e : Expr} {m k : M W} (h1 : SE X T Wx e m) (h2 : SE X T Wx e k) : SE X T Wx e (mAlt m k) := by
  intro ρ η st env σ H Q s er q
  unfold mAlt at q
  cases z : m env st with
  | ok w s1 => rw [z] at q; exact h1 ρ η st env σ H Q s er (by rw [z]; exact q)
  | ex x s1 => rw [z] at q; exact h1 ρ η st env σ H Q s er (by rw [z]; exact q)
  | stuck => rw [z] at q; exact h2 ρ η st env σ H Q s er q
/-! ### a method of a list -/
abbrev FM := W → List W → Sto → Rs W
def OkM (K : PySem.W.Frag) (T : Nat → Addr) (f : FM) (r : V → List V → Hp → VK → Prop) : Prop := ∀ ρ η st H o ws x vs Q E, SR K T ρ η st H → VR K ρ η H o x → VRs K ρ η H ws vs → After K T η (fun ρ H => VR K ρ η H) ρ H (f o ws st) Q E → r x vs H Q
def mLm (f : FM) (mo : M W) (ma : M (List W)) : M W := fun env st => (mo env st).bind fun o s1 => if (seqL s1 o).isSome = true then (ma env s1).bind fun ws s2 => f o ws s2 else .stuck
theorem se_lm {id : String} {name : Str} {o e : Expr} {es : List Expr} {mo : M W} {ma : M (List W)} {f : FM} {r : V → List V → Hp → VK → Prop} {apos : Pos} (slot : Slot "list" name id) (hty : typeOf (.builtin id) = pure (.type "method_descriptor")) (hm : MtR X id r) (hf : OkM X.K T f r)
    (ho : SE X T Wx o mo) (ha : SA X T Wx (e :: es) ma)
    (hbase : attributeBase o name X.env (eval o X.env) = eval o X.env := by rfl)
    (hfew : ((backTo pos (starEach (e :: es) X.env)).all (fun x => !x.1) && (backToKw pos (keywordEach [] X.env)).all (fun x => x.1.isSome)
      && decide ((e :: es).length + ([] : List Keyword).length + (if ([] : List Keyword).isEmpty then 0 else 1) < 30)) = true := by rfl)
    (hline : (apos.endLine == pos.line) = true := by rfl) (hs : starEach (e :: es) X.env = (false, eval e X.env) :: starEach es X.env := by rfl) (hplain : (backTo pos (starEach es X.env)).any (·.1) = false := by rfl) :
    SE X T Wx (.Call (.Attribute o name apos) (e :: es) [] pos) (mLm f mo ma) := by
  intro ρ η st env σ H Q s er q
  refine ⟨_, pe_bm PySem.F.plainAttrs_list slot hty hm pe_S pa_S hbase hfew hline hs hplain, ?_⟩
  refine ho ρ η st env σ H _ s er (q.bind fun w s1 ρ1 H1 v g1 sr1 r1 h1 => ?_)
  split at h1
  · rename_i z
    obtain ⟨xs, z⟩ := Option.isSome_iff_exists.mp z
    obtain ⟨a, vs, e1, e2, e3⟩ := seq_ok sr1 r1 z
    subst e1
    refine ⟨.inl ⟨rfl, vs, e2⟩, ?_⟩
    exact ha ρ1 η s1 env σ H1 _ sr1 (er.mono g1) (h1.bind fun ws s2 ρ2 H2 us g2 sr2 r2 h2 => hf ρ2 η s2 H2 w ws _ us Q _ sr2 (r1.mono g2) r2 h2)
  · exact h1.elim
theorem se_lm0 {id : String} {name : Str} {o : Expr} {mo : M W} {f : FM} {r : V → List V → Hp → VK → Prop} {apos : Pos} (slot : Slot "list" name id) (hty : typeOf (.builtin id) = pure (.type "method_descriptor")) (hm : MtR X id r) (hf : OkM X.K T f r)
    (ho : SE X T Wx o mo) (hbase : attributeBase o name X.env (eval o X.env) = eval o X.env := by rfl) (hline : (apos.endLine == pos.line) = true := by rfl) :
    SE X T Wx (.Call (.Attribute o name apos) [] [] pos) (mLm f mo mNil) := by
  intro ρ η st env σ H Q s er q
  refine ⟨_, pe_bm0 PySem.F.plainAttrs_list slot hty hm pe_S hbase hline, ?_⟩
  refine ho ρ η st env σ H _ s er (q.bind fun w s1 ρ1 H1 v g1 sr1 r1 h1 => ?_)
  split at h1
  · rename_i z
    obtain ⟨xs, z⟩ := Option.isSome_iff_exists.mp z
    obtain ⟨a, vs, e1, e2, e3⟩ := seq_ok sr1 r1 z
    subst e1
    exact ⟨.inl ⟨rfl, vs, e2⟩, hf ρ1 η s1 H1 w [] _ [] Q _ sr1 r1 VRs.nil h1⟩
  · exact h1.elim
end
/-- a place's list -/
def nodL (st : Sto) : W → Option (Nat × List W)
  | .ref i => match st[i]? with
    | some (.lst xs) => some (i, xs)
    | _ => none
  | _ => none
def nodD (st : Sto) : W → Option (Nat × List (Key × W))
  | .ref i => match st[i]? with
    | some (.dk xs) => some (i, xs)
    | _ => none
  | _ => none
def fAppend : FM := fun o ws st => match nodL st o, ws with
  | some (i, xs), [w] => if xs.length < sizeLine then .ok .non (st.set i (.lst (xs ++ [w]))) else .stuck
  | _, _ => .stuck
def fPop : FM := fun o ws st => match nodL st o, ws with
  | some (i, xs), [] => match xs[xs.length - 1]? with
    | some w => .ok w (st.set i (.lst xs.dropLast))
    | none => .stuck
  | _, _ => .stuck
def fPopAt : FM := fun o ws st => match nodL st o, ws with
  | some (i, xs), [.int j] => if j.natAbs < 2 ^ 63 then (match seqIndex? j xs.length with
    | some k => match xs[k]? with
      | some w => .ok w (st.set i (.lst (xs.eraseIdx k)))
      | none => .stuck
    | none => .stuck) else .stuck
  | _, _ => .stuck
def fExtend : FM := fun o ws st => match nodL st o, ws with
  | some (i, xs), [w] => match trkL st w with
    | some ys => if xs.length + ys.length ≤ sizeLine then .ok .non (st.set i (.lst (xs ++ ys))) else .stuck
    | none => .stuck
  | _, _ => .stuck
def fInsert : FM := fun o ws st => match nodL st o, ws with
  | some (i, xs), [.int j, w] => if xs.length < sizeLine ∧ 0 ≤ j ∧ j.natAbs < 2 ^ 63 then .ok .non (st.set i (.lst (xs.take j.toNat ++ [w] ++ xs.drop j.toNat))) else .stuck
  | _, _ => .stuck
def fCount : FM := fun o ws st => match seqL st o, ws with
  | some xs, [.int k] => match intsOf xs with
    | some ns => .ok (.int (ns.count k : Nat)) st
    | none => .stuck
  | _, _ => .stuck
section
variable {K : PySem.W.Frag} {T : Nat → Addr} {ρ η : List Addr} {H : Hp} {st : Sto}
theorem nodl_ok {w : W} {v : V} {i : Nat} {xs : List W} (s : SR K T ρ η st H) (h : VR K ρ η H w v) (e : nodL st w = some (i, xs)) : ∃ a vs, v = .ref a ∧ ρ[i]? = some a ∧ H a = some (.lst vs) ∧ VRs K ρ η H xs vs := by
  cases w with
  | ref j =>
    simp only [nodL] at e
    split at e
    · rename_i ys q
      cases e
      obtain ⟨a, h1, h0, vs, h2, h3⟩ := node_at s h q
      exact ⟨a, vs, h1, h0, h2, h3⟩
    · cases e
  | _ => simp [nodL] at e
theorem nodd_ok {w : W} {v : V} {i : Nat} {xs : List (Key × W)} (s : SR K T ρ η st H) (h : VR K ρ η H w v) (e : nodD st w = some (i, xs)) : ∃ a kv, v = .ref a ∧ ρ[i]? = some a ∧ H a = some (.dK kv) ∧ KVs K ρ η H xs kv := by
  cases w with
  | ref j =>
    simp only [nodD] at e
    split at e
    · rename_i ys q
      cases e
      obtain ⟨a, h1, h0, vs, h2, h3, h4⟩ := node_at s h q
      exact ⟨a, vs, h1, h0, h2, h3, h4⟩
    · cases e
  | _ => simp [nodD] at e
/-- a place's list becomes another one -/
theorem lst_put {i : Nat} {a : Addr} {vs us : List V} {ys : List W} {w : W} {v : V} {Q : V → Hp → Prop} {E : Value → Option Addr → Hp → Prop} (s : SR K T ρ η st H) (q : ρ[i]? = some a) (e : H a = some (.lst vs)) (r : VRs K ρ η H ys us) (rw : VR K ρ η H w v)
    (h : After K T η (fun ρ H => VR K ρ η H) ρ H (.ok w (st.set i (.lst ys))) Q E) : Q v (upd H a (.lst us)) := by
  have op : Open H a := open_of e fun _ _ z => nomatch z
  have g : Grow ρ H ρ (upd H a (.lst us)) := Grow.write (List.mem_of_getElem? q) op
  exact h ρ _ v g (s.write op q ⟨us, upd_same, r.mono g⟩) (rw.mono g)
theorem dk_put {i : Nat} {a : Addr} {kv kw : List (Key × V)} {ys : List (Key × W)} {w : W} {v : V} {Q : V → Hp → Prop} {E : Value → Option Addr → Hp → Prop} (s : SR K T ρ η st H) (q : ρ[i]? = some a) (e : H a = some (.dK kv)) (r : KVs K ρ η H ys kw) (rw : VR K ρ η H w v)
    (h : After K T η (fun ρ H => VR K ρ η H) ρ H (.ok w (st.set i (.dk ys))) Q E) : Q v (upd H a (.dK kw)) := by
  have op : Open H a := open_of e fun _ _ z => nomatch z
  have g : Grow ρ H ρ (upd H a (.dK kw)) := Grow.write (List.mem_of_getElem? q) op
  have r' := r.mono g
  exact h ρ _ v g (s.write op q ⟨kw, upd_same, r'.1, r'.2⟩) (rw.mono g)
theorem vr_non : VR K ρ η H .non .non := by simp only [VR]
theorem VRs.dropLast {xs : List W} {vs : List V} (h : VRs K ρ η H xs vs) : VRs K ρ η H xs.dropLast vs.dropLast := by
  rw [List.dropLast_eq_take, List.dropLast_eq_take, h.len]
  exact h.take _
theorem okm_append : OkM K T fAppend rAppend := by
  intro ρ η st H o ws x vs Q E s ro r h
  unfold fAppend at h
  split at h
  · rename_i i xs w q
    obtain ⟨a, us, e1, e2, e3, e4⟩ := nodl_ok s ro q
    obtain ⟨v, e5, r1⟩ := vrs1 r
    split at h
    · rename_i lz
      exact ⟨a, us, v, e1, e5, e3, by rw [e4.len]; exact lz, lst_put s e2 e3 (e4.append (VRs.cons r1 VRs.nil)) vr_non h⟩
    · exact h.elim
  · exact h.elim
theorem okm_pop : OkM K T fPop rPop := by
  intro ρ η st H o ws x vs Q E s ro r h
  unfold fPop at h
  split at h
  · rename_i i xs q
    obtain ⟨a, us, e1, e2, e3, e4⟩ := nodl_ok s ro q
    simp only [VRs] at r
    split at h
    · rename_i w q2
      obtain ⟨v, e5, e6⟩ := e4.get q2
      exact ⟨a, us, v, e1, r, e3, by rw [e4.len]; exact e5, lst_put s e2 e3 e4.dropLast e6 h⟩
    · exact h.elim
  · exact h.elim
theorem okm_popAt : OkM K T fPopAt rPopAt := by
  intro ρ η st H o ws x vs Q E s ro r h
  unfold fPopAt at h
  split at h
  · rename_i i xs j q
    obtain ⟨a, us, e1, e2, e3, e4⟩ := nodl_ok s ro q
    obtain ⟨v, e5, r1⟩ := vrs1 r
    simp only [VR] at r1
    subst r1
    split at h
    · rename_i z
      split at h
      · rename_i k q2
        split at h
        · rename_i w q3
          obtain ⟨y, e6, e7⟩ := e4.get q3
          exact ⟨a, us, j, k, y, e1, e5, e3, by omega, by omega, by rw [e4.len]; exact q2, e6, lst_put s e2 e3 (e4.eraseIdx k) e7 h⟩
        · exact h.elim
      · exact h.elim
    · exact h.elim
  · exact h.elim
theorem okm_insert : OkM K T fInsert (fun x vs H Q => ∃ l xs i y, x = V.ref l ∧ vs = [V.int i, y] ∧ H l = some (.lst xs) ∧ xs.length < sizeLine ∧ 0 ≤ i ∧ i < 2 ^ 63 ∧ Q V.non (upd H l (.lst (List.take i.toNat xs ++ [y] ++ List.drop i.toNat xs)))) := by
  intro ρ η st H o ws x vs Q E s ro r h
  unfold fInsert at h
  split at h
  · rename_i i xs j w q
    obtain ⟨a, us, e1, e2, e3, e4⟩ := nodl_ok s ro q
    obtain ⟨v, z, e5, r1, r2⟩ := vrs2 r
    simp only [VR] at r1
    subst r1
    split at h
    · rename_i lz
      exact ⟨a, us, j, z, e1, e5, e3, by rw [e4.len]; exact lz.1, lz.2.1, by omega, lst_put s e2 e3 (((e4.take _).append (VRs.cons r2 VRs.nil)).append (e4.drop _)) vr_non h⟩
    · exact h.elim
  · exact h.elim
theorem okm_count : OkM K T fCount (rCntI K) := by
  intro ρ η st H o ws x vs Q E s ro r h
  unfold fCount at h
  split at h
  · rename_i xs k q
    obtain ⟨a, us, e1, e2, e3⟩ := seq_ok s ro q
    obtain ⟨v, e5, r1⟩ := vrs1 r
    simp only [VR] at r1
    subst r1
    split at h
    · rename_i ns q2
      have := ints_ok e3 q2
      subst us
      exact ⟨a, ns, k, e1, e5, e2, h.ok s (by simp only [VR])⟩
    · exact h.elim
  · exact h.elim
end
/-! ### dicts -/
def mDget2 (mo mk md : M W) : M W := fun env st => (mo env st).bind fun o s1 => if (dkOf s1 o).isSome = true then (mk env s1).bind fun k s2 => (md env s2).bind fun d s3 => match dkOf s3 o, keyOf k with
    | some kvs, some k => .ok ((lkW kvs k).getD d) s3
    | _, _ => .stuck else .stuck
def mDset2 (mo mk md : M W) : M W := fun env st => (mo env st).bind fun o s1 => if (dkOf s1 o).isSome = true then (mk env s1).bind fun k s2 => (md env s2).bind fun d s3 => match nodD s3 o, keyOf k with
    | some (i, kvs), some k => if kvs.length < sizeLine then (match lkW kvs k with
      | some w => .ok w s3
      | none => .ok d (s3.set i (.dk (putKW kvs k d)))) else .stuck
    | _, _ => .stuck else .stuck
def mDin (neg : Bool) (mk mo : M W) : M W := fun env st => (mk env st).bind fun k s1 => (mo env s1).bind fun o s2 => match dkOf s2 o, keyOf k with
  | some kvs, some k => .ok (.bl (if neg = true then !(lkW kvs k).isSome else (lkW kvs k).isSome)) s2
  | _, _ => .stuck
def sDel (mo mk : M W) : MS := fun env st => (mo env st).to env fun o s1 => (mk env s1).to env fun k s2 => match nodD s2 o, keyOf k with
  | some (i, kvs), some k => if (lkW kvs k).isSome = true then .nx env (s2.set i (.dk (dropKW kvs k))) else .stuck
  | _, _ => .stuck
section
variable {X : Cx} {T : Nat → Addr} {Wx : WX'} {pos apos : Pos}
theorem m2_of {o e f : Expr} {m : Str} {cpos : Pos} (h1 : attributeBase o m X.env (eval o X.env) = eval o X.env := by rfl) (h2 : ((backTo cpos (starEach [e, f] X.env)).all (fun x => !x.1) && (backToKw cpos (keywordEach [] X.env)).all (fun x => x.1.isSome)
    && decide (([e, f] : List Expr).length + ([] : List Keyword).length + (if ([] : List Keyword).isEmpty then 0 else 1) < 30)) = true := by rfl) (h3 : (apos.endLine == cpos.line) = true := by rfl) (h4 : backTo cpos (starEach [e, f] X.env) = [(false, eval e X.env), (false, eval f X.env)] := by rfl) : M2 X o m apos e f cpos := ⟨h1, h2, h3, h4⟩
theorem se_dget2 {o e f : Expr} {mo mk md : M W} (hu : X.A.units + 1 < cLine) (ho : SE X T Wx o mo) (he : SE X T Wx e mk) (hf : SE X T Wx f md) (m : M2 X o "get" apos e f pos) : SE X T Wx (.Call (.Attribute o "get" apos) [e, f] [] pos) (mDget2 mo mk md) := by
  intro ρ η st env σ H Q s er q
  refine ⟨_, pe_dget2 hu pe_S pe_S pe_S m, ?_⟩
  refine ho ρ η st env σ H _ s er (q.bind fun w s1 ρ1 H1 v g1 sr1 r1 h1 => ?_)
  split at h1
  · rename_i z
    obtain ⟨kvs, z⟩ := Option.isSome_iff_exists.mp z
    obtain ⟨a, kv, e1, e2, _⟩ := dk_ok sr1 r1 z
    refine ⟨a, e1, .inl ⟨kv, e2⟩, ?_⟩
    refine he ρ1 η s1 env σ H1 _ sr1 (er.mono g1) (h1.bind fun k s2 ρ2 H2 kv' g2 sr2 r2 h2 => ?_)
    refine hf ρ2 η s2 env σ H2 _ sr2 ((er.mono g1).mono g2) (h2.bind fun d s3 ρ3 H3 dv g3 sr3 r3 h3 => ?_)
    split at h3
    · rename_i ks k q1 q2
      obtain ⟨a', kw, f1, f2, f3, f4⟩ := dk_ok sr3 (r1.mono (g2.trans g3)) q1
      rw [e1] at f1
      cases f1
      rcases kv_find (k := k) f3 f4 with ⟨z1, z2⟩ | ⟨y, u, z1, z2, z3⟩
      · rw [z1] at h3
        exact ⟨none, .inl ⟨kw, k, f2, key_ok (r2.mono g3) q2, z2.symm⟩, h3.ok sr3 r3⟩
      · rw [z1] at h3
        exact ⟨some u, .inl ⟨kw, k, f2, key_ok (r2.mono g3) q2, z2.symm⟩, h3.ok sr3 z3⟩
    · exact h3.elim
  · exact h1.elim
theorem se_dset2 {o e f : Expr} {mo mk md : M W} (ho : SE X T Wx o mo) (he : SE X T Wx e mk) (hf : SE X T Wx f md) (m : M2 X o "setdefault" apos e f pos) : SE X T Wx (.Call (.Attribute o "setdefault" apos) [e, f] [] pos) (mDset2 mo mk md) := by
  intro ρ η st env σ H Q s er q
  refine ⟨_, pe_dsetd pe_S pe_S pe_S m, ?_⟩
  refine ho ρ η st env σ H _ s er (q.bind fun w s1 ρ1 H1 v g1 sr1 r1 h1 => ?_)
  split at h1
  · rename_i z
    obtain ⟨kvs, z⟩ := Option.isSome_iff_exists.mp z
    obtain ⟨a, kv, e1, e2, _⟩ := dk_ok sr1 r1 z
    refine ⟨a, e1, .inl ⟨kv, e2⟩, ?_⟩
    refine he ρ1 η s1 env σ H1 _ sr1 (er.mono g1) (h1.bind fun k s2 ρ2 H2 kv' g2 sr2 r2 h2 => ?_)
    refine hf ρ2 η s2 env σ H2 _ sr2 ((er.mono g1).mono g2) (h2.bind fun d s3 ρ3 H3 dv g3 sr3 r3 h3 => ?_)
    split at h3
    · rename_i i ks k q1 q2
      obtain ⟨a', kw, f1, f2, f3, f4⟩ := nodd_ok sr3 (r1.mono (g2.trans g3)) q1
      rw [e1] at f1
      cases f1
      split at h3
      · rename_i lz
        refine ⟨kw, k, f3, key_ok (r2.mono g3) q2, by rw [f4.len]; exact lz, fun u z2 => ?_, fun z2 => ?_⟩
        · rcases kv_find (k := k) f4.1 f4.2 with ⟨y1, y2⟩ | ⟨y, u', y1, y2, y3⟩
          · rw [y2] at z2; cases z2
          · rw [y2] at z2
            cases z2
            rw [y1] at h3
            exact h3.ok sr3 y3
        · rcases kv_find (k := k) f4.1 f4.2 with ⟨y1, y2⟩ | ⟨y, u', y1, y2, y3⟩
          · rw [y1] at h3
            exact dk_put sr3 f2 f3 (f4.put r3) r3 h3
          · rw [y2] at z2; cases z2
      · exact h3.elim
    · exact h3.elim
  · exact h1.elim
theorem din_ok {ρ η : List Addr} {H : Hp} {st : Sto} {neg : Bool} {k o : W} {kv ov : V} {Q : V → Hp → Prop} {E : Value → Option Addr → Hp → Prop} (s : SR X.K T ρ η st H) (rk : VR X.K ρ η H k kv) (ro : VR X.K ρ η H o ov)
    (h : After X.K T η (fun ρ H => VR X.K ρ η H) ρ H (match dkOf st o, keyOf k with
      | some kvs, some k => .ok (.bl (if neg = true then !(lkW kvs k).isSome else (lkW kvs k).isSome)) st
      | _, _ => .stuck) Q E) : ∃ a o, ov = .ref a ∧ DGet H a kv o ∧ Q (.bl (if neg = true then !o.isSome else o.isSome)) H := by
  split at h
  · rename_i ks k q1 q2
    obtain ⟨a, kw, f1, f2, f3, f4⟩ := dk_ok s ro q1
    rcases kv_find (k := k) f3 f4 with ⟨z1, z2⟩ | ⟨y, u, z1, z2, z3⟩
    · rw [z1] at h
      exact ⟨a, none, f1, .inl ⟨kw, k, f2, key_ok rk q2, z2.symm⟩, h.ok s (by simp only [VR]; cases neg <;> rfl)⟩
    · rw [z1] at h
      exact ⟨a, some u, f1, .inl ⟨kw, k, f2, key_ok rk q2, z2.symm⟩, h.ok s (by simp only [VR]; cases neg <;> rfl)⟩
  · exact h.elim
theorem se_din {i o : Expr} {mi mo : M W} (hu : X.A.units + 1 < cLine) (hi : SE X T Wx i mi) (ho : SE X T Wx o mo) (h1 : behindInMarks .In o = false := by rfl) : SE X T Wx (.Compare i [.In] [o] pos) (mDin false mi mo) := by
  intro ρ η st env σ H Q s er q
  refine ⟨_, pe_cmp (pc_din hu pe_S pe_S) h1, ?_⟩
  refine hi ρ η st env σ H _ s er (q.bind fun k s1 ρ1 H1 v g1 sr1 r1 h1 => ?_)
  refine ho ρ1 η s1 env σ H1 _ sr1 (er.mono g1) (h1.bind fun w s2 ρ2 H2 u g2 sr2 r2 h2 => ?_)
  exact din_ok (neg := false) sr2 (r1.mono g2) r2 h2
theorem se_dnin {i o : Expr} {mi mo : M W} (hu : X.A.units + 1 < cLine) (hi : SE X T Wx i mi) (ho : SE X T Wx o mo) (h1 : behindInMarks .NotIn o = false := by rfl) : SE X T Wx (.Compare i [.NotIn] [o] pos) (mDin true mi mo) := by
  intro ρ η st env σ H Q s er q
  refine ⟨_, pe_cmp (pc_dnotin hu pe_S pe_S) h1, ?_⟩
  refine hi ρ η st env σ H _ s er (q.bind fun k s1 ρ1 H1 v g1 sr1 r1 h1 => ?_)
  refine ho ρ1 η s1 env σ H1 _ sr1 (er.mono g1) (h1.bind fun w s2 ρ2 H2 u g2 sr2 r2 h2 => ?_)
  exact din_ok (neg := true) sr2 (r1.mono g2) r2 h2
/-- .. as tests -/
theorem st_din {i o : Expr} {mi mo : M W} (hu : X.A.units + 1 < cLine) (hi : SE X T Wx i mi) (ho : SE X T Wx o mo) (h1 : behindInMarks .In o = false := by rfl) : STt X T Wx (.Compare i [.In] [o] pos) (mB (mDin false mi mo)) := by
  intro ρ η st env σ H Q s er q
  refine ⟨_, pt_cmp (pc_din hu pe_S pe_S) h1, ?_⟩
  unfold mB mDin at q
  rw [Rs.bind_assoc] at q
  refine hi ρ η st env σ H _ s er (q.bind fun k s1 ρ1 H1 v g1 sr1 r1 h1 => ?_)
  rw [Rs.bind_assoc] at h1
  refine ho ρ1 η s1 env σ H1 _ sr1 (er.mono g1) (h1.bind fun w s2 ρ2 H2 u g2 sr2 r2 h2 => ?_)
  have := din_ok (X := X) (T := T) (neg := false) (Q := fun v H => ∃ c, v = .bl c ∧ Q c H) (E := fun c d H' => Wx c d σ H') sr2 (r1.mono g2) r2 (h2.bind fun z s3 ρ3 H3 v3 g3 sr3 r3 h3 => toB_ok sr3 r3 h3)
  exact this
theorem st_dnin {i o : Expr} {mi mo : M W} (hu : X.A.units + 1 < cLine) (hi : SE X T Wx i mi) (ho : SE X T Wx o mo) (h1 : behindInMarks .NotIn o = false := by rfl) : STt X T Wx (.Compare i [.NotIn] [o] pos) (mB (mDin true mi mo)) := by
  intro ρ η st env σ H Q s er q
  refine ⟨_, pt_cmp (pc_dnotin hu pe_S pe_S) h1, ?_⟩
  unfold mB mDin at q
  rw [Rs.bind_assoc] at q
  refine hi ρ η st env σ H _ s er (q.bind fun k s1 ρ1 H1 v g1 sr1 r1 h1 => ?_)
  rw [Rs.bind_assoc] at h1
  refine ho ρ1 η s1 env σ H1 _ sr1 (er.mono g1) (h1.bind fun w s2 ρ2 H2 u g2 sr2 r2 h2 => ?_)
  have := din_ok (X := X) (T := T) (neg := true) (Q := fun v H => ∃ c, v = .bl c ∧ Q c H) (E := fun c d H' => Wx c d σ H') sr2 (r1.mono g2) r2 (h2.bind fun z s3 ρ3 H3 v3 g3 sr3 r3 h3 => toB_ok sr3 r3 h3)
  exact this
theorem ss_del {o i : Expr} {mo mi : M W} {tpos : Pos} (ho : SE X T Wx o mo) (hi : SE X T Wx i mi) : SSt X T Wx (.Delete [.Subscript o i tpos] pos) (sDel mo mi) := by
  intro ρ η st env σ H D s er q
  refine ⟨_, ps_ddel pe_S pe_S, ?_⟩
  refine ho ρ η st env σ H _ s er (q.bind er fun w s1 ρ1 H1 v _ g1 sr1 r1 h1 => ?_)
  refine hi ρ1 η s1 env σ H1 _ sr1 (er.mono g1) (h1.bind (er.mono g1) fun k s2 ρ2 H2 kv _ g2 sr2 r2 h2 => ?_)
  split at h2
  · rename_i i ks k q1 q2
    obtain ⟨a, kw, f1, f2, f3, f4⟩ := nodd_ok sr2 (r1.mono g2) q1
    split at h2
    · rename_i z
      have z' : (valV kw k).isSome = true := by
        rcases kv_find (k := k) f4.1 f4.2 with ⟨y1, y2⟩ | ⟨y, u', y1, y2, y3⟩
        · rw [y1] at z; cases z
        · rw [y2]; rfl
      refine ⟨a, kw, k, f1, f3, key_ok r2 q2, z', ?_⟩
      have op : Open H2 a := open_of f3 fun _ _ z => nomatch z
      have g : Grow ρ2 H2 ρ2 (upd H2 a (.dK (dropK kw k))) := Grow.write (List.mem_of_getElem? f2) op
      have r' := (f4.drop (k := k)).mono g
      exact h2 ρ2 _ σ g (sr2.write op f2 ⟨_, upd_same, r'.1, r'.2⟩) (((er.mono g1).mono g2).mono g)
    · exact h2.elim
  · exact h2.elim
/-! ### op= -/
theorem ss_aug {i : Nat} {x : Str} {e : Expr} {op : Operator} {m : M W} {f : Int → Int → Int} {pos' : Pos} (hN : X.N.Nodup) (hi : X.N[i]? = some x) (hx : Loc X.env.scope x) (he : SE X T Wx e m) (ho : PIp X op (ipI f)) (hf : X.fn x = true ∨ X.env.scope.names.lookup x = some .local := by first | exact .inl rfl | exact .inr rfl) :
    SSt X T Wx (.AugAssign (.Name x pos') op e pos) (sAug i (fun a b st => match a, b with | .int p, .int q => .ok (.int (f p q)) st | _, _ => .stuck) m) := by
  intro ρ η st env σ H D s er q
  refine ⟨_, ps_aug hN hi hx pe_S ho hf, ?_⟩
  unfold sAug at q
  split at q
  · rename_i w e1
    obtain ⟨v, e2, r⟩ := er.2 i w e1
    refine ⟨v, e2, ?_⟩
    refine he ρ η st env σ H _ s er (q.bind er fun u s1 ρ1 H1 uv _ g1 sr1 r1 h1 => ?_)
    have r0 := r.mono g1
    cases w <;> cases u <;> first | exact h1.elim | skip
    simp only [VR] at r0 r1
    refine ⟨_, _, r0, r1, ?_⟩
    exact h1 ρ1 H1 _ Grow.refl sr1 ((er.mono g1).set (by simp only [VR]))
  · exact q.elim
/-- o.f op= e -/
def sFaug (cs : List Nat) (f : Str) (g : Int → Int → Int) (mo m : M W) : MS := fun env st => (mo env st).to env fun o s1 => match o with
  | .ref i => match s1[i]? with
    | some (.ins c fs) => if cs.contains c then (match fs.lookup f with
      | some (.int a) => (m env s1).to env fun v s2 => match v with
        | .int b => match wSetF [c] f o (.int (g a b)) s2 with
          | some s3 => .nx env s3
          | none => .stuck
        | _ => .stuck
      | _ => .stuck) else .stuck
    | _ => .stuck
  | _ => .stuck
theorem ss_faug {cs : List Nat} {f : Str} {o e : Expr} {mo m : M W} {op : Operator} {g : Int → Int → Int} {rd : V → V → Hp → VK → Prop} {tpos : Pos} (ho : SE X T Wx o mo) (he : SE X T Wx e m) (hop : InOp X op rd) (hrd : ∀ i j H Q, Q (.int (g i j)) H → rd (.int i) (.int j) H Q) (hc : ∀ c ∈ cs, Cls X.K (T c) ∧ NoAttr X.K (T c) f) :
    SSt X T Wx (.AugAssign (.Attribute o f tpos) op e pos) (sFaug cs f g mo m) := by
  intro ρ η st env σ H D s er q
  refine ⟨_, ps_fldaug pe_S pe_S hop, ?_⟩
  refine ho ρ η st env σ H _ s er (q.bind er fun w s1 ρ1 H1 v _ g1 sr1 r1 h1 => ?_)
  split at h1
  · rename_i i
    split at h1
    · rename_i c fs e1
      split at h1
      · rename_i z
        split at h1
        · rename_i a e2
          obtain ⟨p, f1, _, dx, fv, f2, f3, f4⟩ := node_at sr1 r1 e1
          obtain ⟨u, f5, f6⟩ := fv_find f3 f4 e2
          obtain ⟨k1, k2⟩ := hc c (by simpa using z)
          refine ⟨p, T c, dx, fv, u, f1, f2, k1, k2, f5, ?_⟩
          refine he ρ1 η s1 env σ H1 _ sr1 (er.mono g1) (h1.bind (er.mono g1) fun b s2 ρ2 H2 bv _ g2 sr2 r2 h2 => ?_)
          split at h2
          · rename_i b _
            simp only [VR] at f6 r2
            subst f6; subst r2
            refine hrd _ _ _ _ ?_
            split at h2
            · rename_i s3 e3
              obtain ⟨p', c', dx', fs', y1, y2, y3, y4, y5, y6⟩ := wsetf_ok (vv := .int (g a b)) sr2 (r1.mono g2) (by simp only [VR]) e3
              rw [f1] at y1
              cases y1
              have : c' = c := by simpa using y3
              subst this
              exact ⟨dx', fs', y2, y4, h2 ρ2 _ σ y5 y6 (((er.mono g1).mono g2).mono y5)⟩
            · exact h2.elim
          · exact h2.elim
        · exact h1.elim
      · exact h1.elim
    · exact h1.elim
  · exact h1.elim
end
end Mi
namespace Mi
open PySem PySem.Spec PyProof.Rows L2
/-! ### a dict that is walked -/
def keyW : Key → W
  | .inl i => .int i
  | .inr x => .str x
def unlk (n : Nat) (st : Sto) : Option Sto := match st[n]? with
  | some (.lk ks) => some (st.set n (.dk ks))
  | _ => none
def unlkS (n : Nat) (r : SRs) : SRs := match r with
  | .nx env st => match unlk n st with
    | some s => .nx env s
    | none => .stuck
  | .bk env st => match unlk n st with
    | some s => .bk env s
    | none => .stuck
  | .ct env st => match unlk n st with
    | some s => .ct env s
    | none => .stuck
  | .rt w st => match unlk n st with
    | some s => .rt w s
    | none => .stuck
  | _ => .stuck
def sLock (m : M W) (k : MS) : MS := fun env st => match m env st with
  | .ok o _ => match nodD st o with
    | some (n, kvs) => unlkS n (k env (st.set n (.lk kvs)))
    | none => .stuck
  | _ => .stuck
def mLock (m : M W) (k : M W) : M W := fun env st => match m env st with
  | .ok o _ => match nodD st o with
    | some (n, kvs) => match k env (st.set n (.lk kvs)) with
      | .ok w s => match unlk n s with
        | some s2 => .ok w s2
        | none => .stuck
      | _ => .stuck
    | none => .stuck
  | _ => .stuck
def lkOf (st : Sto) : W → Option (Nat × List (Key × W))
  | .ref n => match st[n]? with
    | some (.lk ks) => some (n, ks)
    | _ => none
  | _ => none
def iK (m : M W) : MI := fun env st => (m env st).bind fun w s => match lkOf s w with
  | some (_, ks) => .ok (fixS (ks.map fun p => keyW p.1)) s
  | none => .stuck
def iKv (m : M W) : MI := fun env st => (m env st).bind fun w s => match lkOf s w with
  | some (_, ks) => .ok (fixS (ks.map fun p => .tup [keyW p.1, p.2])) s
  | none => .stuck
def iVs (m : M W) : MI := fun env st => (m env st).bind fun w s => match lkOf s w with
  | some (_, ks) => .ok (fixS (ks.map fun p => p.2)) s
  | none => .stuck
section
variable {K : PySem.W.Frag} {T : Nat → Addr} {ρ ρ' η : List Addr} {H H' : Hp} {st st' : Sto}
theorem nodd_get {st : Sto} {o : W} {n : Nat} {kvs : List (Key × W)} (e : nodD st o = some (n, kvs)) : st[n]? = some (.dk kvs) := by
  unfold nodD at e
  split at e
  · split at e
    · cases e
      assumption
    · cases e
  · cases e
/-- the place n is locked -/
theorem lock_in {n : Nat} {kvs : List (Key × W)} (s : SR K T ρ η st H) (e : st[n]? = some (.dk kvs)) :
    ∃ (d : Addr) (kv : List (Key × V)), ρ[n]? = some d ∧ H d = some (.dK kv) ∧ KVs K ρ η H kvs kv ∧ ∀ od, Grow ρ H ρ (upd H d (.frz od (.dK kv))) ∧ SR K T ρ η (st.set n (.lk kvs)) (upd H d (.frz od (.dK kv))) := by
  have hn : n < ρ.length := by rw [s.len]; exact (List.getElem?_eq_some_iff.mp e).1
  have hd : ρ[n]? = some ρ[n] := List.getElem?_eq_getElem hn
  obtain ⟨kv, e2, e3, e4⟩ := s.at_ n _ _ e hd
  refine ⟨ρ[n], kv, hd, e2, ⟨e3, e4⟩, fun od => ?_⟩
  have op : Open H ρ[n] := open_of e2 fun _ _ z => nomatch z
  have g : Grow ρ H ρ (upd H ρ[n] (.frz od (.dK kv))) := Grow.write (List.mem_of_getElem? hd) op
  exact ⟨g, s.write op hd ⟨od, kv, upd_same, e3, e4.mono g⟩⟩
/-- .. and let go again -/
theorem lock_out {n : Nat} {d : Addr} {od : Obj} {kv : List (Key × V)} {s2 : Sto} (hd : ρ[n]? = some d) (e0 : H d = some (.dK kv)) (g : Grow ρ (upd H d (.frz od (.dK kv))) ρ' H') (s : SR K T ρ' η st' H') (e : unlk n st' = some s2) :
    H' d = some (.frz od (.dK kv)) ∧ Grow ρ H ρ' (upd H' d (.dK kv)) ∧ SR K T ρ' η s2 (upd H' d (.dK kv)) ∧ ∀ w v, VR K ρ' η H' w v → VR K ρ' η (upd H' d (.dK kv)) w v := by
  have f : H' d = some (.frz od (.dK kv)) := g.frz d od _ upd_same
  have hd' : ρ'[n]? = some d := g.at hd
  have md : d ∈ ρ' := List.mem_of_getElem? hd'
  unfold unlk at e
  split at e
  · rename_i ks q
    cases e
    -- what stands elsewhere
    have keepV : ∀ {w : W} {v : V}, VR K ρ' η H' w v → VR K ρ' η (upd H' d (.dK kv)) w v := by
      have gx : ∀ a o, a ∉ ρ' → H' a = some o → (upd H' d (.dK kv)) a = some o := fun a o na h => by rw [upd_ne (fun z => na (by rw [z]; exact md))]; exact h
      have tp : ∀ {a vs}, TupAt K ρ' η H' a vs → TupAt K ρ' η (upd H' d (.dK kv)) a vs := fun {a vs} h => by
        rcases h with ⟨h1, h2, h3⟩ | h
        · refine .inl ⟨h1, h2, ?_⟩
          rcases h3 with h3 | ⟨o, h3⟩
          · exact .inl (gx _ _ h1 h3)
          · exact .inr ⟨o, gx _ _ h1 h3⟩
        · exact .inr h
      have lp : ∀ {a vs}, LstAt K ρ' η H' a vs → LstAt K ρ' η (upd H' d (.dK kv)) a vs := fun {a vs} h => by
        rcases h with ⟨h1, h2, h3⟩ | h
        · refine .inl ⟨h1, h2, ?_⟩
          rcases h3 with h3 | ⟨o, h3⟩
          · exact .inl (gx _ _ h1 h3)
          · exact .inr ⟨o, gx _ _ h1 h3⟩
        · exact .inr h
      intro w v h
      -- by what the value is made of
      have both : ∀ k, (∀ w v, sizeOf w ≤ k → VR K ρ' η H' w v → VR K ρ' η (upd H' d (.dK kv)) w v) ∧ (∀ (ws : List W) vs, sizeOf ws ≤ k → VRs K ρ' η H' ws vs → VRs K ρ' η (upd H' d (.dK kv)) ws vs) := by
        intro k
        induction k with
        | zero =>
          refine ⟨fun w v z _ => ?_, fun ws vs z _ => ?_⟩
          · cases w <;> simp at z <;> omega
          · cases ws <;> simp at z <;> omega
        | succ k ih =>
          refine ⟨fun w v z h => ?_, fun ws vs z h => ?_⟩
          · cases w with
            | tup xs =>
              simp only [VR] at h ⊢
              obtain ⟨a, us, e1, e2, e3⟩ := h
              exact ⟨a, us, e1, tp e2, ih.2 xs us (by simp at z; omega) e3⟩
            | lst xs =>
              simp only [VR] at h ⊢
              obtain ⟨a, us, e1, ⟨t1, t2, t3⟩, e3⟩ := h
              exact ⟨a, us, e1, ⟨t1, t2, gx _ _ t1 t3⟩, ih.2 xs us (by simp at z; omega) e3⟩
            | scr xs =>
              simp only [VR] at h ⊢
              obtain ⟨a, us, e1, e2, e3⟩ := h
              exact ⟨a, us, e1, lp e2, ih.2 xs us (by simp at z; omega) e3⟩
            | _ => simpa only [VR] using h
          · cases ws with
            | nil => simpa only [VRs] using h
            | cons x xs =>
              simp only [VRs] at h ⊢
              obtain ⟨a, us, e1, e2, e3⟩ := h
              exact ⟨a, us, e1, ih.1 x a (by simp at z; omega) e2, ih.2 xs us (by simp at z; omega) e3⟩
      exact (both (sizeOf w)).1 w v (Nat.le_refl _) h
    have keepVs : ∀ {ws : List W} {vs : List V}, VRs K ρ' η H' ws vs → VRs K ρ' η (upd H' d (.dK kv)) ws vs := by
      intro ws
      induction ws with
      | nil => intro vs h; simpa only [VRs] using h
      | cons x xs ih =>
        intro vs h
        simp only [VRs] at h ⊢
        obtain ⟨a, us, e1, e2, e3⟩ := h
        exact ⟨a, us, e1, keepV e2, ih e3⟩
    refine ⟨f, ⟨?_, fun a o na h => ?_, fun a o h => ?_, fun a o u h => ?_⟩, ⟨s.nd, by simp [s.len], s.hid, fun a ha => ?_, fun i m a e1 e2 => ?_⟩, fun w v h => keepV h⟩
    · obtain ⟨t, e, ht⟩ := g.pre
      refine ⟨t, e, fun a ha => ?_⟩
      have z := ht a ha
      by_cases q : a = d
      · rw [q, upd_same] at z; cases z
      · rw [upd_ne q] at z; exact z
    · have ne : a ≠ d := fun z => na (by rw [z]; exact List.mem_of_getElem? hd)
      rw [upd_ne ne]
      exact g.same a o na (by rw [upd_ne ne]; exact h)
    · by_cases ne : a = d
      · exact ⟨_, by rw [ne, upd_same]⟩
      · obtain ⟨o', k⟩ := g.all a o (by rw [upd_ne ne]; exact h)
        exact ⟨o', by rw [upd_ne ne]; exact k⟩
    · have ne : a ≠ d := fun z => by rw [z, e0] at h; cases h
      rw [upd_ne ne]
      exact g.frz a o u (by rw [upd_ne ne]; exact h)
    · by_cases ne : a = d
      · exact ⟨_, by rw [ne, upd_same]⟩
      · obtain ⟨o', k⟩ := s.has a ha
        exact ⟨o', by rw [upd_ne ne]; exact k⟩
    · rw [List.getElem?_set] at e1
      split at e1
      · rename_i z
        subst z
        rw [hd'] at e2
        cases e2
        split at e1
        · cases e1
          obtain ⟨od', kv', k1, k2, k3⟩ := s.at_ n _ _ q hd'
          rw [f] at k1
          cases k1
          exact ⟨kv, upd_same, k2, keepVs k3⟩
        · cases e1
      · rename_i z
        have ne : a ≠ d := by
          rintro rfl
          obtain ⟨b1, c1⟩ := List.getElem?_eq_some_iff.mp hd'
          obtain ⟨b2, c2⟩ := List.getElem?_eq_some_iff.mp e2
          exact z ((List.getElem_inj s.nd).mp (c1.trans c2.symm))
        have k := s.at_ i m a e1 e2
        cases m with
        | lst xs => obtain ⟨vs, z, r⟩ := k; exact ⟨vs, by rw [upd_ne ne]; exact z, keepVs r⟩
        | dk kvs => obtain ⟨kv', z, q, r⟩ := k; exact ⟨kv', by rw [upd_ne ne]; exact z, q, keepVs r⟩
        | lk kvs => obtain ⟨od', kv', z, q, r⟩ := k; exact ⟨od', kv', by rw [upd_ne ne]; exact z, q, keepVs r⟩
        | ins c fs => obtain ⟨dx, fv, z, q, r⟩ := k; exact ⟨dx, fv, by rw [upd_ne ne]; exact z, q, keepVs r⟩
  · cases e
end
section
variable {X : Cx} {T : Nat → Addr} {Wx : WX'} {pos : Pos}
theorem ss_lock {c : Stmt} {m : M W} {k : MS} (hx : SSt X T Wx c k) : SSt X T Wx c (sLock m k) := by
  intro ρ η st env σ H D s er q
  unfold sLock at q
  split at q
  · rename_i o s0 e0
    split at q
    · rename_i n kvs e1
      obtain ⟨d, kv, h1, h2, h3, h4⟩ := lock_in s (nodd_get e1)
      refine ⟨_, ps_lock ps_S, ?_⟩
      refine ⟨d, .dK kv, h2, True.intro, fun od => ?_⟩
      obtain ⟨g1, s1⟩ := h4 od
      refine hx ρ η _ env σ _ _ s1 (er.mono g1) ?_
      cases e2 : k env (st.set n (.lk kvs)) with
      | nx env2 st2 =>
        rw [e2] at q
        unfold unlkS at q
        dsimp only at q
        cases e3 : unlk n st2 with
        | none => rw [e3] at q; exact q.elim
        | some s3 =>
          rw [e3] at q
          intro ρ2 H2 σ2 g2 sr2 er2
          obtain ⟨f1, f2, f3, f4⟩ := lock_out h1 h2 g2 sr2 e3
          exact ⟨f1, q ρ2 _ σ2 f2 f3 ⟨er2.1, fun i w z => by obtain ⟨v, y1, y2⟩ := er2.2 i w z; exact ⟨v, y1, f4 w v y2⟩⟩⟩
      | bk env2 st2 =>
        rw [e2] at q
        unfold unlkS at q
        dsimp only at q
        cases e3 : unlk n st2 with
        | none => rw [e3] at q; exact q.elim
        | some s3 =>
          rw [e3] at q
          intro ρ2 H2 σ2 g2 sr2 er2
          obtain ⟨f1, f2, f3, f4⟩ := lock_out h1 h2 g2 sr2 e3
          exact ⟨f1, q ρ2 _ σ2 f2 f3 ⟨er2.1, fun i w z => by obtain ⟨v, y1, y2⟩ := er2.2 i w z; exact ⟨v, y1, f4 w v y2⟩⟩⟩
      | ct env2 st2 =>
        rw [e2] at q
        unfold unlkS at q
        dsimp only at q
        cases e3 : unlk n st2 with
        | none => rw [e3] at q; exact q.elim
        | some s3 =>
          rw [e3] at q
          intro ρ2 H2 σ2 g2 sr2 er2
          obtain ⟨f1, f2, f3, f4⟩ := lock_out h1 h2 g2 sr2 e3
          exact ⟨f1, q ρ2 _ σ2 f2 f3 ⟨er2.1, fun i w z => by obtain ⟨v, y1, y2⟩ := er2.2 i w z; exact ⟨v, y1, f4 w v y2⟩⟩⟩
      | rt w2 st2 =>
        rw [e2] at q
        unfold unlkS at q
        dsimp only at q
        cases e3 : unlk n st2 with
        | none => rw [e3] at q; exact q.elim
        | some s3 =>
          rw [e3] at q
          intro ρ2 H2 v2 g2 sr2 r2
          obtain ⟨f1, f2, f3, f4⟩ := lock_out h1 h2 g2 sr2 e3
          exact ⟨f1, q ρ2 _ v2 f2 f3 (f4 w2 v2 r2)⟩
      | ex x env2 st2 => rw [e2] at q; exact q.elim
      | stuck => rw [e2] at q; exact q.elim
    · exact q.elim
  · exact q.elim
theorem se_lock {e : Expr} {m k : M W} (h : SE X T Wx e k) : SE X T Wx e (mLock m k) := by
  intro ρ η st env σ H Q s er q
  unfold mLock at q
  split at q
  · rename_i o s0 e0
    split at q
    · rename_i n kvs e1
      obtain ⟨d, kv, h1, h2, h3, h4⟩ := lock_in s (nodd_get e1)
      refine ⟨_, pe_lock pe_S, ?_⟩
      refine ⟨d, .dK kv, h2, True.intro, fun od => ?_⟩
      obtain ⟨g1, s1⟩ := h4 od
      refine h ρ η _ env σ _ _ s1 (er.mono g1) ?_
      cases e2 : k env (st.set n (.lk kvs)) with
      | ok w2 st2 =>
        rw [e2] at q
        dsimp only at q
        cases e3 : unlk n st2 with
        | none => rw [e3] at q; exact q.elim
        | some s3 =>
          rw [e3] at q
          intro ρ2 H2 v2 g2 sr2 r2
          obtain ⟨f1, f2, f3, f4⟩ := lock_out h1 h2 g2 sr2 e3
          exact ⟨f1, q ρ2 _ v2 f2 f3 (f4 w2 v2 r2)⟩
      | ex x st2 => rw [e2] at q; exact q.elim
      | stuck => rw [e2] at q; exact q.elim
    · exact q.elim
  · exact q.elim
theorem lk_ok {ρ η : List Addr} {H : Hp} {st : Sto} {w : W} {v : V} {n : Nat} {ks : List (Key × W)} (s : SR X.K T ρ η st H) (r : VR X.K ρ η H w v) (e : lkOf st w = some (n, ks)) : ∃ d od kv, v = .ref d ∧ H d = some (.frz od (.dK kv)) ∧ KVs X.K ρ η H ks kv := by
  cases w with
  | ref j =>
    simp only [lkOf] at e
    split at e
    · rename_i ys q
      cases e
      obtain ⟨a, h1, h0, od, kv, h2, h3, h4⟩ := node_at s r q
      exact ⟨a, od, kv, h1, h2, h3, h4⟩
    · cases e
  | _ => simp [lkOf] at e
theorem keyW_ok {ρ η : List Addr} {H : Hp} (k : Key) : VR X.K ρ η H (keyW k) (kV k) := by
  cases k <;> simp only [keyW, kV, VR]
theorem KVs.get {K : PySem.W.Frag} {ρ η : List Addr} {H : Hp} : ∀ {kvs : List (Key × W)} {kv : List (Key × V)} {i : Nat} {k : Key} {w : W}, KVs K ρ η H kvs kv → kvs[i]? = some (k, w) → ∃ v, kv[i]? = some (k, v) ∧ VR K ρ η H w v
  | [], kv, i, k, w, h, e => by simp at e
  | (a, u) :: kvs, kv, i, k, w, h, e => by
    obtain ⟨v, r, e1, h1, h2⟩ := h.cons'
    subst e1
    cases i with
    | zero =>
      simp at e
      obtain ⟨e2, e3⟩ := e
      subst e2; subst e3
      exact ⟨v, rfl, h1⟩
    | succ i =>
      obtain ⟨v', e2, e3⟩ := KVs.get h2 (by simpa using e)
      exact ⟨v', by simpa using e2, e3⟩
theorem KVs.more {K : PySem.W.Frag} {ρ ρ' η η' : List Addr} {H H' : Hp} {kvs : List (Key × W)} {kv : List (Key × V)} (g : Grow ρ H ρ' H') (k : Hid η H η') (h : KVs K ρ η H kvs kv) : KVs K ρ' η' H' kvs kv := ⟨h.1, h.2.more g k⟩
theorem si_keys {tg l : Expr} {m : M W} (h : SE X T Wx l m) : SI X T Wx tg l (iK m) := by
  intro ρ η st env σ H Q s er q
  refine ⟨_, pi_keys pe_S, ?_⟩
  refine h ρ η st env σ H _ s er (q.bind fun w s1 ρ1 H1 v g1 sr1 r1 h1 => ?_)
  split at h1
  · rename_i n ks e
    obtain ⟨d, od, kv, e1, e2, e3⟩ := lk_ok sr1 r1 e
    refine ⟨d, od, e1, .inl ⟨kv, e2, h1.ok sr1 ?_⟩⟩
    intro η' k i ρ' H' st' g sr
    have f := g.frz d od _ e2
    show match some (ks.map fun p => keyW p.1)[i]? with | some (some w) => _ | some none => _ | none => _
    rw [List.getElem?_map]
    cases z : ks[i]? with
    | none => exact ⟨f, by rw [e3.len]; exact List.getElem?_eq_none_iff.mp z⟩
    | some p =>
      obtain ⟨a, u⟩ := p
      obtain ⟨v', z1, z2⟩ := e3.get z
      refine ⟨⟨f, by exact (List.getElem?_eq_some_iff.mp z1).1⟩, fun x H2 y => ?_⟩
      obtain ⟨y1, k', v2, y2, y3⟩ := y
      rw [z1] at y2
      cases y2
      subst y1; subst y3
      exact ⟨Grow.refl, sr, keyW_ok a⟩
  · exact h1.elim
theorem si_items {l : Expr} {m : M W} {apos cpos tpos : Pos} {elts : List Expr} {kk : Nat} (h : SE X T Wx l m) (hb : attributeBase l "items" X.env (eval l X.env) = eval l X.env := by rfl) (hl : (apos.endLine == cpos.line) = true := by rfl) :
    SI X T Wx (.Tuple elts kk tpos) (.Call (.Attribute l "items" apos) [] [] cpos) (iKv m) := by
  intro ρ η st env σ H Q s er q
  refine ⟨_, pi_items pe_S hb hl, ?_⟩
  refine h ρ η st env σ H _ s er (q.bind fun w s1 ρ1 H1 v g1 sr1 r1 h1 => ?_)
  split at h1
  · rename_i n ks e
    obtain ⟨d, od, kv, e1, e2, e3⟩ := lk_ok sr1 r1 e
    refine ⟨d, od, kv, e1, e2, h1.ok sr1 ?_⟩
    intro η' k i ρ' H' st' g sr
    have f := g.frz d od _ e2
    show match some (ks.map fun p => W.tup [keyW p.1, p.2])[i]? with | some (some w) => _ | some none => _ | none => _
    rw [List.getElem?_map]
    cases z : ks[i]? with
    | none => exact ⟨f, by rw [e3.len]; exact List.getElem?_eq_none_iff.mp z⟩
    | some p =>
      obtain ⟨a, u⟩ := p
      obtain ⟨v', z1, z2⟩ := e3.get z
      refine ⟨⟨f, by exact (List.getElem?_eq_some_iff.mp z1).1⟩, fun x H2 y => ?_⟩
      obtain ⟨TT, k', v2, y2, y3, y4, y5⟩ := y
      rw [z1] at y2
      cases y2
      subst y3; subst y5
      refine ⟨Grow.new y4, sr.new' y4, ?_⟩
      simp only [VR]
      exact ⟨TT, _, rfl, .inl ⟨sr.fresh y4, sr.freshH y4, .inl upd_same⟩, VRs.cons (keyW_ok a) (VRs.cons ((z2.more g k).mono (Grow.new y4)) VRs.nil)⟩
  · exact h1.elim
/-! ### enumerate, zip -/
def enumW (s : Src) : Src := ⟨s.fuel, fun i st => match s.at_ i st with
  | some (some w) => some (some (.tup [.int i, w]))
  | some none => some none
  | none => none⟩
def srcOf (st : Sto) : W → Option Src
  | .lst xs => some (fixS xs)
  | .scr xs => some (fixS xs)
  | .ref n => match st[n]? with
    | some (.lst xs) => some (nodS n xs.length)
    | _ => none
  | _ => none
/-- a list to be read at each turn -/
theorem srcOf_ok {ρ η : List Addr} {H : Hp} {st : Sto} {w : W} {v : V} {src : Src} (s : SR X.K T ρ η st H) (r : VR X.K ρ η H w v) (e : srcOf st w = some src) :
    ∃ a vs, v = .ref a ∧ SqL X.K H a vs ∧ ∀ η', Hid η H η' → ∀ (i : Nat) (ρ' : List Addr) (H' : Hp) (st' : Sto), Grow ρ H ρ' H' → SR X.K T ρ' η' st' H' → match src.at_ i st' with
      | some (some w) => ∃ vs v, SqL X.K H' a vs ∧ vs[i]? = some v ∧ VR X.K ρ' η' H' w v
      | some none => ∃ vs, SqL X.K H' a vs ∧ vs.length ≤ i
      | none => True := by
  have fx : ∀ {a : Addr} {xs : List W} {vs : List V}, (∀ ρ' H', Grow ρ H ρ' H' → SqL X.K H' a vs) → VRs X.K ρ η H xs vs → ∀ η', Hid η H η' → ∀ (i : Nat) (ρ' : List Addr) (H' : Hp) (st' : Sto), Grow ρ H ρ' H' → SR X.K T ρ' η' st' H' → match (fixS xs).at_ i st' with
      | some (some w) => ∃ vs v, SqL X.K H' a vs ∧ vs[i]? = some v ∧ VR X.K ρ' η' H' w v
      | some none => ∃ vs, SqL X.K H' a vs ∧ vs.length ≤ i
      | none => True := by
    intro a xs vs hl r η' k i ρ' H' st' g sr
    show match some xs[i]? with | some (some w) => _ | some none => _ | none => _
    cases e : xs[i]? with
    | none => exact ⟨vs, hl _ _ g, by rw [r.len]; exact List.getElem?_eq_none_iff.mp e⟩
    | some w =>
      obtain ⟨v, e1, e2⟩ := r.get e
      exact ⟨vs, v, hl _ _ g, e1, e2.more g k⟩
  cases w with
  | lst xs =>
    simp only [srcOf, Option.some.injEq] at e
    subst e
    simp only [VR] at r
    obtain ⟨a, vs, e1, e2, e3⟩ := r
    exact ⟨a, vs, e1, SqL.of e2.2.2, fx (lst_at e2) e3⟩
  | scr xs =>
    simp only [srcOf, Option.some.injEq] at e
    subst e
    simp only [VR] at r
    obtain ⟨a, vs, e1, e2, e3⟩ := r
    exact ⟨a, vs, e1, e2.sq, fx (fun ρ' H' g => (e2.mono g).sq) e3⟩
  | ref n =>
    simp only [srcOf] at e
    split at e
    · rename_i xs q
      cases e
      obtain ⟨a, e1, e2, vs, e3, e4⟩ := node_at s r q
      refine ⟨a, vs, e1, SqL.of e3, fun η' k i ρ' H' st' g sr => ?_⟩
      show match (match st'[n]? with | some (.lst xs) => some xs[i]? | _ => none) with | some (some w) => _ | some none => _ | none => True
      cases e : st'[n]? with
      | none => trivial
      | some nd =>
        have q := sr.at_ n nd a e (g.at e2)
        cases nd with
        | lst xs =>
          obtain ⟨vs, q1, q2⟩ := q
          dsimp only
          cases e2 : xs[i]? with
          | none => exact ⟨vs, SqL.of q1, by rw [q2.len]; exact List.getElem?_eq_none_iff.mp e2⟩
          | some w =>
            obtain ⟨v, e3, e4⟩ := q2.get e2
            exact ⟨vs, v, SqL.of q1, e3, e4⟩
        | _ => trivial
    · cases e
  | _ => simp [srcOf] at e
def iE (m : M (List W)) : MI := fun env st => (m env st).bind fun ws s => match ws with
  | [w] => match srcOf s w with
    | some src => .ok (enumW src) s
    | none => .stuck
  | _ => .stuck
theorem si_enum {e : Expr} {m : M (List W)} {p pos tpos : Pos} {elts : List Expr} {kk : Nat} (hg : Gl X "enumerate") (hm : X.mg "enumerate" = none) (h : SA X T Wx [e] m) (hs : starEach [e] X.env = [(false, eval e X.env)] := by rfl) :
    SI X T Wx (.Tuple elts kk tpos) (.Call (.Name "enumerate" p) [e] [] pos) (iE m) := by
  intro ρ η st env σ H Q s er q
  refine ⟨_, pi_enum hg hm pa_S hs, ?_⟩
  refine h ρ η st env σ H _ s er (q.bind fun ws s1 ρ1 H1 vs g1 sr1 r1 h1 => ?_)
  split at h1
  · rename_i w
    obtain ⟨v, e1, r2⟩ := vrs1 r1
    split at h1
    · rename_i src e2
      obtain ⟨a, us, e3, e4, e5⟩ := srcOf_ok sr1 r2 e2
      subst e3
      refine ⟨a, us, e1, e4, h1.ok sr1 ?_⟩
      intro η' k i ρ' H' st' g sr
      have z := e5 η' k i ρ' H' st' g sr
      unfold enumW
      dsimp only
      split at z
      · rename_i w' e6
        obtain ⟨vs', v', z1, z2, z3⟩ := z
        refine ⟨⟨vs', v', z1, z2⟩, fun x H2 y => ?_⟩
        obtain ⟨TT, x', y1, y2, y3, y4⟩ := y
        subst y1; subst y3
        have := y4 vs' z1
        rw [z2] at this
        cases this
        refine ⟨Grow.new y2, sr.new' y2, ?_⟩
        simp only [VR]
        exact ⟨TT, _, rfl, .inl ⟨sr.fresh y2, sr.freshH y2, .inl upd_same⟩, VRs.cons (by simp only [VR]) (VRs.cons (z3.mono (Grow.new y2)) VRs.nil)⟩
      · exact z
      · trivial
    · exact h1.elim
  · exact h1.elim
def zipW (s t : Src) : Src := ⟨min s.fuel t.fuel, fun i st => match s.at_ i st, t.at_ i st with
  | some (some w), some (some u) => some (some (.tup [w, u]))
  | some none, some _ => some none
  | some (some _), some none => some none
  | _, _ => none⟩
def iZ (m : M (List W)) : MI := fun env st => (m env st).bind fun ws s => match ws with
  | [w, u] => match srcOf s w, srcOf s u with
    | some src, some srd => .ok (zipW src srd) s
    | _, _ => .stuck
  | _ => .stuck
theorem si_zip {e e2 : Expr} {m : M (List W)} {p pos tpos : Pos} {elts : List Expr} {kk : Nat} (hg : Gl X "zip") (hm : X.mg "zip" = none) (h : SA X T Wx [e, e2] m) (hs : starEach [e, e2] X.env = (false, eval e X.env) :: starEach [e2] X.env := by rfl) (hpl : (backTo pos (starEach [e2] X.env)).any (·.1) = false := by rfl) :
    SI X T Wx (.Tuple elts kk tpos) (.Call (.Name "zip" p) [e, e2] [] pos) (iZ m) := by
  intro ρ η st env σ H Q s er q
  refine ⟨_, pi_zip hg hm pa_S hs hpl, ?_⟩
  refine h ρ η st env σ H _ s er (q.bind fun ws s1 ρ1 H1 vs g1 sr1 r1 h1 => ?_)
  split at h1
  · rename_i w u
    obtain ⟨v, v2, e1, r2, r3⟩ := vrs2 r1
    split at h1
    · rename_i src srd e2 e2'
      obtain ⟨a, us, e3, e4, e5⟩ := srcOf_ok sr1 r2 e2
      obtain ⟨b, ts, f3, f4, f5⟩ := srcOf_ok sr1 r3 e2'
      subst e3; subst f3
      refine ⟨a, b, us, ts, e1, e4, f4, h1.ok sr1 ?_⟩
      intro η' k i ρ' H' st' g sr
      have z := e5 η' k i ρ' H' st' g sr
      have y := f5 η' k i ρ' H' st' g sr
      unfold zipW
      dsimp only
      cases c1 : src.at_ i st' with
      | none => trivial
      | some o1 =>
        cases c2 : srd.at_ i st' with
        | none => cases o1 <;> trivial
        | some o2 =>
          rw [c1] at z
          rw [c2] at y
          cases o1 with
          | none =>
            obtain ⟨vs1, z1, z2⟩ := z
            cases o2 with
            | none =>
              obtain ⟨vs2, y1, y2⟩ := y
              exact ⟨vs1, vs2, z1, y1, .inl z2⟩
            | some w2 =>
              obtain ⟨vs2, v2, y1, y2, y3⟩ := y
              exact ⟨vs1, vs2, z1, y1, .inl z2⟩
          | some w1 =>
            obtain ⟨vs1, v1, z1, z2, z3⟩ := z
            cases o2 with
            | none =>
              obtain ⟨vs2, y1, y2⟩ := y
              exact ⟨vs1, vs2, z1, y1, .inr y2⟩
            | some w2 =>
              obtain ⟨vs2, v2, y1, y2, y3⟩ := y
              refine ⟨⟨vs1, vs2, v1, v2, z1, y1, z2, y2⟩, fun x H2 t => ?_⟩
              obtain ⟨TT, x1, x2, t1, t2, t3, t4, t5⟩ := t
              subst t1; subst t3
              have := t4 vs1 z1
              rw [z2] at this
              cases this
              have := t5 vs2 y1
              rw [y2] at this
              cases this
              refine ⟨Grow.new t2, sr.new' t2, ?_⟩
              simp only [VR]
              exact ⟨TT, _, rfl, .inl ⟨sr.fresh t2, sr.freshH t2, .inl upd_same⟩, VRs.cons (z3.mono (Grow.new t2)) (VRs.cons (y3.mono (Grow.new t2)) VRs.nil)⟩
    · exact h1.elim
  · exact h1.elim
end
end Mi
namespace Mi
open PySem PySem.Spec PyProof.Rows L2
/-! ### dicts made of dicts, of pairs -/
def mergeKW (kvs more : List (Key × W)) : List (Key × W) := more.foldl (fun acc kv => putKW acc kv.1 kv.2) kvs
def pairsW : List W → Option (List (Key × W))
  | [] => some []
  | .tup [k, w] :: r => match keyOf k, pairsW r with
    | some k, some ps => some ((k, w) :: ps)
    | _, _ => none
  | _ => none
def newD (kvs : List (Key × W)) (st : Sto) : Rs W := .ok (.ref st.length) (st ++ [.dk kvs])
def fDict : FC := fun ws st => match ws with
  | [w] => match dkOf st w with
    | some kvs => newD kvs st
    | none => match seqL st w with
      | some xs => match pairsW xs with
        | some ps => newD (mergeKW [] ps) st
        | none => .stuck
      | none => .stuck
  | _ => .stuck
section
variable {X : Cx} {T : Nat → Addr} {ρ η : List Addr} {H : Hp} {st : Sto}
theorem newD_ok {kvs : List (Key × W)} {kv : List (Key × V)} {p : Addr} {Q : V → Hp → Prop} {E : Value → Option Addr → Hp → Prop} (h : After X.K T η (fun ρ H => VR X.K ρ η H) ρ H (newD kvs st) Q E) (s : SR X.K T ρ η st H) (r : KVs X.K ρ η H kvs kv) (n : H p = none) : Q (.ref p) (upd H p (.dK kv)) := by
  unfold newD at h
  have r' := r.mono (Grow.node (o := .dK kv) n)
  refine h (ρ ++ [p]) _ _ (Grow.node n) (s.node n ⟨kv, upd_same, r'.1, r'.2⟩) ?_
  simp only [VR]
  exact ⟨p, by rw [← s.len, List.getElem?_append_right (Nat.le_refl _)]; simp, rfl⟩
theorem KVs.merge : ∀ {more : List (Key × W)} {kw : List (Key × V)} {kvs : List (Key × W)} {kv : List (Key × V)}, KVs X.K ρ η H more kw → KVs X.K ρ η H kvs kv → KVs X.K ρ η H (mergeKW kvs more) (mergeK kv kw)
  | [], kw, kvs, kv, h, k => by
    rw [h.nil']
    exact k
  | (a, w) :: more, kw, kvs, kv, h, k => by
    obtain ⟨v, r, e, h1, h2⟩ := h.cons'
    subst e
    show KVs X.K ρ η H (mergeKW (putKW kvs a w) more) (mergeK (putK kv a v) r)
    exact KVs.merge h2 (k.put h1)
theorem pairs_ok : ∀ {xs : List W} {vs : List V} {ps : List (Key × W)}, VRs X.K ρ η H xs vs → pairsW xs = some ps → ∃ (as : List Addr) (kvs : List (Key × V)), vs = as.map V.ref ∧ Paired (fun p kv => SqT X.K H p [kV kv.1, kv.2]) as kvs ∧ KVs X.K ρ η H ps kvs
  | [], vs, ps, r, e => by
    simp only [VRs] at r
    simp only [pairsW, Option.some.injEq] at e
    subst r; subst e
    exact ⟨[], [], rfl, .nil, rfl, VRs.nil⟩
  | x :: xs, vs, ps, r, e => by
    unfold pairsW at e
    split at e
    · cases ‹x :: xs = []›
    · rename_i k w r' heq
      injection heq with h1 h2
      subst h1; subst h2
      split at e
      · rename_i kk pp q1 q2
        cases e
        simp only [VRs] at r
        obtain ⟨v, rr, e1, r1, e9⟩ := r
        simp only [VR, VRs] at r1
        obtain ⟨a, us, e2, e3, k1, u1, e4, e5, w1, u2, e6, e7, e8⟩ := r1
        obtain ⟨as, kvs, f1, f2, f3⟩ := pairs_ok e9 q2
        have e5' : VR X.K ρ η H k k1 := e5
        have z := key_ok e5' q1
        subst e1; subst e2; subst e8; subst e6; subst e4; subst f1; subst z
        exact ⟨a :: as, (kk, w1) :: kvs, rfl, .cons e3.sq f2, KVs.mk' e7 f3⟩
      · cases e
    · cases e
theorem okc_dict : OkC X.K T fDict (fun xs H Q => (∃ (a : Addr) (ps : List Addr) (kvs : List (Key × V)), xs = [.ref a] ∧ SqL X.K H a (ps.map V.ref) ∧ Paired (fun p kv => SqT X.K H p [kV kv.1, kv.2]) ps kvs ∧ ∀ p, H p = none → Q (.ref p) (upd H p (.dK (mergeK [] kvs)))) ∨
    ∃ (a : Addr) (kvs : List (Key × V)), xs = [.ref a] ∧ Rd H a (.dK kvs) ∧ ∀ p, H p = none → Q (.ref p) (upd H p (.dK kvs))) := by
  intro ρ η st H ws vs Q E s r h
  unfold fDict at h
  split at h
  · rename_i w
    obtain ⟨v, e, r1⟩ := vrs1 r
    split at h
    · rename_i kvs q
      obtain ⟨a, kv, e1, e2, e3, e4⟩ := dk_ok s r1 q
      subst e1
      exact .inr ⟨a, kv, e, e2, fun p hp => newD_ok h s ⟨e3, e4⟩ hp⟩
    · split at h
      · rename_i xs q
        obtain ⟨a, us, e1, e2, e3⟩ := seq_ok s r1 q
        split at h
        · rename_i ps q2
          obtain ⟨as, kvs, f1, f2, f3⟩ := pairs_ok e3 q2
          subst e1; subst f1
          exact .inl ⟨a, as, kvs, e, e2, f2, fun p hp => newD_ok h s (KVs.merge f3 ⟨rfl, VRs.nil⟩) hp⟩
        · exact h.elim
      · exact h.elim
  · exact h.elim
/-! ### equal dicts of flat things -/
def eqDW (ks ls : List (Key × W)) : Bool := decide (ks.length = ls.length) && ks.all fun p => match scalV p.2, (lkW ls p.1).bind scalV with
  | some x, some y => decide (x = y)
  | _, _ => false
def wEqD (b : Bool) : F2 := fun x y st => match nodD st x, nodD st y with
  | some (_, ks), some (_, ls) => if eqDW ks ls = true then .ok (.bl b) st else .stuck
  | _, _ => .stuck
theorem scalB {w : W} {x : V} (e : scalV w = some x) : flatB x = true := by
  cases w <;> simp [scalV] at e <;> subst e <;> rfl
theorem eqDW_ok {ks ls : List (Key × W)} {kv lv : List (Key × V)} (h1 : KVs X.K ρ η H ks kv) (h2 : KVs X.K ρ η H ls lv) (e : eqDW ks ls = true) : kv.length = lv.length ∧ ∀ p ∈ kv, valV lv p.1 = some p.2 ∧ flatB p.2 = true := by
  unfold eqDW at e
  rw [Bool.and_eq_true] at e
  obtain ⟨e1, e2⟩ := e
  refine ⟨by rw [h1.len, h2.len]; simpa using e1, ?_⟩
  have go : ∀ {ks : List (Key × W)} {kv : List (Key × V)}, KVs X.K ρ η H ks kv → (ks.all fun p => match scalV p.2, (lkW ls p.1).bind scalV with | some x, some y => decide (x = y) | _, _ => false) = true → ∀ p ∈ kv, valV lv p.1 = some p.2 ∧ flatB p.2 = true := by
    intro ks
    induction ks with
    | nil => intro kv h _ p hp; rw [h.nil'] at hp; cases hp
    | cons q ks ih =>
      intro kv h e p hp
      obtain ⟨a, w⟩ := q
      obtain ⟨v, r, f1, f2, f3⟩ := h.cons'
      subst f1
      rw [List.all_cons, Bool.and_eq_true] at e
      rcases List.mem_cons.mp hp with z | z
      · subst z
        have e1 := e.1
        split at e1
        · rename_i x y q1 q2
          dsimp only at q1 q2
          rcases kv_find (k := a) h2.1 h2.2 with ⟨y1, y2⟩ | ⟨u, u', y1, y2, y3⟩
          · rw [y1] at q2; cases q2
          · rw [y1] at q2
            have e3 : scalV u = some y := q2
            have := scal_ok f2 q1
            have := scal_ok y3 e3
            simp only [decide_eq_true_eq] at e1
            subst v; subst u'; subst e1
            exact ⟨y2, scalB q1⟩
        · cases e1
      · exact ih f3 e.2 p z
  exact go h1 e2
theorem ok_eqD : OkR X.K T (wEqD true) rEqDA := by
  intro ρ η st H a b x y Q E s ha hb h
  unfold wEqD at h
  split at h
  · rename_i i ks j ls q1 q2
    obtain ⟨p, kv, e1, _, e3, e4⟩ := nodd_ok s ha q1
    obtain ⟨p2, lv, f1, _, f3, f4⟩ := nodd_ok s hb q2
    split at h
    · rename_i z
      obtain ⟨y1, y2⟩ := eqDW_ok e4 f4 z
      exact ⟨p, p2, kv, lv, e1, f1, e3, f3, y1, y2, h.ok s (by simp only [VR])⟩
    · exact h.elim
  · exact h.elim
theorem ok_neD : OkR X.K T (wEqD false) rNeDA := by
  intro ρ η st H a b x y Q E s ha hb h
  unfold wEqD at h
  split at h
  · rename_i i ks j ls q1 q2
    obtain ⟨p, kv, e1, _, e3, e4⟩ := nodd_ok s ha q1
    obtain ⟨p2, lv, f1, _, f3, f4⟩ := nodd_ok s hb q2
    split at h
    · rename_i z
      obtain ⟨y1, y2⟩ := eqDW_ok e4 f4 z
      exact ⟨p, p2, kv, lv, e1, f1, e3, f3, y1, y2, h.ok s (by simp only [VR])⟩
    · exact h.elim
  · exact h.elim
end
/-- one of two tests -/
theorem st_alt {X : Cx} {T : Nat → Addr} {Wx : WX'} {e : Expr} {m k : M Bool} (h1 : STt X T Wx e m) (h2 : STt X T Wx e k) : STt X T Wx e (mAlt m k) := by
  intro ρ η st env σ H Q s er q
  unfold mAlt at q
  cases z : m env st with
  | ok w s1 => rw [z] at q; exact h1 ρ η st env σ H Q s er (by rw [z]; exact q)
  | ex x s1 => rw [z] at q; exact h1 ρ η st env σ H Q s er (by rw [z]; exact q)
  | stuck => rw [z] at q; exact h2 ρ η st env σ H Q s er q
/-! ### {k: v for ..} -/
def compD (s : Src) (t : CT) (cond : M Bool) (mk mv : M W) (env : Ev) : Nat → Nat → List (Key × W) → Sto → Rs (List (Key × W))
  | 0, _, _, _ => .stuck
  | n + 1, i, acc, st => match s.at_ i st with
    | some (some w) => match t.put w env with
      | some env1 => match cond env1 st with
        | .ok true st1 => match mk env1 st1 with
          | .ok k st2 => match mv env1 st2 with
            | .ok v st3 => match keyOf k with
              | some k => if acc.length < sizeLine then compD s t cond mk mv env n (i + 1) (putKW acc k v) st3 else .stuck
              | none => .stuck
            | _ => .stuck
          | _ => .stuck
        | .ok false st1 => compD s t cond mk mv env n (i + 1) acc st1
        | _ => .stuck
      | none => .stuck
    | some none => .ok acc st
    | none => .stuck
def mDcomp (mi : MI) (vs : List Nat) (t : CT) (cond : M Bool) (mk mv : M W) : M W := fun env st => (mi env st).bind fun s st1 => (compD s t cond mk mv (wipeW env vs) s.fuel 0 [] st1).bind fun kvs st2 => newD kvs st2
section
variable {X : Cx} {T : Nat → Addr} {Wx : WX'} {pos : Pos}
theorem KVs.hid {K : PySem.W.Frag} {ρ η : List Addr} {H : Hp} {D : Addr} {o : HO} (n : D ∈ η) {kvs : List (Key × W)} {kv : List (Key × V)} (h : KVs K ρ η H kvs kv) : KVs K ρ η (L2.upd H D o) kvs kv := ⟨h.1, h.2.hid n⟩
theorem se_dcomp {kx vx tg iter : Expr} {ifs : List Expr} {scope : Scope} {own : List (Str × Nat)} {mi : MI} {t : CT} {cond : M Bool} {mk mv : M W} (hc : X.calm = true) (hN : X.N.Nodup) (hi : SI X T Wx tg iter mi) (ok : BlkOk X.N X.env.scope scope own)
    (hv : ∀ i ∈ t.ix, i ∈ own.map (fun p : Str × Nat => p.2))
    (hg : ∀ (s : Shared) (H : Hp) (C : Addr) (cl : List (Str × Addr)) (fp : List Addr), PG (X.blk s H scope (compEnvC scope cl C X.env) fp) tg (t.tg X.K))
    (ht : (ifs = [] ∧ cond = mYes) ∨ ∃ c, ifs = [c] ∧ ∀ (s : Shared) (H : Hp) (C : Addr) (cl : List (Str × Addr)) (fp : List Addr), STt (X.blk s H scope (compEnvC scope cl C X.env) fp) T W0 c cond)
    (hk : ∀ (s : Shared) (H : Hp) (C : Addr) (cl : List (Str × Addr)) (fp : List Addr), SE (X.blk s H scope (compEnvC scope cl C X.env) fp) T W0 kx mk)
    (hw : ∀ (s : Shared) (H : Hp) (C : Addr) (cl : List (Str × Addr)) (fp : List Addr), SE (X.blk s H scope (compEnvC scope cl C X.env) fp) T W0 vx mv) (hs : ∀ x, foldedSetIterable iter X.env x = pure x := by intro _; rfl) :
    SE X T Wx (.DictComp kx vx [⟨tg, iter, ifs, 0⟩] scope pos) (mDcomp mi (own.map (fun p : Str × Nat => p.2)) t cond mk mv) := by
  intro ρ η st env σ H Q s er q
  let tt : TT := fun σ H Q => ∀ (s : Shared) (G : Hp) (C : Addr) (cl : List (Str × Addr)) (fp : List Addr), (∃ u, PTs (X.blk s G scope (compEnvC scope cl C X.env) fp) ifs u ∧ u σ H Q)
  let tk : TE := fun σ H Q => ∀ (s : Shared) (G : Hp) (C : Addr) (cl : List (Str × Addr)) (fp : List Addr), (∃ u, PE (X.blk s G scope (compEnvC scope cl C X.env) fp) kx u ∧ u σ H Q)
  let te : TE := fun σ H Q => ∀ (s : Shared) (G : Hp) (C : Addr) (cl : List (Str × Addr)) (fp : List Addr), (∃ u, PE (X.blk s G scope (compEnvC scope cl C X.env) fp) vx u ∧ u σ H Q)
  refine ⟨_, pe_dc (tt := tt) (tk := tk) (tv := te) hc hN pi_S ok hg (fun s G C cl fp => ⟨fun pins s' σ' H' Q' I h => ?_⟩) (fun s G C cl fp => ⟨fun pins s' σ' H' Q' I h => ?_⟩) (fun s G C cl fp => ⟨fun pins s' σ' H' Q' I h => ?_⟩) hs, ?_⟩
  · obtain ⟨u, h1, h2⟩ := h s G C cl fp
    exact h1.run pins s' σ' H' Q' I h2
  · obtain ⟨u, h1, h2⟩ := h s G C cl fp
    exact h1.run pins s' σ' H' Q' I h2
  · obtain ⟨u, h1, h2⟩ := h s G C cl fp
    exact h1.run pins s' σ' H' Q' I h2
  refine hi ρ η st env σ H _ s er (q.bind fun src s1 ρ1 H1 J g1 sr1 ok1 h1 => ?_)
  intro D hD
  have D1 : Hid η H1 (D :: η) := hid_new hD
  have er0 : ER X.K ρ1 η H1 (wipeW env (own.map (fun p : Str × Nat => p.2))) (wipe σ (own.map (fun p : Str × Nat => p.2))) := (er.mono g1).wipe _
  -- what holds between two turns
  let G : Nat → Nat → Hp → Prop := fun i n H' => ∃ (ρ' : List Addr) (st' : Sto) (acc : List (Key × W)) (accv : List (Key × V)), Grow ρ1 H1 ρ' H' ∧ SR X.K T ρ' (D :: η) st' H' ∧ H' D = some (.dK accv) ∧ KVs X.K ρ' (D :: η) H' acc accv ∧
      After X.K T η (fun ρ H => VR X.K ρ η H) ρ1 H1 ((compD src t cond mk mv (wipeW env (own.map (fun p : Str × Nat => p.2))) n i acc st').bind fun kvs st2 => newD kvs st2) Q (fun c d H' => Wx c d σ H')
  refine ⟨G, ⟨src.fuel, ρ1, s1, [], [], Grow.new hD, sr1.hide hD, upd_same, ⟨rfl, VRs.nil⟩, h1⟩, ?_⟩
  rintro i n H2 ⟨ρ2, st2, acc, accv, g2, sr2, hD2, rac, h2⟩
  cases n with
  | zero => exact h2.elim
  | succ n =>
    have k := ok1 (D :: η) D1 i ρ2 H2 st2 g2 sr2
    unfold compD at h2
    split at h2
    · rename_i w e
      rw [e] at k
      obtain ⟨k1, k2⟩ := k
      refine .inr ⟨k1, G (i + 1) n, fun H' z => ⟨n, Nat.lt_succ_self n, z⟩, fun x H3 y => ?_⟩
      obtain ⟨g3, sr3, r3⟩ := k2 x H3 y
      have hD3 : H3 D = some (.dK accv) := g3.same D _ (sr2.hid D List.mem_cons_self) hD2
      split at h2
      · rename_i env4 e4
        refine ct_ok (vs := own.map (fun p : Str × Nat => p.2)) e4 r3 (er0.more (g2.trans g3) D1) hv fun σ4 er4 w4 => ?_
        rw [wipe_wipe] at w4
        refine ⟨w4, ?_⟩
        have step : ∀ (b : Bool) (st5 : Sto) (ρ5 : List Addr) (H5 : Hp), Grow ρ2 H3 ρ5 H5 → SR X.K T ρ5 (D :: η) st5 H5 →
            After X.K T η (fun ρ H => VR X.K ρ η H) ρ1 H1 ((match b with
              | true => (match mk env4 st5 with
                | .ok k st2 => match mv env4 st2 with
                  | .ok v st3 => match keyOf k with
                    | some k => if acc.length < sizeLine then compD src t cond mk mv (wipeW env (own.map (fun p : Str × Nat => p.2))) n (i + 1) (putKW acc k v) st3 else .stuck
                    | none => .stuck
                  | _ => .stuck
                | _ => .stuck)
              | false => compD src t cond mk mv (wipeW env (own.map (fun p : Str × Nat => p.2))) n (i + 1) acc st5).bind fun kvs st2 => newD kvs st2) Q (fun c d H' => Wx c d σ H') →
            (if b = true then tk σ4 H5 fun y H4 => te σ4 H4 fun z H5 => ∃ (kvs : List (Key × V)) (k : Key), y = kV k ∧ H5 D = some (.dK kvs) ∧ kvs.length < sizeLine ∧ G (i + 1) n (upd H5 D (.dK (putK kvs k z)))
            else G (i + 1) n H5) := by
          intro b st5 ρ5 H5 g5 sr5 h5
          have hD5 : H5 D = some (.dK accv) := g5.same D _ (sr3.hid D List.mem_cons_self) hD3
          have gA : Grow ρ1 H1 ρ5 H5 := (g2.trans g3).trans g5
          cases b with
          | false => exact iteF ⟨ρ5, st5, acc, accv, gA, sr5, hD5, (rac.mono g3).mono g5, h5⟩
          | true =>
            refine iteT ?_
            intro s' G' C cl fp
            refine hk s' G' C cl fp ρ5 (D :: η) st5 env4 σ4 H5 _ sr5 (er4.mono g5) ?_
            dsimp only at h5
            cases e6 : mk env4 st5 with
            | ok kw st6 =>
              rw [e6] at h5
              dsimp only at h5
              intro ρ6 H6 y g6 sr6 r6
              intro s'' G'' C' cl' fp'
              refine hw s'' G'' C' cl' fp' ρ6 (D :: η) st6 env4 σ4 H6 _ sr6 ((er4.mono g5).mono g6) ?_
              cases e7 : mv env4 st6 with
              | ok v st7 =>
                rw [e7] at h5
                dsimp only at h5
                split at h5
                · rename_i kk e8
                  split at h5
                  · rename_i lz
                    intro ρ7 H7 z g7 sr7 r7
                    have hD7 : H7 D = some (.dK accv) := g7.same D _ (sr6.hid D List.mem_cons_self) (g6.same D _ (sr5.hid D List.mem_cons_self) hD5)
                    have rac7 : KVs X.K ρ7 (D :: η) H7 acc accv := ((((rac.mono g3).mono g5).mono g6).mono g7)
                    refine ⟨accv, kk, key_ok r6 e8, hD7, by rw [rac7.len]; exact lz, ρ7, st7, putKW acc kk v, putK accv kk z, ((gA.trans g6).trans g7).hid hD, sr7.hid' List.mem_cons_self, upd_same, (rac7.put r7).hid List.mem_cons_self, h5⟩
                  · exact h5.elim
                · exact h5.elim
              | ex x s' => rw [e7] at h5; exact h5.elim
              | stuck => rw [e7] at h5; exact h5.elim
            | ex x s' => rw [e6] at h5; exact h5.elim
            | stuck => rw [e6] at h5; exact h5.elim
        rcases ht with ⟨z1, z2⟩ | ⟨c, z1, z2⟩
        · subst z2
          intro s' G' C cl fp
          refine ⟨tYes, by rw [z1]; exact pts_nil, ?_⟩
          exact step true st2 ρ2 H3 Grow.refl sr3 h2
        · intro s' G' C cl fp
          obtain ⟨u, hu1, hu2⟩ := z2 s' G' C cl fp ρ2 (D :: η) st2 env4 σ4 H3 (fun b H5 => if b = true then tk σ4 H5 fun y H4 => te σ4 H4 fun z H5 => ∃ (kvs : List (Key × V)) (k : Key), y = kV k ∧ H5 D = some (.dK kvs) ∧ kvs.length < sizeLine ∧ G (i + 1) n (upd H5 D (.dK (putK kvs k z)))
            else G (i + 1) n H5) sr3 er4 (by
            cases e6 : cond env4 st2 with
            | ok b st6 =>
              rw [e6] at h2
              intro ρ6 H6 b' g6 sr6 r6
              subst r6
              refine step b st6 ρ6 H6 g6 sr6 ?_
              cases b <;> exact h2
            | ex x s' => rw [e6] at h2; exact h2.elim
            | stuck => rw [e6] at h2; exact h2.elim)
          exact ⟨u, by rw [z1]; exact pts_one hu1, hu2⟩
      · exact h2.elim
    · rename_i e
      rw [e] at k
      refine .inl ⟨k, ?_⟩
      have h2 : After X.K T η (fun ρ H => VR X.K ρ η H) ρ1 H1 (newD acc st2) Q (fun c d H' => Wx c d σ H') := h2
      have nD : D ∉ η := fun z => by
        obtain ⟨o, e⟩ := sr1.has D z
        rw [hD] at e; cases e
      refine h2 (ρ2 ++ [D]) H2 _ (g2.shift hD) (sr2.shift nD ⟨accv, hD2, rac.1, rac.2.shift⟩) ?_
      simp only [VR]
      exact ⟨D, by rw [← sr2.len, List.getElem?_append_right (Nat.le_refl _)]; simp, rfl⟩
    · exact h2.elim
end
end Mi
namespace Mi
open PySem PySem.Spec PyProof.Rows L2
/-- what is not carried, or never reached -/
def sStk : MS := fun _ _ => .stuck
def mStk {α : Type} : M α := fun _ _ => .stuck
def sPar (i j : Nat) (ma mb : M W) : MS := fun env st => (ma env st).to env fun a s1 => (mb env s1).to env fun b s2 => .nx ((env.set i (some a)).set j (some b)) s2
section
variable {X : Cx} {T : Nat → Addr} {Wx : WX'} {pos : Pos}
theorem ss_stk {c : Stmt} : SSt X T Wx c sStk := fun _ _ _ _ _ _ _ _ _ h => h.elim
theorem se_stk {e : Expr} : SE X T Wx e mStk := fun _ _ _ _ _ _ _ _ _ h => h.elim
theorem sss_stk {c : List Stmt} : SSs X T Wx c sStk := fun _ _ _ _ _ _ _ _ _ h => h.elim
/-- a, b = e, f -/
theorem ss_par {i j : Nat} {x y : Str} {a b : Expr} {ma mb : M W} {px py pt : Pos} {kt k2 pt2} (hc : X.calm = true) (hN : X.N.Nodup) (hi : X.N[i]? = some x) (hj : X.N[j]? = some y) (hij : i ≠ j)
    (hx : X.env.scope.names.lookup x = some .local) (hy : X.env.scope.names.lookup y = some .local) (ha : SE X T Wx a ma) (hb : SE X T Wx b mb)
    (hw : swappedStores [.Tuple [.Name x px, .Name y py] kt pt] (.Tuple [a, b] k2 pt2) X.env = pure (some [x, y]))
    (hst : starEach [a, b] X.env = (false, eval a X.env) :: starEach [b] X.env := by rfl) (hst2 : starEach [b] X.env = (false, eval b X.env) :: starEach [] X.env := by rfl) :
    SSt X T Wx (.Assign [.Tuple [.Name x px, .Name y py] kt pt] (.Tuple [a, b] k2 pt2) pos) (sPar i j ma mb) := by
  intro ρ η st env σ H D s er q
  refine ⟨_, ps_par hc hN hi hj hij hx hy (pa_cons pe_S (pa_cons pe_S pa_nil hst2) hst) hw, ?_⟩
  refine ha ρ η st env σ H _ s er (q.bind er fun w s1 ρ1 H1 v _ g1 sr1 r1 h1 => ?_)
  refine hb ρ1 η s1 env σ H1 _ sr1 (er.mono g1) (h1.bind (er.mono g1) fun u s2 ρ2 H2 v2 _ g2 sr2 r2 h2 => ?_)
  exact ⟨v, v2, rfl, h2 ρ2 H2 _ Grow.refl sr2 ((((er.mono g1).mono g2).set (r1.mono g2)).set r2)⟩
end
/-! ### a text, sign by sign -/
def iS (m : M W) : MI := fun env st => (m env st).bind fun w s => match w with
  | .str z => .ok (fixS (z.cps.toList.map fun c => .str ⟨#[c]⟩)) s
  | _ => .stuck
theorem si_str {X : Cx} {T : Nat → Addr} {Wx : WX'} {tg l : Expr} {m : M W} (h : SE X T Wx l m) : SI X T Wx tg l (iS m) := by
  intro ρ η st env σ H Q s er q
  refine ⟨_, pi_str pe_S, ?_⟩
  refine h ρ η st env σ H _ s er (q.bind fun w s1 ρ1 H1 v g1 sr1 r1 h1 => ?_)
  split at h1
  · rename_i z
    simp only [VR] at r1
    refine ⟨z, r1, h1.ok sr1 ?_⟩
    intro η' k i ρ' H' st' g sr
    show match some (z.cps.toList.map fun c => W.str ⟨#[c]⟩)[i]? with | some (some w) => _ | some none => _ | none => _
    rw [List.getElem?_map]
    cases e : z.cps.toList[i]? with
    | none =>
      have := List.getElem?_eq_none_iff.mp e
      show z.cps.size ≤ i
      simpa using this
    | some c =>
      have hi := (List.getElem?_eq_some_iff.mp e).1
      refine ⟨by show i < z.cps.size; simpa using hi, fun x H2 y => ?_⟩
      obtain ⟨y1, c', y2, y3⟩ := y
      subst y1
      have : z.cps[i]? = some c := by rw [← Array.getElem?_toList]; exact e
      rw [y2] at this
      cases this
      exact ⟨Grow.refl, sr, by simp only [VR]; exact y3⟩
  · exact h1.elim
end Mi
namespace Mi
open PySem PySem.Spec PyProof.Rows L2
section
variable {X : Cx} {T : Nat → Addr} {Wx : WX'} {pos : Pos}
theorem se_tupA {es : List Expr} {k : M (List W)} {n : Nat} {x1} (h : SAn X T Wx n es k) (hn : n ≤ 1000 := by decide) : SE X T Wx (.Tuple es x1 pos) (mTup k) := se_tup h.run h.len hn
theorem se_lstA {fz : Bool} {es : List Expr} {k : M (List W)} {n : Nat} (h : SAn X T Wx n es k) (hn : n ≤ 1000 := by decide) : SE X T Wx (.List es pos) (mLst fz k) := se_lst h.run h.len hn
end
end Mi
namespace Lw
open PySem PySem.Spec PyProof.Rows L2 Mi
/-! the text by places -/
def top (i : Nat) : Stmt := PySem.Challenge.pw_wholecommits_k04_whole_orders_in_which_w.main.body.getD i (.Pass ⟨0, 0, 0, 0⟩)
abbrev s_law_hand : Stmt := top 25
abbrev N_law_hand : List Str := ["script", "cells", "cell"]
theorem sc_law_hand : FnScope N_law_hand ["script"] (defScope s_law_hand) := ⟨rfl, rfl, rfl, by decide +kernel, rfl, by decide +kernel, by decide +kernel⟩
abbrev s_law_draw : Stmt := top 26
abbrev N_law_draw : List Str := ["hand", "many", "cell", "digit", "number"]
theorem sc_law_draw : FnScope N_law_draw ["hand", "many"] (defScope s_law_draw) := ⟨rfl, rfl, rfl, by decide +kernel, rfl, by decide +kernel, by decide +kernel⟩
abbrev s_law_any : Stmt := top 27
abbrev N_law_any : List Str := ["hand", "some"]
theorem sc_law_any : FnScope N_law_any ["hand", "some"] (defScope s_law_any) := ⟨rfl, rfl, rfl, by decide +kernel, rfl, by decide +kernel, by decide +kernel⟩
abbrev s_law_content : Stmt := top 28
abbrev N_law_content : List Str := ["hand", "some", "many", "item"]
theorem sc_law_content : FnScope N_law_content ["hand"] (defScope s_law_content) := ⟨rfl, rfl, rfl, by decide +kernel, rfl, by decide +kernel, by decide +kernel⟩
abbrev s_law_mixed : Stmt := top 29
abbrev N_law_mixed : List Str := ["hand", "things", "left", "found"]
theorem sc_law_mixed : FnScope N_law_mixed ["hand", "things"] (defScope s_law_mixed) := ⟨rfl, rfl, rfl, by decide +kernel, rfl, by decide +kernel, by decide +kernel⟩
abbrev s_is_integer : Stmt := top 13
abbrev N_is_integer : List Str := ["thing"]
theorem sc_is_integer : FnScope N_is_integer ["thing"] (defScope s_is_integer) := ⟨rfl, rfl, rfl, by decide +kernel, rfl, by decide +kernel, by decide +kernel⟩
abbrev s_is_within : Stmt := top 14
abbrev N_is_within : List Str := ["low", "high", "thing"]
theorem sc_is_within : FnScope N_is_within ["low", "high", "thing"] (defScope s_is_within) := ⟨rfl, rfl, rfl, by decide +kernel, rfl, by decide +kernel, by decide +kernel⟩
abbrev s_Disk_init : Stmt := inClass (top 23) 0
abbrev N_Disk_init : List Str := ["self", "blocks"]
theorem sc_Disk_init : FnScope N_Disk_init ["self", "blocks"] (defScope s_Disk_init) := ⟨rfl, rfl, rfl, by decide +kernel, rfl, by decide +kernel, by decide +kernel⟩
abbrev s_Disk_blocks : Stmt := inClass (top 23) 1
abbrev N_Disk_blocks : List Str := ["self"]
theorem sc_Disk_blocks : FnScope N_Disk_blocks ["self"] (defScope s_Disk_blocks) := ⟨rfl, rfl, rfl, by decide +kernel, rfl, by decide +kernel, by decide +kernel⟩
abbrev s_Disk_demand_block : Stmt := inClass (top 23) 13
abbrev N_Disk_demand_block : List Str := ["self", "block"]
theorem sc_Disk_demand_block : FnScope N_Disk_demand_block ["self", "block"] (defScope s_Disk_demand_block) := ⟨rfl, rfl, rfl, by decide +kernel, rfl, by decide +kernel, by decide +kernel⟩
abbrev s_is_word : Stmt := top 15
abbrev N_is_word : List Str := ["thing", "sign"]
theorem sc_is_word : FnScope N_is_word ["thing"] (defScope s_is_word) := ⟨rfl, rfl, rfl, by decide +kernel, rfl, by decide +kernel, by decide +kernel⟩
abbrev s_is_item : Stmt := top 16
abbrev N_is_item : List Str := ["thing"]
theorem sc_is_item : FnScope N_is_item ["thing"] (defScope s_is_item) := ⟨rfl, rfl, rfl, by decide +kernel, rfl, by decide +kernel, by decide +kernel⟩
abbrev s_is_row : Stmt := top 17
abbrev N_is_row : List Str := ["low", "high", "thing", "item"]
theorem sc_is_row : FnScope N_is_row ["low", "high", "thing"] (defScope s_is_row) := ⟨rfl, rfl, rfl, by decide +kernel, rfl, by decide +kernel, by decide +kernel⟩
abbrev s_is_content : Stmt := top 18
abbrev N_is_content : List Str := ["thing"]
theorem sc_is_content : FnScope N_is_content ["thing"] (defScope s_is_content) := ⟨rfl, rfl, rfl, by decide +kernel, rfl, by decide +kernel, by decide +kernel⟩
abbrev s_Disk_write : Stmt := inClass (top 23) 2
abbrev N_Disk_write : List Str := ["self", "block", "content"]
theorem sc_Disk_write : FnScope N_Disk_write ["self", "block", "content"] (defScope s_Disk_write) := ⟨rfl, rfl, rfl, by decide +kernel, rfl, by decide +kernel, by decide +kernel⟩
abbrev s_law_written : Stmt := top 30
abbrev N_law_written : List Str := ["blocks", "writes", "disk", "block", "content"]
theorem sc_law_written : FnScope N_law_written ["blocks", "writes"] (defScope s_law_written) := ⟨rfl, rfl, rfl, by decide +kernel, rfl, by decide +kernel, by decide +kernel⟩
abbrev s_Disk_lying : Stmt := inClass (top 23) 10
abbrev N_Disk_lying : List Str := ["self", "block"]
theorem sc_Disk_lying : FnScope N_Disk_lying ["self", "block"] (defScope s_Disk_lying) := ⟨rfl, rfl, rfl, by decide +kernel, rfl, by decide +kernel, by decide +kernel⟩
abbrev s_Disk_waiting : Stmt := inClass (top 23) 9
abbrev N_Disk_waiting : List Str := ["self", "block"]
theorem sc_Disk_waiting : FnScope N_Disk_waiting ["self"] (defScope s_Disk_waiting) := ⟨rfl, rfl, rfl, by decide +kernel, rfl, by decide +kernel, by decide +kernel⟩
abbrev s_Disk_read : Stmt := inClass (top 23) 3
abbrev N_Disk_read : List Str := ["self", "block"]
theorem sc_Disk_read : FnScope N_Disk_read ["self", "block"] (defScope s_Disk_read) := ⟨rfl, rfl, rfl, by decide +kernel, rfl, by decide +kernel, by decide +kernel⟩
abbrev s_law_lies : Stmt := top 31
abbrev N_law_lies : List Str := ["disk", "rows", "counts", "block", "row", "due"]
theorem sc_law_lies : FnScope N_law_lies ["disk", "rows", "counts"] (defScope s_law_lies) := ⟨rfl, rfl, rfl, by decide +kernel, rfl, by decide +kernel, by decide +kernel⟩
abbrev s_Disk_let_reach : Stmt := inClass (top 23) 14
abbrev N_Disk_let_reach : List Str := ["self", "block"]
theorem sc_Disk_let_reach : FnScope N_Disk_let_reach ["self", "block"] (defScope s_Disk_let_reach) := ⟨rfl, rfl, rfl, by decide +kernel, rfl, by decide +kernel, by decide +kernel⟩
abbrev s_Disk_reach : Stmt := inClass (top 23) 4
abbrev N_Disk_reach : List Str := ["self", "block"]
theorem sc_Disk_reach : FnScope N_Disk_reach ["self", "block"] (defScope s_Disk_reach) := ⟨rfl, rfl, rfl, by decide +kernel, rfl, by decide +kernel, by decide +kernel⟩
abbrev s_Disk_reached : Stmt := inClass (top 23) 11
abbrev N_Disk_reached : List Str := ["self"]
theorem sc_Disk_reached : FnScope N_Disk_reached ["self"] (defScope s_Disk_reached) := ⟨rfl, rfl, rfl, by decide +kernel, rfl, by decide +kernel, by decide +kernel⟩
abbrev s_Disk_cut : Stmt := inClass (top 23) 8
abbrev N_Disk_cut : List Str := ["self"]
theorem sc_Disk_cut : FnScope N_Disk_cut ["self"] (defScope s_Disk_cut) := ⟨rfl, rfl, rfl, by decide +kernel, rfl, by decide +kernel, by decide +kernel⟩
abbrev s_law : Stmt := top 32
abbrev N_law : List Str := ["script", "hand", "blocks", "some", "writes", "rows", "block", "content", "orders", "ends", "order", "disk", "counts", "at", "place", "row", "many", "due", "turn"]
theorem sc_law : FnScope N_law ["script"] (defScope s_law) := ⟨rfl, rfl, rfl, by decide +kernel, rfl, by decide +kernel, by decide +kernel⟩
/-! the mirror -/
def x_own : Nat → String → Option Bool := fun _ _ => none
def m_law_hand : MS := sSeq (sAsg (mComp true (iL (mSl true (mVar 0) (mNoPart) (mPart (mC (.int 63))))) [2] (.one 2) (mYes) (mFn fAbs (mCons (mFn fInt (mCons (mVar 2) (mNil))) (mNil)))) (gName' 1)) (sRet (mLst false (mCons (mVar 1) (mCons (mC (.int 0)) (mCons (mC (.int 0)) (mCons (mOp (wAdd true) (mC (.int 1)) (mFn fLen (mCons (mVar 1) (mNil)))) (mCons (mC (.int 0)) (mNil))))))))
def r_law_hand : RunM := runOf 3 m_law_hand
def m_law_draw : MS := sSeq (sIf (mAnd (mB (mOp (wEq) (mOp wIx (mVar 0) (mC (.int 2))) (mC (.int 0)))) (mB (mOp (wCmpS (fun i j => decide (i.cps.toList < j.cps.toList)) (fun i j => decide (i < j))) (mOp wIx (mVar 0) (mC (.int 1))) (mFn fLen (mCons (mOp wIx (mVar 0) (mC (.int 0))) (mNil)))))) (sSeq (sAsg (mOp wIx (mOp wIx (mVar 0) (mC (.int 0))) (mOp wIx (mVar 0) (mC (.int 1)))) (gName' 2)) (sSeq (sAsg (mOp (wAdd true) (mOp wIx (mVar 0) (mC (.int 1))) (mC (.int 1))) (gSub' (mVar 0) (mC (.int 1)))) (sSeq (sAsg (mOp (wMod) (mFn fInt (mCons (mOp (wAdd true) (mOp (wAdd true) (mOp (wMul true) (mOp wIx (mVar 0) (mC (.int 3))) (mC (.int 69621))) (mVar 2)) (mC (.int 11))) (mNil))) (mC (.int 2147483629))) (gSub' (mVar 0) (mC (.int 3)))) (sIf (mB (mOp (wCmpS (fun i j => !decide (i.cps.toList < j.cps.toList)) (fun i j => decide (j ≤ i))) (mVar 2) (mOp (wPow) (mC (.int 10)) (mC (.int 18))))) (sAsg (mVar 2) (gSub' (mVar 0) (mC (.int 2)))) (sNx))))) (sNx)) (sSeq (sIf (mB (mOp (wCmpS (fun i j => decide (j.cps.toList < i.cps.toList)) (fun i j => decide (j < i))) (mOp wIx (mVar 0) (mC (.int 2))) (mC (.int 0)))) (sSeq (sAsg (mOp (wMod) (mFn fInt (mCons (mOp wIx (mVar 0) (mC (.int 2))) (mNil))) (mVar 1)) (gName' 3)) (sSeq (sAsg (mOp (wDiv) (mOp wIx (mVar 0) (mC (.int 2))) (mVar 1)) (gSub' (mVar 0) (mC (.int 2)))) (sRet (mVar 3)))) (sNx)) (sSeq (sAsg (mOp (wAdd true) (mOp wIx (mVar 0) (mC (.int 4))) (mC (.int 1))) (gSub' (mVar 0) (mC (.int 4)))) (sSeq (sAsg (mOp (wMod) (mFn fInt (mCons (mOp (wMul true) (mFn fInt (mCons (mOp (wAdd true) (mOp wIx (mVar 0) (mC (.int 3))) (mOp (wMul true) (mC (.int 7919)) (mOp wIx (mVar 0) (mC (.int 4))))) (mNil))) (mC (.int 48271))) (mNil))) (mC (.int 2147483647))) (gName' 4)) (sSeq (sAsg (mOp (wMod) (mFn fInt (mCons (mOp (wMul true) (mVar 4) (mOp (wAdd true) (mOp (wDiv) (mVar 4) (mC (.int 1009))) (mC (.int 69621)))) (mNil))) (mC (.int 2147483647))) (gName' 4)) (sSeq (sAsg (mOp (wMod) (mFn fInt (mCons (mOp (wMul true) (mVar 4) (mOp (wAdd true) (mOp (wDiv) (mVar 4) (mC (.int 2003))) (mC (.int 40692)))) (mNil))) (mC (.int 2147483399))) (gName' 4)) (sRet (mOp (wMod) (mFn fInt (mCons (mOp (wDiv) (mVar 4) (mC (.int 16))) (mNil))) (mVar 1))))))))
def r_law_draw : RunM := runOf 5 m_law_draw
def m_law_any : MS := sRet (mOp wIx (mVar 1) (mCall r_law_draw (mCons (mVar 0) (mCons (mFn fLen (mCons (mVar 1) (mNil))) (mNil)))))
def r_law_any : RunM := runOf 2 m_law_any
def m_law_content : MS := sSeq (sAsg (mLst true (mCons (mC (.int 0)) (mCons (mC (.int 1)) (mCons (mNeg (mC (.int 7))) (mCons (mOp (wPow) (mC (.int 10)) (mC (.int 30))) (mCons (mNeg (mOp (wPow) (mC (.int 10)) (mC (.int 30)))) (mCons (mC (.str "")) (mCons (mC (.str "a")) (mCons (mC (.str "abcdefghijkl")) (mCons (mCall r_law_draw (mCons (mVar 0) (mCons (mC (.int 1000)) (mNil)))) (mNil))))))))))) (gName' 1)) (sSeq (sAsg (mCall r_law_any (mCons (mVar 0) (mCons (mLst true (mCons (mC (.int 0)) (mCons (mC (.int 1)) (mCons (mC (.int 2)) (mCons (mC (.int 3)) (mCons (mC (.int 5)) (mCons (mC (.int 40)) (mNil)))))))) (mNil)))) (gName' 2)) (sRet (mFn fTuple (mCons (mComp true (iR1 (mCons (mVar 2) (mNil))) [3] (.one 3) (mYes) (mCall r_law_any (mCons (mVar 0) (mCons (mVar 1) (mNil))))) (mNil)))))
def r_law_content : RunM := runOf 4 m_law_content
def m_law_mixed : MS := sSeq (sPar 2 3 (mFn (fList false) (mCons (mVar 1) (mNil))) (mLst false (mNil))) (sSeq (sWhile 1000000 (mB (mOp (wCmpS (fun i j => decide (j.cps.toList < i.cps.toList)) (fun i j => decide (j < i))) (mFn fLen (mCons (mVar 2) (mNil))) (mC (.int 0)))) (sExpr (mLm fAppend (mVar 3) (mCons (mLm fPopAt (mVar 2) (mCons (mCall r_law_draw (mCons (mVar 0) (mCons (mFn fLen (mCons (mVar 2) (mNil))) (mNil)))) (mNil))) (mNil))))) (sRet (mVar 3)))
def r_law_mixed : RunM := runOf 4 m_law_mixed
def m_is_integer : MS := sRet (mBl (mAnd (mB (mFn (fIsi x_own) (mCons (mVar 0) (mCons (mC (.ty "int")) (mNil))))) (mNot (mB (mFn (fIsi x_own) (mCons (mVar 0) (mCons (mC (.ty "bool")) (mNil))))))))
def r_is_integer : RunM := runOf 1 m_is_integer
def m_is_within : MS := sRet (mBl (mAnd (mB (mCall r_is_integer (mCons (mVar 2) (mNil)))) (mB (mChain (wCmpS (fun i j => !decide (j.cps.toList < i.cps.toList)) (fun i j => decide (i ≤ j))) (wCmpS (fun i j => !decide (j.cps.toList < i.cps.toList)) (fun i j => decide (i ≤ j))) (mVar 0) (mVar 2) (mVar 1)))))
def r_is_within : RunM := runOf 3 m_is_within
def m_Disk_init : MS := sSeq (sIf (mNot (mTr (mCall r_is_within (mCons (mC (.int 16)) (mCons (mC (.int 600)) (mCons (mVar 1) (mNil))))))) (sStk) (sNx)) (sSeq (sFld' [0] "contents" (mVar 0) (mOp (wMul false) (mLst true (mCons (mTup (mNil)) (mNil))) (mVar 1))) (sSeq (sFld' [0] "cached" (mVar 0) (mDict0)) (sSeq (sFld' [0] "left" (mVar 0) (mC .non)) (sFld' [0] "arrived" (mVar 0) (mC (.int 0))))))
def r_Disk_init : RunM := runOf 2 m_Disk_init
def m_Disk_blocks : MS := sRet (mFn fLen (mCons (mFld [0] "contents" (mVar 0)) (mNil)))
def r_Disk_blocks : RunM := runOf 1 m_Disk_blocks
def m_Disk_demand_block : MS := sIf (mNot (mTr (mCall r_is_within (mCons (mC (.int 0)) (mCons (mOp (wSub) (mMeth [(0, r_Disk_blocks)] "blocks" (mVar 0) mNil) (mC (.int 1))) (mCons (mVar 1) (mNil))))))) (sStk) (sNx)
def r_Disk_demand_block : RunM := runOf 2 m_Disk_demand_block
def m_is_word : MS := sSeq (sIf (mOr (mNot (mTr (mFn (fIsi x_own) (mCons (mVar 0) (mCons (mC (.ty "str")) (mNil)))))) (mB (mOp (wCmpS (fun i j => decide (j.cps.toList < i.cps.toList)) (fun i j => decide (j < i))) (mFn fLen (mCons (mVar 0) (mNil))) (mC (.int 12))))) (sRet (mC (.bl false))) (sNx)) (sRet (mFn fAll (mCons (mComp true (iS (mVar 0)) [1] (.one 1) (mYes) (mChain (wCmpS (fun i j => !decide (j.cps.toList < i.cps.toList)) (fun i j => decide (i ≤ j))) (wCmpS (fun i j => !decide (j.cps.toList < i.cps.toList)) (fun i j => decide (i ≤ j))) (mC (.str "a")) (mVar 1) (mC (.str "z")))) (mNil))))
def r_is_word : RunM := runOf 2 m_is_word
def m_is_item : MS := sRet (mBl (mOr (mB (mCall r_is_word (mCons (mVar 0) (mNil)))) (mB (mCall r_is_within (mCons (mNeg (mC (.int 1000000000000000000000000000000))) (mCons (mC (.int 1000000000000000000000000000000)) (mCons (mVar 0) (mNil))))))))
def r_is_item : RunM := runOf 1 m_is_item
def m_is_row : MS := sSeq (sIf (mOr (mNot (mTr (mFn (fIsi x_own) (mCons (mVar 2) (mCons (mC (.ty "tuple")) (mNil)))))) (mNot (mB (mChain (wCmpS (fun i j => !decide (j.cps.toList < i.cps.toList)) (fun i j => decide (i ≤ j))) (wCmpS (fun i j => !decide (j.cps.toList < i.cps.toList)) (fun i j => decide (i ≤ j))) (mVar 0) (mFn fLen (mCons (mVar 2) (mNil))) (mVar 1))))) (sRet (mC (.bl false))) (sNx)) (sRet (mFn fAll (mCons (mComp true (iT (mVar 2)) [3] (.one 3) (mYes) (mCall r_is_item (mCons (mVar 3) (mNil)))) (mNil))))
def r_is_row : RunM := runOf 4 m_is_row
def m_is_content : MS := sRet (mCall r_is_row (mCons (mC (.int 0)) (mCons (mC (.int 40)) (mCons (mVar 0) (mNil)))))
def r_is_content : RunM := runOf 1 m_is_content
def m_Disk_write : MS := sSeq (sExpr (mMeth [(0, r_Disk_demand_block)] "demand_block" (mVar 0) (mCons (mVar 1) (mNil)))) (sSeq (sIf (mNot (mTr (mCall r_is_content (mCons (mVar 2) (mNil))))) (sStk) (sNx)) (sExpr (mLm fAppend (mDset2 (mFld [0] "cached" (mVar 0)) (mVar 1) (mLst false (mNil))) (mCons (mVar 2) (mNil)))))
def r_Disk_write : RunM := runOf 3 m_Disk_write
def m_law_written : MS := sSeq (sAsg (mMake 0 r_Disk_init (mCons (mVar 0) (mNil))) (gName' 2)) (sSeq (sFor (iL (mVar 1)) (gTup' [gName' 3, gName' 4]) (sExpr (mMeth [(0, r_Disk_write)] "write" (mVar 2) (mCons (mVar 3) (mCons (mVar 4) (mNil)))))) (sRet (mVar 2)))
def r_law_written : RunM := runOf 5 m_law_written
def m_Disk_lying : MS := sSeq (sExpr (mMeth [(0, r_Disk_demand_block)] "demand_block" (mVar 0) (mCons (mVar 1) (mNil)))) (sRet (mOp wIx (mFld [0] "contents" (mVar 0)) (mVar 1)))
def r_Disk_lying : RunM := runOf 2 m_Disk_lying
def m_Disk_waiting : MS := sRet (mDcomp (iL (mFn (fSorted true) (mCons (mFld [0] "cached" (mVar 0)) (mNil)))) [1] (.one 1) (mYes) (mVar 1) (mFn fLen (mCons (mOp wIx (mFld [0] "cached" (mVar 0)) (mVar 1)) (mNil))))
def r_Disk_waiting : RunM := runOf 2 m_Disk_waiting
def m_Disk_read : MS := sSeq (sExpr (mMeth [(0, r_Disk_demand_block)] "demand_block" (mVar 0) (mCons (mVar 1) (mNil)))) (sSeq (sIf (mB (mDin false (mVar 1) (mFld [0] "cached" (mVar 0)))) (sRet (mOp wIx (mOp wIx (mFld [0] "cached" (mVar 0)) (mVar 1)) (mNeg (mC (.int 1))))) (sNx)) (sRet (mOp wIx (mFld [0] "contents" (mVar 0)) (mVar 1))))
def r_Disk_read : RunM := runOf 2 m_Disk_read
def m_law_lies : MS := sSeq (sLock (mVar 1) (sFor (iKv (mVar 1)) (gTup' [gName' 3, gName' 4]) (sSeq (sAsg (mIf (mB (mOp (wCmpS (fun i j => decide (j.cps.toList < i.cps.toList)) (fun i j => decide (j < i))) (mOp wIx (mVar 2) (mVar 3)) (mC (.int 0)))) (mOp wIx (mVar 4) (mOp (wSub) (mOp wIx (mVar 2) (mVar 3)) (mC (.int 1)))) (mTup (mNil))) (gName' 5)) (sSeq (sIf (mOr (mB (mOp (wNe) (mMeth [(0, r_Disk_lying)] "lying" (mVar 0) (mCons (mVar 3) (mNil))) (mVar 5))) (mB (mOp (wNe) (mDget2 (mMeth [(0, r_Disk_waiting)] "waiting" (mVar 0) mNil) (mVar 3) (mC (.int 0))) (mOp (wSub) (mFn fLen (mCons (mVar 4) (mNil))) (mOp wIx (mVar 2) (mVar 3)))))) (sRet (mC (.bl false))) (sNx)) (sIf (mB (mOp (wNe) (mMeth [(0, r_Disk_read)] "read" (mVar 0) (mCons (mVar 3) (mNil))) (mOp wIx (mVar 4) (mNeg (mC (.int 1)))))) (sRet (mC (.bl false))) (sNx)))))) (sRet (mC (.bl true)))
def r_law_lies : RunM := runOf 6 m_law_lies
def m_Disk_let_reach : MS := sSeq (sIf (mB (mOp (wEq) (mFld [0] "left" (mVar 0)) (mC (.int 0)))) (sStk) (sNx)) (sSeq (sIf (mB (mOp (wIsNot) (mFld [0] "left" (mVar 0)) (mC .non))) (sFaug [0] "left" (fun p q => p - q) (mVar 0) (mC (.int 1))) (sNx)) (sSeq (sAsg (mLm fPopAt (mOp wIx (mFld [0] "cached" (mVar 0)) (mVar 1)) (mCons (mC (.int 0)) (mNil))) (gSub' (mFld [0] "contents" (mVar 0)) (mVar 1))) (sSeq (sIf (mNot (mTr (mOp wIx (mFld [0] "cached" (mVar 0)) (mVar 1)))) (sDel (mFld [0] "cached" (mVar 0)) (mVar 1)) (sNx)) (sFaug [0] "arrived" (fun p q => p + q) (mVar 0) (mC (.int 1))))))
def r_Disk_let_reach : RunM := runOf 2 m_Disk_let_reach
def m_Disk_reach : MS := sSeq (sExpr (mMeth [(0, r_Disk_demand_block)] "demand_block" (mVar 0) (mCons (mVar 1) (mNil)))) (sSeq (sIf (mB (mDin true (mVar 1) (mFld [0] "cached" (mVar 0)))) (sStk) (sNx)) (sExpr (mMeth [(0, r_Disk_let_reach)] "let_reach" (mVar 0) (mCons (mVar 1) (mNil)))))
def r_Disk_reach : RunM := runOf 2 m_Disk_reach
def m_Disk_reached : MS := sRet (mFld [0] "arrived" (mVar 0))
def r_Disk_reached : RunM := runOf 1 m_Disk_reached
def m_Disk_cut : MS := sSeq (sFld' [0] "cached" (mVar 0) (mDict0)) (sFld' [0] "left" (mVar 0) (mC .non))
def r_Disk_cut : RunM := runOf 1 m_Disk_cut
def m_law : MS := sSeq (sAsg (mCall r_law_hand (mCons (mVar 0) (mNil))) (gName' 1)) (sSeq (sAsg (mOp (wAdd true) (mC (.int 16)) (mCall r_law_draw (mCons (mVar 1) (mCons (mC (.int 3)) (mNil))))) (gName' 2)) (sSeq (sAsg (mSl true (mLst true (mCons (mC (.int 0)) (mCons (mC (.int 1)) (mCons (mC (.int 2)) (mCons (mOp (wSub) (mVar 2) (mC (.int 1))) (mNil)))))) (mNoPart) (mPart (mOp (wAdd true) (mC (.int 1)) (mCall r_law_draw (mCons (mVar 1) (mCons (mC (.int 4)) (mNil))))))) (gName' 3)) (sSeq (sAsg (mComp true (iR1 (mCons (mOp (wAdd true) (mC (.int 1)) (mCall r_law_draw (mCons (mVar 1) (mCons (mC (.int 12)) (mNil))))) (mNil))) [18] (.one 18) (mYes) (mTup (mCons (mCall r_law_any (mCons (mVar 1) (mCons (mVar 3) (mNil)))) (mCons (mCall r_law_content (mCons (mVar 1) (mNil))) (mNil))))) (gName' 4)) (sSeq (sAsg (mDict0) (gName' 5)) (sSeq (sFor (iL (mVar 4)) (gTup' [gName' 6, gName' 7]) (sAsg (mOp (wAdd true) (mDget2 (mVar 5) (mVar 6) (mLst true (mNil))) (mLst true (mCons (mVar 7) (mNil)))) (gSub' (mVar 5) (mVar 6)))) (sSeq (sAsg (mComp true (iR1 (mCons (mC (.int 2)) (mNil))) [18] (.one 18) (mYes) (mCall r_law_mixed (mCons (mVar 1) (mCons (mComp true (iL (mVar 4)) [6, 7] (.tup [6, 7]) (mYes) (mVar 6)) (mNil))))) (gName' 8)) (sSeq (sAsg (mLst false (mNil)) (gName' 9)) (sSeq (sFor (iL (mVar 8)) (gName' 10) (sSeq (sAsg (mTup (mCons (mCall r_law_written (mCons (mVar 2) (mCons (mVar 4) (mNil)))) (mCons (mFn fDict (mCons (mLock (mVar 5) (mComp true (iK (mVar 5)) [6] (.one 6) (mYes) (mTup (mCons (mVar 6) (mCons (mC (.int 0)) (mNil)))))) (mNil))) (mNil)))) (gTup' [gName' 11, gName' 12])) (sSeq (sIf (mNot (mTr (mCall r_law_lies (mCons (mVar 11) (mCons (mVar 5) (mCons (mVar 12) (mNil))))))) (sRet (mC (.bl false))) (sNx)) (sSeq (sFor (iE (mCons (mVar 10) (mNil))) (gTup' [gName' 13, gName' 6]) (sSeq (sExpr (mMeth [(0, r_Disk_reach)] "reach" (mVar 11) (mCons (mVar 6) (mNil)))) (sSeq (sAsg (mOp (wAdd true) (mOp wIx (mVar 12) (mVar 6)) (mC (.int 1))) (gSub' (mVar 12) (mVar 6))) (sIf (mOr (mNot (mTr (mCall r_law_lies (mCons (mVar 11) (mCons (mVar 5) (mCons (mVar 12) (mNil))))))) (mB (mOp (wNe) (mMeth [(0, r_Disk_reached)] "reached" (mVar 11) mNil) (mOp (wAdd true) (mVar 13) (mC (.int 1)))))) (sRet (mC (.bl false))) (sNx))))) (sExpr (mLm fAppend (mVar 9) (mCons (mComp true (iR1 (mCons (mVar 2) (mNil))) [6] (.one 6) (mYes) (mMeth [(0, r_Disk_lying)] "lying" (mVar 11) (mCons (mVar 6) (mNil)))) (mNil)))))))) (sSeq (sFor (iR1 (mCons (mOp (wAdd true) (mFn fLen (mCons (mVar 4) (mNil))) (mC (.int 1))) (mNil))) (gName' 14) (sSeq (sAsg (mCall r_law_written (mCons (mVar 2) (mCons (mVar 4) (mNil)))) (gName' 11)) (sSeq (sFor (iL (mSl true (mOp wIx (mVar 8) (mC (.int 0))) (mNoPart) (mPart (mVar 14)))) (gName' 6) (sExpr (mMeth [(0, r_Disk_reach)] "reach" (mVar 11) (mCons (mVar 6) (mNil))))) (sSeq (sExpr (mMeth [(0, r_Disk_cut)] "cut" (mVar 11) mNil)) (sSeq (sLock (mVar 5) (sFor (iKv (mVar 5)) (gTup' [gName' 6, gName' 15]) (sSeq (sAsg (mLm fCount (mSl true (mOp wIx (mVar 8) (mC (.int 0))) (mNoPart) (mPart (mVar 14))) (mCons (mVar 6) (mNil))) (gName' 16)) (sSeq (sAsg (mIf (mB (mOp (wCmpS (fun i j => decide (j.cps.toList < i.cps.toList)) (fun i j => decide (j < i))) (mVar 16) (mC (.int 0)))) (mOp wIx (mVar 15) (mOp (wSub) (mVar 16) (mC (.int 1)))) (mTup (mNil))) (gName' 17)) (sIf (mOr (mB (mOp (wNe) (mMeth [(0, r_Disk_lying)] "lying" (mVar 11) (mCons (mVar 6) (mNil))) (mVar 17))) (mB (mOp (wNe) (mMeth [(0, r_Disk_read)] "read" (mVar 11) (mCons (mVar 6) (mNil))) (mVar 17)))) (sRet (mC (.bl false))) (sNx)))))) (sIf (mOr (mB (mOp (wEqD false) (mMeth [(0, r_Disk_waiting)] "waiting" (mVar 11) mNil) (mDict0))) (mB (mOp (wNe) (mMeth [(0, r_Disk_reached)] "reached" (mVar 11) mNil) (mVar 14)))) (sRet (mC (.bl false))) (sNx))))))) (sRet (mOp (wEq) (mOp wIx (mVar 9) (mC (.int 0))) (mOp wIx (mVar 9) (mC (.int 1))))))))))))))
def r_law : RunM := runOf 19 m_law
/-! what stands where -/
structure Tx (K : PySem.W.Frag) (mg : Str → Option Value) where
  C_Disk : Addr
  a_law_hand : Addr
  d_law_hand : FuncData
  F_law_hand : Fun K "_law_hand" "_law_hand" s_law_hand a_law_hand d_law_hand
  b_law_hand : Binds K d_law_hand ["script"] []
  g_law_hand : mg "_law_hand" = some (.ref a_law_hand)
  a_law_draw : Addr
  d_law_draw : FuncData
  F_law_draw : Fun K "_law_draw" "_law_draw" s_law_draw a_law_draw d_law_draw
  b_law_draw : Binds K d_law_draw ["hand", "many"] []
  g_law_draw : mg "_law_draw" = some (.ref a_law_draw)
  a_law_any : Addr
  d_law_any : FuncData
  F_law_any : Fun K "_law_any" "_law_any" s_law_any a_law_any d_law_any
  b_law_any : Binds K d_law_any ["hand", "some"] []
  g_law_any : mg "_law_any" = some (.ref a_law_any)
  a_law_content : Addr
  d_law_content : FuncData
  F_law_content : Fun K "_law_content" "_law_content" s_law_content a_law_content d_law_content
  b_law_content : Binds K d_law_content ["hand"] []
  g_law_content : mg "_law_content" = some (.ref a_law_content)
  a_law_mixed : Addr
  d_law_mixed : FuncData
  F_law_mixed : Fun K "_law_mixed" "_law_mixed" s_law_mixed a_law_mixed d_law_mixed
  b_law_mixed : Binds K d_law_mixed ["hand", "things"] []
  g_law_mixed : mg "_law_mixed" = some (.ref a_law_mixed)
  a_is_integer : Addr
  d_is_integer : FuncData
  F_is_integer : Fun K "is_integer" "is_integer" s_is_integer a_is_integer d_is_integer
  b_is_integer : Binds K d_is_integer ["thing"] []
  g_is_integer : mg "is_integer" = some (.ref a_is_integer)
  a_is_within : Addr
  d_is_within : FuncData
  F_is_within : Fun K "is_within" "is_within" s_is_within a_is_within d_is_within
  b_is_within : Binds K d_is_within ["low", "high", "thing"] []
  g_is_within : mg "is_within" = some (.ref a_is_within)
  a_Disk_init : Addr
  d_Disk_init : FuncData
  F_Disk_init : Fun K "__init__" "Disk.__init__" s_Disk_init a_Disk_init d_Disk_init
  b_Disk_init : Binds K d_Disk_init ["self", "blocks"] []
  a_Disk_blocks : Addr
  d_Disk_blocks : FuncData
  F_Disk_blocks : Fun K "blocks" "Disk.blocks" s_Disk_blocks a_Disk_blocks d_Disk_blocks
  b_Disk_blocks : Binds K d_Disk_blocks ["self"] []
  a_Disk_demand_block : Addr
  d_Disk_demand_block : FuncData
  F_Disk_demand_block : Fun K "demand_block" "Disk.demand_block" s_Disk_demand_block a_Disk_demand_block d_Disk_demand_block
  b_Disk_demand_block : Binds K d_Disk_demand_block ["self", "block"] []
  a_is_word : Addr
  d_is_word : FuncData
  F_is_word : Fun K "is_word" "is_word" s_is_word a_is_word d_is_word
  b_is_word : Binds K d_is_word ["thing"] []
  g_is_word : mg "is_word" = some (.ref a_is_word)
  a_is_item : Addr
  d_is_item : FuncData
  F_is_item : Fun K "is_item" "is_item" s_is_item a_is_item d_is_item
  b_is_item : Binds K d_is_item ["thing"] []
  g_is_item : mg "is_item" = some (.ref a_is_item)
  a_is_row : Addr
  d_is_row : FuncData
  F_is_row : Fun K "is_row" "is_row" s_is_row a_is_row d_is_row
  b_is_row : Binds K d_is_row ["low", "high", "thing"] []
  g_is_row : mg "is_row" = some (.ref a_is_row)
  a_is_content : Addr
  d_is_content : FuncData
  F_is_content : Fun K "is_content" "is_content" s_is_content a_is_content d_is_content
  b_is_content : Binds K d_is_content ["thing"] []
  g_is_content : mg "is_content" = some (.ref a_is_content)
  a_Disk_write : Addr
  d_Disk_write : FuncData
  F_Disk_write : Fun K "write" "Disk.write" s_Disk_write a_Disk_write d_Disk_write
  b_Disk_write : Binds K d_Disk_write ["self", "block", "content"] []
  a_law_written : Addr
  d_law_written : FuncData
  F_law_written : Fun K "_law_written" "_law_written" s_law_written a_law_written d_law_written
  b_law_written : Binds K d_law_written ["blocks", "writes"] []
  g_law_written : mg "_law_written" = some (.ref a_law_written)
  a_Disk_lying : Addr
  d_Disk_lying : FuncData
  F_Disk_lying : Fun K "lying" "Disk.lying" s_Disk_lying a_Disk_lying d_Disk_lying
  b_Disk_lying : Binds K d_Disk_lying ["self", "block"] []
  a_Disk_waiting : Addr
  d_Disk_waiting : FuncData
  F_Disk_waiting : Fun K "waiting" "Disk.waiting" s_Disk_waiting a_Disk_waiting d_Disk_waiting
  b_Disk_waiting : Binds K d_Disk_waiting ["self"] []
  a_Disk_read : Addr
  d_Disk_read : FuncData
  F_Disk_read : Fun K "read" "Disk.read" s_Disk_read a_Disk_read d_Disk_read
  b_Disk_read : Binds K d_Disk_read ["self", "block"] []
  a_law_lies : Addr
  d_law_lies : FuncData
  F_law_lies : Fun K "_law_lies" "_law_lies" s_law_lies a_law_lies d_law_lies
  b_law_lies : Binds K d_law_lies ["disk", "rows", "counts"] []
  g_law_lies : mg "_law_lies" = some (.ref a_law_lies)
  a_Disk_let_reach : Addr
  d_Disk_let_reach : FuncData
  F_Disk_let_reach : Fun K "let_reach" "Disk.let_reach" s_Disk_let_reach a_Disk_let_reach d_Disk_let_reach
  b_Disk_let_reach : Binds K d_Disk_let_reach ["self", "block"] []
  a_Disk_reach : Addr
  d_Disk_reach : FuncData
  F_Disk_reach : Fun K "reach" "Disk.reach" s_Disk_reach a_Disk_reach d_Disk_reach
  b_Disk_reach : Binds K d_Disk_reach ["self", "block"] []
  a_Disk_reached : Addr
  d_Disk_reached : FuncData
  F_Disk_reached : Fun K "reached" "Disk.reached" s_Disk_reached a_Disk_reached d_Disk_reached
  b_Disk_reached : Binds K d_Disk_reached ["self"] []
  a_Disk_cut : Addr
  d_Disk_cut : FuncData
  F_Disk_cut : Fun K "cut" "Disk.cut" s_Disk_cut a_Disk_cut d_Disk_cut
  b_Disk_cut : Binds K d_Disk_cut ["self"] []
  a_law : Addr
  d_law : FuncData
  F_law : Fun K "law" "law" s_law a_law d_law
  b_law : Binds K d_law ["script"] []
  g_law : mg "law" = some (.ref a_law)
  bl : ∀ (s : Shared) (u : Value), BindsTo s d_law ⟨[u], []⟩ [("script", u)]
  cl_Disk : Cls K C_Disk
  M_Disk : Mk K C_Disk a_Disk_init
  gC_Disk : mg "Disk" = some (.ref C_Disk)
  me_Disk_blocks : Meth K C_Disk "blocks" a_Disk_blocks
  me_Disk_demand_block : Meth K C_Disk "demand_block" a_Disk_demand_block
  me_Disk_write : Meth K C_Disk "write" a_Disk_write
  me_Disk_lying : Meth K C_Disk "lying" a_Disk_lying
  me_Disk_waiting : Meth K C_Disk "waiting" a_Disk_waiting
  me_Disk_read : Meth K C_Disk "read" a_Disk_read
  me_Disk_let_reach : Meth K C_Disk "let_reach" a_Disk_let_reach
  me_Disk_reach : Meth K C_Disk "reach" a_Disk_reach
  me_Disk_reached : Meth K C_Disk "reached" a_Disk_reached
  me_Disk_cut : Meth K C_Disk "cut" a_Disk_cut
  nf_arrived_Disk : NoAttr K C_Disk "arrived"
  nf_cached_Disk : NoAttr K C_Disk "cached"
  nf_contents_Disk : NoAttr K C_Disk "contents"
  nf_left_Disk : NoAttr K C_Disk "left"
  t_FEWEST_BLOCKS : Tok
  c_FEWEST_BLOCKS : mg "FEWEST_BLOCKS" = some (.int 16 t_FEWEST_BLOCKS)
  t_GREATEST_ITEM : Tok
  c_GREATEST_ITEM : mg "GREATEST_ITEM" = some (.int 1000000000000000000000000000000 t_GREATEST_ITEM)
  t_LONGEST_CONTENT : Tok
  c_LONGEST_CONTENT : mg "LONGEST_CONTENT" = some (.int 40 t_LONGEST_CONTENT)
  t_LONGEST_WORD : Tok
  c_LONGEST_WORD : mg "LONGEST_WORD" = some (.int 12 t_LONGEST_WORD)
  t_MOST_BLOCKS : Tok
  c_MOST_BLOCKS : mg "MOST_BLOCKS" = some (.int 600 t_MOST_BLOCKS)
  z_abs : mg "abs" = none
  z_all : mg "all" = none
  z_bool : mg "bool" = none
  z_dict : mg "dict" = none
  z_enumerate : mg "enumerate" = none
  z_int : mg "int" = none
  z_isinstance : mg "isinstance" = none
  z_len : mg "len" = none
  z_list : mg "list" = none
  z_range : mg "range" = none
  z_sorted : mg "sorted" = none
  z_str : mg "str" = none
  z_tuple : mg "tuple" = none
section
variable {P : Program} {w : World} {K : PySem.W.Frag} {mg : Str → Option Value} {base : Heap}
def Tx.T (x : Tx K mg) : Nat → Addr := fun c => if c = 0 then x.C_Disk else 0
theorem Tx.own_ok (x : Tx K mg) : ∀ c n b, x_own c n = some b → IsiOwn K (x.T c) ∧ PySem.W.kitOne K (.ref (x.T c)) (.type n) = some b := fun c n b h => by simp [x_own] at h
theorem Tx.f_arrived (x : Tx K mg) : ∀ c ∈ ([0] : List Nat), Cls K (x.T c) ∧ NoAttr K (x.T c) "arrived" := fun c hc => by
  simp only [List.mem_cons, List.not_mem_nil, or_false] at hc
  rcases hc with rfl
  exact ⟨x.cl_Disk, x.nf_arrived_Disk⟩
theorem Tx.f_cached (x : Tx K mg) : ∀ c ∈ ([0] : List Nat), Cls K (x.T c) ∧ NoAttr K (x.T c) "cached" := fun c hc => by
  simp only [List.mem_cons, List.not_mem_nil, or_false] at hc
  rcases hc with rfl
  exact ⟨x.cl_Disk, x.nf_cached_Disk⟩
theorem Tx.f_contents (x : Tx K mg) : ∀ c ∈ ([0] : List Nat), Cls K (x.T c) ∧ NoAttr K (x.T c) "contents" := fun c hc => by
  simp only [List.mem_cons, List.not_mem_nil, or_false] at hc
  rcases hc with rfl
  exact ⟨x.cl_Disk, x.nf_contents_Disk⟩
theorem Tx.f_left (x : Tx K mg) : ∀ c ∈ ([0] : List Nat), Cls K (x.T c) ∧ NoAttr K (x.T c) "left" := fun c hc => by
  simp only [List.mem_cons, List.not_mem_nil, or_false] at hc
  rcases hc with rfl
  exact ⟨x.cl_Disk, x.nf_left_Disk⟩
theorem fn_law_hand (x : Tx K mg) : FnM P w K mg base x.T 1 x.a_law_hand x.d_law_hand ["script"] r_law_hand := fn_ok x.F_law_hand sc_law_hand fun cdv A outer s H E hr => sss_cons (ss_comp (fz := true) (i := 1) (own := [("cell", 2)]) (t := (.one 2)) rfl sc_law_hand.nd (by rfl) (by rfl) (sw_true rfl rfl rfl (by decide +kernel)) (si_list (se_sl (fz := true) (se_var (by rfl) (by first | exact Or.inl rfl | exact Or.inr (Or.inl rfl) | exact Or.inr (Or.inr rfl))) (sp_none) (sp_some (se_int)))) (blkOk_by (own := [("cell", 2)]) (N := N_law_hand) (sc := (defScope s_law_hand)) (by decide +kernel)) (by decide) (fun _ _ _ _ _ => pg_name (i := 2) sc_law_hand.nd (by rfl) (Or.inl (by rfl))) (.inl ⟨rfl, rfl⟩) (fun _ _ _ _ _ => se_blt call_abs okc_abs (by rfl) x.z_abs (by decide +kernel) (SAn.run (san_cons (se_bty call_int1 okc_int (by rfl) x.z_int (by decide +kernel) (SAn.run (san_cons (se_var (by rfl) (by first | exact Or.inl rfl | exact Or.inr (Or.inl rfl) | exact Or.inr (Or.inr rfl))) (san_nil)))) (san_nil))))) (sss_one (ss_ret (se_lstA (fz := false) (n := 5) (san_cons (se_var (by rfl) (by first | exact Or.inl rfl | exact Or.inr (Or.inl rfl) | exact Or.inr (Or.inr rfl))) (san_cons (se_int) (san_cons (se_int) (san_cons (se_op (opr_or op_add (opr_or op_add_str (opr_or op_catT op_cat))) (ok_add (fz := true)) (se_int) (se_blt (CallR.or call_len call_lenD) okc_len (by rfl) x.z_len (by decide +kernel) (SAn.run (san_cons (se_var (by rfl) (by first | exact Or.inl rfl | exact Or.inr (Or.inl rfl) | exact Or.inr (Or.inr rfl))) (san_nil))))) (san_cons (se_int) (san_nil)))))))))
theorem fn_law_draw (x : Tx K mg) : FnM P w K mg base x.T 1 x.a_law_draw x.d_law_draw ["hand", "many"] r_law_draw := fn_ok x.F_law_draw sc_law_draw fun cdv A outer s H E hr => sss_cons (ss_if (st_w (sw_and (st_cmp (opr_or op_eq (op_eqD hr.units)) ok_eq (se_ix (hu_of hr) (se_var (by rfl) (by first | exact Or.inl rfl | exact Or.inr (Or.inl rfl) | exact Or.inr (Or.inr rfl))) (se_int)) (se_int) (by rfl)) (sw_and1 (st_cmp (opr_or op_lt op_lt_str) ok_cmpS (se_ix (hu_of hr) (se_var (by rfl) (by first | exact Or.inl rfl | exact Or.inr (Or.inl rfl) | exact Or.inr (Or.inr rfl))) (se_int)) (se_blt (CallR.or call_len call_lenD) okc_len (by rfl) x.z_len (by decide +kernel) (SAn.run (san_cons (se_ix (hu_of hr) (se_var (by rfl) (by first | exact Or.inl rfl | exact Or.inr (Or.inl rfl) | exact Or.inr (Or.inr rfl))) (se_int)) (san_nil)))) (by rfl))))) (sss_cons (ss_set (i := 2) sc_law_draw.nd (by rfl) (by first | exact Or.inl rfl | exact Or.inr rfl) (se_ix (hu_of hr) (se_ix (hu_of hr) (se_var (by rfl) (by first | exact Or.inl rfl | exact Or.inr (Or.inl rfl) | exact Or.inr (Or.inr rfl))) (se_int)) (se_ix (hu_of hr) (se_var (by rfl) (by first | exact Or.inl rfl | exact Or.inr (Or.inl rfl) | exact Or.inr (Or.inr rfl))) (se_int)))) (sss_cons (ss_asg (se_op (opr_or op_add (opr_or op_add_str (opr_or op_catT op_cat))) (ok_add (fz := true)) (se_ix (hu_of hr) (se_var (by rfl) (by first | exact Or.inl rfl | exact Or.inr (Or.inl rfl) | exact Or.inr (Or.inr rfl))) (se_int)) (se_int)) (sg_sub (hu_of hr) (se_var (by rfl) (by first | exact Or.inl rfl | exact Or.inr (Or.inl rfl) | exact Or.inr (Or.inr rfl))) (se_int))) (sss_cons (ss_asg (se_op op_modN ok_mod (se_bty call_int1 okc_int (by rfl) x.z_int (by decide +kernel) (SAn.run (san_cons (se_op (opr_or op_add (opr_or op_add_str (opr_or op_catT op_cat))) (ok_add (fz := true)) (se_op (opr_or op_add (opr_or op_add_str (opr_or op_catT op_cat))) (ok_add (fz := true)) (se_op (opr_or op_mul op_rep) (ok_mul (fz := true)) (se_ix (hu_of hr) (se_var (by rfl) (by first | exact Or.inl rfl | exact Or.inr (Or.inl rfl) | exact Or.inr (Or.inr rfl))) (se_int)) (se_int)) (se_var (by rfl) (by first | exact Or.inl rfl | exact Or.inr (Or.inl rfl) | exact Or.inr (Or.inr rfl)))) (se_int)) (san_nil)))) (se_int)) (sg_sub (hu_of hr) (se_var (by rfl) (by first | exact Or.inl rfl | exact Or.inr (Or.inl rfl) | exact Or.inr (Or.inr rfl))) (se_int))) (sss_one (ss_if (st_cmp (opr_or op_ge op_ge_str) ok_cmpS (se_var (by rfl) (by first | exact Or.inl rfl | exact Or.inr (Or.inl rfl) | exact Or.inr (Or.inr rfl))) (se_op op_pow ok_pow (se_int) (se_int)) (by rfl)) (sss_one (ss_asg (se_var (by rfl) (by first | exact Or.inl rfl | exact Or.inr (Or.inl rfl) | exact Or.inr (Or.inr rfl))) (sg_sub (hu_of hr) (se_var (by rfl) (by first | exact Or.inl rfl | exact Or.inr (Or.inl rfl) | exact Or.inr (Or.inr rfl))) (se_int)))) (sss_nil)))))) (sss_nil)) (sss_cons (ss_if (st_cmp (opr_or op_gt op_gt_str) ok_cmpS (se_ix (hu_of hr) (se_var (by rfl) (by first | exact Or.inl rfl | exact Or.inr (Or.inl rfl) | exact Or.inr (Or.inr rfl))) (se_int)) (se_int) (by rfl)) (sss_cons (ss_set (i := 3) sc_law_draw.nd (by rfl) (by first | exact Or.inl rfl | exact Or.inr rfl) (se_op op_modN ok_mod (se_bty call_int1 okc_int (by rfl) x.z_int (by decide +kernel) (SAn.run (san_cons (se_ix (hu_of hr) (se_var (by rfl) (by first | exact Or.inl rfl | exact Or.inr (Or.inl rfl) | exact Or.inr (Or.inr rfl))) (se_int)) (san_nil)))) (se_var (by rfl) (by first | exact Or.inl rfl | exact Or.inr (Or.inl rfl) | exact Or.inr (Or.inr rfl))))) (sss_cons (ss_asg (se_op op_fdivN ok_div (se_ix (hu_of hr) (se_var (by rfl) (by first | exact Or.inl rfl | exact Or.inr (Or.inl rfl) | exact Or.inr (Or.inr rfl))) (se_int)) (se_var (by rfl) (by first | exact Or.inl rfl | exact Or.inr (Or.inl rfl) | exact Or.inr (Or.inr rfl)))) (sg_sub (hu_of hr) (se_var (by rfl) (by first | exact Or.inl rfl | exact Or.inr (Or.inl rfl) | exact Or.inr (Or.inr rfl))) (se_int))) (sss_one (ss_ret (se_var (by rfl) (by first | exact Or.inl rfl | exact Or.inr (Or.inl rfl) | exact Or.inr (Or.inr rfl))))))) (sss_nil)) (sss_cons (ss_asg (se_op (opr_or op_add (opr_or op_add_str (opr_or op_catT op_cat))) (ok_add (fz := true)) (se_ix (hu_of hr) (se_var (by rfl) (by first | exact Or.inl rfl | exact Or.inr (Or.inl rfl) | exact Or.inr (Or.inr rfl))) (se_int)) (se_int)) (sg_sub (hu_of hr) (se_var (by rfl) (by first | exact Or.inl rfl | exact Or.inr (Or.inl rfl) | exact Or.inr (Or.inr rfl))) (se_int))) (sss_cons (ss_set (i := 4) sc_law_draw.nd (by rfl) (by first | exact Or.inl rfl | exact Or.inr rfl) (se_op op_modN ok_mod (se_bty call_int1 okc_int (by rfl) x.z_int (by decide +kernel) (SAn.run (san_cons (se_op (opr_or op_mul op_rep) (ok_mul (fz := true)) (se_bty call_int1 okc_int (by rfl) x.z_int (by decide +kernel) (SAn.run (san_cons (se_op (opr_or op_add (opr_or op_add_str (opr_or op_catT op_cat))) (ok_add (fz := true)) (se_ix (hu_of hr) (se_var (by rfl) (by first | exact Or.inl rfl | exact Or.inr (Or.inl rfl) | exact Or.inr (Or.inr rfl))) (se_int)) (se_op (opr_or op_mul op_rep) (ok_mul (fz := true)) (se_int) (se_ix (hu_of hr) (se_var (by rfl) (by first | exact Or.inl rfl | exact Or.inr (Or.inl rfl) | exact Or.inr (Or.inr rfl))) (se_int)))) (san_nil)))) (se_int)) (san_nil)))) (se_int))) (sss_cons (ss_set (i := 4) sc_law_draw.nd (by rfl) (by first | exact Or.inl rfl | exact Or.inr rfl) (se_op op_modN ok_mod (se_bty call_int1 okc_int (by rfl) x.z_int (by decide +kernel) (SAn.run (san_cons (se_op (opr_or op_mul op_rep) (ok_mul (fz := true)) (se_var (by rfl) (by first | exact Or.inl rfl | exact Or.inr (Or.inl rfl) | exact Or.inr (Or.inr rfl))) (se_op (opr_or op_add (opr_or op_add_str (opr_or op_catT op_cat))) (ok_add (fz := true)) (se_op op_fdivN ok_div (se_var (by rfl) (by first | exact Or.inl rfl | exact Or.inr (Or.inl rfl) | exact Or.inr (Or.inr rfl))) (se_int)) (se_int))) (san_nil)))) (se_int))) (sss_cons (ss_set (i := 4) sc_law_draw.nd (by rfl) (by first | exact Or.inl rfl | exact Or.inr rfl) (se_op op_modN ok_mod (se_bty call_int1 okc_int (by rfl) x.z_int (by decide +kernel) (SAn.run (san_cons (se_op (opr_or op_mul op_rep) (ok_mul (fz := true)) (se_var (by rfl) (by first | exact Or.inl rfl | exact Or.inr (Or.inl rfl) | exact Or.inr (Or.inr rfl))) (se_op (opr_or op_add (opr_or op_add_str (opr_or op_catT op_cat))) (ok_add (fz := true)) (se_op op_fdivN ok_div (se_var (by rfl) (by first | exact Or.inl rfl | exact Or.inr (Or.inl rfl) | exact Or.inr (Or.inr rfl))) (se_int)) (se_int))) (san_nil)))) (se_int))) (sss_one (ss_ret (se_op op_modN ok_mod (se_bty call_int1 okc_int (by rfl) x.z_int (by decide +kernel) (SAn.run (san_cons (se_op op_fdivN ok_div (se_var (by rfl) (by first | exact Or.inl rfl | exact Or.inr (Or.inl rfl) | exact Or.inr (Or.inr rfl))) (se_int)) (san_nil)))) (se_var (by rfl) (by first | exact Or.inl rfl | exact Or.inr (Or.inl rfl) | exact Or.inr (Or.inr rfl)))))))))))
theorem fn_law_any (x : Tx K mg) : FnM P w K mg base x.T 2 x.a_law_any x.d_law_any ["hand", "some"] r_law_any := fn_ok x.F_law_any sc_law_any fun cdv A outer s H E hr => sss_one (ss_ret (se_ix (hu_of hr) (se_var (by rfl) (by first | exact Or.inl rfl | exact Or.inr (Or.inl rfl) | exact Or.inr (Or.inr rfl))) (se_call ((fn_law_draw x).mono (by decide)) hr (takes_of rfl rfl rfl rfl) (by rfl) x.g_law_draw x.F_law_draw.kp x.b_law_draw (san_cons (se_var (by rfl) (by first | exact Or.inl rfl | exact Or.inr (Or.inl rfl) | exact Or.inr (Or.inr rfl))) (san_cons (se_blt (CallR.or call_len call_lenD) okc_len (by rfl) x.z_len (by decide +kernel) (SAn.run (san_cons (se_var (by rfl) (by first | exact Or.inl rfl | exact Or.inr (Or.inl rfl) | exact Or.inr (Or.inr rfl))) (san_nil)))) (san_nil))))))
theorem fn_law_content (x : Tx K mg) : FnM P w K mg base x.T 3 x.a_law_content x.d_law_content ["hand"] r_law_content := fn_ok x.F_law_content sc_law_content fun cdv A outer s H E hr => sss_cons (ss_set (i := 1) sc_law_content.nd (by rfl) (by first | exact Or.inl rfl | exact Or.inr rfl) (se_lstA (fz := true) (n := 9) (san_cons (se_int) (san_cons (se_int) (san_cons (se_neg (se_int)) (san_cons (se_op op_pow ok_pow (se_int) (se_int)) (san_cons (se_neg (se_op op_pow ok_pow (se_int) (se_int))) (san_cons (se_str) (san_cons (se_str) (san_cons (se_str) (san_cons (se_call ((fn_law_draw x).mono (by decide)) hr (takes_of rfl rfl rfl rfl) (by rfl) x.g_law_draw x.F_law_draw.kp x.b_law_draw (san_cons (se_var (by rfl) (by first | exact Or.inl rfl | exact Or.inr (Or.inl rfl) | exact Or.inr (Or.inr rfl))) (san_cons (se_int) (san_nil)))) (san_nil)))))))))))) (sss_cons (ss_set (i := 2) sc_law_content.nd (by rfl) (by first | exact Or.inl rfl | exact Or.inr rfl) (se_call ((fn_law_any x).mono (by decide)) hr (takes_of rfl rfl rfl rfl) (by rfl) x.g_law_any x.F_law_any.kp x.b_law_any (san_cons (se_var (by rfl) (by first | exact Or.inl rfl | exact Or.inr (Or.inl rfl) | exact Or.inr (Or.inr rfl))) (san_cons (se_lstA (fz := true) (n := 6) (san_cons (se_int) (san_cons (se_int) (san_cons (se_int) (san_cons (se_int) (san_cons (se_int) (san_cons (se_int) (san_nil)))))))) (san_nil))))) (sss_one (ss_ret (se_bty call_tuple_of okc_tuple (by rfl) x.z_tuple (by decide +kernel) (SAn.run (san_cons (se_comp (fz := true) (own := [("item", 3)]) (t := (.one 3)) rfl sc_law_content.nd (si_range1 (by rfl) x.z_range (SAn.run (san_cons (se_var (by rfl) (by first | exact Or.inl rfl | exact Or.inr (Or.inl rfl) | exact Or.inr (Or.inr rfl))) (san_nil)))) (blkOk_by (own := [("item", 3)]) (N := N_law_content) (sc := (defScope s_law_content)) (by decide +kernel)) (by decide) (fun _ _ _ _ _ => pg_name (i := 3) sc_law_content.nd (by rfl) (Or.inl (by rfl))) (.inl ⟨rfl, rfl⟩) (fun _ _ _ _ _ => se_call ((fn_law_any x).mono (by decide)) hr takes0 (by rfl) x.g_law_any x.F_law_any.kp x.b_law_any (san_cons (se_var (by rfl) (by first | exact Or.inl rfl | exact Or.inr (Or.inl rfl) | exact Or.inr (Or.inr rfl))) (san_cons (se_var (by rfl) (by first | exact Or.inl rfl | exact Or.inr (Or.inl rfl) | exact Or.inr (Or.inr rfl))) (san_nil))))) (san_nil)))))))
theorem fn_law_mixed (x : Tx K mg) : FnM P w K mg base x.T 2 x.a_law_mixed x.d_law_mixed ["hand", "things"] r_law_mixed := fn_ok x.F_law_mixed sc_law_mixed fun cdv A outer s H E hr => sss_cons (ss_par rfl sc_law_mixed.nd (by rfl) (by rfl) (by decide) (by rfl) (by rfl) (se_bty call_list_of (okc_list (fz := false)) (by rfl) x.z_list (by decide +kernel) (SAn.run (san_cons (se_var (by rfl) (by first | exact Or.inl rfl | exact Or.inr (Or.inl rfl) | exact Or.inr (Or.inr rfl))) (san_nil)))) (se_lstA (fz := false) (n := 0) (san_nil)) (by rfl)) (sss_cons (ss_while (fuel := 1000000) (passes_of rfl) (st_cmp (opr_or op_gt op_gt_str) ok_cmpS (se_blt (CallR.or call_len call_lenD) okc_len (by rfl) x.z_len (by decide +kernel) (SAn.run (san_cons (se_var (by rfl) (by first | exact Or.inl rfl | exact Or.inr (Or.inl rfl) | exact Or.inr (Or.inr rfl))) (san_nil)))) (se_int) (by rfl)) (sss_one (ss_expr (se_lm PySem.F.slot_list_append PySem.F.type_list_append mt_append okm_append (se_var (by rfl) (by first | exact Or.inl rfl | exact Or.inr (Or.inl rfl) | exact Or.inr (Or.inr rfl))) (SAn.run (san_cons (se_lm PySem.F.slot_list_pop PySem.F.type_list_pop mt_popAt okm_popAt (se_var (by rfl) (by first | exact Or.inl rfl | exact Or.inr (Or.inl rfl) | exact Or.inr (Or.inr rfl))) (SAn.run (san_cons (se_call ((fn_law_draw x).mono (by decide)) hr (takes_of rfl rfl rfl rfl) (by rfl) x.g_law_draw x.F_law_draw.kp x.b_law_draw (san_cons (se_var (by rfl) (by first | exact Or.inl rfl | exact Or.inr (Or.inl rfl) | exact Or.inr (Or.inr rfl))) (san_cons (se_blt (CallR.or call_len call_lenD) okc_len (by rfl) x.z_len (by decide +kernel) (SAn.run (san_cons (se_var (by rfl) (by first | exact Or.inl rfl | exact Or.inr (Or.inl rfl) | exact Or.inr (Or.inr rfl))) (san_nil)))) (san_nil)))) (san_nil)))) (san_nil))))))) (sss_one (ss_ret (se_var (by rfl) (by first | exact Or.inl rfl | exact Or.inr (Or.inl rfl) | exact Or.inr (Or.inr rfl))))))
theorem fn_is_integer (x : Tx K mg) : FnM P w K mg base x.T 1 x.a_is_integer x.d_is_integer ["thing"] r_is_integer := fn_ok x.F_is_integer sc_is_integer fun cdv A outer s H E hr => sss_one (ss_ret (se_and (se_bB (se_blt call_isi (okc_isi x.own_ok) (by rfl) x.z_isinstance (by decide +kernel) (SAn.run (san_cons (se_var (by rfl) (by first | exact Or.inl rfl | exact Or.inr (Or.inl rfl) | exact Or.inr (Or.inr rfl))) (san_cons (se_c (pe_bltn (v := .ty "int") (by rfl) x.z_int (by decide +kernel) rfl) (fun _ _ _ => by simp only [VR])) (san_nil)))))) (se_and1 (se_not (se_bB (se_blt call_isi (okc_isi x.own_ok) (by rfl) x.z_isinstance (by decide +kernel) (SAn.run (san_cons (se_var (by rfl) (by first | exact Or.inl rfl | exact Or.inr (Or.inl rfl) | exact Or.inr (Or.inr rfl))) (san_cons (se_c (pe_bltn (v := .ty "bool") (by rfl) x.z_bool (by decide +kernel) rfl) (fun _ _ _ => by simp only [VR])) (san_nil))))))))))
theorem fn_is_within (x : Tx K mg) : FnM P w K mg base x.T 2 x.a_is_within x.d_is_within ["low", "high", "thing"] r_is_within := fn_ok x.F_is_within sc_is_within fun cdv A outer s H E hr => sss_one (ss_ret (se_and (se_bB (se_call ((fn_is_integer x).mono (by decide)) hr (takes_of rfl rfl rfl rfl) (by rfl) x.g_is_integer x.F_is_integer.kp x.b_is_integer (san_cons (se_var (by rfl) (by first | exact Or.inl rfl | exact Or.inr (Or.inl rfl) | exact Or.inr (Or.inr rfl))) (san_nil)))) (se_and1 (se_bB (se_chain (opr_or op_le op_le_str) ok_cmpS (opr_or op_le op_le_str) ok_cmpS (se_var (by rfl) (by first | exact Or.inl rfl | exact Or.inr (Or.inl rfl) | exact Or.inr (Or.inr rfl))) (se_var (by rfl) (by first | exact Or.inl rfl | exact Or.inr (Or.inl rfl) | exact Or.inr (Or.inr rfl))) (se_var (by rfl) (by first | exact Or.inl rfl | exact Or.inr (Or.inl rfl) | exact Or.inr (Or.inr rfl))))))))
theorem fn_Disk_init (x : Tx K mg) : FnM P w K mg base x.T 3 x.a_Disk_init x.d_Disk_init ["self", "blocks"] r_Disk_init := fn_ok x.F_Disk_init sc_Disk_init fun cdv A outer s H E hr => sss_cons (ss_if (st_not (st_tr (se_call ((fn_is_within x).mono (by decide)) hr (takes_of rfl rfl rfl rfl) (by rfl) x.g_is_within x.F_is_within.kp x.b_is_within (san_cons (se_globI (by rfl) x.c_FEWEST_BLOCKS ⟨_, rfl⟩) (san_cons (se_globI (by rfl) x.c_MOST_BLOCKS ⟨_, rfl⟩) (san_cons (se_var (by rfl) (by first | exact Or.inl rfl | exact Or.inr (Or.inl rfl) | exact Or.inr (Or.inr rfl))) (san_nil))))))) (sss_one (ss_stk)) (sss_nil)) (sss_cons (ss_fld (cs := [0]) (se_var (by rfl) (by first | exact Or.inl rfl | exact Or.inr (Or.inl rfl) | exact Or.inr (Or.inr rfl))) (se_op (opr_or op_mul op_rep) (ok_mul (fz := false)) (se_lstA (fz := true) (n := 1) (san_cons (se_tupA (n := 0) (san_nil)) (san_nil))) (se_var (by rfl) (by first | exact Or.inl rfl | exact Or.inr (Or.inl rfl) | exact Or.inr (Or.inr rfl)))) x.f_contents) (sss_cons (ss_fld (cs := [0]) (se_var (by rfl) (by first | exact Or.inl rfl | exact Or.inr (Or.inl rfl) | exact Or.inr (Or.inr rfl))) (se_dict0) x.f_cached) (sss_cons (ss_fld (cs := [0]) (se_var (by rfl) (by first | exact Or.inl rfl | exact Or.inr (Or.inl rfl) | exact Or.inr (Or.inr rfl))) (se_non) x.f_left) (sss_one (ss_fld (cs := [0]) (se_var (by rfl) (by first | exact Or.inl rfl | exact Or.inr (Or.inl rfl) | exact Or.inr (Or.inr rfl))) (se_int) x.f_arrived)))))
theorem fn_Disk_blocks (x : Tx K mg) : FnM P w K mg base x.T 1 x.a_Disk_blocks x.d_Disk_blocks ["self"] r_Disk_blocks := fn_ok x.F_Disk_blocks sc_Disk_blocks fun cdv A outer s H E hr => sss_one (ss_ret (se_blt (CallR.or call_len call_lenD) okc_len (by rfl) x.z_len (by decide +kernel) (SAn.run (san_cons (se_fld (cs := [0]) (se_var (by rfl) (by first | exact Or.inl rfl | exact Or.inr (Or.inl rfl) | exact Or.inr (Or.inr rfl))) x.f_contents) (san_nil)))))
theorem fn_Disk_demand_block (x : Tx K mg) : FnM P w K mg base x.T 3 x.a_Disk_demand_block x.d_Disk_demand_block ["self", "block"] r_Disk_demand_block := fn_ok x.F_Disk_demand_block sc_Disk_demand_block fun cdv A outer s H E hr => sss_one (ss_if (st_not (st_tr (se_call ((fn_is_within x).mono (by decide)) hr (takes_of rfl rfl rfl rfl) (by rfl) x.g_is_within x.F_is_within.kp x.b_is_within (san_cons (se_int) (san_cons (se_op op_sub ok_sub (se_meth0 (tb := [(0, r_Disk_blocks)]) (se_var (by rfl) (by first | exact Or.inl rfl | exact Or.inr (Or.inl rfl) | exact Or.inr (Or.inr rfl))) (fun p hp => by
      simp only [List.mem_cons, List.not_mem_nil, or_false] at hp
      rcases hp with rfl
      exact ⟨x.cl_Disk, x.a_Disk_blocks, x.d_Disk_blocks, _, x.me_Disk_blocks, (fn_Disk_blocks x).mono (by decide), x.b_Disk_blocks, rfl⟩) hr (takes_of rfl rfl rfl rfl)) (se_int)) (san_cons (se_var (by rfl) (by first | exact Or.inl rfl | exact Or.inr (Or.inl rfl) | exact Or.inr (Or.inr rfl))) (san_nil))))))) (sss_one (ss_stk)) (sss_nil))
theorem fn_is_word (x : Tx K mg) : FnM P w K mg base x.T 1 x.a_is_word x.d_is_word ["thing"] r_is_word := fn_ok x.F_is_word sc_is_word fun cdv A outer s H E hr => sss_cons (ss_if (st_w (sw_or (st_not (st_tr (se_blt call_isi (okc_isi x.own_ok) (by rfl) x.z_isinstance (by decide +kernel) (SAn.run (san_cons (se_var (by rfl) (by first | exact Or.inl rfl | exact Or.inr (Or.inl rfl) | exact Or.inr (Or.inr rfl))) (san_cons (se_c (pe_bltn (v := .ty "str") (by rfl) x.z_str (by decide +kernel) rfl) (fun _ _ _ => by simp only [VR])) (san_nil))))))) (sw_or1 (st_cmp (opr_or op_gt op_gt_str) ok_cmpS (se_blt (CallR.or call_len call_lenD) okc_len (by rfl) x.z_len (by decide +kernel) (SAn.run (san_cons (se_var (by rfl) (by first | exact Or.inl rfl | exact Or.inr (Or.inl rfl) | exact Or.inr (Or.inr rfl))) (san_nil)))) (se_globI (by rfl) x.c_LONGEST_WORD ⟨_, rfl⟩) (by rfl))))) (sss_one (ss_ret (se_bl))) (sss_nil)) (sss_one (ss_ret (se_blt (cr_all rfl) okc_all (by rfl) x.z_all (by decide +kernel) (SAn.run (san_cons (se_comp (fz := true) (own := [("sign", 1)]) (t := (.one 1)) rfl sc_is_word.nd (si_str (se_var (by rfl) (by first | exact Or.inl rfl | exact Or.inr (Or.inl rfl) | exact Or.inr (Or.inr rfl)))) (blkOk_by (own := [("sign", 1)]) (N := N_is_word) (sc := (defScope s_is_word)) (by decide +kernel)) (by decide) (fun _ _ _ _ _ => pg_name (i := 1) sc_is_word.nd (by rfl) (Or.inl (by rfl))) (.inl ⟨rfl, rfl⟩) (fun _ _ _ _ _ => se_chain (opr_or op_le op_le_str) ok_cmpS (opr_or op_le op_le_str) ok_cmpS (se_str) (se_var (by rfl) (by first | exact Or.inl rfl | exact Or.inr (Or.inl rfl) | exact Or.inr (Or.inr rfl))) (se_str))) (san_nil))))))
theorem fn_is_item (x : Tx K mg) : FnM P w K mg base x.T 3 x.a_is_item x.d_is_item ["thing"] r_is_item := fn_ok x.F_is_item sc_is_item fun cdv A outer s H E hr => sss_one (ss_ret (se_or (se_bB (se_call ((fn_is_word x).mono (by decide)) hr (takes_of rfl rfl rfl rfl) (by rfl) x.g_is_word x.F_is_word.kp x.b_is_word (san_cons (se_var (by rfl) (by first | exact Or.inl rfl | exact Or.inr (Or.inl rfl) | exact Or.inr (Or.inr rfl))) (san_nil)))) (se_and1 (se_bB (se_call ((fn_is_within x).mono (by decide)) hr (takes_of rfl rfl rfl rfl) (by rfl) x.g_is_within x.F_is_within.kp x.b_is_within (san_cons (se_neg (se_globI (by rfl) x.c_GREATEST_ITEM ⟨_, rfl⟩)) (san_cons (se_globI (by rfl) x.c_GREATEST_ITEM ⟨_, rfl⟩) (san_cons (se_var (by rfl) (by first | exact Or.inl rfl | exact Or.inr (Or.inl rfl) | exact Or.inr (Or.inr rfl))) (san_nil)))))))))
theorem fn_is_row (x : Tx K mg) : FnM P w K mg base x.T 4 x.a_is_row x.d_is_row ["low", "high", "thing"] r_is_row := fn_ok x.F_is_row sc_is_row fun cdv A outer s H E hr => sss_cons (ss_if (st_w (sw_or (st_not (st_tr (se_blt call_isi (okc_isi x.own_ok) (by rfl) x.z_isinstance (by decide +kernel) (SAn.run (san_cons (se_var (by rfl) (by first | exact Or.inl rfl | exact Or.inr (Or.inl rfl) | exact Or.inr (Or.inr rfl))) (san_cons (se_c (pe_bltn (v := .ty "tuple") (by rfl) x.z_tuple (by decide +kernel) rfl) (fun _ _ _ => by simp only [VR])) (san_nil))))))) (sw_or1 (st_not (st_chain (opr_or op_le op_le_str) ok_cmpS (opr_or op_le op_le_str) ok_cmpS (se_var (by rfl) (by first | exact Or.inl rfl | exact Or.inr (Or.inl rfl) | exact Or.inr (Or.inr rfl))) (se_blt (CallR.or call_len call_lenD) okc_len (by rfl) x.z_len (by decide +kernel) (SAn.run (san_cons (se_var (by rfl) (by first | exact Or.inl rfl | exact Or.inr (Or.inl rfl) | exact Or.inr (Or.inr rfl))) (san_nil)))) (se_var (by rfl) (by first | exact Or.inl rfl | exact Or.inr (Or.inl rfl) | exact Or.inr (Or.inr rfl)))))))) (sss_one (ss_ret (se_bl))) (sss_nil)) (sss_one (ss_ret (se_blt (cr_all rfl) okc_all (by rfl) x.z_all (by decide +kernel) (SAn.run (san_cons (se_comp (fz := true) (own := [("item", 3)]) (t := (.one 3)) rfl sc_is_row.nd (si_tup (se_var (by rfl) (by first | exact Or.inl rfl | exact Or.inr (Or.inl rfl) | exact Or.inr (Or.inr rfl)))) (blkOk_by (own := [("item", 3)]) (N := N_is_row) (sc := (defScope s_is_row)) (by decide +kernel)) (by decide) (fun _ _ _ _ _ => pg_name (i := 3) sc_is_row.nd (by rfl) (Or.inl (by rfl))) (.inl ⟨rfl, rfl⟩) (fun _ _ _ _ _ => se_call ((fn_is_item x).mono (by decide)) hr takes0 (by rfl) x.g_is_item x.F_is_item.kp x.b_is_item (san_cons (se_var (by rfl) (by first | exact Or.inl rfl | exact Or.inr (Or.inl rfl) | exact Or.inr (Or.inr rfl))) (san_nil)))) (san_nil))))))
theorem fn_is_content (x : Tx K mg) : FnM P w K mg base x.T 5 x.a_is_content x.d_is_content ["thing"] r_is_content := fn_ok x.F_is_content sc_is_content fun cdv A outer s H E hr => sss_one (ss_ret (se_call ((fn_is_row x).mono (by decide)) hr (takes_of rfl rfl rfl rfl) (by rfl) x.g_is_row x.F_is_row.kp x.b_is_row (san_cons (se_int) (san_cons (se_globI (by rfl) x.c_LONGEST_CONTENT ⟨_, rfl⟩) (san_cons (se_var (by rfl) (by first | exact Or.inl rfl | exact Or.inr (Or.inl rfl) | exact Or.inr (Or.inr rfl))) (san_nil))))))
theorem fn_Disk_write (x : Tx K mg) : FnM P w K mg base x.T 6 x.a_Disk_write x.d_Disk_write ["self", "block", "content"] r_Disk_write := fn_ok x.F_Disk_write sc_Disk_write fun cdv A outer s H E hr => sss_cons (ss_expr (se_meth (n := 1) (tb := [(0, r_Disk_demand_block)]) (se_var (by rfl) (by first | exact Or.inl rfl | exact Or.inr (Or.inl rfl) | exact Or.inr (Or.inr rfl))) (fun p hp => by
      simp only [List.mem_cons, List.not_mem_nil, or_false] at hp
      rcases hp with rfl
      exact ⟨x.cl_Disk, x.a_Disk_demand_block, x.d_Disk_demand_block, _, x.me_Disk_demand_block, (fn_Disk_demand_block x).mono (by decide), x.b_Disk_demand_block, rfl⟩) hr (takes_of rfl rfl rfl rfl) (san_cons (se_var (by rfl) (by first | exact Or.inl rfl | exact Or.inr (Or.inl rfl) | exact Or.inr (Or.inr rfl))) (san_nil)))) (sss_cons (ss_if (st_not (st_tr (se_call ((fn_is_content x).mono (by decide)) hr (takes_of rfl rfl rfl rfl) (by rfl) x.g_is_content x.F_is_content.kp x.b_is_content (san_cons (se_var (by rfl) (by first | exact Or.inl rfl | exact Or.inr (Or.inl rfl) | exact Or.inr (Or.inr rfl))) (san_nil))))) (sss_one (ss_stk)) (sss_nil)) (sss_one (ss_expr (se_lm PySem.F.slot_list_append PySem.F.type_list_append mt_append okm_append (se_dset2 (se_fld (cs := [0]) (se_var (by rfl) (by first | exact Or.inl rfl | exact Or.inr (Or.inl rfl) | exact Or.inr (Or.inr rfl))) x.f_cached) (se_var (by rfl) (by first | exact Or.inl rfl | exact Or.inr (Or.inl rfl) | exact Or.inr (Or.inr rfl))) (se_lstA (fz := false) (n := 0) (san_nil)) m2_of) (SAn.run (san_cons (se_var (by rfl) (by first | exact Or.inl rfl | exact Or.inr (Or.inl rfl) | exact Or.inr (Or.inr rfl))) (san_nil)))))))
theorem fn_law_written (x : Tx K mg) : FnM P w K mg base x.T 7 x.a_law_written x.d_law_written ["blocks", "writes"] r_law_written := fn_ok x.F_law_written sc_law_written fun cdv A outer s H E hr => sss_cons (ss_set (i := 2) sc_law_written.nd (by rfl) (by first | exact Or.inl rfl | exact Or.inr rfl) (se_make (c := 0) x.M_Disk ((fn_Disk_init x).mono (by decide)) hr (takes_of rfl rfl rfl rfl) (by rfl) x.gC_Disk x.b_Disk_init (n := 1) rfl (san_cons (se_var (by rfl) (by first | exact Or.inl rfl | exact Or.inr (Or.inl rfl) | exact Or.inr (Or.inr rfl))) (san_nil)))) (sss_cons (ss_for (passes_of rfl) rfl (si_list (se_var (by rfl) (by first | exact Or.inl rfl | exact Or.inr (Or.inl rfl) | exact Or.inr (Or.inr rfl)))) (sg_tup rfl (sgs_cons (sg_name (i := 3) sc_law_written.nd (by rfl) (by first | exact Or.inl rfl | exact Or.inr rfl)) (sgs_cons (sg_name (i := 4) sc_law_written.nd (by rfl) (by first | exact Or.inl rfl | exact Or.inr rfl)) (sgs_nil)))) (sss_one (ss_expr (se_meth (n := 2) (tb := [(0, r_Disk_write)]) (se_var (by rfl) (by first | exact Or.inl rfl | exact Or.inr (Or.inl rfl) | exact Or.inr (Or.inr rfl))) (fun p hp => by
      simp only [List.mem_cons, List.not_mem_nil, or_false] at hp
      rcases hp with rfl
      exact ⟨x.cl_Disk, x.a_Disk_write, x.d_Disk_write, _, x.me_Disk_write, (fn_Disk_write x).mono (by decide), x.b_Disk_write, rfl⟩) hr (takes_of rfl rfl rfl rfl) (san_cons (se_var (by rfl) (by first | exact Or.inl rfl | exact Or.inr (Or.inl rfl) | exact Or.inr (Or.inr rfl))) (san_cons (se_var (by rfl) (by first | exact Or.inl rfl | exact Or.inr (Or.inl rfl) | exact Or.inr (Or.inr rfl))) (san_nil))))))) (sss_one (ss_ret (se_var (by rfl) (by first | exact Or.inl rfl | exact Or.inr (Or.inl rfl) | exact Or.inr (Or.inr rfl))))))
theorem fn_Disk_lying (x : Tx K mg) : FnM P w K mg base x.T 4 x.a_Disk_lying x.d_Disk_lying ["self", "block"] r_Disk_lying := fn_ok x.F_Disk_lying sc_Disk_lying fun cdv A outer s H E hr => sss_cons (ss_expr (se_meth (n := 1) (tb := [(0, r_Disk_demand_block)]) (se_var (by rfl) (by first | exact Or.inl rfl | exact Or.inr (Or.inl rfl) | exact Or.inr (Or.inr rfl))) (fun p hp => by
      simp only [List.mem_cons, List.not_mem_nil, or_false] at hp
      rcases hp with rfl
      exact ⟨x.cl_Disk, x.a_Disk_demand_block, x.d_Disk_demand_block, _, x.me_Disk_demand_block, (fn_Disk_demand_block x).mono (by decide), x.b_Disk_demand_block, rfl⟩) hr (takes_of rfl rfl rfl rfl) (san_cons (se_var (by rfl) (by first | exact Or.inl rfl | exact Or.inr (Or.inl rfl) | exact Or.inr (Or.inr rfl))) (san_nil)))) (sss_one (ss_ret (se_ix (hu_of hr) (se_fld (cs := [0]) (se_var (by rfl) (by first | exact Or.inl rfl | exact Or.inr (Or.inl rfl) | exact Or.inr (Or.inr rfl))) x.f_contents) (se_var (by rfl) (by first | exact Or.inl rfl | exact Or.inr (Or.inl rfl) | exact Or.inr (Or.inr rfl))))))
theorem fn_Disk_waiting (x : Tx K mg) : FnM P w K mg base x.T 1 x.a_Disk_waiting x.d_Disk_waiting ["self"] r_Disk_waiting := fn_ok x.F_Disk_waiting sc_Disk_waiting fun cdv A outer s H E hr => sss_one (ss_ret (se_dcomp (own := [("block", 1)]) (t := (.one 1)) rfl sc_Disk_waiting.nd (si_list (se_blt (CallR.or cr_sortedI (call_sortedDI rfl)) (okc_sorted (fz := true)) (by rfl) x.z_sorted (by decide +kernel) (SAn.run (san_cons (se_fld (cs := [0]) (se_var (by rfl) (by first | exact Or.inl rfl | exact Or.inr (Or.inl rfl) | exact Or.inr (Or.inr rfl))) x.f_cached) (san_nil))))) (blkOk_by (own := [("block", 1)]) (N := N_Disk_waiting) (sc := (defScope s_Disk_waiting)) (by decide +kernel)) (by decide) (fun _ _ _ _ _ => pg_name (i := 1) sc_Disk_waiting.nd (by rfl) (Or.inl (by rfl))) (.inl ⟨rfl, rfl⟩) (fun _ _ _ _ _ => se_var (by rfl) (by first | exact Or.inl rfl | exact Or.inr (Or.inl rfl) | exact Or.inr (Or.inr rfl))) (fun _ _ _ _ _ => se_blt (CallR.or call_len call_lenD) okc_len (by rfl) x.z_len (by decide +kernel) (SAn.run (san_cons (se_ix (hu_of hr) (se_fld (cs := [0]) (se_var (by rfl) (by first | exact Or.inl rfl | exact Or.inr (Or.inl rfl) | exact Or.inr (Or.inr rfl))) x.f_cached) (se_var (by rfl) (by first | exact Or.inl rfl | exact Or.inr (Or.inl rfl) | exact Or.inr (Or.inr rfl)))) (san_nil))))))
theorem fn_Disk_read (x : Tx K mg) : FnM P w K mg base x.T 4 x.a_Disk_read x.d_Disk_read ["self", "block"] r_Disk_read := fn_ok x.F_Disk_read sc_Disk_read fun cdv A outer s H E hr => sss_cons (ss_expr (se_meth (n := 1) (tb := [(0, r_Disk_demand_block)]) (se_var (by rfl) (by first | exact Or.inl rfl | exact Or.inr (Or.inl rfl) | exact Or.inr (Or.inr rfl))) (fun p hp => by
      simp only [List.mem_cons, List.not_mem_nil, or_false] at hp
      rcases hp with rfl
      exact ⟨x.cl_Disk, x.a_Disk_demand_block, x.d_Disk_demand_block, _, x.me_Disk_demand_block, (fn_Disk_demand_block x).mono (by decide), x.b_Disk_demand_block, rfl⟩) hr (takes_of rfl rfl rfl rfl) (san_cons (se_var (by rfl) (by first | exact Or.inl rfl | exact Or.inr (Or.inl rfl) | exact Or.inr (Or.inr rfl))) (san_nil)))) (sss_cons (ss_if (st_din (hu_of hr) (se_var (by rfl) (by first | exact Or.inl rfl | exact Or.inr (Or.inl rfl) | exact Or.inr (Or.inr rfl))) (se_fld (cs := [0]) (se_var (by rfl) (by first | exact Or.inl rfl | exact Or.inr (Or.inl rfl) | exact Or.inr (Or.inr rfl))) x.f_cached)) (sss_one (ss_ret (se_ix (hu_of hr) (se_ix (hu_of hr) (se_fld (cs := [0]) (se_var (by rfl) (by first | exact Or.inl rfl | exact Or.inr (Or.inl rfl) | exact Or.inr (Or.inr rfl))) x.f_cached) (se_var (by rfl) (by first | exact Or.inl rfl | exact Or.inr (Or.inl rfl) | exact Or.inr (Or.inr rfl)))) (se_neg (se_int))))) (sss_nil)) (sss_one (ss_ret (se_ix (hu_of hr) (se_fld (cs := [0]) (se_var (by rfl) (by first | exact Or.inl rfl | exact Or.inr (Or.inl rfl) | exact Or.inr (Or.inr rfl))) x.f_contents) (se_var (by rfl) (by first | exact Or.inl rfl | exact Or.inr (Or.inl rfl) | exact Or.inr (Or.inr rfl)))))))
theorem fn_law_lies (x : Tx K mg) : FnM P w K mg base x.T 5 x.a_law_lies x.d_law_lies ["disk", "rows", "counts"] r_law_lies := fn_ok x.F_law_lies sc_law_lies fun cdv A outer s H E hr => sss_cons (ss_lock (ss_for (passes_of rfl) rfl (si_items (se_var (by rfl) (by first | exact Or.inl rfl | exact Or.inr (Or.inl rfl) | exact Or.inr (Or.inr rfl)))) (sg_tup rfl (sgs_cons (sg_name (i := 3) sc_law_lies.nd (by rfl) (by first | exact Or.inl rfl | exact Or.inr rfl)) (sgs_cons (sg_name (i := 4) sc_law_lies.nd (by rfl) (by first | exact Or.inl rfl | exact Or.inr rfl)) (sgs_nil)))) (sss_cons (ss_set (i := 5) sc_law_lies.nd (by rfl) (by first | exact Or.inl rfl | exact Or.inr rfl) (se_ifx (st_cmp (opr_or op_gt op_gt_str) ok_cmpS (se_ix (hu_of hr) (se_var (by rfl) (by first | exact Or.inl rfl | exact Or.inr (Or.inl rfl) | exact Or.inr (Or.inr rfl))) (se_var (by rfl) (by first | exact Or.inl rfl | exact Or.inr (Or.inl rfl) | exact Or.inr (Or.inr rfl)))) (se_int) (by rfl)) (se_ix (hu_of hr) (se_var (by rfl) (by first | exact Or.inl rfl | exact Or.inr (Or.inl rfl) | exact Or.inr (Or.inr rfl))) (se_op op_sub ok_sub (se_ix (hu_of hr) (se_var (by rfl) (by first | exact Or.inl rfl | exact Or.inr (Or.inl rfl) | exact Or.inr (Or.inr rfl))) (se_var (by rfl) (by first | exact Or.inl rfl | exact Or.inr (Or.inl rfl) | exact Or.inr (Or.inr rfl)))) (se_int))) (se_tupA (n := 0) (san_nil)))) (sss_cons (ss_if (st_w (sw_or (st_cmp (opr_or op_ne (op_neD hr.units)) ok_ne (se_meth (n := 1) (tb := [(0, r_Disk_lying)]) (se_var (by rfl) (by first | exact Or.inl rfl | exact Or.inr (Or.inl rfl) | exact Or.inr (Or.inr rfl))) (fun p hp => by
      simp only [List.mem_cons, List.not_mem_nil, or_false] at hp
      rcases hp with rfl
      exact ⟨x.cl_Disk, x.a_Disk_lying, x.d_Disk_lying, _, x.me_Disk_lying, (fn_Disk_lying x).mono (by decide), x.b_Disk_lying, rfl⟩) hr (takes_of rfl rfl rfl rfl) (san_cons (se_var (by rfl) (by first | exact Or.inl rfl | exact Or.inr (Or.inl rfl) | exact Or.inr (Or.inr rfl))) (san_nil))) (se_var (by rfl) (by first | exact Or.inl rfl | exact Or.inr (Or.inl rfl) | exact Or.inr (Or.inr rfl))) (by rfl)) (sw_or1 (st_cmp (opr_or op_ne (op_neD hr.units)) ok_ne (se_dget2 (hu_of hr) (se_meth0 (tb := [(0, r_Disk_waiting)]) (se_var (by rfl) (by first | exact Or.inl rfl | exact Or.inr (Or.inl rfl) | exact Or.inr (Or.inr rfl))) (fun p hp => by
      simp only [List.mem_cons, List.not_mem_nil, or_false] at hp
      rcases hp with rfl
      exact ⟨x.cl_Disk, x.a_Disk_waiting, x.d_Disk_waiting, _, x.me_Disk_waiting, (fn_Disk_waiting x).mono (by decide), x.b_Disk_waiting, rfl⟩) hr (takes_of rfl rfl rfl rfl)) (se_var (by rfl) (by first | exact Or.inl rfl | exact Or.inr (Or.inl rfl) | exact Or.inr (Or.inr rfl))) (se_int) m2_of) (se_op op_sub ok_sub (se_blt (CallR.or call_len call_lenD) okc_len (by rfl) x.z_len (by decide +kernel) (SAn.run (san_cons (se_var (by rfl) (by first | exact Or.inl rfl | exact Or.inr (Or.inl rfl) | exact Or.inr (Or.inr rfl))) (san_nil)))) (se_ix (hu_of hr) (se_var (by rfl) (by first | exact Or.inl rfl | exact Or.inr (Or.inl rfl) | exact Or.inr (Or.inr rfl))) (se_var (by rfl) (by first | exact Or.inl rfl | exact Or.inr (Or.inl rfl) | exact Or.inr (Or.inr rfl))))) (by rfl))))) (sss_one (ss_ret (se_bl))) (sss_nil)) (sss_one (ss_if (st_cmp (opr_or op_ne (op_neD hr.units)) ok_ne (se_meth (n := 1) (tb := [(0, r_Disk_read)]) (se_var (by rfl) (by first | exact Or.inl rfl | exact Or.inr (Or.inl rfl) | exact Or.inr (Or.inr rfl))) (fun p hp => by
      simp only [List.mem_cons, List.not_mem_nil, or_false] at hp
      rcases hp with rfl
      exact ⟨x.cl_Disk, x.a_Disk_read, x.d_Disk_read, _, x.me_Disk_read, (fn_Disk_read x).mono (by decide), x.b_Disk_read, rfl⟩) hr (takes_of rfl rfl rfl rfl) (san_cons (se_var (by rfl) (by first | exact Or.inl rfl | exact Or.inr (Or.inl rfl) | exact Or.inr (Or.inr rfl))) (san_nil))) (se_ix (hu_of hr) (se_var (by rfl) (by first | exact Or.inl rfl | exact Or.inr (Or.inl rfl) | exact Or.inr (Or.inr rfl))) (se_neg (se_int))) (by rfl)) (sss_one (ss_ret (se_bl))) (sss_nil))))))) (sss_one (ss_ret (se_bl)))
theorem fn_Disk_let_reach (x : Tx K mg) : FnM P w K mg base x.T 1 x.a_Disk_let_reach x.d_Disk_let_reach ["self", "block"] r_Disk_let_reach := fn_ok x.F_Disk_let_reach sc_Disk_let_reach fun cdv A outer s H E hr => sss_cons (ss_if (st_cmp (opr_or op_eq (op_eqD hr.units)) ok_eq (se_fld (cs := [0]) (se_var (by rfl) (by first | exact Or.inl rfl | exact Or.inr (Or.inl rfl) | exact Or.inr (Or.inr rfl))) x.f_left) (se_int) (by rfl)) (sss_one (ss_stk)) (sss_nil)) (sss_cons (ss_if (st_cmp op_notN ok_isnot (se_fld (cs := [0]) (se_var (by rfl) (by first | exact Or.inl rfl | exact Or.inr (Or.inl rfl) | exact Or.inr (Or.inr rfl))) x.f_left) (se_non) (by rfl)) (sss_one (ss_faug (cs := [0]) (se_var (by rfl) (by first | exact Or.inl rfl | exact Or.inr (Or.inl rfl) | exact Or.inr (Or.inr rfl))) (se_int) in_sub (fun _ _ _ _ h => ⟨_, _, rfl, rfl, h⟩) x.f_left)) (sss_nil)) (sss_cons (ss_asg (se_lm PySem.F.slot_list_pop PySem.F.type_list_pop mt_popAt okm_popAt (se_ix (hu_of hr) (se_fld (cs := [0]) (se_var (by rfl) (by first | exact Or.inl rfl | exact Or.inr (Or.inl rfl) | exact Or.inr (Or.inr rfl))) x.f_cached) (se_var (by rfl) (by first | exact Or.inl rfl | exact Or.inr (Or.inl rfl) | exact Or.inr (Or.inr rfl)))) (SAn.run (san_cons (se_int) (san_nil)))) (sg_sub (hu_of hr) (se_fld (cs := [0]) (se_var (by rfl) (by first | exact Or.inl rfl | exact Or.inr (Or.inl rfl) | exact Or.inr (Or.inr rfl))) x.f_contents) (se_var (by rfl) (by first | exact Or.inl rfl | exact Or.inr (Or.inl rfl) | exact Or.inr (Or.inr rfl))))) (sss_cons (ss_if (st_not (st_tr (se_ix (hu_of hr) (se_fld (cs := [0]) (se_var (by rfl) (by first | exact Or.inl rfl | exact Or.inr (Or.inl rfl) | exact Or.inr (Or.inr rfl))) x.f_cached) (se_var (by rfl) (by first | exact Or.inl rfl | exact Or.inr (Or.inl rfl) | exact Or.inr (Or.inr rfl)))))) (sss_one (ss_del (se_fld (cs := [0]) (se_var (by rfl) (by first | exact Or.inl rfl | exact Or.inr (Or.inl rfl) | exact Or.inr (Or.inr rfl))) x.f_cached) (se_var (by rfl) (by first | exact Or.inl rfl | exact Or.inr (Or.inl rfl) | exact Or.inr (Or.inr rfl))))) (sss_nil)) (sss_one (ss_faug (cs := [0]) (se_var (by rfl) (by first | exact Or.inl rfl | exact Or.inr (Or.inl rfl) | exact Or.inr (Or.inr rfl))) (se_int) in_add (fun _ _ _ _ h => ⟨_, _, rfl, rfl, h⟩) x.f_arrived)))))
theorem fn_Disk_reach (x : Tx K mg) : FnM P w K mg base x.T 4 x.a_Disk_reach x.d_Disk_reach ["self", "block"] r_Disk_reach := fn_ok x.F_Disk_reach sc_Disk_reach fun cdv A outer s H E hr => sss_cons (ss_expr (se_meth (n := 1) (tb := [(0, r_Disk_demand_block)]) (se_var (by rfl) (by first | exact Or.inl rfl | exact Or.inr (Or.inl rfl) | exact Or.inr (Or.inr rfl))) (fun p hp => by
      simp only [List.mem_cons, List.not_mem_nil, or_false] at hp
      rcases hp with rfl
      exact ⟨x.cl_Disk, x.a_Disk_demand_block, x.d_Disk_demand_block, _, x.me_Disk_demand_block, (fn_Disk_demand_block x).mono (by decide), x.b_Disk_demand_block, rfl⟩) hr (takes_of rfl rfl rfl rfl) (san_cons (se_var (by rfl) (by first | exact Or.inl rfl | exact Or.inr (Or.inl rfl) | exact Or.inr (Or.inr rfl))) (san_nil)))) (sss_cons (ss_if (st_dnin (hu_of hr) (se_var (by rfl) (by first | exact Or.inl rfl | exact Or.inr (Or.inl rfl) | exact Or.inr (Or.inr rfl))) (se_fld (cs := [0]) (se_var (by rfl) (by first | exact Or.inl rfl | exact Or.inr (Or.inl rfl) | exact Or.inr (Or.inr rfl))) x.f_cached)) (sss_one (ss_stk)) (sss_nil)) (sss_one (ss_expr (se_meth (n := 1) (tb := [(0, r_Disk_let_reach)]) (se_var (by rfl) (by first | exact Or.inl rfl | exact Or.inr (Or.inl rfl) | exact Or.inr (Or.inr rfl))) (fun p hp => by
      simp only [List.mem_cons, List.not_mem_nil, or_false] at hp
      rcases hp with rfl
      exact ⟨x.cl_Disk, x.a_Disk_let_reach, x.d_Disk_let_reach, _, x.me_Disk_let_reach, (fn_Disk_let_reach x).mono (by decide), x.b_Disk_let_reach, rfl⟩) hr (takes_of rfl rfl rfl rfl) (san_cons (se_var (by rfl) (by first | exact Or.inl rfl | exact Or.inr (Or.inl rfl) | exact Or.inr (Or.inr rfl))) (san_nil))))))
theorem fn_Disk_reached (x : Tx K mg) : FnM P w K mg base x.T 1 x.a_Disk_reached x.d_Disk_reached ["self"] r_Disk_reached := fn_ok x.F_Disk_reached sc_Disk_reached fun cdv A outer s H E hr => sss_one (ss_ret (se_fld (cs := [0]) (se_var (by rfl) (by first | exact Or.inl rfl | exact Or.inr (Or.inl rfl) | exact Or.inr (Or.inr rfl))) x.f_arrived))
theorem fn_Disk_cut (x : Tx K mg) : FnM P w K mg base x.T 1 x.a_Disk_cut x.d_Disk_cut ["self"] r_Disk_cut := fn_ok x.F_Disk_cut sc_Disk_cut fun cdv A outer s H E hr => sss_cons (ss_fld (cs := [0]) (se_var (by rfl) (by first | exact Or.inl rfl | exact Or.inr (Or.inl rfl) | exact Or.inr (Or.inr rfl))) (se_dict0) x.f_cached) (sss_one (ss_fld (cs := [0]) (se_var (by rfl) (by first | exact Or.inl rfl | exact Or.inr (Or.inl rfl) | exact Or.inr (Or.inr rfl))) (se_non) x.f_left))
theorem fn_law (x : Tx K mg) : FnM P w K mg base x.T 8 x.a_law x.d_law ["script"] r_law := fn_ok x.F_law sc_law fun cdv A outer s H E hr => sss_cons (ss_set (i := 1) sc_law.nd (by rfl) (by first | exact Or.inl rfl | exact Or.inr rfl) (se_call ((fn_law_hand x).mono (by decide)) hr (takes_of rfl rfl rfl rfl) (by rfl) x.g_law_hand x.F_law_hand.kp x.b_law_hand (san_cons (se_var (by rfl) (by first | exact Or.inl rfl | exact Or.inr (Or.inl rfl) | exact Or.inr (Or.inr rfl))) (san_nil)))) (sss_cons (ss_set (i := 2) sc_law.nd (by rfl) (by first | exact Or.inl rfl | exact Or.inr rfl) (se_op (opr_or op_add (opr_or op_add_str (opr_or op_catT op_cat))) (ok_add (fz := true)) (se_int) (se_call ((fn_law_draw x).mono (by decide)) hr (takes_of rfl rfl rfl rfl) (by rfl) x.g_law_draw x.F_law_draw.kp x.b_law_draw (san_cons (se_var (by rfl) (by first | exact Or.inl rfl | exact Or.inr (Or.inl rfl) | exact Or.inr (Or.inr rfl))) (san_cons (se_int) (san_nil)))))) (sss_cons (ss_set (i := 3) sc_law.nd (by rfl) (by first | exact Or.inl rfl | exact Or.inr rfl) (se_sl (fz := true) (se_lstA (fz := true) (n := 4) (san_cons (se_int) (san_cons (se_int) (san_cons (se_int) (san_cons (se_op op_sub ok_sub (se_var (by rfl) (by first | exact Or.inl rfl | exact Or.inr (Or.inl rfl) | exact Or.inr (Or.inr rfl))) (se_int)) (san_nil)))))) (sp_none) (sp_some (se_op (opr_or op_add (opr_or op_add_str (opr_or op_catT op_cat))) (ok_add (fz := true)) (se_int) (se_call ((fn_law_draw x).mono (by decide)) hr (takes_of rfl rfl rfl rfl) (by rfl) x.g_law_draw x.F_law_draw.kp x.b_law_draw (san_cons (se_var (by rfl) (by first | exact Or.inl rfl | exact Or.inr (Or.inl rfl) | exact Or.inr (Or.inr rfl))) (san_cons (se_int) (san_nil)))))))) (sss_cons (ss_set (i := 4) sc_law.nd (by rfl) (by first | exact Or.inl rfl | exact Or.inr rfl) (se_comp (fz := true) (own := [("turn", 18)]) (t := (.one 18)) rfl sc_law.nd (si_range1 (by rfl) x.z_range (SAn.run (san_cons (se_op (opr_or op_add (opr_or op_add_str (opr_or op_catT op_cat))) (ok_add (fz := true)) (se_int) (se_call ((fn_law_draw x).mono (by decide)) hr (takes_of rfl rfl rfl rfl) (by rfl) x.g_law_draw x.F_law_draw.kp x.b_law_draw (san_cons (se_var (by rfl) (by first | exact Or.inl rfl | exact Or.inr (Or.inl rfl) | exact Or.inr (Or.inr rfl))) (san_cons (se_int) (san_nil))))) (san_nil)))) (blkOk_by (own := [("turn", 18)]) (N := N_law) (sc := (defScope s_law)) (by decide +kernel)) (by decide) (fun _ _ _ _ _ => pg_name (i := 18) sc_law.nd (by rfl) (Or.inl (by rfl))) (.inl ⟨rfl, rfl⟩) (fun _ _ _ _ _ => se_tupA (n := 2) (san_cons (se_call ((fn_law_any x).mono (by decide)) hr takes0 (by rfl) x.g_law_any x.F_law_any.kp x.b_law_any (san_cons (se_var (by rfl) (by first | exact Or.inl rfl | exact Or.inr (Or.inl rfl) | exact Or.inr (Or.inr rfl))) (san_cons (se_var (by rfl) (by first | exact Or.inl rfl | exact Or.inr (Or.inl rfl) | exact Or.inr (Or.inr rfl))) (san_nil)))) (san_cons (se_call ((fn_law_content x).mono (by decide)) hr takes0 (by rfl) x.g_law_content x.F_law_content.kp x.b_law_content (san_cons (se_var (by rfl) (by first | exact Or.inl rfl | exact Or.inr (Or.inl rfl) | exact Or.inr (Or.inr rfl))) (san_nil))) (san_nil)))))) (sss_cons (ss_set (i := 5) sc_law.nd (by rfl) (by first | exact Or.inl rfl | exact Or.inr rfl) (se_dict0)) (sss_cons (ss_for (passes_of rfl) rfl (si_list (se_var (by rfl) (by first | exact Or.inl rfl | exact Or.inr (Or.inl rfl) | exact Or.inr (Or.inr rfl)))) (sg_tup rfl (sgs_cons (sg_name (i := 6) sc_law.nd (by rfl) (by first | exact Or.inl rfl | exact Or.inr rfl)) (sgs_cons (sg_name (i := 7) sc_law.nd (by rfl) (by first | exact Or.inl rfl | exact Or.inr rfl)) (sgs_nil)))) (sss_one (ss_asg (se_op (opr_or op_add (opr_or op_add_str (opr_or op_catT op_cat))) (ok_add (fz := true)) (se_dget2 (hu_of hr) (se_var (by rfl) (by first | exact Or.inl rfl | exact Or.inr (Or.inl rfl) | exact Or.inr (Or.inr rfl))) (se_var (by rfl) (by first | exact Or.inl rfl | exact Or.inr (Or.inl rfl) | exact Or.inr (Or.inr rfl))) (se_lstA (fz := true) (n := 0) (san_nil)) m2_of) (se_lstA (fz := true) (n := 1) (san_cons (se_var (by rfl) (by first | exact Or.inl rfl | exact Or.inr (Or.inl rfl) | exact Or.inr (Or.inr rfl))) (san_nil)))) (sg_sub (hu_of hr) (se_var (by rfl) (by first | exact Or.inl rfl | exact Or.inr (Or.inl rfl) | exact Or.inr (Or.inr rfl))) (se_var (by rfl) (by first | exact Or.inl rfl | exact Or.inr (Or.inl rfl) | exact Or.inr (Or.inr rfl))))))) (sss_cons (ss_comp (fz := true) (i := 8) (own := [("turn", 18)]) (t := (.one 18)) rfl sc_law.nd (by rfl) (by rfl) (sw_true rfl rfl rfl (by decide +kernel)) (si_range1 (by rfl) x.z_range (SAn.run (san_cons (se_int) (san_nil)))) (blkOk_by (own := [("turn", 18)]) (N := N_law) (sc := (defScope s_law)) (by decide +kernel)) (by decide) (fun _ _ _ _ _ => pg_name (i := 18) sc_law.nd (by rfl) (Or.inl (by rfl))) (.inl ⟨rfl, rfl⟩) (fun _ _ _ _ _ => se_call ((fn_law_mixed x).mono (by decide)) hr takes0 (by rfl) x.g_law_mixed x.F_law_mixed.kp x.b_law_mixed (san_cons (se_var (by rfl) (by first | exact Or.inl rfl | exact Or.inr (Or.inl rfl) | exact Or.inr (Or.inr rfl))) (san_cons (se_comp (fz := true) (own := [("block", 6), ("content", 7)]) (t := (.tup [6, 7])) rfl sc_law.nd (si_list (se_var (by rfl) (by first | exact Or.inl rfl | exact Or.inr (Or.inl rfl) | exact Or.inr (Or.inr rfl)))) (blkOk_by (own := [("block", 6), ("content", 7)]) (N := N_law) (sc := (relS _ (defScope s_law))) (by decide +kernel)) (by decide) (fun _ _ _ _ _ => pg_tup rfl (pgs_cons (pg_name (i := 6) sc_law.nd (by rfl) (Or.inl (by rfl))) (pgs_cons (pg_name (i := 7) sc_law.nd (by rfl) (Or.inl (by rfl))) (pgs_nil)))) (.inl ⟨rfl, rfl⟩) (fun _ _ _ _ _ => se_var (by rfl) (by first | exact Or.inl rfl | exact Or.inr (Or.inl rfl) | exact Or.inr (Or.inr rfl)))) (san_nil))))) (sss_cons (ss_set (i := 9) sc_law.nd (by rfl) (by first | exact Or.inl rfl | exact Or.inr rfl) (se_lstA (fz := false) (n := 0) (san_nil))) (sss_cons (ss_for (passes_of rfl) rfl (si_list (se_var (by rfl) (by first | exact Or.inl rfl | exact Or.inr (Or.inl rfl) | exact Or.inr (Or.inr rfl)))) (sg_name (i := 10) sc_law.nd (by rfl) (by first | exact Or.inl rfl | exact Or.inr rfl)) (sss_cons (ss_asg (se_tupA (n := 2) (san_cons (se_call ((fn_law_written x).mono (by decide)) hr (takes_of rfl rfl rfl rfl) (by rfl) x.g_law_written x.F_law_written.kp x.b_law_written (san_cons (se_var (by rfl) (by first | exact Or.inl rfl | exact Or.inr (Or.inl rfl) | exact Or.inr (Or.inr rfl))) (san_cons (se_var (by rfl) (by first | exact Or.inl rfl | exact Or.inr (Or.inl rfl) | exact Or.inr (Or.inr rfl))) (san_nil)))) (san_cons (se_bty (CallR.or (call_dictP rfl) call_dictD) okc_dict (by rfl) x.z_dict (by decide +kernel) (SAn.run (san_cons (se_lock (se_comp (fz := true) (own := [("block", 6)]) (t := (.one 6)) rfl sc_law.nd (si_keys (se_var (by rfl) (by first | exact Or.inl rfl | exact Or.inr (Or.inl rfl) | exact Or.inr (Or.inr rfl)))) (blkOk_by (own := [("block", 6)]) (N := N_law) (sc := (defScope s_law)) (by decide +kernel)) (by decide) (fun _ _ _ _ _ => pg_name (i := 6) sc_law.nd (by rfl) (Or.inl (by rfl))) (.inl ⟨rfl, rfl⟩) (fun _ _ _ _ _ => se_tupA (n := 2) (san_cons (se_var (by rfl) (by first | exact Or.inl rfl | exact Or.inr (Or.inl rfl) | exact Or.inr (Or.inr rfl))) (san_cons (se_int) (san_nil)))))) (san_nil)))) (san_nil)))) (sg_tup rfl (sgs_cons (sg_name (i := 11) sc_law.nd (by rfl) (by first | exact Or.inl rfl | exact Or.inr rfl)) (sgs_cons (sg_name (i := 12) sc_law.nd (by rfl) (by first | exact Or.inl rfl | exact Or.inr rfl)) (sgs_nil))))) (sss_cons (ss_if (st_not (st_tr (se_call ((fn_law_lies x).mono (by decide)) hr (takes_of rfl rfl rfl rfl) (by rfl) x.g_law_lies x.F_law_lies.kp x.b_law_lies (san_cons (se_var (by rfl) (by first | exact Or.inl rfl | exact Or.inr (Or.inl rfl) | exact Or.inr (Or.inr rfl))) (san_cons (se_var (by rfl) (by first | exact Or.inl rfl | exact Or.inr (Or.inl rfl) | exact Or.inr (Or.inr rfl))) (san_cons (se_var (by rfl) (by first | exact Or.inl rfl | exact Or.inr (Or.inl rfl) | exact Or.inr (Or.inr rfl))) (san_nil))))))) (sss_one (ss_ret (se_bl))) (sss_nil)) (sss_cons (ss_for (passes_of rfl) rfl (si_enum (by rfl) x.z_enumerate (SAn.run (san_cons (se_var (by rfl) (by first | exact Or.inl rfl | exact Or.inr (Or.inl rfl) | exact Or.inr (Or.inr rfl))) (san_nil)))) (sg_tup rfl (sgs_cons (sg_name (i := 13) sc_law.nd (by rfl) (by first | exact Or.inl rfl | exact Or.inr rfl)) (sgs_cons (sg_name (i := 6) sc_law.nd (by rfl) (by first | exact Or.inl rfl | exact Or.inr rfl)) (sgs_nil)))) (sss_cons (ss_expr (se_meth (n := 1) (tb := [(0, r_Disk_reach)]) (se_var (by rfl) (by first | exact Or.inl rfl | exact Or.inr (Or.inl rfl) | exact Or.inr (Or.inr rfl))) (fun p hp => by
      simp only [List.mem_cons, List.not_mem_nil, or_false] at hp
      rcases hp with rfl
      exact ⟨x.cl_Disk, x.a_Disk_reach, x.d_Disk_reach, _, x.me_Disk_reach, (fn_Disk_reach x).mono (by decide), x.b_Disk_reach, rfl⟩) hr (takes_of rfl rfl rfl rfl) (san_cons (se_var (by rfl) (by first | exact Or.inl rfl | exact Or.inr (Or.inl rfl) | exact Or.inr (Or.inr rfl))) (san_nil)))) (sss_cons (ss_asg (se_op (opr_or op_add (opr_or op_add_str (opr_or op_catT op_cat))) (ok_add (fz := true)) (se_ix (hu_of hr) (se_var (by rfl) (by first | exact Or.inl rfl | exact Or.inr (Or.inl rfl) | exact Or.inr (Or.inr rfl))) (se_var (by rfl) (by first | exact Or.inl rfl | exact Or.inr (Or.inl rfl) | exact Or.inr (Or.inr rfl)))) (se_int)) (sg_sub (hu_of hr) (se_var (by rfl) (by first | exact Or.inl rfl | exact Or.inr (Or.inl rfl) | exact Or.inr (Or.inr rfl))) (se_var (by rfl) (by first | exact Or.inl rfl | exact Or.inr (Or.inl rfl) | exact Or.inr (Or.inr rfl))))) (sss_one (ss_if (st_w (sw_or (st_not (st_tr (se_call ((fn_law_lies x).mono (by decide)) hr (takes_of rfl rfl rfl rfl) (by rfl) x.g_law_lies x.F_law_lies.kp x.b_law_lies (san_cons (se_var (by rfl) (by first | exact Or.inl rfl | exact Or.inr (Or.inl rfl) | exact Or.inr (Or.inr rfl))) (san_cons (se_var (by rfl) (by first | exact Or.inl rfl | exact Or.inr (Or.inl rfl) | exact Or.inr (Or.inr rfl))) (san_cons (se_var (by rfl) (by first | exact Or.inl rfl | exact Or.inr (Or.inl rfl) | exact Or.inr (Or.inr rfl))) (san_nil))))))) (sw_or1 (st_cmp (opr_or op_ne (op_neD hr.units)) ok_ne (se_meth0 (tb := [(0, r_Disk_reached)]) (se_var (by rfl) (by first | exact Or.inl rfl | exact Or.inr (Or.inl rfl) | exact Or.inr (Or.inr rfl))) (fun p hp => by
      simp only [List.mem_cons, List.not_mem_nil, or_false] at hp
      rcases hp with rfl
      exact ⟨x.cl_Disk, x.a_Disk_reached, x.d_Disk_reached, _, x.me_Disk_reached, (fn_Disk_reached x).mono (by decide), x.b_Disk_reached, rfl⟩) hr (takes_of rfl rfl rfl rfl)) (se_op (opr_or op_add (opr_or op_add_str (opr_or op_catT op_cat))) (ok_add (fz := true)) (se_var (by rfl) (by first | exact Or.inl rfl | exact Or.inr (Or.inl rfl) | exact Or.inr (Or.inr rfl))) (se_int)) (by rfl))))) (sss_one (ss_ret (se_bl))) (sss_nil)))))) (sss_one (ss_expr (se_lm PySem.F.slot_list_append PySem.F.type_list_append mt_append okm_append (se_var (by rfl) (by first | exact Or.inl rfl | exact Or.inr (Or.inl rfl) | exact Or.inr (Or.inr rfl))) (SAn.run (san_cons (se_comp (fz := true) (own := [("block", 6)]) (t := (.one 6)) rfl sc_law.nd (si_range1 (by rfl) x.z_range (SAn.run (san_cons (se_var (by rfl) (by first | exact Or.inl rfl | exact Or.inr (Or.inl rfl) | exact Or.inr (Or.inr rfl))) (san_nil)))) (blkOk_by (own := [("block", 6)]) (N := N_law) (sc := (defScope s_law)) (by decide +kernel)) (by decide) (fun _ _ _ _ _ => pg_name (i := 6) sc_law.nd (by rfl) (Or.inl (by rfl))) (.inl ⟨rfl, rfl⟩) (fun _ _ _ _ _ => se_meth (n := 1) (tb := [(0, r_Disk_lying)]) (se_var (by rfl) (by first | exact Or.inl rfl | exact Or.inr (Or.inl rfl) | exact Or.inr (Or.inr rfl))) (fun p hp => by
      simp only [List.mem_cons, List.not_mem_nil, or_false] at hp
      rcases hp with rfl
      exact ⟨x.cl_Disk, x.a_Disk_lying, x.d_Disk_lying, _, x.me_Disk_lying, (fn_Disk_lying x).mono (by decide), x.b_Disk_lying, rfl⟩) hr takes0 (san_cons (se_var (by rfl) (by first | exact Or.inl rfl | exact Or.inr (Or.inl rfl) | exact Or.inr (Or.inr rfl))) (san_nil)))) (san_nil)))))))))) (sss_cons (ss_for (passes_of rfl) rfl (si_range1 (by rfl) x.z_range (SAn.run (san_cons (se_op (opr_or op_add (opr_or op_add_str (opr_or op_catT op_cat))) (ok_add (fz := true)) (se_blt (CallR.or call_len call_lenD) okc_len (by rfl) x.z_len (by decide +kernel) (SAn.run (san_cons (se_var (by rfl) (by first | exact Or.inl rfl | exact Or.inr (Or.inl rfl) | exact Or.inr (Or.inr rfl))) (san_nil)))) (se_int)) (san_nil)))) (sg_name (i := 14) sc_law.nd (by rfl) (by first | exact Or.inl rfl | exact Or.inr rfl)) (sss_cons (ss_set (i := 11) sc_law.nd (by rfl) (by first | exact Or.inl rfl | exact Or.inr rfl) (se_call ((fn_law_written x).mono (by decide)) hr (takes_of rfl rfl rfl rfl) (by rfl) x.g_law_written x.F_law_written.kp x.b_law_written (san_cons (se_var (by rfl) (by first | exact Or.inl rfl | exact Or.inr (Or.inl rfl) | exact Or.inr (Or.inr rfl))) (san_cons (se_var (by rfl) (by first | exact Or.inl rfl | exact Or.inr (Or.inl rfl) | exact Or.inr (Or.inr rfl))) (san_nil))))) (sss_cons (ss_for (passes_of rfl) rfl (si_list (se_sl (fz := true) (se_ix (hu_of hr) (se_var (by rfl) (by first | exact Or.inl rfl | exact Or.inr (Or.inl rfl) | exact Or.inr (Or.inr rfl))) (se_int)) (sp_none) (sp_some (se_var (by rfl) (by first | exact Or.inl rfl | exact Or.inr (Or.inl rfl) | exact Or.inr (Or.inr rfl)))))) (sg_name (i := 6) sc_law.nd (by rfl) (by first | exact Or.inl rfl | exact Or.inr rfl)) (sss_one (ss_expr (se_meth (n := 1) (tb := [(0, r_Disk_reach)]) (se_var (by rfl) (by first | exact Or.inl rfl | exact Or.inr (Or.inl rfl) | exact Or.inr (Or.inr rfl))) (fun p hp => by
      simp only [List.mem_cons, List.not_mem_nil, or_false] at hp
      rcases hp with rfl
      exact ⟨x.cl_Disk, x.a_Disk_reach, x.d_Disk_reach, _, x.me_Disk_reach, (fn_Disk_reach x).mono (by decide), x.b_Disk_reach, rfl⟩) hr (takes_of rfl rfl rfl rfl) (san_cons (se_var (by rfl) (by first | exact Or.inl rfl | exact Or.inr (Or.inl rfl) | exact Or.inr (Or.inr rfl))) (san_nil)))))) (sss_cons (ss_expr (se_meth0 (tb := [(0, r_Disk_cut)]) (se_var (by rfl) (by first | exact Or.inl rfl | exact Or.inr (Or.inl rfl) | exact Or.inr (Or.inr rfl))) (fun p hp => by
      simp only [List.mem_cons, List.not_mem_nil, or_false] at hp
      rcases hp with rfl
      exact ⟨x.cl_Disk, x.a_Disk_cut, x.d_Disk_cut, _, x.me_Disk_cut, (fn_Disk_cut x).mono (by decide), x.b_Disk_cut, rfl⟩) hr (takes_of rfl rfl rfl rfl))) (sss_cons (ss_lock (ss_for (passes_of rfl) rfl (si_items (se_var (by rfl) (by first | exact Or.inl rfl | exact Or.inr (Or.inl rfl) | exact Or.inr (Or.inr rfl)))) (sg_tup rfl (sgs_cons (sg_name (i := 6) sc_law.nd (by rfl) (by first | exact Or.inl rfl | exact Or.inr rfl)) (sgs_cons (sg_name (i := 15) sc_law.nd (by rfl) (by first | exact Or.inl rfl | exact Or.inr rfl)) (sgs_nil)))) (sss_cons (ss_set (i := 16) sc_law.nd (by rfl) (by first | exact Or.inl rfl | exact Or.inr rfl) (se_lm PySem.F.slot_list_count PySem.F.type_list_count mt_lcount okm_count (se_sl (fz := true) (se_ix (hu_of hr) (se_var (by rfl) (by first | exact Or.inl rfl | exact Or.inr (Or.inl rfl) | exact Or.inr (Or.inr rfl))) (se_int)) (sp_none) (sp_some (se_var (by rfl) (by first | exact Or.inl rfl | exact Or.inr (Or.inl rfl) | exact Or.inr (Or.inr rfl))))) (SAn.run (san_cons (se_var (by rfl) (by first | exact Or.inl rfl | exact Or.inr (Or.inl rfl) | exact Or.inr (Or.inr rfl))) (san_nil))))) (sss_cons (ss_set (i := 17) sc_law.nd (by rfl) (by first | exact Or.inl rfl | exact Or.inr rfl) (se_ifx (st_cmp (opr_or op_gt op_gt_str) ok_cmpS (se_var (by rfl) (by first | exact Or.inl rfl | exact Or.inr (Or.inl rfl) | exact Or.inr (Or.inr rfl))) (se_int) (by rfl)) (se_ix (hu_of hr) (se_var (by rfl) (by first | exact Or.inl rfl | exact Or.inr (Or.inl rfl) | exact Or.inr (Or.inr rfl))) (se_op op_sub ok_sub (se_var (by rfl) (by first | exact Or.inl rfl | exact Or.inr (Or.inl rfl) | exact Or.inr (Or.inr rfl))) (se_int))) (se_tupA (n := 0) (san_nil)))) (sss_one (ss_if (st_w (sw_or (st_cmp (opr_or op_ne (op_neD hr.units)) ok_ne (se_meth (n := 1) (tb := [(0, r_Disk_lying)]) (se_var (by rfl) (by first | exact Or.inl rfl | exact Or.inr (Or.inl rfl) | exact Or.inr (Or.inr rfl))) (fun p hp => by
      simp only [List.mem_cons, List.not_mem_nil, or_false] at hp
      rcases hp with rfl
      exact ⟨x.cl_Disk, x.a_Disk_lying, x.d_Disk_lying, _, x.me_Disk_lying, (fn_Disk_lying x).mono (by decide), x.b_Disk_lying, rfl⟩) hr (takes_of rfl rfl rfl rfl) (san_cons (se_var (by rfl) (by first | exact Or.inl rfl | exact Or.inr (Or.inl rfl) | exact Or.inr (Or.inr rfl))) (san_nil))) (se_var (by rfl) (by first | exact Or.inl rfl | exact Or.inr (Or.inl rfl) | exact Or.inr (Or.inr rfl))) (by rfl)) (sw_or1 (st_cmp (opr_or op_ne (op_neD hr.units)) ok_ne (se_meth (n := 1) (tb := [(0, r_Disk_read)]) (se_var (by rfl) (by first | exact Or.inl rfl | exact Or.inr (Or.inl rfl) | exact Or.inr (Or.inr rfl))) (fun p hp => by
      simp only [List.mem_cons, List.not_mem_nil, or_false] at hp
      rcases hp with rfl
      exact ⟨x.cl_Disk, x.a_Disk_read, x.d_Disk_read, _, x.me_Disk_read, (fn_Disk_read x).mono (by decide), x.b_Disk_read, rfl⟩) hr (takes_of rfl rfl rfl rfl) (san_cons (se_var (by rfl) (by first | exact Or.inl rfl | exact Or.inr (Or.inl rfl) | exact Or.inr (Or.inr rfl))) (san_nil))) (se_var (by rfl) (by first | exact Or.inl rfl | exact Or.inr (Or.inl rfl) | exact Or.inr (Or.inr rfl))) (by rfl))))) (sss_one (ss_ret (se_bl))) (sss_nil))))))) (sss_one (ss_if (st_w (sw_or (st_cmp (op_ne_dictA hr.units0) ok_neD (se_meth0 (tb := [(0, r_Disk_waiting)]) (se_var (by rfl) (by first | exact Or.inl rfl | exact Or.inr (Or.inl rfl) | exact Or.inr (Or.inr rfl))) (fun p hp => by
      simp only [List.mem_cons, List.not_mem_nil, or_false] at hp
      rcases hp with rfl
      exact ⟨x.cl_Disk, x.a_Disk_waiting, x.d_Disk_waiting, _, x.me_Disk_waiting, (fn_Disk_waiting x).mono (by decide), x.b_Disk_waiting, rfl⟩) hr (takes_of rfl rfl rfl rfl)) (se_dict0) (by rfl)) (sw_or1 (st_cmp (opr_or op_ne (op_neD hr.units)) ok_ne (se_meth0 (tb := [(0, r_Disk_reached)]) (se_var (by rfl) (by first | exact Or.inl rfl | exact Or.inr (Or.inl rfl) | exact Or.inr (Or.inr rfl))) (fun p hp => by
      simp only [List.mem_cons, List.not_mem_nil, or_false] at hp
      rcases hp with rfl
      exact ⟨x.cl_Disk, x.a_Disk_reached, x.d_Disk_reached, _, x.me_Disk_reached, (fn_Disk_reached x).mono (by decide), x.b_Disk_reached, rfl⟩) hr (takes_of rfl rfl rfl rfl)) (se_var (by rfl) (by first | exact Or.inl rfl | exact Or.inr (Or.inl rfl) | exact Or.inr (Or.inr rfl))) (by rfl))))) (sss_one (ss_ret (se_bl))) (sss_nil)))))))) (sss_one (ss_ret (se_cmp (opr_or op_eq (op_eqD hr.units)) ok_eq (se_ix (hu_of hr) (se_var (by rfl) (by first | exact Or.inl rfl | exact Or.inr (Or.inl rfl) | exact Or.inr (Or.inr rfl))) (se_int)) (se_ix (hu_of hr) (se_var (by rfl) (by first | exact Or.inl rfl | exact Or.inr (Or.inl rfl) | exact Or.inr (Or.inr rfl))) (se_int)) (by rfl)))))))))))))
end
/-! the end -/
theorem all_mk {w : World} {K : PySem.W.Frag} {h : Heap} {mg : Str → Option Value} {fa : Addr} (X : K.In h) (G : h.Ns mainGlobals mg) (hfa : mg "law" = some (.ref fa))
    {C_Disk : Addr}
    {f0 : Addr} {od0 an0 : Option Addr} {sl0 : Array (Option Value)} {oc0 kV0 dc0 pm0 cd0 ct0 : Value}
    {f1 : Addr} {od1 an1 : Option Addr} {sl1 : Array (Option Value)} {oc1 kV1 dc1 pm1 cd1 ct1 : Value}
    {f2 : Addr} {od2 an2 : Option Addr} {sl2 : Array (Option Value)} {oc2 kV2 dc2 pm2 cd2 ct2 : Value}
    {f3 : Addr} {od3 an3 : Option Addr} {sl3 : Array (Option Value)} {oc3 kV3 dc3 pm3 cd3 ct3 : Value}
    {f4 : Addr} {od4 an4 : Option Addr} {sl4 : Array (Option Value)} {oc4 kV4 dc4 pm4 cd4 ct4 : Value}
    {f5 : Addr} {od5 an5 : Option Addr} {sl5 : Array (Option Value)} {oc5 kV5 dc5 pm5 cd5 ct5 : Value}
    {f6 : Addr} {od6 an6 : Option Addr} {sl6 : Array (Option Value)} {oc6 kV6 dc6 pm6 cd6 ct6 : Value}
    {f7 : Addr} {od7 an7 : Option Addr} {sl7 : Array (Option Value)} {oc7 kV7 dc7 pm7 cd7 ct7 : Value}
    {f8 : Addr} {od8 an8 : Option Addr} {sl8 : Array (Option Value)} {oc8 kV8 dc8 pm8 cd8 ct8 : Value}
    {f9 : Addr} {od9 an9 : Option Addr} {sl9 : Array (Option Value)} {oc9 kV9 dc9 pm9 cd9 ct9 : Value}
    {f10 : Addr} {od10 an10 : Option Addr} {sl10 : Array (Option Value)} {oc10 kV10 dc10 pm10 cd10 ct10 : Value}
    {f11 : Addr} {od11 an11 : Option Addr} {sl11 : Array (Option Value)} {oc11 kV11 dc11 pm11 cd11 ct11 : Value}
    {f12 : Addr} {od12 an12 : Option Addr} {sl12 : Array (Option Value)} {oc12 kV12 dc12 pm12 cd12 ct12 : Value}
    {f13 : Addr} {od13 an13 : Option Addr} {sl13 : Array (Option Value)} {oc13 kV13 dc13 pm13 cd13 ct13 : Value}
    {f14 : Addr} {od14 an14 : Option Addr} {sl14 : Array (Option Value)} {oc14 kV14 dc14 pm14 cd14 ct14 : Value}
    {f15 : Addr} {od15 an15 : Option Addr} {sl15 : Array (Option Value)} {oc15 kV15 dc15 pm15 cd15 ct15 : Value}
    {f16 : Addr} {od16 an16 : Option Addr} {sl16 : Array (Option Value)} {oc16 kV16 dc16 pm16 cd16 ct16 : Value}
    {f17 : Addr} {od17 an17 : Option Addr} {sl17 : Array (Option Value)} {oc17 kV17 dc17 pm17 cd17 ct17 : Value}
    {f18 : Addr} {od18 an18 : Option Addr} {sl18 : Array (Option Value)} {oc18 kV18 dc18 pm18 cd18 ct18 : Value}
    {f19 : Addr} {od19 an19 : Option Addr} {sl19 : Array (Option Value)} {oc19 kV19 dc19 pm19 cd19 ct19 : Value}
    {f20 : Addr} {od20 an20 : Option Addr} {sl20 : Array (Option Value)} {oc20 kV20 dc20 pm20 cd20 ct20 : Value}
    {f21 : Addr} {od21 an21 : Option Addr} {sl21 : Array (Option Value)} {oc21 kV21 dc21 pm21 cd21 ct21 : Value}
    {f22 : Addr} {od22 an22 : Option Addr} {sl22 : Array (Option Value)} {oc22 kV22 dc22 pm22 cd22 ct22 : Value}
    {f23 : Addr} {od23 an23 : Option Addr} {sl23 : Array (Option Value)} {oc23 kV23 dc23 pm23 cd23 ct23 : Value}
    {f24 : Addr} {od24 an24 : Option Addr} {sl24 : Array (Option Value)} {oc24 kV24 dc24 pm24 cd24 ct24 : Value}
    {t_FEWEST_BLOCKS : Tok}
    {t_GREATEST_ITEM : Tok}
    {t_LONGEST_CONTENT : Tok}
    {t_LONGEST_WORD : Tok}
    {t_MOST_BLOCKS : Tok}
    (aC_Disk : PySem.W.nsIn K mainGlobals "Disk" = some (some (.ref C_Disk)))
    (a0 : PySem.W.nsIn K mainGlobals "_law_hand" = some (some (.ref f0)))
    (l0 : K.lookup f0 = some ⟨oc0, od0, .func (PySem.W.fnOf "_law_hand" "_law_hand" (defArgs s_law_hand) (defBody s_law_hand) (defScope s_law_hand) .none kV0 dc0 pm0 an0 cd0 ct0), sl0⟩)
    (c0 : PySem.W.codeIn K cd0 "_law_hand" = true)
    (k0 : PySem.W.keepIn K (.ref f0) = true)
    (a1 : PySem.W.nsIn K mainGlobals "_law_draw" = some (some (.ref f1)))
    (l1 : K.lookup f1 = some ⟨oc1, od1, .func (PySem.W.fnOf "_law_draw" "_law_draw" (defArgs s_law_draw) (defBody s_law_draw) (defScope s_law_draw) .none kV1 dc1 pm1 an1 cd1 ct1), sl1⟩)
    (c1 : PySem.W.codeIn K cd1 "_law_draw" = true)
    (k1 : PySem.W.keepIn K (.ref f1) = true)
    (a2 : PySem.W.nsIn K mainGlobals "_law_any" = some (some (.ref f2)))
    (l2 : K.lookup f2 = some ⟨oc2, od2, .func (PySem.W.fnOf "_law_any" "_law_any" (defArgs s_law_any) (defBody s_law_any) (defScope s_law_any) .none kV2 dc2 pm2 an2 cd2 ct2), sl2⟩)
    (c2 : PySem.W.codeIn K cd2 "_law_any" = true)
    (k2 : PySem.W.keepIn K (.ref f2) = true)
    (a3 : PySem.W.nsIn K mainGlobals "_law_content" = some (some (.ref f3)))
    (l3 : K.lookup f3 = some ⟨oc3, od3, .func (PySem.W.fnOf "_law_content" "_law_content" (defArgs s_law_content) (defBody s_law_content) (defScope s_law_content) .none kV3 dc3 pm3 an3 cd3 ct3), sl3⟩)
    (c3 : PySem.W.codeIn K cd3 "_law_content" = true)
    (k3 : PySem.W.keepIn K (.ref f3) = true)
    (a4 : PySem.W.nsIn K mainGlobals "_law_mixed" = some (some (.ref f4)))
    (l4 : K.lookup f4 = some ⟨oc4, od4, .func (PySem.W.fnOf "_law_mixed" "_law_mixed" (defArgs s_law_mixed) (defBody s_law_mixed) (defScope s_law_mixed) .none kV4 dc4 pm4 an4 cd4 ct4), sl4⟩)
    (c4 : PySem.W.codeIn K cd4 "_law_mixed" = true)
    (k4 : PySem.W.keepIn K (.ref f4) = true)
    (a5 : PySem.W.nsIn K mainGlobals "is_integer" = some (some (.ref f5)))
    (l5 : K.lookup f5 = some ⟨oc5, od5, .func (PySem.W.fnOf "is_integer" "is_integer" (defArgs s_is_integer) (defBody s_is_integer) (defScope s_is_integer) .none kV5 dc5 pm5 an5 cd5 ct5), sl5⟩)
    (c5 : PySem.W.codeIn K cd5 "is_integer" = true)
    (k5 : PySem.W.keepIn K (.ref f5) = true)
    (a6 : PySem.W.nsIn K mainGlobals "is_within" = some (some (.ref f6)))
    (l6 : K.lookup f6 = some ⟨oc6, od6, .func (PySem.W.fnOf "is_within" "is_within" (defArgs s_is_within) (defBody s_is_within) (defScope s_is_within) .none kV6 dc6 pm6 an6 cd6 ct6), sl6⟩)
    (c6 : PySem.W.codeIn K cd6 "is_within" = true)
    (k6 : PySem.W.keepIn K (.ref f6) = true)
    (a7 : PySem.W.findIn K (.ref C_Disk) "__init__" = some (some (.ref f7)))
    (i7 : PySem.W.isFn K (.ref f7) = true)
    (l7 : K.lookup f7 = some ⟨oc7, od7, .func (PySem.W.fnOf "__init__" "Disk.__init__" (defArgs s_Disk_init) (defBody s_Disk_init) (defScope s_Disk_init) .none kV7 dc7 pm7 an7 cd7 ct7), sl7⟩)
    (c7 : PySem.W.codeIn K cd7 "Disk.__init__" = true)
    (k7 : PySem.W.keepIn K (.ref f7) = true)
    (a8 : PySem.W.findIn K (.ref C_Disk) "blocks" = some (some (.ref f8)))
    (i8 : PySem.W.isFn K (.ref f8) = true)
    (l8 : K.lookup f8 = some ⟨oc8, od8, .func (PySem.W.fnOf "blocks" "Disk.blocks" (defArgs s_Disk_blocks) (defBody s_Disk_blocks) (defScope s_Disk_blocks) .none kV8 dc8 pm8 an8 cd8 ct8), sl8⟩)
    (c8 : PySem.W.codeIn K cd8 "Disk.blocks" = true)
    (k8 : PySem.W.keepIn K (.ref f8) = true)
    (a9 : PySem.W.findIn K (.ref C_Disk) "demand_block" = some (some (.ref f9)))
    (i9 : PySem.W.isFn K (.ref f9) = true)
    (l9 : K.lookup f9 = some ⟨oc9, od9, .func (PySem.W.fnOf "demand_block" "Disk.demand_block" (defArgs s_Disk_demand_block) (defBody s_Disk_demand_block) (defScope s_Disk_demand_block) .none kV9 dc9 pm9 an9 cd9 ct9), sl9⟩)
    (c9 : PySem.W.codeIn K cd9 "Disk.demand_block" = true)
    (k9 : PySem.W.keepIn K (.ref f9) = true)
    (a10 : PySem.W.nsIn K mainGlobals "is_word" = some (some (.ref f10)))
    (l10 : K.lookup f10 = some ⟨oc10, od10, .func (PySem.W.fnOf "is_word" "is_word" (defArgs s_is_word) (defBody s_is_word) (defScope s_is_word) .none kV10 dc10 pm10 an10 cd10 ct10), sl10⟩)
    (c10 : PySem.W.codeIn K cd10 "is_word" = true)
    (k10 : PySem.W.keepIn K (.ref f10) = true)
    (a11 : PySem.W.nsIn K mainGlobals "is_item" = some (some (.ref f11)))
    (l11 : K.lookup f11 = some ⟨oc11, od11, .func (PySem.W.fnOf "is_item" "is_item" (defArgs s_is_item) (defBody s_is_item) (defScope s_is_item) .none kV11 dc11 pm11 an11 cd11 ct11), sl11⟩)
    (c11 : PySem.W.codeIn K cd11 "is_item" = true)
    (k11 : PySem.W.keepIn K (.ref f11) = true)
    (a12 : PySem.W.nsIn K mainGlobals "is_row" = some (some (.ref f12)))
    (l12 : K.lookup f12 = some ⟨oc12, od12, .func (PySem.W.fnOf "is_row" "is_row" (defArgs s_is_row) (defBody s_is_row) (defScope s_is_row) .none kV12 dc12 pm12 an12 cd12 ct12), sl12⟩)
    (c12 : PySem.W.codeIn K cd12 "is_row" = true)
    (k12 : PySem.W.keepIn K (.ref f12) = true)
    (a13 : PySem.W.nsIn K mainGlobals "is_content" = some (some (.ref f13)))
    (l13 : K.lookup f13 = some ⟨oc13, od13, .func (PySem.W.fnOf "is_content" "is_content" (defArgs s_is_content) (defBody s_is_content) (defScope s_is_content) .none kV13 dc13 pm13 an13 cd13 ct13), sl13⟩)
    (c13 : PySem.W.codeIn K cd13 "is_content" = true)
    (k13 : PySem.W.keepIn K (.ref f13) = true)
    (a14 : PySem.W.findIn K (.ref C_Disk) "write" = some (some (.ref f14)))
    (i14 : PySem.W.isFn K (.ref f14) = true)
    (l14 : K.lookup f14 = some ⟨oc14, od14, .func (PySem.W.fnOf "write" "Disk.write" (defArgs s_Disk_write) (defBody s_Disk_write) (defScope s_Disk_write) .none kV14 dc14 pm14 an14 cd14 ct14), sl14⟩)
    (c14 : PySem.W.codeIn K cd14 "Disk.write" = true)
    (k14 : PySem.W.keepIn K (.ref f14) = true)
    (a15 : PySem.W.nsIn K mainGlobals "_law_written" = some (some (.ref f15)))
    (l15 : K.lookup f15 = some ⟨oc15, od15, .func (PySem.W.fnOf "_law_written" "_law_written" (defArgs s_law_written) (defBody s_law_written) (defScope s_law_written) .none kV15 dc15 pm15 an15 cd15 ct15), sl15⟩)
    (c15 : PySem.W.codeIn K cd15 "_law_written" = true)
    (k15 : PySem.W.keepIn K (.ref f15) = true)
    (a16 : PySem.W.findIn K (.ref C_Disk) "lying" = some (some (.ref f16)))
    (i16 : PySem.W.isFn K (.ref f16) = true)
    (l16 : K.lookup f16 = some ⟨oc16, od16, .func (PySem.W.fnOf "lying" "Disk.lying" (defArgs s_Disk_lying) (defBody s_Disk_lying) (defScope s_Disk_lying) .none kV16 dc16 pm16 an16 cd16 ct16), sl16⟩)
    (c16 : PySem.W.codeIn K cd16 "Disk.lying" = true)
    (k16 : PySem.W.keepIn K (.ref f16) = true)
    (a17 : PySem.W.findIn K (.ref C_Disk) "waiting" = some (some (.ref f17)))
    (i17 : PySem.W.isFn K (.ref f17) = true)
    (l17 : K.lookup f17 = some ⟨oc17, od17, .func (PySem.W.fnOf "waiting" "Disk.waiting" (defArgs s_Disk_waiting) (defBody s_Disk_waiting) (defScope s_Disk_waiting) .none kV17 dc17 pm17 an17 cd17 ct17), sl17⟩)
    (c17 : PySem.W.codeIn K cd17 "Disk.waiting" = true)
    (k17 : PySem.W.keepIn K (.ref f17) = true)
    (a18 : PySem.W.findIn K (.ref C_Disk) "read" = some (some (.ref f18)))
    (i18 : PySem.W.isFn K (.ref f18) = true)
    (l18 : K.lookup f18 = some ⟨oc18, od18, .func (PySem.W.fnOf "read" "Disk.read" (defArgs s_Disk_read) (defBody s_Disk_read) (defScope s_Disk_read) .none kV18 dc18 pm18 an18 cd18 ct18), sl18⟩)
    (c18 : PySem.W.codeIn K cd18 "Disk.read" = true)
    (k18 : PySem.W.keepIn K (.ref f18) = true)
    (a19 : PySem.W.nsIn K mainGlobals "_law_lies" = some (some (.ref f19)))
    (l19 : K.lookup f19 = some ⟨oc19, od19, .func (PySem.W.fnOf "_law_lies" "_law_lies" (defArgs s_law_lies) (defBody s_law_lies) (defScope s_law_lies) .none kV19 dc19 pm19 an19 cd19 ct19), sl19⟩)
    (c19 : PySem.W.codeIn K cd19 "_law_lies" = true)
    (k19 : PySem.W.keepIn K (.ref f19) = true)
    (a20 : PySem.W.findIn K (.ref C_Disk) "let_reach" = some (some (.ref f20)))
    (i20 : PySem.W.isFn K (.ref f20) = true)
    (l20 : K.lookup f20 = some ⟨oc20, od20, .func (PySem.W.fnOf "let_reach" "Disk.let_reach" (defArgs s_Disk_let_reach) (defBody s_Disk_let_reach) (defScope s_Disk_let_reach) .none kV20 dc20 pm20 an20 cd20 ct20), sl20⟩)
    (c20 : PySem.W.codeIn K cd20 "Disk.let_reach" = true)
    (k20 : PySem.W.keepIn K (.ref f20) = true)
    (a21 : PySem.W.findIn K (.ref C_Disk) "reach" = some (some (.ref f21)))
    (i21 : PySem.W.isFn K (.ref f21) = true)
    (l21 : K.lookup f21 = some ⟨oc21, od21, .func (PySem.W.fnOf "reach" "Disk.reach" (defArgs s_Disk_reach) (defBody s_Disk_reach) (defScope s_Disk_reach) .none kV21 dc21 pm21 an21 cd21 ct21), sl21⟩)
    (c21 : PySem.W.codeIn K cd21 "Disk.reach" = true)
    (k21 : PySem.W.keepIn K (.ref f21) = true)
    (a22 : PySem.W.findIn K (.ref C_Disk) "reached" = some (some (.ref f22)))
    (i22 : PySem.W.isFn K (.ref f22) = true)
    (l22 : K.lookup f22 = some ⟨oc22, od22, .func (PySem.W.fnOf "reached" "Disk.reached" (defArgs s_Disk_reached) (defBody s_Disk_reached) (defScope s_Disk_reached) .none kV22 dc22 pm22 an22 cd22 ct22), sl22⟩)
    (c22 : PySem.W.codeIn K cd22 "Disk.reached" = true)
    (k22 : PySem.W.keepIn K (.ref f22) = true)
    (a23 : PySem.W.findIn K (.ref C_Disk) "cut" = some (some (.ref f23)))
    (i23 : PySem.W.isFn K (.ref f23) = true)
    (l23 : K.lookup f23 = some ⟨oc23, od23, .func (PySem.W.fnOf "cut" "Disk.cut" (defArgs s_Disk_cut) (defBody s_Disk_cut) (defScope s_Disk_cut) .none kV23 dc23 pm23 an23 cd23 ct23), sl23⟩)
    (c23 : PySem.W.codeIn K cd23 "Disk.cut" = true)
    (k23 : PySem.W.keepIn K (.ref f23) = true)
    (a24 : PySem.W.nsIn K mainGlobals "law" = some (some (.ref f24)))
    (l24 : K.lookup f24 = some ⟨oc24, od24, .func (PySem.W.fnOf "law" "law" (defArgs s_law) (defBody s_law) (defScope s_law) .none kV24 dc24 pm24 an24 cd24 ct24), sl24⟩)
    (c24 : PySem.W.codeIn K cd24 "law" = true)
    (k24 : PySem.W.keepIn K (.ref f24) = true)
    (pg_Disk : PySem.W.plainGet K C_Disk Str.empty = true)
    (hd_Disk : PySem.W.hasDictIn K C_Disk = true)
    (po_Disk : PySem.W.plainOver K C_Disk = true)
    (sa_Disk : PySem.W.findIn K (.ref C_Disk) "__setattr__" = some (some (.builtin "object.__setattr__")))
    (mk_Disk : PySem.W.makesIn K C_Disk = true)
    (kc_Disk : PySem.W.keepIn K (.ref C_Disk) = true)
    (nf_arrived_Disk : PySem.W.findIn K (.ref C_Disk) "arrived" = some none)
    (nf_cached_Disk : PySem.W.findIn K (.ref C_Disk) "cached" = some none)
    (nf_contents_Disk : PySem.W.findIn K (.ref C_Disk) "contents" = some none)
    (nf_left_Disk : PySem.W.findIn K (.ref C_Disk) "left" = some none)
    (co_FEWEST_BLOCKS : PySem.W.nsIn K mainGlobals "FEWEST_BLOCKS" = some (some (.int 16 t_FEWEST_BLOCKS)))
    (co_GREATEST_ITEM : PySem.W.nsIn K mainGlobals "GREATEST_ITEM" = some (some (.int 1000000000000000000000000000000 t_GREATEST_ITEM)))
    (co_LONGEST_CONTENT : PySem.W.nsIn K mainGlobals "LONGEST_CONTENT" = some (some (.int 40 t_LONGEST_CONTENT)))
    (co_LONGEST_WORD : PySem.W.nsIn K mainGlobals "LONGEST_WORD" = some (some (.int 12 t_LONGEST_WORD)))
    (co_MOST_BLOCKS : PySem.W.nsIn K mainGlobals "MOST_BLOCKS" = some (some (.int 600 t_MOST_BLOCKS)))
    (zb_abs : PySem.W.nsIn K mainGlobals "abs" = some none)
    (zb_all : PySem.W.nsIn K mainGlobals "all" = some none)
    (zb_bool : PySem.W.nsIn K mainGlobals "bool" = some none)
    (zb_dict : PySem.W.nsIn K mainGlobals "dict" = some none)
    (zb_enumerate : PySem.W.nsIn K mainGlobals "enumerate" = some none)
    (zb_int : PySem.W.nsIn K mainGlobals "int" = some none)
    (zb_isinstance : PySem.W.nsIn K mainGlobals "isinstance" = some none)
    (zb_len : PySem.W.nsIn K mainGlobals "len" = some none)
    (zb_list : PySem.W.nsIn K mainGlobals "list" = some none)
    (zb_range : PySem.W.nsIn K mainGlobals "range" = some none)
    (zb_sorted : PySem.W.nsIn K mainGlobals "sorted" = some none)
    (zb_str : PySem.W.nsIn K mainGlobals "str" = some none)
    (zb_tuple : PySem.W.nsIn K mainGlobals "tuple" = some none)
    : ∃ x : Tx K mg, x.a_law = fa := by
  have e := hfa.symm.trans (PySem.W.mg_of X G a24)
  cases e
  exact ⟨{
    C_Disk := C_Disk,
    a_law_hand := f0,
    d_law_hand := _,
    F_law_hand := fun_mk (st := s_law_hand) l0 c0 k0,
    b_law_hand := (fun_mk (st := s_law_hand) l0 c0 k0).binds (ps := ["script"]) (fun _ _ _ _ _ _ us hl => match us, hl with | [_], _ => rfl),
    g_law_hand := PySem.W.mg_of X G a0,
    a_law_draw := f1,
    d_law_draw := _,
    F_law_draw := fun_mk (st := s_law_draw) l1 c1 k1,
    b_law_draw := (fun_mk (st := s_law_draw) l1 c1 k1).binds (ps := ["hand", "many"]) (fun _ _ _ _ _ _ us hl => match us, hl with | [_, _], _ => rfl),
    g_law_draw := PySem.W.mg_of X G a1,
    a_law_any := f2,
    d_law_any := _,
    F_law_any := fun_mk (st := s_law_any) l2 c2 k2,
    b_law_any := (fun_mk (st := s_law_any) l2 c2 k2).binds (ps := ["hand", "some"]) (fun _ _ _ _ _ _ us hl => match us, hl with | [_, _], _ => rfl),
    g_law_any := PySem.W.mg_of X G a2,
    a_law_content := f3,
    d_law_content := _,
    F_law_content := fun_mk (st := s_law_content) l3 c3 k3,
    b_law_content := (fun_mk (st := s_law_content) l3 c3 k3).binds (ps := ["hand"]) (fun _ _ _ _ _ _ us hl => match us, hl with | [_], _ => rfl),
    g_law_content := PySem.W.mg_of X G a3,
    a_law_mixed := f4,
    d_law_mixed := _,
    F_law_mixed := fun_mk (st := s_law_mixed) l4 c4 k4,
    b_law_mixed := (fun_mk (st := s_law_mixed) l4 c4 k4).binds (ps := ["hand", "things"]) (fun _ _ _ _ _ _ us hl => match us, hl with | [_, _], _ => rfl),
    g_law_mixed := PySem.W.mg_of X G a4,
    a_is_integer := f5,
    d_is_integer := _,
    F_is_integer := fun_mk (st := s_is_integer) l5 c5 k5,
    b_is_integer := (fun_mk (st := s_is_integer) l5 c5 k5).binds (ps := ["thing"]) (fun _ _ _ _ _ _ us hl => match us, hl with | [_], _ => rfl),
    g_is_integer := PySem.W.mg_of X G a5,
    a_is_within := f6,
    d_is_within := _,
    F_is_within := fun_mk (st := s_is_within) l6 c6 k6,
    b_is_within := (fun_mk (st := s_is_within) l6 c6 k6).binds (ps := ["low", "high", "thing"]) (fun _ _ _ _ _ _ us hl => match us, hl with | [_, _, _], _ => rfl),
    g_is_within := PySem.W.mg_of X G a6,
    a_Disk_init := f7,
    d_Disk_init := _,
    F_Disk_init := fun_mk (st := s_Disk_init) l7 c7 k7,
    b_Disk_init := (fun_mk (st := s_Disk_init) l7 c7 k7).binds (ps := ["self", "blocks"]) (fun _ _ _ _ _ _ us hl => match us, hl with | [_, _], _ => rfl),
    a_Disk_blocks := f8,
    d_Disk_blocks := _,
    F_Disk_blocks := fun_mk (st := s_Disk_blocks) l8 c8 k8,
    b_Disk_blocks := (fun_mk (st := s_Disk_blocks) l8 c8 k8).binds (ps := ["self"]) (fun _ _ _ _ _ _ us hl => match us, hl with | [_], _ => rfl),
    a_Disk_demand_block := f9,
    d_Disk_demand_block := _,
    F_Disk_demand_block := fun_mk (st := s_Disk_demand_block) l9 c9 k9,
    b_Disk_demand_block := (fun_mk (st := s_Disk_demand_block) l9 c9 k9).binds (ps := ["self", "block"]) (fun _ _ _ _ _ _ us hl => match us, hl with | [_, _], _ => rfl),
    a_is_word := f10,
    d_is_word := _,
    F_is_word := fun_mk (st := s_is_word) l10 c10 k10,
    b_is_word := (fun_mk (st := s_is_word) l10 c10 k10).binds (ps := ["thing"]) (fun _ _ _ _ _ _ us hl => match us, hl with | [_], _ => rfl),
    g_is_word := PySem.W.mg_of X G a10,
    a_is_item := f11,
    d_is_item := _,
    F_is_item := fun_mk (st := s_is_item) l11 c11 k11,
    b_is_item := (fun_mk (st := s_is_item) l11 c11 k11).binds (ps := ["thing"]) (fun _ _ _ _ _ _ us hl => match us, hl with | [_], _ => rfl),
    g_is_item := PySem.W.mg_of X G a11,
    a_is_row := f12,
    d_is_row := _,
    F_is_row := fun_mk (st := s_is_row) l12 c12 k12,
    b_is_row := (fun_mk (st := s_is_row) l12 c12 k12).binds (ps := ["low", "high", "thing"]) (fun _ _ _ _ _ _ us hl => match us, hl with | [_, _, _], _ => rfl),
    g_is_row := PySem.W.mg_of X G a12,
    a_is_content := f13,
    d_is_content := _,
    F_is_content := fun_mk (st := s_is_content) l13 c13 k13,
    b_is_content := (fun_mk (st := s_is_content) l13 c13 k13).binds (ps := ["thing"]) (fun _ _ _ _ _ _ us hl => match us, hl with | [_], _ => rfl),
    g_is_content := PySem.W.mg_of X G a13,
    a_Disk_write := f14,
    d_Disk_write := _,
    F_Disk_write := fun_mk (st := s_Disk_write) l14 c14 k14,
    b_Disk_write := (fun_mk (st := s_Disk_write) l14 c14 k14).binds (ps := ["self", "block", "content"]) (fun _ _ _ _ _ _ us hl => match us, hl with | [_, _, _], _ => rfl),
    a_law_written := f15,
    d_law_written := _,
    F_law_written := fun_mk (st := s_law_written) l15 c15 k15,
    b_law_written := (fun_mk (st := s_law_written) l15 c15 k15).binds (ps := ["blocks", "writes"]) (fun _ _ _ _ _ _ us hl => match us, hl with | [_, _], _ => rfl),
    g_law_written := PySem.W.mg_of X G a15,
    a_Disk_lying := f16,
    d_Disk_lying := _,
    F_Disk_lying := fun_mk (st := s_Disk_lying) l16 c16 k16,
    b_Disk_lying := (fun_mk (st := s_Disk_lying) l16 c16 k16).binds (ps := ["self", "block"]) (fun _ _ _ _ _ _ us hl => match us, hl with | [_, _], _ => rfl),
    a_Disk_waiting := f17,
    d_Disk_waiting := _,
    F_Disk_waiting := fun_mk (st := s_Disk_waiting) l17 c17 k17,
    b_Disk_waiting := (fun_mk (st := s_Disk_waiting) l17 c17 k17).binds (ps := ["self"]) (fun _ _ _ _ _ _ us hl => match us, hl with | [_], _ => rfl),
    a_Disk_read := f18,
    d_Disk_read := _,
    F_Disk_read := fun_mk (st := s_Disk_read) l18 c18 k18,
    b_Disk_read := (fun_mk (st := s_Disk_read) l18 c18 k18).binds (ps := ["self", "block"]) (fun _ _ _ _ _ _ us hl => match us, hl with | [_, _], _ => rfl),
    a_law_lies := f19,
    d_law_lies := _,
    F_law_lies := fun_mk (st := s_law_lies) l19 c19 k19,
    b_law_lies := (fun_mk (st := s_law_lies) l19 c19 k19).binds (ps := ["disk", "rows", "counts"]) (fun _ _ _ _ _ _ us hl => match us, hl with | [_, _, _], _ => rfl),
    g_law_lies := PySem.W.mg_of X G a19,
    a_Disk_let_reach := f20,
    d_Disk_let_reach := _,
    F_Disk_let_reach := fun_mk (st := s_Disk_let_reach) l20 c20 k20,
    b_Disk_let_reach := (fun_mk (st := s_Disk_let_reach) l20 c20 k20).binds (ps := ["self", "block"]) (fun _ _ _ _ _ _ us hl => match us, hl with | [_, _], _ => rfl),
    a_Disk_reach := f21,
    d_Disk_reach := _,
    F_Disk_reach := fun_mk (st := s_Disk_reach) l21 c21 k21,
    b_Disk_reach := (fun_mk (st := s_Disk_reach) l21 c21 k21).binds (ps := ["self", "block"]) (fun _ _ _ _ _ _ us hl => match us, hl with | [_, _], _ => rfl),
    a_Disk_reached := f22,
    d_Disk_reached := _,
    F_Disk_reached := fun_mk (st := s_Disk_reached) l22 c22 k22,
    b_Disk_reached := (fun_mk (st := s_Disk_reached) l22 c22 k22).binds (ps := ["self"]) (fun _ _ _ _ _ _ us hl => match us, hl with | [_], _ => rfl),
    a_Disk_cut := f23,
    d_Disk_cut := _,
    F_Disk_cut := fun_mk (st := s_Disk_cut) l23 c23 k23,
    b_Disk_cut := (fun_mk (st := s_Disk_cut) l23 c23 k23).binds (ps := ["self"]) (fun _ _ _ _ _ _ us hl => match us, hl with | [_], _ => rfl),
    a_law := fa,
    d_law := _,
    F_law := fun_mk (st := s_law) l24 c24 k24,
    b_law := (fun_mk (st := s_law) l24 c24 k24).binds (ps := ["script"]) (fun _ _ _ _ _ _ us hl => match us, hl with | [_], _ => rfl),
    g_law := PySem.W.mg_of X G a24,
    bl := fun s u => .of_eq rfl,
    cl_Disk := ⟨pg_Disk, hd_Disk, po_Disk, sa_Disk⟩,
    M_Disk := ⟨mk_Disk, a7, i7, kc_Disk⟩,
    gC_Disk := PySem.W.mg_of X G aC_Disk,
    me_Disk_blocks := ⟨a8, i8, k8⟩,
    me_Disk_demand_block := ⟨a9, i9, k9⟩,
    me_Disk_write := ⟨a14, i14, k14⟩,
    me_Disk_lying := ⟨a16, i16, k16⟩,
    me_Disk_waiting := ⟨a17, i17, k17⟩,
    me_Disk_read := ⟨a18, i18, k18⟩,
    me_Disk_let_reach := ⟨a20, i20, k20⟩,
    me_Disk_reach := ⟨a21, i21, k21⟩,
    me_Disk_reached := ⟨a22, i22, k22⟩,
    me_Disk_cut := ⟨a23, i23, k23⟩,
    nf_arrived_Disk := nf_arrived_Disk,
    nf_cached_Disk := nf_cached_Disk,
    nf_contents_Disk := nf_contents_Disk,
    nf_left_Disk := nf_left_Disk,
    t_FEWEST_BLOCKS := t_FEWEST_BLOCKS,
    c_FEWEST_BLOCKS := PySem.W.mg_of X G co_FEWEST_BLOCKS,
    t_GREATEST_ITEM := t_GREATEST_ITEM,
    c_GREATEST_ITEM := PySem.W.mg_of X G co_GREATEST_ITEM,
    t_LONGEST_CONTENT := t_LONGEST_CONTENT,
    c_LONGEST_CONTENT := PySem.W.mg_of X G co_LONGEST_CONTENT,
    t_LONGEST_WORD := t_LONGEST_WORD,
    c_LONGEST_WORD := PySem.W.mg_of X G co_LONGEST_WORD,
    t_MOST_BLOCKS := t_MOST_BLOCKS,
    c_MOST_BLOCKS := PySem.W.mg_of X G co_MOST_BLOCKS,
    z_abs := PySem.W.mg_none_of X G zb_abs,
    z_all := PySem.W.mg_none_of X G zb_all,
    z_bool := PySem.W.mg_none_of X G zb_bool,
    z_dict := PySem.W.mg_none_of X G zb_dict,
    z_enumerate := PySem.W.mg_none_of X G zb_enumerate,
    z_int := PySem.W.mg_none_of X G zb_int,
    z_isinstance := PySem.W.mg_none_of X G zb_isinstance,
    z_len := PySem.W.mg_none_of X G zb_len,
    z_list := PySem.W.mg_none_of X G zb_list,
    z_range := PySem.W.mg_none_of X G zb_range,
    z_sorted := PySem.W.mg_none_of X G zb_sorted,
    z_str := PySem.W.mg_none_of X G zb_str,
    z_tuple := PySem.W.mg_none_of X G zb_tuple }, rfl⟩
/-- what is asked of the law -/
def spLaw (K : PySem.W.Frag) : Sp := fun vs H Q _ => ∃ (a : Addr) (ns : List Int), vs = [.ref a] ∧ SqL K H a (ns.map V.int) ∧ ns.length ≤ 63 ∧ ∀ H', Q (.bl true) H'
end Lw
namespace Lw
open PySem L2 Mi
theorem word1 (st : Sto) : r_is_word [.str ""] st = .ok (.bl true) st := rfl
theorem word2 (st : Sto) : r_is_word [.str "a"] st = .ok (.bl true) st := rfl
theorem word3 (st : Sto) : r_is_word [.str "abcdefghijkl"] st = .ok (.bl true) st := rfl
theorem getset {st : Sto} {i j : Nat} {n : Nd} : (st.set i n)[j]? = if i = j ∧ i < st.length then some n else st[j]? := by
  rw [List.getElem?_set]
  by_cases h : i = j
  · subst h
    by_cases k : i < st.length
    · simp [k]
    · simp [k]
  · simp [h]
theorem is_int_i (i : Int) (st : Sto) : r_is_integer [.int i] st = .ok (.bl true) st := rfl
theorem within_i (a b i : Int) (st : Sto) : r_is_within [.int a, .int b, .int i] st = .ok (.bl (decide (a ≤ i) && decide (i ≤ b))) st := by
  simp only [r_is_within, m_is_within, runOf, outOf, sRet, Rs.to, mBl, mAnd, mB, mCall, mCons, mNil, mVar, Rs.bind, List.map, List.length, List.replicate, List.cons_append, List.nil_append, List.append_nil, List.getElem?_cons_succ, List.getElem?_cons_zero, is_int_i, toB, mChain, wCmpS, if_true]
  by_cases h : a ≤ i
  · simp [h, toB]
  · simp [h, toB]
end Lw
namespace Lw
open PySem L2 Mi
theorem wOk {α : Type} {m : Rs α} : True := trivial
theorem ix_ref {st : Sto} {h : Nat} {xs : List W} {i : Int} (e : st[h]? = some (.lst xs)) : wIx (.ref h) (.int i) st = wNth xs i st := by
  simp [wIx, dkOf, seqL, e]
theorem ix_dk {st : Sto} {h : Nat} {kv : List (Key × W)} {i : Int} {w : W} (e : st[h]? = some (.dk kv)) (k : lkW kvs (.inl i) = some w) : True := trivial
theorem nth_nat {xs : List W} {n : Nat} {w : W} {st : Sto} (e : xs[n]? = some w) : wNth xs (n : Int) st = .ok w st := by
  have h : n < xs.length := (List.getElem?_eq_some_iff.mp e).1
  have q : xs[n] = w := (List.getElem?_eq_some_iff.mp e).2
  simp [wNth, atI, ixN, h, q]
/-- the hand -/
structure IsHand (cells : List Int) (n : Nd) : Prop where
  ex : ∃ (a : Nat) (b c d : Int), n = .lst [.lst (cells.map W.int), .int a, .int b, .int c, .int d] ∧ 0 ≤ b
theorem fint (i : Int) (st : Sto) : fInt [.int i] st = .ok (.int i) st := rfl
theorem add_i (b : Bool) (i j : Int) (st : Sto) : wAdd b (.int i) (.int j) st = .ok (.int (i + j)) st := rfl
theorem sub_i (i j : Int) (st : Sto) : wSub (.int i) (.int j) st = .ok (.int (i - j)) st := rfl
theorem mul_i (b : Bool) (i j : Int) (st : Sto) (h : Mi.small64 j = true) : wMul b (.int i) (.int j) st = .ok (.int (i * j)) st := by simp [wMul, h]
theorem mul_j (b : Bool) (i j : Int) (st : Sto) (h : Mi.small64 i = true) : wMul b (.int i) (.int j) st = .ok (.int (i * j)) st := by simp [wMul, h]
theorem mod_i (i j : Int) (st : Sto) (h : j ≠ 0) : wMod (.int i) (.int j) st = .ok (.int (i.fmod j)) st := by simp [wMod, h]
theorem div_i (i j : Int) (st : Sto) (h : j ≠ 0) (h2 : j.natAbs < 1073741824) : wDiv (.int i) (.int j) st = .ok (.int (i.fdiv j)) st := by simp [wDiv, h, h2]
theorem eq_i (i j : Int) (st : Sto) : wEq (.int i) (.int j) st = .ok (.bl (decide (i = j))) st := by
  simp [wEq, eqW, scalV, scal]
theorem ne_i (i j : Int) (st : Sto) : wNe (.int i) (.int j) st = .ok (.bl (!decide (i = j))) st := by
  simp [wNe, eqW, scalV, scal]
theorem cmp_i (p : Str → Str → Bool) (q : Int → Int → Bool) (i j : Int) (st : Sto) : wCmpS p q (.int i) (.int j) st = .ok (.bl (q i j)) st := rfl
theorem pow_18 (st : Sto) : wPow (.int 10) (.int 18) st = .ok (.int 1000000000000000000) st := rfl
theorem set_i {st : Sto} {h : Nat} {xs : List W} {n : Nat} {w : W} (e : st[h]? = some (.lst xs)) (k : n < xs.length) : wStore (.ref h) (.int (n : Int)) w st = some (st.set h (.lst (xs.set n w))) := by
  simp [wStore, wSet, e, ixN, k]
theorem get_set {st : Sto} {h : Nat} {n m : Nd} (e : st[h]? = some n) : (st.set h m)[h]? = some m := by
  have k : h < st.length := (List.getElem?_eq_some_iff.mp e).1
  simp [k]
theorem len_l {st : Sto} {xs : List W} : fLen [.lst xs] st = .ok (.int xs.length) st := rfl
def HandN (cs : List Int) (a : Nat) (b c d : Int) : Nd := .lst [.lst (cs.map W.int), .int a, .int b, .int c, .int d]
section
variable {cs : List Int} {a : Nat} {b c d : Int} {st : Sto} {h : Nat}
theorem hd0 (e : st[h]? = some (HandN cs a b c d)) : wIx (.ref h) (.int 0) st = .ok (.lst (cs.map W.int)) st := by rw [ix_ref e]; rfl
theorem hd1 (e : st[h]? = some (HandN cs a b c d)) : wIx (.ref h) (.int 1) st = .ok (.int a) st := by rw [ix_ref e]; rfl
theorem hd2 (e : st[h]? = some (HandN cs a b c d)) : wIx (.ref h) (.int 2) st = .ok (.int b) st := by rw [ix_ref e]; rfl
theorem hd3 (e : st[h]? = some (HandN cs a b c d)) : wIx (.ref h) (.int 3) st = .ok (.int c) st := by rw [ix_ref e]; rfl
theorem hd4 (e : st[h]? = some (HandN cs a b c d)) : wIx (.ref h) (.int 4) st = .ok (.int d) st := by rw [ix_ref e]; rfl
theorem hs1 (x : Int) (e : st[h]? = some (HandN cs a b c d)) : wStore (.ref h) (.int 1) (.int ((a : Int) + 1)) st = some (st.set h (HandN cs (a + 1) b c d)) := by
  have := set_i (n := 1) (w := .int ((a : Int) + 1)) e (by simp)
  simpa [HandN] using this
theorem hs2 (x : Int) (e : st[h]? = some (HandN cs a b c d)) : wStore (.ref h) (.int 2) (.int x) st = some (st.set h (HandN cs a x c d)) := by
  have := set_i (n := 2) (w := .int x) e (by simp)
  simpa [HandN] using this
theorem hs3 (x : Int) (e : st[h]? = some (HandN cs a b c d)) : wStore (.ref h) (.int 3) (.int x) st = some (st.set h (HandN cs a b x d)) := by
  have := set_i (n := 3) (w := .int x) e (by simp)
  simpa [HandN] using this
theorem hs4 (x : Int) (e : st[h]? = some (HandN cs a b c d)) : wStore (.ref h) (.int 4) (.int x) st = some (st.set h (HandN cs a b c x)) := by
  have := set_i (n := 4) (w := .int x) e (by simp)
  simpa [HandN] using this
end
theorem ix_cell {cs : List Int} {a : Nat} {st : Sto} (h : a < cs.length) : wIx (.lst (cs.map W.int)) (.int a) st = .ok (.int cs[a]) st := by
  simp only [wIx, dkOf, seqL]
  exact nth_nat (by simp [h])
theorem fmod_small {x : Int} (m : Int) (h : 0 < m) (h2 : m < 2 ^ 64) : Mi.small64 (x.fmod m) = true := by
  have h1 : 0 ≤ x.fmod m := Int.fmod_nonneg_of_pos x h
  have h3 : x.fmod m < m := Int.fmod_lt_of_pos x h
  simp only [Mi.small64, decide_eq_true_eq]
  omega
def drawA : MS := sIf (mAnd (mB (mOp (wEq) (mOp wIx (mVar 0) (mC (.int 2))) (mC (.int 0)))) (mB (mOp (wCmpS (fun i j => decide (i.cps.toList < j.cps.toList)) (fun i j => decide (i < j))) (mOp wIx (mVar 0) (mC (.int 1))) (mFn fLen (mCons (mOp wIx (mVar 0) (mC (.int 0))) (mNil)))))) (sSeq (sAsg (mOp wIx (mOp wIx (mVar 0) (mC (.int 0))) (mOp wIx (mVar 0) (mC (.int 1)))) (gName' 2)) (sSeq (sAsg (mOp (wAdd true) (mOp wIx (mVar 0) (mC (.int 1))) (mC (.int 1))) (gSub' (mVar 0) (mC (.int 1)))) (sSeq (sAsg (mOp (wMod) (mFn fInt (mCons (mOp (wAdd true) (mOp (wAdd true) (mOp (wMul true) (mOp wIx (mVar 0) (mC (.int 3))) (mC (.int 69621))) (mVar 2)) (mC (.int 11))) (mNil))) (mC (.int 2147483629))) (gSub' (mVar 0) (mC (.int 3)))) (sIf (mB (mOp (wCmpS (fun i j => !decide (i.cps.toList < j.cps.toList)) (fun i j => decide (j ≤ i))) (mVar 2) (mOp (wPow) (mC (.int 10)) (mC (.int 18))))) (sAsg (mVar 2) (gSub' (mVar 0) (mC (.int 2)))) (sNx))))) (sNx)
def drawB : MS := sSeq (sIf (mB (mOp (wCmpS (fun i j => decide (j.cps.toList < i.cps.toList)) (fun i j => decide (j < i))) (mOp wIx (mVar 0) (mC (.int 2))) (mC (.int 0)))) (sSeq (sAsg (mOp (wMod) (mFn fInt (mCons (mOp wIx (mVar 0) (mC (.int 2))) (mNil))) (mVar 1)) (gName' 3)) (sSeq (sAsg (mOp (wDiv) (mOp wIx (mVar 0) (mC (.int 2))) (mVar 1)) (gSub' (mVar 0) (mC (.int 2)))) (sRet (mVar 3)))) (sNx)) (sSeq (sAsg (mOp (wAdd true) (mOp wIx (mVar 0) (mC (.int 4))) (mC (.int 1))) (gSub' (mVar 0) (mC (.int 4)))) (sSeq (sAsg (mOp (wMod) (mFn fInt (mCons (mOp (wMul true) (mFn fInt (mCons (mOp (wAdd true) (mOp wIx (mVar 0) (mC (.int 3))) (mOp (wMul true) (mC (.int 7919)) (mOp wIx (mVar 0) (mC (.int 4))))) (mNil))) (mC (.int 48271))) (mNil))) (mC (.int 2147483647))) (gName' 4)) (sSeq (sAsg (mOp (wMod) (mFn fInt (mCons (mOp (wMul true) (mVar 4) (mOp (wAdd true) (mOp (wDiv) (mVar 4) (mC (.int 1009))) (mC (.int 69621)))) (mNil))) (mC (.int 2147483647))) (gName' 4)) (sSeq (sAsg (mOp (wMod) (mFn fInt (mCons (mOp (wMul true) (mVar 4) (mOp (wAdd true) (mOp (wDiv) (mVar 4) (mC (.int 2003))) (mC (.int 40692)))) (mNil))) (mC (.int 2147483399))) (gName' 4)) (sRet (mOp (wMod) (mFn fInt (mCons (mOp (wDiv) (mVar 4) (mC (.int 16))) (mNil))) (mVar 1)))))))
theorem draw_split : m_law_draw = sSeq drawA drawB := rfl
/-- a draw -/
theorem drawB_ok {cs : List Int} {a : Nat} {b c d m : Int} {st : Sto} {h : Nat} {z : Option W} (e : st[h]? = some (HandN cs a b c d)) (hb : 0 ≤ b) (hm : 0 < m) (hm2 : m < 1073741824) :
    ∃ (x : Int) (a' : Nat) (b' c' d' : Int), outOf (drawB [some (.ref h), some (.int m), z, none, none] st) = .ok (.int x) (st.set h (HandN cs a' b' c' d')) ∧ 0 ≤ x ∧ x < m ∧ 0 ≤ b' := by
  have hm0 : m ≠ 0 := by omega
  have hm3 : m.natAbs < 1073741824 := by omega
  by_cases hp : 0 < b
  · refine ⟨b.fmod m, a, b.fdiv m, c, d, ?_, Int.fmod_nonneg_of_pos _ hm, Int.fmod_lt_of_pos _ hm, Int.fdiv_nonneg hb (by omega)⟩
    simp only [sSeq, sIf, sAsg, sRet, sExpr, sNx, Rs.to, Rs.bind, mAnd, mOr, mNot, mB, mTr, toB, mOp, mVar, mC, mNeg, mCons, mNil, mFn, mBl, mTup, mCall, mIf, gName', gDo, gSub', List.map, List.length, List.replicate, List.cons_append, List.nil_append, List.append_nil, List.getElem?_cons_succ, List.getElem?_cons_zero, List.set_cons_zero, List.set_cons_succ, if_true, Bool.not_true, Bool.not_false, Bool.true_eq_false, Bool.false_eq_true, if_false, Nat.reduceAdd, Nat.reduceSub, drawB, hd2 e, cmp_i, hp, decide_true, fint, mod_i _ _ _ hm0, div_i _ _ _ hm0 hm3, hs2 _ e, outOf]
  · have e2 := get_set (m := HandN cs a b c (d + 1)) e
    suffices q : ∃ y : Int, outOf (drawB [some (.ref h), some (.int m), z, none, none] st) = Rs.ok (W.int (y.fmod m)) (st.set h (HandN cs a b c (d + 1))) by
      obtain ⟨y, q⟩ := q
      exact ⟨_, a, b, c, d + 1, q, Int.fmod_nonneg_of_pos _ hm, Int.fmod_lt_of_pos _ hm, hb⟩
    apply Exists.intro
    simp only [sSeq, sIf, sAsg, sRet, sExpr, sNx, Rs.to, Rs.bind, mAnd, mOr, mNot, mB, mTr, toB, mOp, mVar, mC, mNeg, mCons, mNil, mFn, mBl, mTup, mCall, mIf, gName', gDo, gSub', List.map, List.length, List.replicate, List.cons_append, List.nil_append, List.append_nil, List.getElem?_cons_succ, List.getElem?_cons_zero, List.set_cons_zero, List.set_cons_succ, if_true, Bool.not_true, Bool.not_false, Bool.true_eq_false, Bool.false_eq_true, if_false, Nat.reduceAdd, Nat.reduceSub, drawB, hd2 e, cmp_i, hp, decide_false, hd4 e, add_i, hs4 _ e, hd3 e2, hd4 e2, mul_j _ 7919 _ _ (by decide), fint, mul_i _ _ 48271 _ (by decide), mod_i _ 2147483647 _ (by decide), div_i _ 1009 _ (by decide) (by decide), mul_j _ _ _ _ (fmod_small 2147483647 (by decide) (by decide)), div_i _ 2003 _ (by decide) (by decide), mod_i _ 2147483399 _ (by decide), div_i _ 16 _ (by decide) (by decide), mod_i _ _ _ hm0, outOf]
    rfl
theorem draw_ok {cs : List Int} (hc : ∀ i ∈ cs, (0 : Int) ≤ i) {a : Nat} {b c d m : Int} {st : Sto} {h : Nat} (e : st[h]? = some (HandN cs a b c d)) (hb : 0 ≤ b) (hm : 0 < m) (hm2 : m < 1073741824) :
    ∃ (x : Int) (a' : Nat) (b' c' d' : Int), r_law_draw [.ref h, .int m] st = .ok (.int x) (st.set h (HandN cs a' b' c' d')) ∧ 0 ≤ x ∧ x < m ∧ 0 ≤ b' := by
  suffices q : ∃ (z : Option W) (a' : Nat) (b' c' d' : Int) (st' : Sto), drawA [some (.ref h), some (.int m), none, none, none] st = .nx [some (.ref h), some (.int m), z, none, none] st' ∧ st'[h]? = some (HandN cs a' b' c' d') ∧ (∀ n, st'.set h n = st.set h n) ∧ 0 ≤ b' by
    obtain ⟨z, a', b', c', d', st', q, e', u, hb'⟩ := q
    obtain ⟨x, a2, b2, c2, d2, r, h1, h2, h3⟩ := drawB_ok (z := z) e' hb' hm hm2
    refine ⟨x, a2, b2, c2, d2, ?_, h1, h2, h3⟩
    rw [← u, ← r]
    show outOf (m_law_draw [some (.ref h), some (.int m), none, none, none] st) = _
    rw [draw_split]
    simp only [sSeq, q]
  by_cases g : b = 0
  · subst g
    by_cases g2 : a < cs.length
    · have g3 : (a : Int) < (cs.length : Int) := by omega
      have e2 := get_set (m := HandN cs (a + 1) 0 c d) e
      have e3 := get_set (m := HandN cs (a + 1) 0 ((c * 69621 + cs[a] + 11).fmod 2147483629) d) e2
      have e4 := get_set (m := HandN cs (a + 1) cs[a] ((c * 69621 + cs[a] + 11).fmod 2147483629) d) e3
      by_cases big : (1000000000000000000 : Int) ≤ cs[a]
      · refine ⟨some (.int cs[a]), a + 1, cs[a], (c * 69621 + cs[a] + 11).fmod 2147483629, d, _, ?_, e4, fun n => by simp, hc _ (by simp)⟩
        simp only [sSeq, sIf, sAsg, sRet, sExpr, sNx, Rs.to, Rs.bind, mAnd, mOr, mNot, mB, mTr, toB, mOp, mVar, mC, mNeg, mCons, mNil, mFn, mBl, mTup, mCall, mIf, gName', gDo, gSub', List.map, List.length, List.replicate, List.cons_append, List.nil_append, List.append_nil, List.getElem?_cons_succ, List.getElem?_cons_zero, List.set_cons_zero, List.set_cons_succ, if_true, Bool.not_true, Bool.not_false, Bool.true_eq_false, Bool.false_eq_true, if_false, Nat.reduceAdd, Nat.reduceSub, drawA, hd0 e, hd1 e, hd2 e, hd3 e2, eq_i, decide_true, decide_false, len_l, List.length_map, cmp_i, g3, ix_cell g2, add_i, hs1 0 e, hs3 _ e2, mul_i _ _ 69621 _ (by decide), fint, mod_i _ 2147483629 _ (by decide), pow_18, big, hs2 _ e3]
      · refine ⟨some (.int cs[a]), a + 1, 0, (c * 69621 + cs[a] + 11).fmod 2147483629, d, _, ?_, e3, fun n => by simp, hb⟩
        simp only [sSeq, sIf, sAsg, sRet, sExpr, sNx, Rs.to, Rs.bind, mAnd, mOr, mNot, mB, mTr, toB, mOp, mVar, mC, mNeg, mCons, mNil, mFn, mBl, mTup, mCall, mIf, gName', gDo, gSub', List.map, List.length, List.replicate, List.cons_append, List.nil_append, List.append_nil, List.getElem?_cons_succ, List.getElem?_cons_zero, List.set_cons_zero, List.set_cons_succ, if_true, Bool.not_true, Bool.not_false, Bool.true_eq_false, Bool.false_eq_true, if_false, Nat.reduceAdd, Nat.reduceSub, drawA, hd0 e, hd1 e, hd2 e, hd3 e2, eq_i, decide_true, decide_false, len_l, List.length_map, cmp_i, g3, ix_cell g2, add_i, hs1 0 e, hs3 _ e2, mul_i _ _ 69621 _ (by decide), fint, mod_i _ 2147483629 _ (by decide), pow_18, big, hs2 _ e3]
    · refine ⟨none, a, 0, c, d, st, ?_, e, fun n => rfl, hb⟩
      have g3 : ¬ (a : Int) < (cs.length : Int) := by omega
      simp only [sSeq, sIf, sAsg, sRet, sExpr, sNx, Rs.to, Rs.bind, mAnd, mOr, mNot, mB, mTr, toB, mOp, mVar, mC, mNeg, mCons, mNil, mFn, mBl, mTup, mCall, mIf, gName', gDo, gSub', List.map, List.length, List.replicate, List.cons_append, List.nil_append, List.append_nil, List.getElem?_cons_succ, List.getElem?_cons_zero, List.set_cons_zero, List.set_cons_succ, if_true, Bool.not_true, Bool.not_false, Bool.true_eq_false, Bool.false_eq_true, if_false, Nat.reduceAdd, Nat.reduceSub, drawA, hd0 e, hd1 e, hd2 e, eq_i, decide_true, decide_false, len_l, List.length_map, cmp_i, g3]
  · refine ⟨none, a, b, c, d, st, ?_, e, fun n => rfl, hb⟩
    simp only [sSeq, sIf, sAsg, sRet, sExpr, sNx, Rs.to, Rs.bind, mAnd, mOr, mNot, mB, mTr, toB, mOp, mVar, mC, mNeg, mCons, mNil, mFn, mBl, mTup, mCall, mIf, gName', gDo, gSub', List.map, List.length, List.replicate, List.cons_append, List.nil_append, List.append_nil, List.getElem?_cons_succ, List.getElem?_cons_zero, List.set_cons_zero, List.set_cons_succ, if_true, Bool.not_true, Bool.not_false, Bool.true_eq_false, Bool.false_eq_true, if_false, Nat.reduceAdd, Nat.reduceSub, drawA, hd0 e, hd1 e, hd2 e, eq_i, g, decide_true, decide_false]
end Lw
namespace Lw
open PySem L2 Mi
/-! loops in general -/
theorem fix_at {xs : List W} {i : Nat} {w : W} {st : Sto} (e : xs[i]? = some w) : (fixS xs).at_ i st = some (some w) := by show some xs[i]? = _; rw [e]
theorem fix_end {xs : List W} {st : Sto} : (fixS xs).at_ xs.length st = some none := by show some xs[xs.length]? = _; rw [List.getElem?_eq_none (Nat.le_refl _)]
theorem comp_gen {s : Src} {t : CT} {cond : M Bool} {elt : M W} {env : Ev} (n : Nat) (inv : Nat → List W → Sto → Prop) {m i : Nat} {acc : List W} {st : Sto} (hm : n < i + m) (hi : i ≤ n)
    (step : ∀ i acc st, i < n → inv i acc st → ∃ w env1 v st2, s.at_ i st = some (some w) ∧ t.put w env = some env1 ∧ cond env1 st = .ok true st ∧ elt env1 st = .ok v st2 ∧ acc.length < sizeLine ∧ inv (i + 1) (acc ++ [v]) st2)
    (stop : ∀ acc st, inv n acc st → s.at_ n st = some none) (h : inv i acc st) : ∃ ws st', compS s t cond elt env m i acc st = .ok ws st' ∧ inv n ws st' := by
  induction m generalizing i acc st with
  | zero => omega
  | succ m ih =>
    by_cases e : i = n
    · subst e
      exact ⟨acc, st, by simp only [compS, stop _ _ h], h⟩
    · obtain ⟨w, env1, v, st2, h1, h2, h3, h4, h5, h6⟩ := step i acc st (by omega) h
      obtain ⟨ws, st', q, k⟩ := ih (by omega) (by omega) h6
      exact ⟨ws, st', by simp only [compS, h1, h2, h3, h4, h5, if_true]; exact q, k⟩
theorem comp_fix {xs : List W} {t : CT} {cond : M Bool} {elt : M W} {env : Ev} (inv : Nat → List W → Sto → Prop) {st : Sto}
    (step : ∀ i (hi : i < xs.length) acc st, inv i acc st → ∃ env1 v st2, t.put xs[i] env = some env1 ∧ cond env1 st = .ok true st ∧ elt env1 st = .ok v st2 ∧ acc.length < sizeLine ∧ inv (i + 1) (acc ++ [v]) st2)
    (h : inv 0 [] st) : ∃ ws st', compS (fixS xs) t cond elt env (fixS xs).fuel 0 [] st = .ok ws st' ∧ inv xs.length ws st' := by
  refine comp_gen xs.length inv (by simp [fixS]) (Nat.zero_le _) (fun i acc st hi q => ?_) (fun acc st _ => fix_end) h
  obtain ⟨env1, v, st2, h1, h2, h3, h4, h5⟩ := step i hi acc st q
  exact ⟨xs[i], env1, v, st2, fix_at (by simp [hi]), h1, h2, h3, h4, h5⟩
theorem for_gen {s : Src} {g : MG} {body : MS} (n : Nat) (inv : Nat → Ev → Sto → Prop) {m i : Nat} {env : Ev} {st : Sto} (hm : n < i + m) (hi : i ≤ n)
    (step : ∀ i env st, i < n → inv i env st → ∃ w env1 st1 env2 st2, s.at_ i st = some (some w) ∧ g w env st = some (env1, st1) ∧ body env1 st1 = .nx env2 st2 ∧ inv (i + 1) env2 st2)
    (stop : ∀ env st, inv n env st → s.at_ n st = some none) (h : inv i env st) : ∃ env' st', forS s g body m i env st = .nx env' st' ∧ inv n env' st' := by
  induction m generalizing i env st with
  | zero => omega
  | succ m ih =>
    by_cases e : i = n
    · subst e
      exact ⟨env, st, by simp only [forS, stop _ _ h], h⟩
    · obtain ⟨w, env1, st1, env2, st2, h1, h2, h3, h4⟩ := step i env st (by omega) h
      obtain ⟨ws, st', q, k⟩ := ih (by omega) (by omega) h4
      exact ⟨ws, st', by simp only [forS, h1, h2, h3]; exact q, k⟩
theorem for_fix {xs : List W} {g : MG} {body : MS} (inv : Nat → Ev → Sto → Prop) {env : Ev} {st : Sto}
    (step : ∀ i (hi : i < xs.length) env st, inv i env st → ∃ env1 st1 env2 st2, g xs[i] env st = some (env1, st1) ∧ body env1 st1 = .nx env2 st2 ∧ inv (i + 1) env2 st2)
    (h : inv 0 env st) : ∃ env' st', forS (fixS xs) g body (fixS xs).fuel 0 env st = .nx env' st' ∧ inv xs.length env' st' := by
  refine for_gen xs.length inv (by simp [fixS]) (Nat.zero_le _) (fun i env st hi q => ?_) (fun acc st _ => fix_end) h
  obtain ⟨env1, st1, env2, st2, h1, h2, h3⟩ := step i hi env st q
  exact ⟨xs[i], env1, st1, env2, st2, fix_at (by simp [hi]), h1, h2, h3⟩
theorem while_gen {c : M Bool} {body : MS} (inv : Nat → Ev → Sto → Prop) {m n : Nat} {env : Ev} {st : Sto} (hm : n < m)
    (step : ∀ i env st, inv (i + 1) env st → ∃ env2 st2, c env st = .ok true st ∧ body env st = .nx env2 st2 ∧ inv i env2 st2)
    (stop : ∀ env st, inv 0 env st → c env st = .ok false st) (h : inv n env st) : ∃ env' st', whileS c body m env st = .nx env' st' ∧ inv 0 env' st' := by
  induction m generalizing n env st with
  | zero => omega
  | succ m ih =>
    cases n with
    | zero => exact ⟨env, st, by simp [whileS, stop _ _ h, Rs.to], h⟩
    | succ n =>
      obtain ⟨env2, st2, h1, h2, h3⟩ := step n env st h
      obtain ⟨env', st', q, k⟩ := ih (by omega) h3
      exact ⟨env', st', by simp only [whileS, h1, Rs.to, if_true, h2]; exact q, k⟩

/-! the hand -/
def Hd (st : Sto) (h : Nat) : Prop := ∃ (cs : List Int) (a : Nat) (b c d : Int), (∀ i ∈ cs, (0 : Int) ≤ i) ∧ st[h]? = some (HandN cs a b c d) ∧ 0 ≤ b
theorem draw1 {st : Sto} {h : Nat} (H : Hd st h) {m : Int} (hm : 0 < m) (hm2 : m < 1073741824) : ∃ (x : Int) (n : Nd), r_law_draw [.ref h, .int m] st = .ok (.int x) (st.set h n) ∧ 0 ≤ x ∧ x < m ∧ Hd (st.set h n) h := by
  obtain ⟨cs, a, b, c, d, hc, e, hb⟩ := H
  obtain ⟨x, a', b', c', d', q, h1, h2, h3⟩ := draw_ok hc e hb hm hm2
  exact ⟨x, _, q, h1, h2, cs, a', b', c', d', hc, get_set e, h3⟩
theorem any1 {st : Sto} {h : Nat} (H : Hd st h) {xs : List W} (hn : xs ≠ []) (hl : xs.length < 1073741824) : ∃ (w : W) (n : Nd), r_law_any [.ref h, .lst xs] st = .ok w (st.set h n) ∧ w ∈ xs ∧ Hd (st.set h n) h := by
  have hp : 0 < xs.length := List.length_pos_iff.mpr hn
  obtain ⟨x, n, q, h1, h2, h3⟩ := draw1 H (m := xs.length) (by omega) (by omega)
  obtain ⟨k, rfl⟩ : ∃ k : Nat, x = k := ⟨x.toNat, by omega⟩
  have hk : k < xs.length := by omega
  refine ⟨xs[k], n, ?_, List.getElem_mem hk, h3⟩
  simp only [sSeq, sIf, sAsg, sRet, sExpr, sNx, Rs.to, Rs.bind, mAnd, mOr, mNot, mB, mTr, toB, mOp, mVar, mC, mNeg, mCons, mNil, mFn, mBl, mTup, mCall, mIf, gName', gDo, gSub', List.map, List.length, List.replicate, List.cons_append, List.nil_append, List.append_nil, List.getElem?_cons_succ, List.getElem?_cons_zero, List.set_cons_zero, List.set_cons_succ, if_true, Bool.not_true, Bool.not_false, Bool.true_eq_false, Bool.false_eq_true, if_false, Nat.reduceAdd, Nat.reduceSub, r_law_any, m_law_any, runOf, outOf, len_l, q]
  simp only [wIx, dkOf, seqL]
  rw [nth_nat (w := xs[k]) (by simp [hk])]
theorem len_lk {ns : List Int} : True := trivial
/-- the hand is made -/
theorem hand1 (ns : List Int) (hl : ns.length ≤ 63) : ∃ n, r_law_hand [.scr (ns.map W.int)] [] = .ok (.ref 0) [n] ∧ Hd [n] 0 := by
  obtain ⟨ws, st', q, k⟩ := comp_fix (xs := (ns.take 63).map W.int) (t := .one 2) (cond := mYes) (elt := mFn fAbs (mCons (mFn fInt (mCons (mVar 2) (mNil))) (mNil))) (env := [some (.scr (ns.map W.int)), none, none]) (st := [])
    (fun i acc st => st = [] ∧ acc.length = i ∧ ∃ cs : List Int, acc = cs.map W.int ∧ ∀ i ∈ cs, (0 : Int) ≤ i) (fun i hi acc st z => by
      obtain ⟨z1, z2, cs, z3, z4⟩ := z
      subst z1
      have hx : ((ns.take 63).map W.int)[i] = W.int ((ns.take 63)[i]'(by simpa using hi)) := by simp
      rw [hx]
      generalize (ns.take 63)[i]'(by simpa using hi) = y
      have hi' : i < 63 := by
        simp at hi
        omega
      refine ⟨_, .int (if y < 0 then -y else y), [], rfl, rfl, rfl, by rw [z2]; simp only [sizeLine]; omega, rfl, by simp [z2], cs ++ [if y < 0 then -y else y], by simp [z3], fun j hj => ?_⟩
      simp only [List.mem_append, List.mem_singleton] at hj
      rcases hj with hj | hj
      · exact z4 j hj
      · subst hj
        split <;> omega) ⟨rfl, rfl, [], rfl, by simp⟩
  obtain ⟨k1, k2, cs, k3, k4⟩ := k
  subst k1
  refine ⟨HandN cs 0 0 (1 + cs.length) 0, ?_, cs, 0, 0, _, 0, k4, rfl, by omega⟩
  have hs : wSl true (.scr (ns.map W.int)) none (some 63) [] = .ok (.lst ((ns.take 63).map W.int)) [] := by
    simp only [wSl, seqL, newL, cutW, if_true]
    have e1 : HT.sIx (ns.map W.int).length 0 none = 0 := rfl
    have e2 : HT.sIx (ns.map W.int).length (ns.map W.int).length (some 63) = min 63 ns.length := by
      rw [show (63 : Int) = ((63 : Nat) : Int) by rfl, HT.sIx_nat]
      simp
    rw [e1, e2]
    simp
  have hw : wipeW [some (W.scr (ns.map W.int)), none, none] [2] = [some (.scr (ns.map W.int)), none, none] := rfl
  simp only [sSeq, sIf, sAsg, sRet, sExpr, sNx, Rs.to, Rs.bind, mAnd, mOr, mNot, mB, mTr, toB, mOp, mVar, mC, mNeg, mCons, mNil, mFn, mBl, mTup, mCall, mIf, gName', gDo, gSub', List.map, List.length, List.replicate, List.cons_append, List.nil_append, List.append_nil, List.getElem?_cons_succ, List.getElem?_cons_zero, List.set_cons_zero, List.set_cons_succ, if_true, Bool.not_true, Bool.not_false, Bool.true_eq_false, Bool.false_eq_true, if_false, Nat.reduceAdd, Nat.reduceSub, r_law_hand, m_law_hand, runOf, outOf, mComp, iL, mSl, mNoPart, mPart, hs, hw, q, k3, newL, mLst, add_i, len_l, List.length_map]
  rfl
end Lw
namespace Lw
open PySem L2 Mi
def Item (w : W) : Prop := (∃ i : Int, w = .int i ∧ -1000000000000000000000000000000 ≤ i ∧ i ≤ 1000000000000000000000000000000) ∨ w = .str "" ∨ w = .str "a" ∨ w = .str "abcdefghijkl"
def Cont (w : W) : Prop := ∃ xs, w = .tup xs ∧ xs.length ≤ 40 ∧ ∀ x ∈ xs, Item x
theorem pow_30 (st : Sto) : wPow (.int 10) (.int 30) st = .ok (.int 1000000000000000000000000000000) st := rfl
theorem hd_same {st : Sto} {h : Nat} {n : Nd} (k : Hd (st.set h n) h) (m : Nd) : (st.set h m).set h n = st.set h n := List.set_set ..
/-- a content is drawn -/
theorem content1 {st : Sto} {h : Nat} (H : Hd st h) : ∃ (w : W) (n : Nd), r_law_content [.ref h] st = .ok w (st.set h n) ∧ Cont w ∧ Hd (st.set h n) h := by
  obtain ⟨x, n1, q1, p1, p2, H1⟩ := draw1 H (m := 1000) (by decide) (by decide)
  obtain ⟨w2, n2, q2, p3, H2⟩ := any1 H1 (xs := [.int 0, .int 1, .int 2, .int 3, .int 5, .int 40]) (by simp) (by simp)
  obtain ⟨j, rfl, hj⟩ : ∃ j : Nat, w2 = .int (j : Int) ∧ j ≤ 40 := by
    simp only [List.mem_cons, List.not_mem_nil, or_false] at p3
    rcases p3 with rfl | rfl | rfl | rfl | rfl | rfl
    · exact ⟨0, rfl, by decide⟩
    · exact ⟨1, rfl, by decide⟩
    · exact ⟨2, rfl, by decide⟩
    · exact ⟨3, rfl, by decide⟩
    · exact ⟨5, rfl, by decide⟩
    · exact ⟨40, rfl, by decide⟩
  have hsome : ∀ w ∈ [W.int 0, .int 1, .int (-7), .int 1000000000000000000000000000000, .int (-1000000000000000000000000000000), .str "", .str "a", .str "abcdefghijkl", .int x], Item w := by
    intro w hw
    simp only [List.mem_cons, List.not_mem_nil, or_false] at hw
    rcases hw with rfl | rfl | rfl | rfl | rfl | rfl | rfl | rfl | rfl
    · exact .inl ⟨_, rfl, by omega, by omega⟩
    · exact .inl ⟨_, rfl, by omega, by omega⟩
    · exact .inl ⟨_, rfl, by omega, by omega⟩
    · exact .inl ⟨_, rfl, by omega, by omega⟩
    · exact .inl ⟨_, rfl, by omega, by omega⟩
    · exact .inr (.inl rfl)
    · exact .inr (.inr (.inl rfl))
    · exact .inr (.inr (.inr rfl))
    · exact .inl ⟨_, rfl, by omega, by omega⟩
  generalize hsm : [W.int 0, .int 1, .int (-7), .int 1000000000000000000000000000000, .int (-1000000000000000000000000000000), .str "", .str "a", .str "abcdefghijkl", .int x] = some1 at hsome
  have hne : some1 ≠ [] := by rw [← hsm]; simp
  have hle : some1.length < 1073741824 := by rw [← hsm]; simp
  simp only [List.set_set] at q2 H2
  obtain ⟨ws, st', q, k1, k2, n3, k3, H3⟩ := comp_fix (xs := rngW 0 j) (t := .one 3) (cond := mYes) (elt := mCall r_law_any (mCons (mVar 0) (mCons (mVar 1) (mNil)))) (env := [some (.ref h), some (.lst some1), some (.int j), none]) (st := st.set h n2)
    (fun i acc s => acc.length = i ∧ (∀ w ∈ acc, Item w) ∧ ∃ n, s = st.set h n ∧ Hd s h) (fun i hi acc s z => by
      obtain ⟨z1, z2, n, rfl, z4⟩ := z
      obtain ⟨w, n', qq, pp, HH⟩ := any1 z4 hne hle
      simp only [List.set_set] at qq HH
      simp only [rngW, List.length_map, List.length_range] at hi
      refine ⟨_, w, _, rfl, rfl, ?_, by rw [z1]; simp only [sizeLine]; omega, by simp [z1], fun v hv => ?_, n', rfl, HH⟩
      · simp only [sSeq, sIf, sAsg, sRet, sExpr, sNx, Rs.to, Rs.bind, mAnd, mOr, mNot, mB, mTr, toB, mOp, mVar, mC, mNeg, mCons, mNil, mFn, mBl, mTup, mCall, mIf, gName', gDo, gSub', List.map, List.length, List.replicate, List.cons_append, List.nil_append, List.append_nil, List.getElem?_cons_succ, List.getElem?_cons_zero, List.set_cons_zero, List.set_cons_succ, if_true, Bool.not_true, Bool.not_false, Bool.true_eq_false, Bool.false_eq_true, if_false, Nat.reduceAdd, Nat.reduceSub, qq]
      · simp only [List.mem_append, List.mem_singleton] at hv
        rcases hv with hv | hv
        · exact z2 v hv
        · subst hv
          exact hsome _ pp) ⟨rfl, by simp, n2, rfl, H2⟩
  subst k3
  have hsl : Mi.small62 (j : Int) = true := by
    simp only [Mi.small62, decide_eq_true_eq]
    omega
  refine ⟨.tup ws, n3, ?_, ⟨ws, rfl, by rw [k1]; simp [rngW]; omega, k2⟩, H3⟩
  have hw : wipeW [some (W.ref h), some (.lst some1), some (.int j), none] [3] = [some (.ref h), some (.lst some1), some (.int j), none] := rfl
  have e0 : ∀ s, fTuple [.lst ws] s = .ok (.tup ws) s := fun s => rfl
  simp only [sSeq, sIf, sAsg, sRet, sExpr, sNx, Rs.to, Rs.bind, mAnd, mOr, mNot, mB, mTr, toB, mOp, mVar, mC, mNeg, mCons, mNil, mFn, mBl, mTup, mCall, mIf, gName', gDo, gSub', List.map, List.length, List.replicate, List.cons_append, List.nil_append, List.append_nil, List.getElem?_cons_succ, List.getElem?_cons_zero, List.set_cons_zero, List.set_cons_succ, if_true, Bool.not_true, Bool.not_false, Bool.true_eq_false, Bool.false_eq_true, if_false, Nat.reduceAdd, Nat.reduceSub, r_law_content, m_law_content, runOf, outOf, mComp, iR1, mLst, newL, pow_30, q1, hsm, q2, hsl, Int.toNat_natCast, hw, q, e0]
/-- two new lists behind the store -/
def SAB (st : Sto) (h : Nat) (n : Nd) (A B : List W) : Sto := st.set h n ++ [.lst A, .lst B]
section
variable {st : Sto} {h : Nat} {n : Nd} {A B : List W}
theorem sab_len : (SAB st h n A B).length = st.length + 2 := by simp [SAB]
theorem sab0 : (SAB st h n A B)[st.length]? = some (.lst A) := by simp [SAB]
theorem sab1 : (SAB st h n A B)[st.length + 1]? = some (.lst B) := by simp [SAB]
theorem sab_seta {C : List W} : (SAB st h n A B).set st.length (.lst C) = SAB st h n C B := by simp [SAB, List.set_append]
theorem sab_setb {C : List W} : (SAB st h n A B).set (st.length + 1) (.lst C) = SAB st h n A C := by simp [SAB, List.set_append]
theorem sab_seth {m : Nd} (hh : h < st.length) : (SAB st h n A B).set h m = SAB st h m A B := by
  simp [SAB, List.set_append, hh]
theorem sab_hd (hh : h < st.length) : Hd (SAB st h n A B) h ↔ Hd (st.set h n) h := by
  have e : (SAB st h n A B)[h]? = (st.set h n)[h]? := by
    simp only [SAB]
    rw [List.getElem?_append_left (by simpa using hh)]
  simp only [Hd, e]
end
theorem len_ref {st : Sto} {i : Nat} {xs : List W} (e : st[i]? = some (.lst xs)) : fLen [.ref i] st = .ok (.int xs.length) st := by simp [fLen, seqL, e]
theorem seq_ref {st : Sto} {i : Nat} {xs : List W} (e : st[i]? = some (.lst xs)) : seqL st (.ref i) = some xs := by simp [seqL, e]
theorem app_ref {st : Sto} {i : Nat} {xs : List W} {w : W} (e : st[i]? = some (.lst xs)) (k : xs.length < sizeLine) : fAppend (.ref i) [w] st = .ok .non (st.set i (.lst (xs ++ [w]))) := by simp [fAppend, nodL, e, k]
theorem popat_ref {st : Sto} {i : Nat} {xs : List W} {j : Int} (e : st[i]? = some (.lst xs)) (h0 : 0 ≤ j) (h1 : j < xs.length) (h2 : xs.length < 1000) : ∃ w, xs[j.toNat]? = some w ∧ fPopAt (.ref i) [.int j] st = .ok w (st.set i (.lst (xs.eraseIdx j.toNat))) := by
  have hj : j.toNat < xs.length := by omega
  refine ⟨xs[j.toNat], by simp [hj], ?_⟩
  have s1 : seqIndex? j xs.length = some j.toNat := by
    have g : ¬ j < 0 := by omega
    simp [seqIndex?, g, h0, h1]
  have s2 : j.natAbs < 2 ^ 63 := by omega
  have s3 : xs[j.toNat]? = some xs[j.toNat] := by simp [hj]
  simp only [fPopAt, nodL, e, if_pos s2, s1, s3]
theorem perm_erase {α : Type} : ∀ {l : List α} {i : Nat} (h : i < l.length), (l[i] :: l.eraseIdx i).Perm l
  | x :: l, 0, h => by simp
  | x :: l, i + 1, h => by
    have h' : i < l.length := by simpa using h
    simp only [List.getElem_cons_succ, List.eraseIdx_cons_succ]
    exact (List.Perm.swap _ _ _).trans ((perm_erase h').cons x)
/-- things in another order -/
theorem mixed1 {st : Sto} {h : Nat} (H : Hd st h) {xs : List W} (hl : xs.length ≤ 64) : ∃ (n : Nd) (ys : List W), r_law_mixed [.ref h, .lst xs] st = .ok (.ref (st.length + 1)) (SAB st h n [] ys) ∧ ys.Perm xs ∧ Hd (SAB st h n [] ys) h := by
  have hh : h < st.length := by
    obtain ⟨_, _, _, _, _, _, e, _⟩ := H
    exact (List.getElem?_eq_some_iff.mp e).1
  obtain ⟨n0, hn0⟩ : ∃ n0, st[h]? = some n0 := ⟨_, List.getElem?_eq_getElem hh⟩
  have e0 : st.set h n0 = st := by
    apply List.ext_getElem?
    intro i
    rw [List.getElem?_set]
    split
    · rename_i z
      subst z
      rw [hn0]
    · rfl
  have H0 : Hd (SAB st h n0 xs []) h := by rw [sab_hd hh, e0]; exact H
  obtain ⟨env', st', q, ⟨rfl, n, A, B, rfl, k1, k2, k3⟩⟩ := while_gen (c := mB (mOp (wCmpS (fun i j => decide (j.cps.toList < i.cps.toList)) (fun i j => decide (j < i))) (mFn fLen (mCons (mVar 2) (mNil))) (mC (.int 0))))
    (body := sExpr (mLm fAppend (mVar 3) (mCons (mLm fPopAt (mVar 2) (mCons (mCall r_law_draw (mCons (mVar 0) (mCons (mFn fLen (mCons (mVar 2) (mNil))) (mNil)))) (mNil))) (mNil))))
    (m := 1000000) (n := xs.length) (env := [some (.ref h), some (.lst xs), some (.ref st.length), some (.ref (st.length + 1))]) (st := SAB st h n0 xs [])
    (fun k env s => env = [some (.ref h), some (.lst xs), some (.ref st.length), some (.ref (st.length + 1))] ∧ ∃ n A B, s = SAB st h n A B ∧ A.length = k ∧ (A ++ B).Perm xs ∧ Hd s h) (by omega)
    (fun k env s z => by
      obtain ⟨rfl, n, A, B, rfl, z1, z2, z3⟩ := z
      have hab : A.length + B.length = xs.length := by simpa using z2.length_eq
      have c1 : (0 : Int) < (A.length : Int) := by omega
      obtain ⟨x, n2, q1, p1, p2, H2⟩ := draw1 z3 (m := A.length) (by omega) (by omega)
      rw [sab_seth hh] at q1 H2
      obtain ⟨w, pw, qp⟩ := popat_ref (sab0 (st := st) (h := h) (n := n2) (A := A) (B := B)) p1 p2 (by omega)
      rw [sab_seta] at qp
      have qa := app_ref (w := w) (sab1 (st := st) (h := h) (n := n2) (A := A.eraseIdx x.toNat) (B := B)) (by simp only [sizeLine]; omega)
      rw [sab_setb] at qa
      refine ⟨_, _, ?_, ?_, rfl, n2, A.eraseIdx x.toNat, B ++ [w], rfl, ?_, ?_, ?_⟩
      · simp only [sSeq, sIf, sAsg, sRet, sExpr, sNx, Rs.to, Rs.bind, mAnd, mOr, mNot, mB, mTr, toB, mOp, mVar, mC, mNeg, mCons, mNil, mFn, mBl, mTup, mCall, mIf, gName', gDo, gSub', List.map, List.length, List.replicate, List.cons_append, List.nil_append, List.append_nil, List.getElem?_cons_succ, List.getElem?_cons_zero, List.set_cons_zero, List.set_cons_succ, if_true, Bool.not_true, Bool.not_false, Bool.true_eq_false, Bool.false_eq_true, if_false, Nat.reduceAdd, Nat.reduceSub, len_ref sab0, cmp_i, c1, decide_true]
      · simp only [sSeq, sIf, sAsg, sRet, sExpr, sNx, Rs.to, Rs.bind, mAnd, mOr, mNot, mB, mTr, toB, mOp, mVar, mC, mNeg, mCons, mNil, mFn, mBl, mTup, mCall, mIf, gName', gDo, gSub', List.map, List.length, List.replicate, List.cons_append, List.nil_append, List.append_nil, List.getElem?_cons_succ, List.getElem?_cons_zero, List.set_cons_zero, List.set_cons_succ, if_true, Bool.not_true, Bool.not_false, Bool.true_eq_false, Bool.false_eq_true, if_false, Nat.reduceAdd, Nat.reduceSub, mLm, seq_ref sab1, seq_ref sab0, len_ref sab0, Option.isSome_some, q1, qp, qa]
      · rw [List.length_eraseIdx_of_lt (by omega)]
        omega
      · refine List.Perm.trans ?_ z2
        have hx : x.toNat < A.length := by omega
        have e1 : w = A[x.toNat] := by
          rw [List.getElem?_eq_getElem hx] at pw
          exact (Option.some.inj pw).symm
        subst e1
        have e2 : (A[x.toNat] :: A.eraseIdx x.toNat).Perm A := perm_erase hx
        have e3 : (A.eraseIdx x.toNat ++ (B ++ [A[x.toNat]])).Perm ((A[x.toNat] :: A.eraseIdx x.toNat) ++ B) := by
          rw [← List.append_assoc]
          exact (List.perm_append_comm).trans (List.Perm.refl _)
        exact e3.trans (e2.append_right B)
      · rw [sab_hd hh]
        rw [sab_hd hh] at H2
        exact H2)
    (fun env s z => by
      obtain ⟨rfl, n, A, B, rfl, z1, z2, z3⟩ := z
      have c1 : ¬ (0 : Int) < (A.length : Int) := by omega
      simp only [sSeq, sIf, sAsg, sRet, sExpr, sNx, Rs.to, Rs.bind, mAnd, mOr, mNot, mB, mTr, toB, mOp, mVar, mC, mNeg, mCons, mNil, mFn, mBl, mTup, mCall, mIf, gName', gDo, gSub', List.map, List.length, List.replicate, List.cons_append, List.nil_append, List.append_nil, List.getElem?_cons_succ, List.getElem?_cons_zero, List.set_cons_zero, List.set_cons_succ, if_true, Bool.not_true, Bool.not_false, Bool.true_eq_false, Bool.false_eq_true, if_false, Nat.reduceAdd, Nat.reduceSub, len_ref sab0, cmp_i, c1, decide_false])
    ⟨rfl, n0, xs, [], rfl, rfl, by simp, H0⟩
  have hA : A = [] := List.eq_nil_of_length_eq_zero k1
  subst hA
  refine ⟨n, B, ?_, by simpa using k2, k3⟩
  have e1 : st ++ [Nd.lst xs] ++ [Nd.lst []] = SAB st h n0 xs [] := by simp only [SAB, e0]; simp
  have e2 : ∀ s : Sto, fList false [.lst xs] s = .ok (.ref s.length) (s ++ [.lst xs]) := fun s => rfl
  have e3 : (st ++ [Nd.lst xs]).length = st.length + 1 := by simp
  unfold r_law_mixed m_law_mixed
  unfold sWhile
  generalize whileS _ _ _ = wh at q ⊢
  simp only [sSeq, sIf, sAsg, sRet, sExpr, sNx, Rs.to, Rs.bind, mAnd, mOr, mNot, mB, mTr, toB, mOp, mVar, mC, mNeg, mCons, mNil, mFn, mBl, mTup, mCall, mIf, gName', gDo, gSub', List.map, List.length, List.replicate, List.cons_append, List.nil_append, List.append_nil, List.getElem?_cons_succ, List.getElem?_cons_zero, List.set_cons_zero, List.set_cons_succ, if_true, Bool.not_true, Bool.not_false, Bool.true_eq_false, Bool.false_eq_true, if_false, Nat.reduceAdd, Nat.reduceSub, runOf, outOf, sPar, e2, mLst, newL, Bool.false_eq_true, if_false, e3, e1, q]
end Lw
namespace Lw
open PySem L2 Mi
abbrev DiskN (c k : Nat) (n : Int) : Nd := .ins 0 [("contents", .ref c), ("cached", .ref k), ("left", .non), ("arrived", .int n)]
section
variable {a b c d : W}
theorem lk_c : List.lookup ("contents" : Str) [("contents", a), ("cached", b), ("left", c), ("arrived", d)] = some a := rfl
theorem lk_k : List.lookup ("cached" : Str) [("contents", a), ("cached", b), ("left", c), ("arrived", d)] = some b := rfl
theorem lk_l : List.lookup ("left" : Str) [("contents", a), ("cached", b), ("left", c), ("arrived", d)] = some c := rfl
theorem lk_a : List.lookup ("arrived" : Str) [("contents", a), ("cached", b), ("left", c), ("arrived", d)] = some d := rfl
theorem no_1 : List.lookup ("blocks" : Str) [("contents", a), ("cached", b), ("left", c), ("arrived", d)] = none := rfl
theorem no_2 : List.lookup ("write" : Str) [("contents", a), ("cached", b), ("left", c), ("arrived", d)] = none := rfl
theorem no_3 : List.lookup ("read" : Str) [("contents", a), ("cached", b), ("left", c), ("arrived", d)] = none := rfl
theorem no_4 : List.lookup ("reach" : Str) [("contents", a), ("cached", b), ("left", c), ("arrived", d)] = none := rfl
theorem no_5 : List.lookup ("cut" : Str) [("contents", a), ("cached", b), ("left", c), ("arrived", d)] = none := rfl
theorem no_6 : List.lookup ("waiting" : Str) [("contents", a), ("cached", b), ("left", c), ("arrived", d)] = none := rfl
theorem no_7 : List.lookup ("lying" : Str) [("contents", a), ("cached", b), ("left", c), ("arrived", d)] = none := rfl
theorem no_8 : List.lookup ("reached" : Str) [("contents", a), ("cached", b), ("left", c), ("arrived", d)] = none := rfl
theorem no_9 : List.lookup ("demand_block" : Str) [("contents", a), ("cached", b), ("left", c), ("arrived", d)] = none := rfl
theorem no_0 : List.lookup ("let_reach" : Str) [("contents", a), ("cached", b), ("left", c), ("arrived", d)] = none := rfl
end
theorem lk_tb {r : RunM} : List.lookup 0 [(0, r)] = some r := rfl
theorem cont0 : ([0] : List Nat).contains 0 = true := rfl
theorem keyi {i : Int} : Mi.keyOf (.int i) = some (.inl i) := rfl
def valW (row : List W) : Nat → W
  | 0 => .tup []
  | n + 1 => row.getD n (.tup [])
def kvL (L : List (Int × Nat)) : List (Key × W) := L.map fun p => (Sum.inl p.1, W.ref p.2)
theorem lk_mem {L : List (Int × Nat)} (nd : (L.map (·.1)).Nodup) {b : Int} {r : Nat} (h : (b, r) ∈ L) : lkW (kvL L) (.inl b) = some (.ref r) := by
  induction L with
  | nil => simp at h
  | cons p L ih =>
    simp only [List.map_cons, List.nodup_cons] at nd
    rcases List.mem_cons.mp h with h | h
    · subst h
      simp [kvL, lkW]
    · have ne : p.1 ≠ b := by
        rintro rfl
        exact nd.1 (List.mem_map.mpr ⟨_, h, rfl⟩)
      have := ih nd.2 h
      simp only [kvL, lkW, List.map_cons] at this ⊢
      rw [List.find?_cons_of_neg (by simpa using ne)]
      exact this
theorem lk_not {L : List (Int × Nat)} {b : Int} (h : b ∉ L.map (·.1)) : lkW (kvL L) (.inl b) = none := by
  induction L with
  | nil => rfl
  | cons p L ih =>
    simp only [List.map_cons, List.mem_cons, not_or] at h
    have := ih h.2
    simp only [kvL, lkW, List.map_cons] at this ⊢
    rw [List.find?_cons_of_neg (by simpa using fun e => h.1 e.symm)]
    exact this
structure DSt (st : Sto) (own : List Nat) (d B : Nat) (row : Int → List W) (cnt : Int → Nat) (n : Int) (c k : Nat) (C : List W) (L : List (Int × Nat)) : Prop where
  hd : st[d]? = some (DiskN c k n)
  hc : st[c]? = some (.lst C)
  hk : st[k]? = some (.dk (kvL L))
  dc : d ≠ c
  dk : d ≠ k
  ck : c ≠ k
  od : d ∈ own
  oc : c ∈ own
  ok : k ∈ own
  lenC : C.length = B
  valC : ∀ b : Nat, b < B → C[b]? = some (valW (row b) (cnt b))
  cle : ∀ b, cnt b ≤ (row b).length
  nk : (L.map (·.1)).Nodup
  nr : (L.map (·.2)).Nodup
  ent : ∀ p ∈ L, 0 ≤ p.1 ∧ p.1 < B ∧ p.2 ∈ own ∧ p.2 ≠ d ∧ p.2 ≠ c ∧ p.2 ≠ k ∧ st[p.2]? = some (.lst ((row p.1).drop (cnt p.1))) ∧ (row p.1).drop (cnt p.1) ≠ []
  all : ∀ b, (row b).drop (cnt b) ≠ [] → ∃ r, (b, r) ∈ L
  hB : B ≤ 18
  hr : ∀ b, (row b).length ≤ 64
theorem DSt.frame {st st' : Sto} {own : List Nat} {d B : Nat} {row : Int → List W} {cnt : Int → Nat} {n : Int} {c k : Nat} {C : List W} {L : List (Int × Nat)} (D : DSt st own d B row cnt n c k C L) (h : ∀ j ∈ own, st'[j]? = st[j]?) : DSt st' own d B row cnt n c k C L :=
  { D with
    hd := by rw [h _ D.od]; exact D.hd
    hc := by rw [h _ D.oc]; exact D.hc
    hk := by rw [h _ D.ok]; exact D.hk
    ent := fun p hp => by
      obtain ⟨h1, h2, h3, h4, h5, h6, h7, h8⟩ := D.ent p hp
      exact ⟨h1, h2, h3, h4, h5, h6, by rw [h _ h3]; exact h7, h8⟩ }
theorem wEq_nn (st : Sto) (i : Int) : wEq .non (.int i) st = .ok (.bl false) st := by simp [wEq, eqW, scalV, scal]
section
variable {st : Sto} {own : List Nat} {d B : Nat} {row : Int → List W} {cnt : Int → Nat} {n : Int} {c k : Nat} {C : List W} {L : List (Int × Nat)}
theorem blocks1 (D : DSt st own d B row cnt n c k C L) : r_Disk_blocks [.ref d] st = .ok (.int B) st := by
  unfold r_Disk_blocks m_Disk_blocks
  have e := D.hd
  simp only [sSeq, sIf, sAsg, sRet, sExpr, sNx, Rs.to, Rs.bind, mAnd, mOr, mNot, mB, mTr, toB, mOp, mVar, mC, mNeg, mCons, mNil, mFn, mBl, mTup, mCall, mIf, gName', gDo, gSub', List.map, List.length, List.replicate, List.cons_append, List.nil_append, List.append_nil, List.getElem?_cons_succ, List.getElem?_cons_zero, List.set_cons_zero, List.set_cons_succ, if_true, Bool.not_true, Bool.not_false, Bool.true_eq_false, Bool.false_eq_true, if_false, Nat.reduceAdd, Nat.reduceSub, mMeth, mFld, lk_c, lk_k, lk_l, lk_a, no_0, no_1, no_2, no_3, no_4, no_5, no_6, no_7, no_8, no_9, lk_tb, cont0, runOf, outOf, e, len_ref D.hc, D.lenC]
theorem demand1 (D : DSt st own d B row cnt n c k C L) {b : Int} (h0 : 0 ≤ b) (h1 : b < B) : r_Disk_demand_block [.ref d, .int b] st = .ok .non st := by
  have q := blocks1 D
  have w := within_i 0 ((B : Int) - 1) b st
  have z : (decide (0 ≤ b) && decide (b ≤ (B : Int) - 1)) = true := by simp; omega
  rw [z] at w
  have e := D.hd
  unfold r_Disk_demand_block m_Disk_demand_block
  generalize r_Disk_blocks = f1 at q ⊢
  generalize r_is_within = f2 at w ⊢
  simp only [sSeq, sIf, sAsg, sRet, sExpr, sNx, Rs.to, Rs.bind, mAnd, mOr, mNot, mB, mTr, toB, mOp, mVar, mC, mNeg, mCons, mNil, mFn, mBl, mTup, mCall, mIf, gName', gDo, gSub', List.map, List.length, List.replicate, List.cons_append, List.nil_append, List.append_nil, List.getElem?_cons_succ, List.getElem?_cons_zero, List.set_cons_zero, List.set_cons_succ, if_true, Bool.not_true, Bool.not_false, Bool.true_eq_false, Bool.false_eq_true, if_false, Nat.reduceAdd, Nat.reduceSub, mMeth, mFld, lk_c, lk_k, lk_l, lk_a, no_0, no_1, no_2, no_3, no_4, no_5, no_6, no_7, no_8, no_9, lk_tb, cont0, runOf, outOf, e, q, sub_i, w, trW]
theorem lying1 (D : DSt st own d B row cnt n c k C L) {b : Int} (h0 : 0 ≤ b) (h1 : b < B) : r_Disk_lying [.ref d, .int b] st = .ok (valW (row b) (cnt b)) st := by
  have q := demand1 D h0 h1
  have e := D.hd
  obtain ⟨b, rfl⟩ : ∃ k : Nat, b = k := ⟨b.toNat, by omega⟩
  have v := D.valC b (by omega)
  have i : wIx (.ref c) (.int (b : Int)) st = .ok (valW (row b) (cnt b)) st := by rw [ix_ref D.hc, nth_nat v]
  unfold r_Disk_lying m_Disk_lying
  generalize r_Disk_demand_block = f1 at q ⊢
  simp only [sSeq, sIf, sAsg, sRet, sExpr, sNx, Rs.to, Rs.bind, mAnd, mOr, mNot, mB, mTr, toB, mOp, mVar, mC, mNeg, mCons, mNil, mFn, mBl, mTup, mCall, mIf, gName', gDo, gSub', List.map, List.length, List.replicate, List.cons_append, List.nil_append, List.append_nil, List.getElem?_cons_succ, List.getElem?_cons_zero, List.set_cons_zero, List.set_cons_succ, if_true, Bool.not_true, Bool.not_false, Bool.true_eq_false, Bool.false_eq_true, if_false, Nat.reduceAdd, Nat.reduceSub, mMeth, mFld, lk_c, lk_k, lk_l, lk_a, no_0, no_1, no_2, no_3, no_4, no_5, no_6, no_7, no_8, no_9, lk_tb, cont0, runOf, outOf, e, q, i]
theorem dkof_cached (D : DSt st own d B row cnt n c k C L) : dkOf st (.ref k) = some (kvL L) := by simp [dkOf, D.hk]
theorem read1 (D : DSt st own d B row cnt n c k C L) {b : Int} (h0 : 0 ≤ b) (h1 : b < B) : r_Disk_read [.ref d, .int b] st = .ok (valW (row b) (row b).length) st := by
  have q := demand1 D h0 h1
  have e := D.hd
  have dk := dkof_cached D
  by_cases hp : (row b).drop (cnt b) = []
  · have hm : b ∉ L.map (·.1) := by
      intro z
      obtain ⟨p, z1, z2⟩ := List.mem_map.mp z
      subst z2
      exact (D.ent p z1).2.2.2.2.2.2.2 hp
    have hcn : cnt b = (row b).length := by
      have := List.drop_eq_nil_iff.mp hp
      have := D.cle b
      omega
    have i := lying1 D h0 h1
    obtain ⟨b, rfl⟩ : ∃ k : Nat, b = k := ⟨b.toNat, by omega⟩
    have v := D.valC b (by omega)
    have i : wIx (.ref c) (.int (b : Int)) st = .ok (valW (row b) (cnt b)) st := by rw [ix_ref D.hc, nth_nat v]
    rw [hcn] at i
    unfold r_Disk_read m_Disk_read
    generalize r_Disk_demand_block = f1 at q ⊢
    simp only [sSeq, sIf, sAsg, sRet, sExpr, sNx, Rs.to, Rs.bind, mAnd, mOr, mNot, mB, mTr, toB, mOp, mVar, mC, mNeg, mCons, mNil, mFn, mBl, mTup, mCall, mIf, gName', gDo, gSub', List.map, List.length, List.replicate, List.cons_append, List.nil_append, List.append_nil, List.getElem?_cons_succ, List.getElem?_cons_zero, List.set_cons_zero, List.set_cons_succ, if_true, Bool.not_true, Bool.not_false, Bool.true_eq_false, Bool.false_eq_true, if_false, Nat.reduceAdd, Nat.reduceSub, mMeth, mFld, lk_c, lk_k, lk_l, lk_a, no_0, no_1, no_2, no_3, no_4, no_5, no_6, no_7, no_8, no_9, lk_tb, cont0, runOf, outOf, e, q, i, mDin, dk, keyi, lk_not hm, Option.isSome_none]
  · obtain ⟨r, hr⟩ := D.all b hp
    obtain ⟨_, _, h3, h4, h5, h6, h7, h8⟩ := D.ent _ hr
    have lk := lk_mem D.nk hr
    have i1 : wIx (.ref k) (.int b) st = .ok (.ref r) st := by simp only [wIx, dk, keyi, lk]
    have hlt : cnt b < (row b).length := by
      rcases Nat.lt_or_ge (cnt b) (row b).length with g | g
      · exact g
      · exact absurd (List.drop_eq_nil_iff.mpr g) hp
    have i2 : wIx (.ref r) (.int (-1)) st = .ok (valW (row b) (row b).length) st := by
      rw [ix_ref h7]
      obtain ⟨m, hm⟩ : ∃ m, (row b).length = m + 1 := ⟨(row b).length - 1, by omega⟩
      have hl : ((row b).drop (cnt b)).length = m + 1 - cnt b := by rw [List.length_drop, hm]
      have a1 : ¬ (0 : Int) ≤ -1 := by omega
      have a2 : -(((row b).drop (cnt b)).length : Int) ≤ -1 := by rw [hl]; omega
      have a3 : (-1 + (((row b).drop (cnt b)).length : Int)).toNat = m - cnt b := by rw [hl]; omega
      have a4 : cnt b + (m - cnt b) = m := by omega
      have a5 : m < (row b).length := by omega
      simp only [wNth, atI, ixN, if_neg a1, if_pos a2, Option.bind_some, a3, List.getElem?_drop, a4, hm, valW]
      simp [List.getD, a5]
    unfold r_Disk_read m_Disk_read
    generalize r_Disk_demand_block = f1 at q ⊢
    simp only [sSeq, sIf, sAsg, sRet, sExpr, sNx, Rs.to, Rs.bind, mAnd, mOr, mNot, mB, mTr, toB, mOp, mVar, mC, mNeg, mCons, mNil, mFn, mBl, mTup, mCall, mIf, gName', gDo, gSub', List.map, List.length, List.replicate, List.cons_append, List.nil_append, List.append_nil, List.getElem?_cons_succ, List.getElem?_cons_zero, List.set_cons_zero, List.set_cons_succ, if_true, Bool.not_true, Bool.not_false, Bool.true_eq_false, Bool.false_eq_true, if_false, Nat.reduceAdd, Nat.reduceSub, mMeth, mFld, lk_c, lk_k, lk_l, lk_a, no_0, no_1, no_2, no_3, no_4, no_5, no_6, no_7, no_8, no_9, lk_tb, cont0, runOf, outOf, e, q, mDin, dk, keyi, lk, Option.isSome_some, i1, i2]
theorem reached1 (D : DSt st own d B row cnt n c k C L) : r_Disk_reached [.ref d] st = .ok (.int n) st := by
  have e := D.hd
  unfold r_Disk_reached m_Disk_reached
  simp only [sSeq, sIf, sAsg, sRet, sExpr, sNx, Rs.to, Rs.bind, mAnd, mOr, mNot, mB, mTr, toB, mOp, mVar, mC, mNeg, mCons, mNil, mFn, mBl, mTup, mCall, mIf, gName', gDo, gSub', List.map, List.length, List.replicate, List.cons_append, List.nil_append, List.append_nil, List.getElem?_cons_succ, List.getElem?_cons_zero, List.set_cons_zero, List.set_cons_succ, if_true, Bool.not_true, Bool.not_false, Bool.true_eq_false, Bool.false_eq_true, if_false, Nat.reduceAdd, Nat.reduceSub, mMeth, mFld, lk_c, lk_k, lk_l, lk_a, no_0, no_1, no_2, no_3, no_4, no_5, no_6, no_7, no_8, no_9, lk_tb, cont0, runOf, outOf, e]
end
end Lw
namespace Lw
open PySem L2 Mi
theorem put_a {a b c d v : W} : putW "arrived" v [("contents", a), ("cached", b), ("left", c), ("arrived", d)] = ([("contents", a), ("cached", b), ("left", c), ("arrived", v)] : List (Str × W)) := rfl
theorem put_k {a b c d v : W} : putW "cached" v [("contents", a), ("cached", b), ("left", c), ("arrived", d)] = ([("contents", a), ("cached", v), ("left", c), ("arrived", d)] : List (Str × W)) := rfl
theorem put_l {a b c d v : W} : putW "left" v [("contents", a), ("cached", b), ("left", c), ("arrived", d)] = ([("contents", a), ("cached", b), ("left", v), ("arrived", d)] : List (Str × W)) := rfl
theorem setf_a {cs : List Nat} {st : Sto} {d c k : Nat} {n : Int} {v : Int} (e : st[d]? = some (DiskN c k n)) (hc : cs.contains 0 = true) : wSetF cs "arrived" (.ref d) (.int v) st = some (st.set d (DiskN c k v)) := by
  simp only [wSetF, e, hc, put_a]
  simp
theorem snd_inj {α β : Type} : ∀ {L : List (α × β)}, (L.map (·.2)).Nodup → ∀ {p q : α × β}, p ∈ L → q ∈ L → p.2 = q.2 → p = q
  | [], _, _, _, h, _, _ => by simp at h
  | x :: L, nd, p, q, hp, hq, e => by
    simp only [List.map_cons, List.nodup_cons] at nd
    rcases List.mem_cons.mp hp with rfl | hp'
    · rcases List.mem_cons.mp hq with rfl | hq
      · rfl
      · exact (nd.1 (List.mem_map.mpr ⟨q, hq, e.symm⟩)).elim
    · rcases List.mem_cons.mp hq with rfl | hq'
      · exact (nd.1 (List.mem_map.mpr ⟨p, hp', e⟩)).elim
      · exact snd_inj nd.2 hp' hq' e
theorem get_ne {st : Sto} {i j : Nat} {n : Nd} (h : i ≠ j) : (st.set i n)[j]? = st[j]? := by rw [List.getElem?_set, if_neg h]
theorem set_ref {st : Sto} {c : Nat} {C : List W} {b : Nat} {w : W} (e : st[c]? = some (.lst C)) (h : b < C.length) : wStore (.ref c) (.int (b : Int)) w st = some (st.set c (.lst (C.set b w))) := set_i e h
section
variable {st : Sto} {own : List Nat} {d B : Nat} {row : Int → List W} {cnt : Int → Nat} {n : Int} {c k : Nat} {C : List W} {L : List (Int × Nat)}
theorem drop_kv {b : Int} : dropKW (kvL L) (.inl b) = kvL (L.filter fun p => decide (p.1 ≠ b)) := by
  simp only [dropKW, kvL, List.filter_map]
  congr 1
  apply List.filter_congr
  intro p _
  simp
/-- what the cut of a block's first waiting write makes -/
theorem let_reach1 (D : DSt st own d B row cnt n c k C L) {b : Int} (h0 : 0 ≤ b) (h1 : b < B) (hl : cnt b < (row b).length) : ∃ st' C' L', r_Disk_let_reach [.ref d, .int b] st = .ok .non st' ∧ st'.length = st.length ∧ (∀ j, j ∉ own → st'[j]? = st[j]?) ∧ DSt st' own d B row (fun x => if x = b then cnt x + 1 else cnt x) (n + 1) c k C' L' := by
  have hp : (row b).drop (cnt b) ≠ [] := fun z => by
    have := List.drop_eq_nil_iff.mp z
    omega
  obtain ⟨r, hr⟩ := D.all b hp
  obtain ⟨_, _, h3, h4, h5, h6, h7, h8⟩ := D.ent _ hr
  simp only at h3 h4 h5 h6 h7 h8
  have lk := lk_mem D.nk hr
  have dk := dkof_cached D
  have i1 : wIx (.ref k) (.int b) st = .ok (.ref r) st := by simp only [wIx, dk, keyi, lk]
  obtain ⟨w, pw, qp⟩ := popat_ref h7 (j := 0) (by omega) (by rw [List.length_drop]; omega) (by have := D.hr b; rw [List.length_drop]; omega)
  have hw : valW (row b) (cnt b + 1) = w := by
    have a1 : (row b)[cnt b]? = some w := by simpa [List.getElem?_drop] using pw
    simp [valW, List.getD, a1]
  have he : ((row b).drop (cnt b)).eraseIdx (0 : Int).toNat = (row b).drop (cnt b + 1) := by simp
  rw [he] at qp
  obtain ⟨bn, rfl⟩ : ∃ k : Nat, b = k := ⟨b.toNat, by omega⟩
  have hb : bn < C.length := by rw [D.lenC]; omega
  -- the store behind the pop and the storing
  have hc1 : (st.set r (.lst ((row bn).drop (cnt bn + 1))))[c]? = some (.lst C) := by rw [get_ne h5]; exact D.hc
  have sc := set_ref (w := w) hc1 hb
  have hd1 : (st.set r (.lst ((row bn).drop (cnt bn + 1))))[d]? = some (DiskN c k n) := by rw [get_ne h4]; exact D.hd
  have hd2 : ((st.set r (.lst ((row bn).drop (cnt bn + 1)))).set c (.lst (C.set bn w)))[d]? = some (DiskN c k n) := by rw [get_ne (Ne.symm D.dc)]; exact hd1
  have hk2 : ((st.set r (.lst ((row bn).drop (cnt bn + 1)))).set c (.lst (C.set bn w)))[k]? = some (.dk (kvL L)) := by rw [get_ne D.ck, get_ne h6]; exact D.hk
  have hr2 : ((st.set r (.lst ((row bn).drop (cnt bn + 1)))).set c (.lst (C.set bn w)))[r]? = some (.lst ((row bn).drop (cnt bn + 1))) := by rw [get_ne (Ne.symm h5)]; exact get_set h7
  have e := D.hd
  have sq : (seqL st (.ref r)).isSome = true := by rw [seq_ref h7]; rfl
  generalize hs2 : (st.set r (.lst ((row bn).drop (cnt bn + 1)))).set c (.lst (C.set bn w)) = s2 at sc hd2 hk2 hr2
  have ln2 : s2.length = st.length := by rw [← hs2]; simp
  have fr2 : ∀ j, j ≠ r → j ≠ c → s2[j]? = st[j]? := fun j g1 g2 => by rw [← hs2, get_ne (Ne.symm g2), get_ne (Ne.symm g1)]
  have hc2 : s2[c]? = some (.lst (C.set bn w)) := by rw [← hs2]; exact get_set hc1
  have dk2 : dkOf s2 (.ref k) = some (kvL L) := by simp [dkOf, hk2]
  have i2 : wIx (.ref k) (.int (bn : Int)) s2 = .ok (.ref r) s2 := by simp only [wIx, dk2, keyi, lk]
  have tr : trW s2 (.ref r) = some (!((row bn).drop (cnt bn + 1)).isEmpty) := by simp only [trW, hr2]
  have isn : wIsNot .non .non st = .ok (.bl false) st := rfl
  have valC' : ∀ b' : Nat, b' < B → (C.set bn w)[b']? = some (valW (row b') (if (b' : Int) = (bn : Int) then cnt b' + 1 else cnt b')) := by
    intro b' hb'
    rw [List.getElem?_set]
    by_cases g : bn = b'
    · subst g
      simp [hb, hw]
    · rw [if_neg g, if_neg (by omega)]
      exact D.valC b' hb'
  have cle' : ∀ x : Int, (if x = (bn : Int) then cnt x + 1 else cnt x) ≤ (row x).length := fun x => by
    split
    · rename_i g
      subst g
      omega
    · exact D.cle x
  have other : ∀ p ∈ L, p.1 ≠ (bn : Int) → p.2 ≠ r := by
    intro p hpL g z
    have : p = ((bn : Int), r) := snd_inj D.nr hpL hr z
    rw [this] at g
    exact g rfl
  by_cases hrest : (row bn).drop (cnt bn + 1) = []
  · -- the last one: the block's entry goes
    have sd : ((lkW (kvL L) (.inl (bn : Int))).isSome) = true := by rw [lk]; rfl
    have hd3 : (s2.set k (.dk (kvL (L.filter fun p => decide (p.1 ≠ (bn : Int))))))[d]? = some (DiskN c k n) := by rw [get_ne (Ne.symm D.dk)]; exact hd2
    have sa := setf_a (cs := [0]) (v := n + 1) hd3 rfl
    have nd2 : nodD s2 (.ref k) = some (k, kvL L) := by simp [nodD, hk2]
    rw [hrest] at tr qp sc hs2 hd1
    refine ⟨(s2.set k (.dk (kvL (L.filter fun p => decide (p.1 ≠ (bn : Int)))))).set d (DiskN c k (n + 1)), C.set bn w, L.filter fun p => decide (p.1 ≠ (bn : Int)), ?_, by simp [ln2], fun j hj => ?_, ?_⟩
    · unfold r_Disk_let_reach m_Disk_let_reach
      simp only [sSeq, sIf, sAsg, sRet, sExpr, sNx, Rs.to, Rs.bind, mAnd, mOr, mNot, mB, mTr, toB, mOp, mVar, mC, mNeg, mCons, mNil, mFn, mBl, mTup, mCall, mIf, gName', gDo, gSub', List.map, List.length, List.replicate, List.cons_append, List.nil_append, List.append_nil, List.getElem?_cons_succ, List.getElem?_cons_zero, List.set_cons_zero, List.set_cons_succ, if_true, Bool.not_true, Bool.not_false, Bool.true_eq_false, Bool.false_eq_true, if_false, Nat.reduceAdd, Nat.reduceSub, mMeth, mFld, lk_c, lk_k, lk_l, lk_a, no_0, no_1, no_2, no_3, no_4, no_5, no_6, no_7, no_8, no_9, lk_tb, cont0, runOf, outOf, e, wEq_nn, isn, mLm, i1, sq, qp, sc, hd1, hd2, i2, tr, List.isEmpty_nil, sDel, nd2, keyi, sd, drop_kv, sFaug, hd3, sa]
    · have g1 : j ≠ r := by rintro rfl; exact hj h3
      have g2 : j ≠ c := by rintro rfl; exact hj D.oc
      have g3 : j ≠ k := by rintro rfl; exact hj D.ok
      have g4 : j ≠ d := by rintro rfl; exact hj D.od
      rw [get_ne (Ne.symm g4), get_ne (Ne.symm g3), fr2 j g1 g2]
    · refine { D with hd := get_set hd3, hc := ?_, hk := ?_, lenC := by simp [D.lenC], valC := valC', cle := cle', nk := ?_, nr := ?_, ent := ?_, all := ?_ }
      · rw [get_ne D.dc, get_ne (Ne.symm D.ck)]; exact hc2
      · rw [get_ne D.dk]; exact get_set hk2
      · exact List.Sublist.nodup (List.Sublist.map _ List.filter_sublist) D.nk
      · exact List.Sublist.nodup (List.Sublist.map _ List.filter_sublist) D.nr
      · intro p hpL
        obtain ⟨p1, p2⟩ := List.mem_filter.mp hpL
        have p2 : p.1 ≠ (bn : Int) := by simpa using p2
        obtain ⟨e1, e2, e3, e4, e5, e6, e7, e8⟩ := D.ent p p1
        refine ⟨e1, e2, e3, e4, e5, e6, ?_, ?_⟩
        · rw [get_ne (Ne.symm e4), get_ne (Ne.symm e6), fr2 _ (other p p1 p2) e5, if_neg p2]; exact e7
        · rw [if_neg p2]; exact e8
      · intro x hx
        by_cases g : x = (bn : Int)
        · subst g
          rw [if_pos rfl] at hx
          exact absurd hrest hx
        · rw [if_neg g] at hx
          obtain ⟨r', hr'⟩ := D.all x hx
          exact ⟨r', List.mem_filter.mpr ⟨hr', by simpa using g⟩⟩
  · have sa := setf_a (cs := [0]) (v := n + 1) hd2 rfl
    have hne : ((row bn).drop (cnt bn + 1)).isEmpty = false := by
      cases hz : (row bn).drop (cnt bn + 1) with
      | nil => exact absurd hz hrest
      | cons _ _ => rfl
    refine ⟨s2.set d (DiskN c k (n + 1)), C.set bn w, L, ?_, by simp [ln2], fun j hj => ?_, ?_⟩
    · unfold r_Disk_let_reach m_Disk_let_reach
      simp only [sSeq, sIf, sAsg, sRet, sExpr, sNx, Rs.to, Rs.bind, mAnd, mOr, mNot, mB, mTr, toB, mOp, mVar, mC, mNeg, mCons, mNil, mFn, mBl, mTup, mCall, mIf, gName', gDo, gSub', List.map, List.length, List.replicate, List.cons_append, List.nil_append, List.append_nil, List.getElem?_cons_succ, List.getElem?_cons_zero, List.set_cons_zero, List.set_cons_succ, if_true, Bool.not_true, Bool.not_false, Bool.true_eq_false, Bool.false_eq_true, if_false, Nat.reduceAdd, Nat.reduceSub, mMeth, mFld, lk_c, lk_k, lk_l, lk_a, no_0, no_1, no_2, no_3, no_4, no_5, no_6, no_7, no_8, no_9, lk_tb, cont0, runOf, outOf, e, wEq_nn, isn, mLm, i1, sq, qp, sc, hd1, hd2, i2, tr, hne, sFaug, sa]
    · have g1 : j ≠ r := by rintro rfl; exact hj h3
      have g2 : j ≠ c := by rintro rfl; exact hj D.oc
      have g4 : j ≠ d := by rintro rfl; exact hj D.od
      rw [get_ne (Ne.symm g4), fr2 j g1 g2]
    · refine { D with hd := get_set hd2, hc := ?_, hk := ?_, lenC := by simp [D.lenC], valC := valC', cle := cle', ent := ?_, all := ?_ }
      · rw [get_ne D.dc]; exact hc2
      · rw [get_ne D.dk]; exact hk2
      · intro p hpL
        obtain ⟨e1, e2, e3, e4, e5, e6, e7, e8⟩ := D.ent p hpL
        by_cases g : p.1 = (bn : Int)
        · have : p.2 = r := by
            have z1 := lk_mem D.nk (b := p.1) (r := p.2) hpL
            rw [g, lk] at z1
            cases z1
            rfl
          refine ⟨e1, e2, e3, e4, e5, e6, ?_, ?_⟩
          · rw [get_ne (Ne.symm e4), this, hr2, if_pos g, g]
          · rw [if_pos g, g]; exact hrest
        · refine ⟨e1, e2, e3, e4, e5, e6, ?_, ?_⟩
          · rw [get_ne (Ne.symm e4), fr2 _ (other p hpL g) e5, if_neg g]; exact e7
          · rw [if_neg g]; exact e8
      · intro x hx
        by_cases g : x = (bn : Int)
        · subst g
          exact ⟨r, hr⟩
        · rw [if_neg g] at hx
          exact D.all x hx
theorem reach1 (D : DSt st own d B row cnt n c k C L) {b : Int} (h0 : 0 ≤ b) (h1 : b < B) (hl : cnt b < (row b).length) : ∃ st' C' L', r_Disk_reach [.ref d, .int b] st = .ok .non st' ∧ st'.length = st.length ∧ (∀ j, j ∉ own → st'[j]? = st[j]?) ∧ DSt st' own d B row (fun x => if x = b then cnt x + 1 else cnt x) (n + 1) c k C' L' := by
  obtain ⟨st', C', L', q, k1, k2, k3⟩ := let_reach1 D h0 h1 hl
  refine ⟨st', C', L', ?_, k1, k2, k3⟩
  have hp : (row b).drop (cnt b) ≠ [] := fun z => by
    have := List.drop_eq_nil_iff.mp z
    omega
  obtain ⟨r, hr⟩ := D.all b hp
  have lk := lk_mem D.nk hr
  have dk := dkof_cached D
  have q0 := demand1 D h0 h1
  have e := D.hd
  unfold r_Disk_reach m_Disk_reach
  generalize r_Disk_demand_block = f1 at q0 ⊢
  generalize r_Disk_let_reach = f2 at q ⊢
  simp only [sSeq, sIf, sAsg, sRet, sExpr, sNx, Rs.to, Rs.bind, mAnd, mOr, mNot, mB, mTr, toB, mOp, mVar, mC, mNeg, mCons, mNil, mFn, mBl, mTup, mCall, mIf, gName', gDo, gSub', List.map, List.length, List.replicate, List.cons_append, List.nil_append, List.append_nil, List.getElem?_cons_succ, List.getElem?_cons_zero, List.set_cons_zero, List.set_cons_succ, if_true, Bool.not_true, Bool.not_false, Bool.true_eq_false, Bool.false_eq_true, if_false, Nat.reduceAdd, Nat.reduceSub, mMeth, mFld, lk_c, lk_k, lk_l, lk_a, no_0, no_1, no_2, no_3, no_4, no_5, no_6, no_7, no_8, no_9, lk_tb, cont0, runOf, outOf, e, q0, mDin, dk, keyi, lk, Option.isSome_some, q]
end
end Lw
namespace Lw
open PySem L2 Mi
theorem few_ints : ∀ (B : Nat) (l : List Int), l.Nodup → (∀ x ∈ l, 0 ≤ x ∧ x < B) → l.length ≤ B
  | 0, l, _, h => by
    cases l with
    | nil => simp
    | cons x l =>
      have := h x (by simp)
      omega
  | B + 1, l, nd, h => by
    by_cases m : (B : Int) ∈ l
    · have := few_ints B (l.erase (B : Int)) (nd.erase _) fun x hx => by
        rw [nd.mem_erase_iff] at hx
        have := h x hx.2
        omega
      rw [List.length_erase_of_mem m] at this
      omega
    · have := few_ints B l nd fun x hx => by
        have := h x hx
        have : x ≠ (B : Int) := by
          rintro rfl
          exact m hx
        omega
      omega
theorem compD_fix {xs : List W} {t : CT} {cond : M Bool} {mk mv : M W} {env : Ev} (inv : Nat → List (Key × W) → Sto → Prop) {st : Sto}
    (step : ∀ i (hi : i < xs.length) acc st, inv i acc st → ∃ env1 k kk v st2 st3, t.put xs[i] env = some env1 ∧ cond env1 st = .ok true st ∧ mk env1 st = .ok k st2 ∧ mv env1 st2 = .ok v st3 ∧ Mi.keyOf k = some kk ∧ acc.length < sizeLine ∧ inv (i + 1) (putKW acc kk v) st3)
    (h : inv 0 [] st) : ∃ ws st', compD (fixS xs) t cond mk mv env (fixS xs).fuel 0 [] st = .ok ws st' ∧ inv xs.length ws st' := by
  suffices go : ∀ m i acc st, xs.length < i + m → i ≤ xs.length → inv i acc st → ∃ ws st', compD (fixS xs) t cond mk mv env m i acc st = .ok ws st' ∧ inv xs.length ws st' from go _ _ _ _ (by simp [fixS]) (Nat.zero_le _) h
  intro m
  induction m with
  | zero => intro i acc st h1 h2; omega
  | succ m ih =>
    intro i acc st h1 h2 h
    by_cases e : i = xs.length
    · subst e
      exact ⟨acc, st, by simp only [compD, fix_end], h⟩
    · have hi : i < xs.length := by omega
      obtain ⟨env1, k, kk, v, st2, st3, g1, g2, g3, g4, g5, g6, g7⟩ := step i hi acc st h
      obtain ⟨ws, st', q, r⟩ := ih (i + 1) _ _ (by omega) (by omega) g7
      exact ⟨ws, st', by simp only [compD, fix_at (show xs[i]? = some xs[i] by simp [hi]), g1, g2, g3, g4, g5, g6, if_true]; exact q, r⟩
theorem putKW_new {kvs : List (Key × W)} {k : Key} {v : W} (h : ∀ kv ∈ kvs, kv.1 ≠ k) : putKW kvs k v = kvs ++ [(k, v)] := by
  have : (kvs.any fun kv => decide (kv.1 = k)) = false := by
    rw [List.any_eq_false]
    intro kv hk
    simpa using h kv hk
  simp [putKW, this]
theorem lk_g {g : Int → W} {b : Int} : ∀ {zs : List Int}, (b ∈ zs → lkW (zs.map fun z => ((Sum.inl z : Key), g z)) (.inl b) = some (g b)) ∧ (b ∉ zs → lkW (zs.map fun z => ((Sum.inl z : Key), g z)) (.inl b) = none)
  | [] => ⟨fun h => by simp at h, fun _ => rfl⟩
  | z :: zs => by
    have ih := lk_g (g := g) (b := b) (zs := zs)
    simp only [lkW, List.map_cons] at ih ⊢
    by_cases e : z = b
    · subst e
      exact ⟨fun _ => by simp, fun h => by simp at h⟩
    · rw [List.find?_cons_of_neg (by simpa using e)]
      refine ⟨fun h => ih.1 ?_, fun h => ih.2 ?_⟩
      · rcases List.mem_cons.mp h with h | h
        · exact absurd h.symm e
        · exact h
      · exact fun z => h (List.mem_cons_of_mem _ z)
theorem sortZ_perm (ns : List Int) : (sortZ ns).Perm ns := List.mergeSort_perm ..
theorem intsOf_map : ∀ (ns : List Int), intsOf (ns.map W.int) = some ns
  | [] => rfl
  | n :: ns => by simp [intsOf, intsOf_map ns]
section
variable {st : Sto} {own : List Nat} {d B : Nat} {row : Int → List W} {cnt : Int → Nat} {n : Int} {c k : Nat} {C : List W} {L : List (Int × Nat)}
theorem DSt.few (D : DSt st own d B row cnt n c k C L) : L.length ≤ 18 := by
  have := few_ints B (L.map (·.1)) D.nk fun x hx => by
    obtain ⟨p, hp, rfl⟩ := List.mem_map.mp hx
    obtain ⟨h1, h2, _⟩ := D.ent p hp
    exact ⟨h1, h2⟩
  have := D.hB
  simp at *
  omega
theorem waiting1 (D : DSt st own d B row cnt n c k C L) : ∃ E, r_Disk_waiting [.ref d] st = .ok (.ref st.length) (st ++ [.dk E]) ∧ (∀ b : Int, (lkW E (.inl b)).getD (.int 0) = .int (((row b).length : Int) - (cnt b : Int))) ∧ (L = [] → E = []) := by
  have e := D.hd
  have dk := dkof_cached D
  have sq : seqL st (.ref k) = none := by simp [seqL, D.hk]
  have hm : L.map (fun p : Int × Nat => W.int p.1) = (L.map (·.1)).map W.int := by simp
  have hf := D.few
  have so : fSorted true [.ref k] st = .ok (.lst ((sortZ (L.map (·.1))).map W.int)) st := by
    simp only [fSorted, sq, dk]
    simp only [kvL, List.map_map]
    change (match intsOf (L.map (fun p : Int × Nat => W.int p.1)) with | some ns => if ns.length < 64 then newL true (List.map W.int (sortZ ns)) st else Rs.stuck | none => Rs.stuck) = _
    rw [hm, intsOf_map]
    simp only [newL, if_true]
    rw [if_pos (by simp; omega)]
  have zp := sortZ_perm (L.map (·.1))
  have znd : (sortZ (L.map (·.1))).Nodup := zp.nodup_iff.mpr D.nk
  have zl : (sortZ (L.map (·.1))).length ≤ 18 := by rw [zp.length_eq]; simpa using hf
  generalize sortZ (L.map (·.1)) = zs at so zp znd zl
  let g : Int → W := fun z => .int ((row z).length - cnt z : Nat)
  obtain ⟨ws, st', q, k1, k2⟩ := compD_fix (xs := zs.map W.int) (t := .one 1) (cond := mYes) (mk := mVar 1) (mv := mFn fLen (mCons (mOp wIx (mFld [0] "cached" (mVar 0)) (mVar 1)) (mNil))) (env := [some (.ref d), none]) (st := st)
    (fun i acc s => s = st ∧ acc = (zs.take i).map fun z => ((Sum.inl z : Key), g z)) (fun i hi acc s z => by
      obtain ⟨rfl, rfl⟩ := z
      have hi' : i < zs.length := by simpa using hi
      have hx : (zs.map W.int)[i] = W.int zs[i] := by simp
      have hmem : zs[i] ∈ L.map (·.1) := zp.mem_iff.mp (List.getElem_mem hi')
      obtain ⟨p, hp, hpe⟩ := List.mem_map.mp hmem
      have hp' : (zs[i], p.2) ∈ L := by rw [← hpe]; exact hp
      obtain ⟨_, _, h3, h4, h5, h6, h7, h8⟩ := D.ent _ hp'
      have lk := lk_mem D.nk hp'
      have i1 : wIx (.ref k) (.int zs[i]) s = .ok (.ref p.2) s := by simp only [wIx, dk, keyi, lk]
      rw [hx]
      refine ⟨_, .int zs[i], .inl zs[i], g zs[i], s, s, rfl, rfl, rfl, ?_, rfl, ?_, rfl, ?_⟩
      · simp only [sSeq, sIf, sAsg, sRet, sExpr, sNx, Rs.to, Rs.bind, mAnd, mOr, mNot, mB, mTr, toB, mOp, mVar, mC, mNeg, mCons, mNil, mFn, mBl, mTup, mCall, mIf, gName', gDo, gSub', List.map, List.length, List.replicate, List.cons_append, List.nil_append, List.append_nil, List.getElem?_cons_succ, List.getElem?_cons_zero, List.set_cons_zero, List.set_cons_succ, if_true, Bool.not_true, Bool.not_false, Bool.true_eq_false, Bool.false_eq_true, if_false, Nat.reduceAdd, Nat.reduceSub, mMeth, mFld, lk_c, lk_k, lk_l, lk_a, no_0, no_1, no_2, no_3, no_4, no_5, no_6, no_7, no_8, no_9, lk_tb, cont0, runOf, outOf, e, i1, len_ref h7, List.length_drop]
        rfl
      · simp only [List.length_map, List.length_take, sizeLine]
        omega
      · rw [putKW_new]
        · rw [← List.take_append_getElem hi', List.map_append]
          rfl
        · intro kv hkv
          obtain ⟨z, hz, rfl⟩ := List.mem_map.mp hkv
          simp only [ne_eq, Sum.inl.injEq]
          rintro rfl
          obtain ⟨j, hj, ej⟩ := List.mem_iff_getElem.mp hz
          have hj1 : j < i := by
            simp at hj
            omega
          rw [List.getElem_take] at ej
          have := (List.nodup_iff_pairwise_ne.mp znd)
          have := List.pairwise_iff_getElem.mp this j i (by omega) hi' hj1
          exact this ej) ⟨rfl, rfl⟩
  subst k1
  rw [List.length_map, List.take_length] at k2
  subst k2
  refine ⟨zs.map fun z => ((Sum.inl z : Key), g z), ?_, fun b => ?_, fun h => ?_⟩
  · have hw : wipeW [some (W.ref d), none] [1] = [some (.ref d), none] := rfl
    unfold r_Disk_waiting m_Disk_waiting
    generalize hcd : compD (fixS (zs.map W.int)) _ _ _ _ _ _ _ _ _ = cd at q
    simp only [sSeq, sIf, sAsg, sRet, sExpr, sNx, Rs.to, Rs.bind, mAnd, mOr, mNot, mB, mTr, toB, mOp, mVar, mC, mNeg, mCons, mNil, mFn, mBl, mTup, mCall, mIf, gName', gDo, gSub', List.map, List.length, List.replicate, List.cons_append, List.nil_append, List.append_nil, List.getElem?_cons_succ, List.getElem?_cons_zero, List.set_cons_zero, List.set_cons_succ, if_true, Bool.not_true, Bool.not_false, Bool.true_eq_false, Bool.false_eq_true, if_false, Nat.reduceAdd, Nat.reduceSub, mMeth, mFld, lk_c, lk_k, lk_l, lk_a, no_0, no_1, no_2, no_3, no_4, no_5, no_6, no_7, no_8, no_9, lk_tb, cont0, runOf, outOf, mDcomp, iL, e, so, hw, hcd, q, newD]
  · by_cases m : b ∈ zs
    · rw [lk_g.1 m]
      have := D.cle b
      simp only [Option.getD_some, g]
      congr 1
      omega
    · rw [lk_g.2 m]
      have : (row b).drop (cnt b) = [] := by
        by_cases hz : (row b).drop (cnt b) = []
        · exact hz
        · obtain ⟨r, hr⟩ := D.all b hz
          exact absurd (zp.mem_iff.mpr (List.mem_map.mpr ⟨_, hr, rfl⟩)) m
      have := List.drop_eq_nil_iff.mp this
      have := D.cle b
      simp only [Option.getD_none]
      congr 1
      omega
  · subst h
    have : zs = [] := List.Perm.eq_nil (by simpa using zp)
    subst this
    rfl
end
end Lw
namespace Lw
open PySem L2 Mi
theorem get_app {st : Sto} {t : List Nd} {i : Nat} {n : Nd} (e : st[i]? = some n) : (st ++ t)[i]? = some n := by
  rw [List.getElem?_append_left (List.getElem?_eq_some_iff.mp e).1]; exact e
theorem get_new {st : Sto} {n : Nd} : (st ++ [n])[st.length]? = some n := by simp
theorem get_lt {st : Sto} {t : List Nd} {i : Nat} (h : i < st.length) : (st ++ t)[i]? = st[i]? := List.getElem?_append_left h
theorem lt_of {st : Sto} {i : Nat} {n : Nd} (e : st[i]? = some n) : i < st.length := (List.getElem?_eq_some_iff.mp e).1
theorem valW_app {row : List W} {w : W} {k : Nat} (h : k ≤ row.length) : valW (row ++ [w]) k = valW row k := by
  cases k with
  | zero => rfl
  | succ k =>
    simp only [valW, List.getD]
    rw [List.getElem?_append_left (by omega)]
theorem valW_take {row : List W} {k : Nat} (h : k ≤ row.length) : valW (row.take k) k = valW row k := by
  cases k with
  | zero => rfl
  | succ k =>
    simp only [valW, List.getD]
    rw [List.getElem?_take_of_lt (by omega)]
theorem setf_k {cs : List Nat} {st : Sto} {d c k : Nat} {n : Int} {v : W} (e : st[d]? = some (DiskN c k n)) (hc : cs.contains 0 = true) : wSetF cs "cached" (.ref d) v st = some (st.set d (.ins 0 [("contents", .ref c), ("cached", v), ("left", .non), ("arrived", .int n)])) := by
  simp only [wSetF, e, hc, put_k]
  simp
theorem setf_l {cs : List Nat} {st : Sto} {d c k : Nat} {n : Int} (e : st[d]? = some (DiskN c k n)) (hc : cs.contains 0 = true) : wSetF cs "left" (.ref d) .non st = some (st.set d (DiskN c k n)) := by
  simp only [wSetF, e, hc, put_l]
  simp
section
variable {st : Sto} {own : List Nat} {d B : Nat} {row : Int → List W} {cnt : Int → Nat} {n : Int} {c k : Nat} {C : List W} {L : List (Int × Nat)}
theorem cut1 (D : DSt st own d B row cnt n c k C L) : ∃ st', r_Disk_cut [.ref d] st = .ok .non st' ∧ st'.length = st.length + 1 ∧ (∀ j, j < st.length → j ∉ own → st'[j]? = st[j]?) ∧ DSt st' (st.length :: own) d B (fun x => (row x).take (cnt x)) cnt n c st.length C [] := by
  have hd1 : (st ++ [Nd.dk []])[d]? = some (DiskN c k n) := get_app D.hd
  have s1 := setf_k (cs := [0]) (v := .ref st.length) hd1 rfl
  have hd2 := get_set (m := DiskN c st.length n) hd1
  have s2 := setf_l (cs := [0]) hd2 rfl
  have l1 := lt_of D.hd
  have l2 := lt_of D.hc
  refine ⟨((st ++ [Nd.dk []]).set d (DiskN c st.length n)).set d (DiskN c st.length n), ?_, by simp, fun j hj ho => ?_, ?_⟩
  · unfold r_Disk_cut m_Disk_cut
    simp only [sSeq, sIf, sAsg, sRet, sExpr, sNx, Rs.to, Rs.bind, mAnd, mOr, mNot, mB, mTr, toB, mOp, mVar, mC, mNeg, mCons, mNil, mFn, mBl, mTup, mCall, mIf, gName', gDo, gSub', List.map, List.length, List.replicate, List.cons_append, List.nil_append, List.append_nil, List.getElem?_cons_succ, List.getElem?_cons_zero, List.set_cons_zero, List.set_cons_succ, if_true, Bool.not_true, Bool.not_false, Bool.true_eq_false, Bool.false_eq_true, if_false, Nat.reduceAdd, Nat.reduceSub, mMeth, mFld, lk_c, lk_k, lk_l, lk_a, no_0, no_1, no_2, no_3, no_4, no_5, no_6, no_7, no_8, no_9, lk_tb, cont0, runOf, outOf, sFld', mDict0, s1, s2]
  · have g : j ≠ d := by rintro rfl; exact ho D.od
    rw [get_ne (Ne.symm g), get_ne (Ne.symm g), get_lt hj]
  · exact {
      hd := get_set hd2
      hc := by rw [get_ne D.dc, get_ne D.dc]; exact get_app D.hc
      hk := by rw [get_ne (by omega), get_ne (by omega)]; exact get_new
      dc := D.dc
      dk := by omega
      ck := by omega
      od := List.mem_cons_of_mem _ D.od
      oc := List.mem_cons_of_mem _ D.oc
      ok := List.mem_cons_self
      lenC := D.lenC
      valC := fun b hb => by rw [valW_take (D.cle _)]; exact D.valC b hb
      cle := fun b => by have := D.cle b; simp only [List.length_take]; omega
      nk := List.nodup_nil
      nr := List.nodup_nil
      ent := fun p hp => by simp at hp
      all := fun b hb => by
        exfalso
        apply hb
        apply List.drop_eq_nil_iff.mpr
        simp only [List.length_take]
        omega
      hB := D.hB
      hr := fun b => by have := D.hr b; simp only [List.length_take]; omega }
theorem write1 (D : DSt st own d B row cnt n c k C L) (ho : ∀ j ∈ own, j < st.length) {b : Int} {w : W} (h0 : 0 ≤ b) (h1 : b < B) (hw : ∀ s, r_is_content [w] s = .ok (.bl true) s) (hl : (row b).length < 64) :
    ∃ st' L', r_Disk_write [.ref d, .int b, w] st = .ok .non st' ∧ st'.length = st.length + 1 ∧ (∀ j, j < st.length → j ∉ own → st'[j]? = st[j]?) ∧ DSt st' (st.length :: own) d B (fun x => if x = b then row x ++ [w] else row x) cnt n c k C L' := by
  have q := demand1 D h0 h1
  have e := D.hd
  have dk := dkof_cached D
  have dks : (dkOf st (.ref k)).isSome = true := by rw [dk]; rfl
  have hf := D.few
  have fl : (kvL L).length < sizeLine := by simp only [kvL, List.length_map, sizeLine]; omega
  have hk1 : (st ++ [Nd.lst []])[k]? = some (.dk (kvL L)) := get_app D.hk
  have nd1 : nodD (st ++ [Nd.lst []]) (.ref k) = some (k, kvL L) := by simp only [nodD, hk1]
  have lk0 := lt_of D.hk
  have ld0 := lt_of D.hd
  have lc0 := lt_of D.hc
  have hww := hw st
  have row_len : ∀ x : Int, (if x = b then row x ++ [w] else row x).length ≤ 64 := fun x => by
    split
    · rename_i g
      subst g
      simp only [List.length_append, List.length_cons, List.length_nil]
      omega
    · exact D.hr x
  have cle' : ∀ x, cnt x ≤ (if x = b then row x ++ [w] else row x).length := fun x => by
    have := D.cle x
    split
    · simp only [List.length_append]; omega
    · exact this
  have valC' : ∀ x : Nat, x < B → C[x]? = some (valW (if (x : Int) = b then row x ++ [w] else row x) (cnt x)) := fun x hx => by
    split
    · rw [valW_app (D.cle _)]; exact D.valC x hx
    · exact D.valC x hx
  have drop_app : (row b ++ [w]).drop (cnt b) = (row b).drop (cnt b) ++ [w] := List.drop_append_of_le_length (D.cle b)
  by_cases hp : (row b).drop (cnt b) = []
  · have hm : b ∉ L.map (·.1) := by
      intro z
      obtain ⟨p, z1, z2⟩ := List.mem_map.mp z
      subst z2
      exact (D.ent p z1).2.2.2.2.2.2.2 hp
    have lk := lk_not hm
    have pk : putKW (kvL L) (.inl b) (.ref st.length) = kvL (L ++ [(b, st.length)]) := by
      rw [putKW_new]
      · simp [kvL]
      · intro kv hkv
        obtain ⟨p, z1, rfl⟩ := List.mem_map.mp hkv
        simp only [ne_eq, Sum.inl.injEq]
        rintro rfl
        exact hm (List.mem_map.mpr ⟨p, z1, rfl⟩)
    have hn2 : ((st ++ [Nd.lst []]).set k (.dk (kvL (L ++ [(b, st.length)]))))[st.length]? = some (.lst []) := by rw [get_ne (by omega)]; exact get_new
    have ap := app_ref (w := w) hn2 (by simp [sizeLine])
    rw [List.nil_append] at ap
    have sq : (seqL ((st ++ [Nd.lst []]).set k (.dk (kvL (L ++ [(b, st.length)])))) (.ref st.length)).isSome = true := by rw [seq_ref hn2]; rfl
    refine ⟨((st ++ [Nd.lst []]).set k (.dk (kvL (L ++ [(b, st.length)])))).set st.length (.lst [w]), L ++ [(b, st.length)], ?_, by simp, fun j hj hjo => ?_, ?_⟩
    · unfold r_Disk_write m_Disk_write
      generalize r_Disk_demand_block = f1 at q ⊢
      generalize r_is_content = f2 at hww ⊢
      simp only [sSeq, sIf, sAsg, sRet, sExpr, sNx, Rs.to, Rs.bind, mAnd, mOr, mNot, mB, mTr, toB, mOp, mVar, mC, mNeg, mCons, mNil, mFn, mBl, mTup, mCall, mIf, gName', gDo, gSub', List.map, List.length, List.replicate, List.cons_append, List.nil_append, List.append_nil, List.getElem?_cons_succ, List.getElem?_cons_zero, List.set_cons_zero, List.set_cons_succ, if_true, Bool.not_true, Bool.not_false, Bool.true_eq_false, Bool.false_eq_true, if_false, Nat.reduceAdd, Nat.reduceSub, mMeth, mFld, lk_c, lk_k, lk_l, lk_a, no_0, no_1, no_2, no_3, no_4, no_5, no_6, no_7, no_8, no_9, lk_tb, cont0, runOf, outOf, e, q, hww, trW, mLm, mDset2, dks, mLst, newL, nd1, keyi, fl, lk, pk, sq, ap]
    · have g : j ≠ k := by rintro rfl; exact hjo D.ok
      rw [get_ne (by omega), get_ne (Ne.symm g), get_lt hj]
    · refine { D with hd := ?_, hc := ?_, hk := ?_, od := List.mem_cons_of_mem _ D.od, oc := List.mem_cons_of_mem _ D.oc, ok := List.mem_cons_of_mem _ D.ok, valC := valC', cle := cle', nk := ?_, nr := ?_, ent := ?_, all := ?_, hr := row_len }
      · rw [get_ne (by omega), get_ne (Ne.symm D.dk)]; exact get_app D.hd
      · rw [get_ne (by omega), get_ne (Ne.symm D.ck)]; exact get_app D.hc
      · rw [get_ne (by omega)]; exact get_set hk1
      · rw [List.map_append]
        refine List.nodup_append.mpr ⟨D.nk, by simp, fun x hx y hy => ?_⟩
        simp only [List.map_cons, List.map_nil, List.mem_singleton] at hy
        subst hy
        rintro rfl
        exact hm hx
      · rw [List.map_append]
        refine List.nodup_append.mpr ⟨D.nr, by simp, fun x hx y hy => ?_⟩
        simp only [List.map_cons, List.map_nil, List.mem_singleton] at hy
        subst hy
        obtain ⟨p, z1, rfl⟩ := List.mem_map.mp hx
        have := ho _ (D.ent p z1).2.2.1
        omega
      · intro p hpL
        rcases List.mem_append.mp hpL with hpL' | hpL'
        · obtain ⟨e1, e2, e3, e4, e5, e6, e7, e8⟩ := D.ent p hpL'
          have g : p.1 ≠ b := by
            intro z
            exact hm (List.mem_map.mpr ⟨p, hpL', z⟩)
          have := ho _ e3
          refine ⟨e1, e2, List.mem_cons_of_mem _ e3, e4, e5, e6, ?_, ?_⟩
          · rw [get_ne (by omega), get_ne (Ne.symm e6), if_neg g]; exact get_app e7
          · rw [if_neg g]; exact e8
        · simp only [List.mem_singleton] at hpL'
          subst hpL'
          refine ⟨h0, h1, List.mem_cons_self, by simp only; omega, by simp only; omega, by simp only; omega, ?_, ?_⟩
          · simp only [if_true]
            rw [get_set hn2, drop_app, hp]
            rfl
          · simp only [if_true]
            rw [drop_app]
            simp
      · intro x hx
        by_cases g : x = b
        · subst g
          exact ⟨st.length, by simp⟩
        · rw [if_neg g] at hx
          obtain ⟨r, hr⟩ := D.all x hx
          exact ⟨r, List.mem_append_left _ hr⟩
  · obtain ⟨r, hr⟩ := D.all b hp
    obtain ⟨_, _, h3, h4, h5, h6, h7, h8⟩ := D.ent _ hr
    simp only at h3 h4 h5 h6 h7 h8
    have lk := lk_mem D.nk hr
    have h71 : (st ++ [Nd.lst []])[r]? = some (.lst ((row b).drop (cnt b))) := get_app h7
    have lr := ho _ h3
    have ap := app_ref (w := w) h71 (by simp only [List.length_drop, sizeLine]; omega)
    have sq : (seqL (st ++ [Nd.lst []]) (.ref r)).isSome = true := by rw [seq_ref h71]; rfl
    have other : ∀ p ∈ L, p.1 ≠ b → p.2 ≠ r := by
      intro p hpL g z
      have : p = (b, r) := snd_inj D.nr hpL hr z
      rw [this] at g
      exact g rfl
    refine ⟨(st ++ [Nd.lst []]).set r (.lst ((row b).drop (cnt b) ++ [w])), L, ?_, by simp, fun j hj hjo => ?_, ?_⟩
    · unfold r_Disk_write m_Disk_write
      generalize r_Disk_demand_block = f1 at q ⊢
      generalize r_is_content = f2 at hww ⊢
      simp only [sSeq, sIf, sAsg, sRet, sExpr, sNx, Rs.to, Rs.bind, mAnd, mOr, mNot, mB, mTr, toB, mOp, mVar, mC, mNeg, mCons, mNil, mFn, mBl, mTup, mCall, mIf, gName', gDo, gSub', List.map, List.length, List.replicate, List.cons_append, List.nil_append, List.append_nil, List.getElem?_cons_succ, List.getElem?_cons_zero, List.set_cons_zero, List.set_cons_succ, if_true, Bool.not_true, Bool.not_false, Bool.true_eq_false, Bool.false_eq_true, if_false, Nat.reduceAdd, Nat.reduceSub, mMeth, mFld, lk_c, lk_k, lk_l, lk_a, no_0, no_1, no_2, no_3, no_4, no_5, no_6, no_7, no_8, no_9, lk_tb, cont0, runOf, outOf, e, q, hww, trW, mLm, mDset2, dks, mLst, newL, nd1, keyi, fl, lk, sq, ap]
    · have g : j ≠ r := by rintro rfl; exact hjo h3
      rw [get_ne (Ne.symm g), get_lt hj]
    · refine { D with hd := ?_, hc := ?_, hk := ?_, od := List.mem_cons_of_mem _ D.od, oc := List.mem_cons_of_mem _ D.oc, ok := List.mem_cons_of_mem _ D.ok, valC := valC', cle := cle', ent := ?_, all := ?_, hr := row_len }
      · rw [get_ne h4]; exact get_app D.hd
      · rw [get_ne h5]; exact get_app D.hc
      · rw [get_ne h6]; exact hk1
      · intro p hpL
        obtain ⟨e1, e2, e3, e4, e5, e6, e7, e8⟩ := D.ent p hpL
        by_cases g : p.1 = b
        · have : p.2 = r := by
            have z1 := lk_mem D.nk (b := p.1) (r := p.2) hpL
            rw [g, lk] at z1
            cases z1
            rfl
          refine ⟨e1, e2, List.mem_cons_of_mem _ e3, e4, e5, e6, ?_, ?_⟩
          · rw [this, get_set h71, if_pos g, g, drop_app]
          · rw [if_pos g, g, drop_app]
            simp
        · refine ⟨e1, e2, List.mem_cons_of_mem _ e3, e4, e5, e6, ?_, ?_⟩
          · rw [get_ne (Ne.symm (other p hpL g)), if_neg g]; exact get_app e7
          · rw [if_neg g]; exact e8
      · intro x hx
        by_cases g : x = b
        · subst g
          exact ⟨r, hr⟩
        · rw [if_neg g] at hx
          exact D.all x hx
end
end Lw
namespace Lw
open PySem L2 Mi
theorem nword_i (i : Int) (st : Sto) : r_is_word [.int i] st = .ok (.bl false) st := rfl
theorem item1 {w : W} (h : Item w) (st : Sto) : r_is_item [w] st = .ok (.bl true) st := by
  rcases h with ⟨i, rfl, h1, h2⟩ | rfl | rfl | rfl
  · have q := within_i (-1000000000000000000000000000000) 1000000000000000000000000000000 i st
    rw [decide_eq_true h1, decide_eq_true h2] at q
    have q2 := nword_i i st
    unfold r_is_item m_is_item
    generalize r_is_within = f1 at q ⊢
    generalize r_is_word = f2 at q2 ⊢
    simp only [sSeq, sIf, sAsg, sRet, sExpr, sNx, Rs.to, Rs.bind, mAnd, mOr, mNot, mB, mTr, toB, mOp, mVar, mC, mNeg, mCons, mNil, mFn, mBl, mTup, mCall, mIf, gName', gDo, gSub', List.map, List.length, List.replicate, List.cons_append, List.nil_append, List.append_nil, List.getElem?_cons_succ, List.getElem?_cons_zero, List.set_cons_zero, List.set_cons_succ, if_true, Bool.not_true, Bool.not_false, Bool.true_eq_false, Bool.false_eq_true, if_false, Nat.reduceAdd, Nat.reduceSub, runOf, outOf, q2, q, Bool.and_self]
  · have q2 := word1 st
    unfold r_is_item m_is_item
    generalize r_is_word = f2 at q2 ⊢
    simp only [sSeq, sIf, sAsg, sRet, sExpr, sNx, Rs.to, Rs.bind, mAnd, mOr, mNot, mB, mTr, toB, mOp, mVar, mC, mNeg, mCons, mNil, mFn, mBl, mTup, mCall, mIf, gName', gDo, gSub', List.map, List.length, List.replicate, List.cons_append, List.nil_append, List.append_nil, List.getElem?_cons_succ, List.getElem?_cons_zero, List.set_cons_zero, List.set_cons_succ, if_true, Bool.not_true, Bool.not_false, Bool.true_eq_false, Bool.false_eq_true, if_false, Nat.reduceAdd, Nat.reduceSub, runOf, outOf, q2]
  · have q2 := word2 st
    unfold r_is_item m_is_item
    generalize r_is_word = f2 at q2 ⊢
    simp only [sSeq, sIf, sAsg, sRet, sExpr, sNx, Rs.to, Rs.bind, mAnd, mOr, mNot, mB, mTr, toB, mOp, mVar, mC, mNeg, mCons, mNil, mFn, mBl, mTup, mCall, mIf, gName', gDo, gSub', List.map, List.length, List.replicate, List.cons_append, List.nil_append, List.append_nil, List.getElem?_cons_succ, List.getElem?_cons_zero, List.set_cons_zero, List.set_cons_succ, if_true, Bool.not_true, Bool.not_false, Bool.true_eq_false, Bool.false_eq_true, if_false, Nat.reduceAdd, Nat.reduceSub, runOf, outOf, q2]
  · have q2 := word3 st
    unfold r_is_item m_is_item
    generalize r_is_word = f2 at q2 ⊢
    simp only [sSeq, sIf, sAsg, sRet, sExpr, sNx, Rs.to, Rs.bind, mAnd, mOr, mNot, mB, mTr, toB, mOp, mVar, mC, mNeg, mCons, mNil, mFn, mBl, mTup, mCall, mIf, gName', gDo, gSub', List.map, List.length, List.replicate, List.cons_append, List.nil_append, List.append_nil, List.getElem?_cons_succ, List.getElem?_cons_zero, List.set_cons_zero, List.set_cons_succ, if_true, Bool.not_true, Bool.not_false, Bool.true_eq_false, Bool.false_eq_true, if_false, Nat.reduceAdd, Nat.reduceSub, runOf, outOf, q2]
theorem blsOf_rep : ∀ n : Nat, blsOf (List.replicate n (W.bl true)) = some (List.replicate n true)
  | 0 => rfl
  | n + 1 => by simp [List.replicate_succ, blsOf, blsOf_rep n]
theorem isi_tup (xs : List W) (st : Sto) : fIsi x_own [.tup xs, .ty "tuple"] st = .ok (.bl true) st := rfl
theorem len_tup (xs : List W) (st : Sto) : fLen [.tup xs] st = .ok (.int xs.length) st := rfl
theorem row1 {w : W} (h : Cont w) (st : Sto) : r_is_row [.int 0, .int 40, w] st = .ok (.bl true) st := by
  obtain ⟨xs, rfl, h1, h2⟩ := h
  obtain ⟨ws, st', q, k1, k2⟩ := comp_fix (xs := xs) (t := .one 3) (cond := mYes) (elt := mCall r_is_item (mCons (mVar 3) (mNil))) (env := [some (.int 0), some (.int 40), some (.tup xs), none]) (st := st)
    (fun i acc s => s = st ∧ acc = List.replicate i (W.bl true)) (fun i hi acc s z => by
      obtain ⟨rfl, rfl⟩ := z
      have q := item1 (h2 xs[i] (List.getElem_mem hi)) s
      refine ⟨_, .bl true, s, rfl, rfl, ?_, by simp only [List.length_replicate, sizeLine]; omega, rfl, by rw [List.replicate_succ']⟩
      generalize r_is_item = f at q ⊢
      simp only [sSeq, sIf, sAsg, sRet, sExpr, sNx, Rs.to, Rs.bind, mAnd, mOr, mNot, mB, mTr, toB, mOp, mVar, mC, mNeg, mCons, mNil, mFn, mBl, mTup, mCall, mIf, gName', gDo, gSub', List.map, List.length, List.replicate, List.cons_append, List.nil_append, List.append_nil, List.getElem?_cons_succ, List.getElem?_cons_zero, List.set_cons_zero, List.set_cons_succ, if_true, Bool.not_true, Bool.not_false, Bool.true_eq_false, Bool.false_eq_true, if_false, Nat.reduceAdd, Nat.reduceSub, q]) ⟨rfl, rfl⟩
  subst k1
  subst k2
  have c1 : (0 : Int) ≤ (xs.length : Int) := by omega
  have c2 : (xs.length : Int) ≤ 40 := by omega
  have al : fAll [.lst (List.replicate xs.length (W.bl true))] st' = .ok (.bl true) st' := by
    simp only [fAll, seqL, blsOf_rep]
    simp
  have hw : wipeW [some (W.int 0), some (.int 40), some (.tup xs), none] [3] = [some (.int 0), some (.int 40), some (.tup xs), none] := rfl
  have hc : mComp true (iT (mVar 2)) [3] (.one 3) mYes (mCall r_is_item (mCons (mVar 3) (mNil))) [some (W.int 0), some (.int 40), some (.tup xs), none] st' = .ok (.lst (List.replicate xs.length (W.bl true))) st' := by
    simp only [sSeq, sIf, sAsg, sRet, sExpr, sNx, Rs.to, Rs.bind, mAnd, mOr, mNot, mB, mTr, toB, mOp, mVar, mC, mNeg, mCons, mNil, mFn, mBl, mTup, mCall, mIf, gName', gDo, gSub', List.map, List.length, List.replicate, List.cons_append, List.nil_append, List.append_nil, List.getElem?_cons_succ, List.getElem?_cons_zero, List.set_cons_zero, List.set_cons_succ, if_true, Bool.not_true, Bool.not_false, Bool.true_eq_false, Bool.false_eq_true, if_false, Nat.reduceAdd, Nat.reduceSub, mComp, iT, hw, q, newL]
  unfold r_is_row m_is_row
  generalize mComp _ _ _ _ _ _ = mc at hc ⊢
  simp only [sSeq, sIf, sAsg, sRet, sExpr, sNx, Rs.to, Rs.bind, mAnd, mOr, mNot, mB, mTr, toB, mOp, mVar, mC, mNeg, mCons, mNil, mFn, mBl, mTup, mCall, mIf, gName', gDo, gSub', List.map, List.length, List.replicate, List.cons_append, List.nil_append, List.append_nil, List.getElem?_cons_succ, List.getElem?_cons_zero, List.set_cons_zero, List.set_cons_succ, if_true, Bool.not_true, Bool.not_false, Bool.true_eq_false, Bool.false_eq_true, if_false, Nat.reduceAdd, Nat.reduceSub, runOf, outOf, isi_tup, trW, mChain, len_tup, cmp_i, c1, c2, decide_true, hc, al]
theorem content2 {w : W} (h : Cont w) (st : Sto) : r_is_content [w] st = .ok (.bl true) st := by
  have q := row1 h st
  unfold r_is_content m_is_content
  generalize r_is_row = f at q ⊢
  simp only [sSeq, sIf, sAsg, sRet, sExpr, sNx, Rs.to, Rs.bind, mAnd, mOr, mNot, mB, mTr, toB, mOp, mVar, mC, mNeg, mCons, mNil, mFn, mBl, mTup, mCall, mIf, gName', gDo, gSub', List.map, List.length, List.replicate, List.cons_append, List.nil_append, List.append_nil, List.getElem?_cons_succ, List.getElem?_cons_zero, List.set_cons_zero, List.set_cons_succ, if_true, Bool.not_true, Bool.not_false, Bool.true_eq_false, Bool.false_eq_true, if_false, Nat.reduceAdd, Nat.reduceSub, runOf, outOf, q]
theorem set_at {st : Sto} {a x : Nd} {t : List Nd} : (st ++ (a :: t)).set st.length x = st ++ (x :: t) := by simp [List.set_append]
theorem get_at0 {st : Sto} {a : Nd} {t : List Nd} : (st ++ (a :: t))[st.length]? = some a := by simp
/-- a new disk -/
theorem make1 (st : Sto) {B : Nat} (h1 : 16 ≤ B) (h2 : B ≤ 18) : r_Disk_init [.ref st.length, .int B] (st ++ [.ins 0 []]) = .ok .non (st ++ [DiskN (st.length + 1) (st.length + 2) 0, .lst (List.replicate B (.tup [])), .dk []]) := by
  have w := within_i 16 600 B (st ++ [.ins 0 []])
  rw [decide_eq_true (show (16 : Int) ≤ B by omega), decide_eq_true (show (B : Int) ≤ 600 by omega)] at w
  have m : wMul false (.lst [.tup []]) (.int B) (st ++ [.ins 0 []]) = .ok (.ref (st.length + 1)) (st ++ [.ins 0 [], .lst (List.replicate B (.tup []))]) := by
    have c : (B : Int).natAbs < 2 ^ 63 ∧ [W.tup []].length * (B : Int).toNat ≤ sizeLine := by
      refine ⟨by omega, ?_⟩
      show 1 * (B : Int).toNat ≤ 2 ^ 24
      omega
    show (if (B : Int).natAbs < 2 ^ 63 ∧ [W.tup []].length * (B : Int).toNat ≤ sizeLine then newL false (List.replicate (B : Int).toNat [W.tup []]).flatten (st ++ [.ins 0 []]) else .stuck) = _
    rw [if_pos c, Int.toNat_natCast, List.flatten_replicate_singleton]
    simp [newL]
  have e1 : ∀ (fs : List (Str × W)) (f : Str) (v : W) (t : List Nd), fs.length < 1000 → wSetF [0] f (.ref st.length) v (st ++ (.ins 0 fs :: t)) = some (st ++ (.ins 0 (putW f v fs) :: t)) := by
    intro fs f v t hf
    simp only [wSetF, get_at0, set_at]
    simp [hf]
  have d0 : ∀ (a b : Nd), mDict0 [some (W.ref st.length), some (.int B)] (st ++ [a, b]) = .ok (.ref (st.length + 2)) (st ++ [a, b, .dk []]) := by
    intro a b
    simp [mDict0]
  have p1 : putW ("contents" : Str) (.ref (st.length + 1)) [] = ([("contents", .ref (st.length + 1))] : List (Str × W)) := rfl
  have p2 : putW ("cached" : Str) (.ref (st.length + 2)) [("contents", .ref (st.length + 1))] = ([("contents", .ref (st.length + 1)), ("cached", .ref (st.length + 2))] : List (Str × W)) := rfl
  have p3 : putW ("left" : Str) .non [("contents", .ref (st.length + 1)), ("cached", .ref (st.length + 2))] = ([("contents", .ref (st.length + 1)), ("cached", .ref (st.length + 2)), ("left", .non)] : List (Str × W)) := rfl
  have p4 : putW ("arrived" : Str) (.int 0) [("contents", .ref (st.length + 1)), ("cached", .ref (st.length + 2)), ("left", .non)] = ([("contents", .ref (st.length + 1)), ("cached", .ref (st.length + 2)), ("left", .non), ("arrived", .int 0)] : List (Str × W)) := rfl
  have s1 := e1 [] "contents" (.ref (st.length + 1)) [.lst (List.replicate B (.tup []))] (by simp)
  have s2 := e1 [("contents", .ref (st.length + 1))] "cached" (.ref (st.length + 2)) [.lst (List.replicate B (.tup [])), .dk []] (by simp)
  have s3 := e1 [("contents", .ref (st.length + 1)), ("cached", .ref (st.length + 2))] "left" .non [.lst (List.replicate B (.tup [])), .dk []] (by simp)
  have s4 := e1 [("contents", .ref (st.length + 1)), ("cached", .ref (st.length + 2)), ("left", .non)] "arrived" (.int 0) [.lst (List.replicate B (.tup [])), .dk []] (by simp)
  rw [p1] at s1
  rw [p2] at s2
  rw [p3] at s3
  rw [p4] at s4
  unfold r_Disk_init m_Disk_init
  generalize r_is_within = f1 at w ⊢
  simp only [sSeq, sIf, sAsg, sRet, sExpr, sNx, Rs.to, Rs.bind, mAnd, mOr, mNot, mB, mTr, toB, mOp, mVar, mC, mNeg, mCons, mNil, mFn, mBl, mTup, mCall, mIf, gName', gDo, gSub', List.map, List.length, List.replicate, List.cons_append, List.nil_append, List.append_nil, List.getElem?_cons_succ, List.getElem?_cons_zero, List.set_cons_zero, List.set_cons_succ, if_true, Bool.not_true, Bool.not_false, Bool.true_eq_false, Bool.false_eq_true, if_false, Nat.reduceAdd, Nat.reduceSub, runOf, outOf, w, Bool.and_self, trW, sFld', mLst, newL, m, s1, d0, s2, s3, s4]
theorem new1 (st : Sto) {B : Nat} (h1 : 16 ≤ B) (h2 : B ≤ 18) : DSt (st ++ [DiskN (st.length + 1) (st.length + 2) 0, .lst (List.replicate B (.tup [])), .dk []]) [st.length, st.length + 1, st.length + 2] st.length B (fun _ => []) (fun _ => 0) 0 (st.length + 1) (st.length + 2) (List.replicate B (.tup [])) [] where
  hd := get_at0
  hc := by simp
  hk := by simp [kvL]
  dc := by omega
  dk := by omega
  ck := by omega
  od := by simp
  oc := by simp
  ok := by simp
  lenC := by simp
  valC := fun b hb => by simp [hb, valW]
  cle := fun b => by simp
  nk := List.nodup_nil
  nr := List.nodup_nil
  ent := fun p hp => by simp at hp
  all := fun b hb => by simp at hb
  hB := h2
  hr := fun b => by simp
def rowOf (ws : List (Int × W)) (b : Int) : List W := (ws.filter fun p => decide (p.1 = b)).map (·.2)
theorem rowOf_len (ws : List (Int × W)) (b : Int) : (rowOf ws b).length ≤ ws.length := by
  simp only [rowOf, List.length_map]
  exact List.length_filter_le ..
theorem rowOf_take {ws : List (Int × W)} {i : Nat} (h : i < ws.length) : rowOf (ws.take (i + 1)) = fun x => if x = ws[i].1 then rowOf (ws.take i) x ++ [ws[i].2] else rowOf (ws.take i) x := by
  funext x
  rw [← List.take_append_getElem h]
  simp only [rowOf, List.filter_append, List.map_append]
  by_cases g : x = ws[i].1
  · subst g
    simp
  · simp [g, Ne.symm g]
def wrW (ws : List (Int × W)) : List W := ws.map fun p => .tup [.int p.1, p.2]
structure Disk (st : Sto) (lo d B : Nat) (row : Int → List W) (cnt : Int → Nat) (n : Int) : Prop where
  ex : ∃ own c k C L, DSt st own d B row cnt n c k C L ∧ ∀ j ∈ own, lo ≤ j ∧ j < st.length
theorem written1 {st : Sto} {B : Nat} (h1 : 16 ≤ B) (h2 : B ≤ 18) {ws : List (Int × W)} (hl : ws.length ≤ 12) (hw : ∀ p ∈ ws, 0 ≤ p.1 ∧ p.1 < B ∧ Cont p.2) :
    ∃ st', r_law_written [.int B, .lst (wrW ws)] st = .ok (.ref st.length) st' ∧ st.length ≤ st'.length ∧ (∀ j, j < st.length → st'[j]? = st[j]?) ∧ Disk st' st.length st.length B (rowOf ws) (fun _ => 0) 0 := by
  obtain ⟨env', st', q, ⟨x, y, rfl⟩, k1, k2, ⟨own, c, k, C, L, D, k3⟩⟩ := for_fix (xs := wrW ws) (g := gTup' [gName' 3, gName' 4]) (body := sExpr (mMeth [(0, r_Disk_write)] "write" (mVar 2) (mCons (mVar 3) (mCons (mVar 4) (mNil))))) (env := [some (.int B), some (.lst (wrW ws)), some (.ref st.length), none, none]) (st := st ++ [DiskN (st.length + 1) (st.length + 2) 0, .lst (List.replicate B (.tup [])), .dk []])
    (fun i env s => (∃ x y, env = [some (.int B), some (.lst (wrW ws)), some (.ref st.length), x, y]) ∧ st.length ≤ s.length ∧ (∀ j, j < st.length → s[j]? = st[j]?) ∧ Disk s st.length st.length B (rowOf (ws.take i)) (fun _ => 0) 0) (fun i hi env s z => by
      obtain ⟨⟨x, y, rfl⟩, z1, z2, ⟨own, c, k, C, L, D, z3⟩⟩ := z
      have hi' : i < ws.length := by simpa [wrW] using hi
      have hx : (wrW ws)[i] = .tup [.int ws[i].1, ws[i].2] := by simp [wrW]
      obtain ⟨g1, g2, g3⟩ := hw ws[i] (List.getElem_mem hi')
      have hr : (rowOf (ws.take i) ws[i].1).length < 64 := by
        have := rowOf_len (ws.take i) ws[i].1
        simp only [List.length_take] at this
        omega
      obtain ⟨s', L', q, e1, e2, D'⟩ := write1 D (fun j hj => (z3 j hj).2) g1 g2 (fun s => content2 g3 s) hr
      rw [hx]
      refine ⟨[some (.int B), some (.lst (wrW ws)), some (.ref st.length), some (.int ws[i].1), some ws[i].2], s, _, s', rfl, ?_, ⟨some (.int ws[i].1), some ws[i].2, rfl⟩, by omega, fun j hj => ?_, ⟨_, _, _, _, _, by rw [rowOf_take hi']; exact D', fun j hj => ?_⟩⟩
      · have e := D.hd
        generalize r_Disk_write = f at q ⊢
        simp only [sSeq, sIf, sAsg, sRet, sExpr, sNx, Rs.to, Rs.bind, mAnd, mOr, mNot, mB, mTr, toB, mOp, mVar, mC, mNeg, mCons, mNil, mFn, mBl, mTup, mCall, mIf, gName', gDo, gSub', List.map, List.length, List.replicate, List.cons_append, List.nil_append, List.append_nil, List.getElem?_cons_succ, List.getElem?_cons_zero, List.set_cons_zero, List.set_cons_succ, if_true, Bool.not_true, Bool.not_false, Bool.true_eq_false, Bool.false_eq_true, if_false, Nat.reduceAdd, Nat.reduceSub, mMeth, mFld, lk_c, lk_k, lk_l, lk_a, no_0, no_1, no_2, no_3, no_4, no_5, no_6, no_7, no_8, no_9, lk_tb, cont0, runOf, outOf, e, q]
      · rw [e2 j (by omega) (fun h => by have := (z3 j h).1; omega)]
        exact z2 j hj
      · rcases List.mem_cons.mp hj with rfl | hj
        · omega
        · have := z3 j hj
          omega)
    ⟨⟨_, _, rfl⟩, by simp, fun j hj => get_lt hj, ⟨_, _, _, _, _, by exact new1 st h1 h2, fun j hj => by
      simp at hj
      simp
      omega⟩⟩
  have hlw : (wrW ws).length = ws.length := by simp [wrW]
  rw [hlw, List.take_length] at D
  refine ⟨st', ?_, k1, k2, ⟨own, c, k, C, L, D, k3⟩⟩
  have m := make1 st h1 h2
  unfold r_law_written m_law_written
  generalize r_Disk_init = f1 at m ⊢
  have hq : sFor (iL (mVar 1)) (gTup' [gName' 3, gName' 4]) (sExpr (mMeth [(0, r_Disk_write)] "write" (mVar 2) (mCons (mVar 3) (mCons (mVar 4) (mNil))))) [some (.int B), some (.lst (wrW ws)), some (.ref st.length), none, none] (st ++ [DiskN (st.length + 1) (st.length + 2) 0, .lst (List.replicate B (.tup [])), .dk []]) = .nx [some (.int B), some (.lst (wrW ws)), some (.ref st.length), x, y] st' := by
    simp only [sFor, iL]
    exact q
  generalize sFor _ _ _ = f2 at hq ⊢
  simp only [sSeq, sIf, sAsg, sRet, sExpr, sNx, Rs.to, Rs.bind, mAnd, mOr, mNot, mB, mTr, toB, mOp, mVar, mC, mNeg, mCons, mNil, mFn, mBl, mTup, mCall, mIf, gName', gDo, gSub', List.map, List.length, List.replicate, List.cons_append, List.nil_append, List.append_nil, List.getElem?_cons_succ, List.getElem?_cons_zero, List.set_cons_zero, List.set_cons_succ, if_true, Bool.not_true, Bool.not_false, Bool.true_eq_false, Bool.false_eq_true, if_false, Nat.reduceAdd, Nat.reduceSub, runOf, outOf, mMake, m, hq]
end Lw
namespace Lw
open PySem L2 Mi
theorem itemD {w : W} (h : Item w) (st : Sto) : ∃ d, toD st w = some d ∧ d.canLay0 = true ∧ d.depth = 0 := by
  rcases h with ⟨i, rfl, _, _⟩ | rfl | rfl | rfl
  · exact ⟨.int i, rfl, rfl, rfl⟩
  · exact ⟨.str "", rfl, by decide +kernel, rfl⟩
  · exact ⟨.str "a", rfl, by decide +kernel, rfl⟩
  · exact ⟨.str "abcdefghijkl", rfl, by decide +kernel, rfl⟩
theorem dataD {k : Nat} {st : Sto} : ∀ {xs : List W}, (∀ x ∈ xs, ∃ d, toD st x = some d ∧ d.canLay0 = true ∧ d.depth ≤ k) → ∃ ds, toDs st xs = some ds ∧ PyData.canLayAll0 ds = true ∧ PyData.depthAll ds ≤ k
  | [], _ => ⟨[], by simp [toDs], rfl, by simp [PyData.depthAll]⟩
  | x :: xs, h => by
    obtain ⟨d, h1, h2, h3⟩ := h x (by simp)
    obtain ⟨ds, k1, k2, k3⟩ := dataD (xs := xs) fun y hy => h y (by simp [hy])
    exact ⟨d :: ds, by simp [toDs, h1, k1], by simp [PyData.canLayAll0, h2, k2], by simp only [PyData.depthAll]; omega⟩
theorem contD {w : W} (h : Cont w) (st : Sto) : ∃ d, toD st w = some d ∧ d.canLay0 = true ∧ d.depth ≤ 1 := by
  obtain ⟨xs, rfl, _, h2⟩ := h
  obtain ⟨ds, k1, k2, k3⟩ := dataD (k := 0) (st := st) (xs := xs) fun x hx => by
    obtain ⟨d, a, b, c⟩ := itemD (h2 x hx) st
    exact ⟨d, a, b, by omega⟩
  exact ⟨.tuple ds, by simp [toD, k1], by simp only [PyData.canLay0]; exact k2, by simp only [PyData.depth]; omega⟩
theorem eq_data {w : W} {st : Sto} {d : PyData} (hs : scalV w = none) (h : toD st w = some d) (h2 : d.canLay0 = true) (h3 : d.depth ≤ 64) : eqW st w w = some true := by
  have sh : SeqAt.shaped d = true := by simp [SeqAt.shaped, h2, h3]
  simp only [eqW, hs, h, sh, Bool.and_self, if_true, SeqAt.eqv_refl d h2]
theorem cont_scal {w : W} (h : Cont w) : scalV w = none := by
  obtain ⟨xs, rfl, _⟩ := h
  rfl
theorem ne_same {w : W} (h : Cont w) (st : Sto) : wNe w w st = .ok (.bl false) st := by
  obtain ⟨d, h1, h2, h3⟩ := contD h st
  simp only [wNe, eq_data (cont_scal h) h1 h2 (by omega), Bool.not_true]
theorem cont_nil : Cont (.tup []) := ⟨[], rfl, by simp, by simp⟩
theorem valW_cont {row : List W} (h : ∀ w ∈ row, Cont w) (k : Nat) : Cont (valW row k) := by
  cases k with
  | zero => exact cont_nil
  | succ k =>
    simp only [valW, List.getD]
    cases e : row[k]? with
    | none => exact cont_nil
    | some w => exact h w (List.mem_of_getElem? e)
def rowsN (bs : List Int) (row : Int → List W) : List (Key × W) := bs.map fun b => (Sum.inl b, W.lst (row b))

def lb0 : MS := sAsg (mIf (mB (mOp (wCmpS (fun i j => decide (j.cps.toList < i.cps.toList)) (fun i j => decide (j < i))) (mOp wIx (mVar 2) (mVar 3)) (mC (.int 0)))) (mOp wIx (mVar 4) (mOp (wSub) (mOp wIx (mVar 2) (mVar 3)) (mC (.int 1)))) (mTup (mNil))) (gName' 5)
def lb1 : MS := sIf (mOr (mB (mOp (wNe) (mMeth [(0, r_Disk_lying)] "lying" (mVar 0) (mCons (mVar 3) (mNil))) (mVar 5))) (mB (mOp (wNe) (mDget2 (mMeth [(0, r_Disk_waiting)] "waiting" (mVar 0) mNil) (mVar 3) (mC (.int 0))) (mOp (wSub) (mFn fLen (mCons (mVar 4) (mNil))) (mOp wIx (mVar 2) (mVar 3)))))) (sRet (mC (.bl false))) (sNx)
def lb2 : MS := sIf (mB (mOp (wNe) (mMeth [(0, r_Disk_read)] "read" (mVar 0) (mCons (mVar 3) (mNil))) (mOp wIx (mVar 4) (mNeg (mC (.int 1)))))) (sRet (mC (.bl false))) (sNx)
theorem lies_split : m_law_lies = sSeq (sLock (mVar 1) (sFor (iKv (mVar 1)) (gTup' [gName' 3, gName' 4]) (sSeq lb0 (sSeq lb1 lb2)))) (sRet (mC (.bl true))) := rfl
theorem row_last {row : List W} (h : row ≠ []) (st : Sto) : wIx (.lst row) (.int (-1)) st = .ok (valW row row.length) st := by
  obtain ⟨m, hm⟩ : ∃ m, row.length = m + 1 := ⟨row.length - 1, by have := List.length_pos_iff.mpr h; omega⟩
  have a1 : ¬ (0 : Int) ≤ -1 := by omega
  have a2 : -(row.length : Int) ≤ -1 := by omega
  have a3 : (-1 + (row.length : Int)).toNat = m := by omega
  have a5 : m < row.length := by omega
  have x1 : ixN row.length (-1) = some m := by simp only [ixN, if_neg a1, if_pos a2, a3]
  simp only [wIx, dkOf, seqL, wNth, atI, x1, Option.bind_some]
  rw [hm]
  simp [valW, List.getD, a5]
section
variable {st : Sto} {own : List Nat} {d B : Nat} {row : Int → List W} {cnt : Int → Nat} {n : Int} {c k : Nat} {C : List W} {L : List (Int × Nat)}
theorem lies1 (D : DSt st own d B row cnt n c k C L) (ho : ∀ j ∈ own, j < st.length) {rn cn : Nat} {bs : List Int} {E : List (Key × W)} (hR : st[rn]? = some (.dk (rowsN bs row))) (hE : st[cn]? = some (.dk E)) (rno : rn ∉ own) (cno : cn ∉ own) (rc : rn ≠ cn)
    (hb : ∀ b ∈ bs, 0 ≤ b ∧ b < B ∧ row b ≠ [] ∧ lkW E (.inl b) = some (.int (cnt b))) (hC : ∀ b, ∀ w ∈ row b, Cont w) :
    ∃ st', r_law_lies [.ref d, .ref rn, .ref cn] st = .ok (.bl true) st' ∧ st.length ≤ st'.length ∧ ∀ j, j < st.length → st'[j]? = st[j]? := by
  have lr := lt_of hR
  have lc := lt_of hE
  have hlk : (st.set rn (.lk (rowsN bs row)))[rn]? = some (.lk (rowsN bs row)) := get_set hR
  have lkof : lkOf (st.set rn (.lk (rowsN bs row))) (.ref rn) = some (rn, rowsN bs row) := by simp only [lkOf, hlk]
  obtain ⟨env', st', q, ⟨x, y, z, rfl⟩, k1, k2⟩ := for_fix (xs := (rowsN bs row).map fun p => .tup [keyW p.1, p.2]) (g := gTup' [gName' 3, gName' 4]) (body := sSeq lb0 (sSeq lb1 lb2)) (env := [some (.ref d), some (.ref rn), some (.ref cn), none, none, none]) (st := st.set rn (.lk (rowsN bs row)))
    (fun i env s => (∃ x y z, env = [some (.ref d), some (.ref rn), some (.ref cn), x, y, z]) ∧ st.length ≤ s.length ∧ ∀ j, j < st.length → s[j]? = (st.set rn (.lk (rowsN bs row)))[j]?) (fun i hi env s z => by
      obtain ⟨⟨x, y, z, rfl⟩, z1, z2⟩ := z
      have hi' : i < bs.length := by simpa [rowsN] using hi
      have hx : ((rowsN bs row).map fun p => W.tup [keyW p.1, p.2])[i] = .tup [.int bs[i], .lst (row bs[i])] := by simp [rowsN, keyW]
      obtain ⟨g1, g2, g3, g4⟩ := hb bs[i] (List.getElem_mem hi')
      rw [hx]
      generalize bs[i] = b at g1 g2 g3 g4
      have fr : ∀ j ∈ own, s[j]? = st[j]? := fun j hj => by
        rw [z2 j (ho j hj), get_ne (fun z => rno (by rw [z]; exact hj))]
      have D1 := D.frame fr
      have hE1 : s[cn]? = some (.dk E) := by rw [z2 cn lc, get_ne rc]; exact hE
      have dE : dkOf s (.ref cn) = some E := by simp only [dkOf, hE1]
      have cx : wIx (.ref cn) (.int b) s = .ok (.int (cnt b)) s := by simp only [wIx, dE, keyi, g4]
      have cv : Cont (valW (row b) (cnt b)) := valW_cont (hC b) _
      have ql := lying1 D1 g1 g2
      obtain ⟨E2, qw, w2, _⟩ := waiting1 D1
      have fr2 : ∀ j ∈ own, (s ++ [Nd.dk E2])[j]? = s[j]? := fun j hj => get_lt (by have := ho j hj; omega)
      have D2 := D1.frame fr2
      have qr := read1 D2 g1 g2
      have dE2 : dkOf (s ++ [Nd.dk E2]) (.ref s.length) = some E2 := by simp [dkOf]
      have dE2s : (dkOf (s ++ [Nd.dk E2]) (.ref s.length)).isSome = true := by rw [dE2]; rfl
      have dE3 : dkOf (s ++ [Nd.dk E2]) (.ref cn) = some E := by simp only [dkOf, get_app hE1]
      have cx2 : wIx (.ref cn) (.int b) (s ++ [Nd.dk E2]) = .ok (.int (cnt b)) (s ++ [Nd.dk E2]) := by simp only [wIx, dE3, keyi, g4]
      have hd := D1.hd
      have hd2 := D2.hd
      have nl := ne_same cv s
      have nr := ne_same (valW_cont (hC b) (row b).length) (s ++ [Nd.dk E2])
      have rl := row_last g3 (s ++ [Nd.dk E2])
      have due : lb0 [some (.ref d), some (.ref rn), some (.ref cn), some (.int b), some (.lst (row b)), z] s = .nx [some (.ref d), some (.ref rn), some (.ref cn), some (.int b), some (.lst (row b)), some (valW (row b) (cnt b))] s := by
        unfold lb0
        rcases Nat.eq_zero_or_pos (cnt b) with e | e
        · rw [e] at cx ⊢
          have c1 : ¬ (0 : Int) < ((0 : Nat) : Int) := by omega
          simp only [sSeq, sIf, sAsg, sRet, sExpr, sNx, Rs.to, Rs.bind, mAnd, mOr, mNot, mB, mTr, toB, mOp, mVar, mC, mNeg, mCons, mNil, mFn, mBl, mTup, mCall, mIf, gName', gDo, gSub', List.map, List.length, List.replicate, List.cons_append, List.nil_append, List.append_nil, List.getElem?_cons_succ, List.getElem?_cons_zero, List.set_cons_zero, List.set_cons_succ, if_true, Bool.not_true, Bool.not_false, Bool.true_eq_false, Bool.false_eq_true, if_false, Nat.reduceAdd, Nat.reduceSub, cx, cmp_i, c1, decide_false]
          rfl
        · obtain ⟨m, hm⟩ : ∃ m, cnt b = m + 1 := ⟨cnt b - 1, by omega⟩
          have c1 : (0 : Int) < (cnt b : Int) := by omega
          have hml : m < (row b).length := by have := D.cle b; omega
          have i1 : wIx (.lst (row b)) (.int ((cnt b : Int) - 1)) s = .ok (valW (row b) (cnt b)) s := by
            rw [hm, show (((m + 1 : Nat) : Int) - 1) = ((m : Nat) : Int) by omega]
            simp only [wIx, dkOf, seqL]
            rw [nth_nat (w := (row b)[m]) (by simp [hml])]
            simp [valW, List.getD, hml]
          simp only [sSeq, sIf, sAsg, sRet, sExpr, sNx, Rs.to, Rs.bind, mAnd, mOr, mNot, mB, mTr, toB, mOp, mVar, mC, mNeg, mCons, mNil, mFn, mBl, mTup, mCall, mIf, gName', gDo, gSub', List.map, List.length, List.replicate, List.cons_append, List.nil_append, List.append_nil, List.getElem?_cons_succ, List.getElem?_cons_zero, List.set_cons_zero, List.set_cons_succ, if_true, Bool.not_true, Bool.not_false, Bool.true_eq_false, Bool.false_eq_true, if_false, Nat.reduceAdd, Nat.reduceSub, cx, cmp_i, c1, decide_true, sub_i, i1]
      have nz : wNe ((lkW E2 (.inl b)).getD (.int 0)) (.int (((row b).length : Int) - (cnt b : Int))) (s ++ [Nd.dk E2]) = .ok (.bl false) (s ++ [Nd.dk E2]) := by
        rw [w2 b, ne_i]
        simp
      have two : lb1 [some (.ref d), some (.ref rn), some (.ref cn), some (.int b), some (.lst (row b)), some (valW (row b) (cnt b))] s = .nx [some (.ref d), some (.ref rn), some (.ref cn), some (.int b), some (.lst (row b)), some (valW (row b) (cnt b))] (s ++ [Nd.dk E2]) := by
        unfold lb1
        generalize r_Disk_lying = f1 at ql ⊢
        generalize r_Disk_waiting = f2 at qw ⊢
        simp only [sSeq, sIf, sAsg, sRet, sExpr, sNx, Rs.to, Rs.bind, mAnd, mOr, mNot, mB, mTr, toB, mOp, mVar, mC, mNeg, mCons, mNil, mFn, mBl, mTup, mCall, mIf, gName', gDo, gSub', List.map, List.length, List.replicate, List.cons_append, List.nil_append, List.append_nil, List.getElem?_cons_succ, List.getElem?_cons_zero, List.set_cons_zero, List.set_cons_succ, if_true, Bool.not_true, Bool.not_false, Bool.true_eq_false, Bool.false_eq_true, if_false, Nat.reduceAdd, Nat.reduceSub, mMeth, mFld, lk_c, lk_k, lk_l, lk_a, no_0, no_1, no_2, no_3, no_4, no_5, no_6, no_7, no_8, no_9, lk_tb, cont0, runOf, outOf, hd, ql, nl, mDget2, qw, dE2, Option.isSome_some, keyi, len_l, cx2, sub_i, nz]
      have three : lb2 [some (.ref d), some (.ref rn), some (.ref cn), some (.int b), some (.lst (row b)), some (valW (row b) (cnt b))] (s ++ [Nd.dk E2]) = .nx [some (.ref d), some (.ref rn), some (.ref cn), some (.int b), some (.lst (row b)), some (valW (row b) (cnt b))] (s ++ [Nd.dk E2]) := by
        unfold lb2
        generalize r_Disk_read = f1 at qr ⊢
        simp only [sSeq, sIf, sAsg, sRet, sExpr, sNx, Rs.to, Rs.bind, mAnd, mOr, mNot, mB, mTr, toB, mOp, mVar, mC, mNeg, mCons, mNil, mFn, mBl, mTup, mCall, mIf, gName', gDo, gSub', List.map, List.length, List.replicate, List.cons_append, List.nil_append, List.append_nil, List.getElem?_cons_succ, List.getElem?_cons_zero, List.set_cons_zero, List.set_cons_succ, if_true, Bool.not_true, Bool.not_false, Bool.true_eq_false, Bool.false_eq_true, if_false, Nat.reduceAdd, Nat.reduceSub, mMeth, mFld, lk_c, lk_k, lk_l, lk_a, no_0, no_1, no_2, no_3, no_4, no_5, no_6, no_7, no_8, no_9, lk_tb, cont0, runOf, outOf, hd2, qr, rl, nr]
      refine ⟨[some (.ref d), some (.ref rn), some (.ref cn), some (.int b), some (.lst (row b)), z], s, _, s ++ [Nd.dk E2], rfl, ?_, ⟨some (.int b), some (.lst (row b)), some (valW (row b) (cnt b)), rfl⟩, by simp; omega, fun j hj => ?_⟩
      · simp only [sSeq, due, two, three]
      · rw [get_lt (by omega)]
        exact z2 j hj)
    ⟨⟨_, _, _, rfl⟩, by simp, fun j _ => rfl⟩
  have u0 : st'[rn]? = some (.lk (rowsN bs row)) := by rw [k2 rn lr]; exact hlk
  refine ⟨st'.set rn (.dk (rowsN bs row)), ?_, by simpa using k1, fun j hj => ?_⟩
  · have hq : sFor (iKv (mVar 1)) (gTup' [gName' 3, gName' 4]) (sSeq lb0 (sSeq lb1 lb2)) [some (.ref d), some (.ref rn), some (.ref cn), none, none, none] (st.set rn (.lk (rowsN bs row))) = .nx [some (.ref d), some (.ref rn), some (.ref cn), x, y, z] st' := by
      simp only [sFor, iKv]
      simp only [sSeq, sIf, sAsg, sRet, sExpr, sNx, Rs.to, Rs.bind, mAnd, mOr, mNot, mB, mTr, toB, mOp, mVar, mC, mNeg, mCons, mNil, mFn, mBl, mTup, mCall, mIf, gName', gDo, gSub', List.map, List.length, List.replicate, List.cons_append, List.nil_append, List.append_nil, List.getElem?_cons_succ, List.getElem?_cons_zero, List.set_cons_zero, List.set_cons_succ, if_true, Bool.not_true, Bool.not_false, Bool.true_eq_false, Bool.false_eq_true, if_false, Nat.reduceAdd, Nat.reduceSub, lkof]
      exact q
    have un : unlk rn st' = some (st'.set rn (.dk (rowsN bs row))) := by simp only [unlk, u0]
    have nd : nodD st (.ref rn) = some (rn, rowsN bs row) := by simp only [nodD, hR]
    unfold r_law_lies
    rw [lies_split]
    generalize sFor _ _ _ = f1 at hq ⊢
    simp only [sSeq, sIf, sAsg, sRet, sExpr, sNx, Rs.to, Rs.bind, mAnd, mOr, mNot, mB, mTr, toB, mOp, mVar, mC, mNeg, mCons, mNil, mFn, mBl, mTup, mCall, mIf, gName', gDo, gSub', List.map, List.length, List.replicate, List.cons_append, List.nil_append, List.append_nil, List.getElem?_cons_succ, List.getElem?_cons_zero, List.set_cons_zero, List.set_cons_succ, if_true, Bool.not_true, Bool.not_false, Bool.true_eq_false, Bool.false_eq_true, if_false, Nat.reduceAdd, Nat.reduceSub, runOf, outOf, sLock, nd, hq, unlkS, un]
  · by_cases g : j = rn
    · subst g
      rw [get_set u0, hR]
    · rw [get_ne (Ne.symm g), k2 j hj, get_ne (Ne.symm g)]
end
end Lw
namespace Lw
open PySem L2 Mi
def law0 : MS := sAsg (mCall r_law_hand (mCons (mVar 0) (mNil))) (gName' 1)
def law1 : MS := sAsg (mOp (wAdd true) (mC (.int 16)) (mCall r_law_draw (mCons (mVar 1) (mCons (mC (.int 3)) (mNil))))) (gName' 2)
def law2 : MS := sAsg (mSl true (mLst true (mCons (mC (.int 0)) (mCons (mC (.int 1)) (mCons (mC (.int 2)) (mCons (mOp (wSub) (mVar 2) (mC (.int 1))) (mNil)))))) (mNoPart) (mPart (mOp (wAdd true) (mC (.int 1)) (mCall r_law_draw (mCons (mVar 1) (mCons (mC (.int 4)) (mNil))))))) (gName' 3)
def law3 : MS := sAsg (mComp true (iR1 (mCons (mOp (wAdd true) (mC (.int 1)) (mCall r_law_draw (mCons (mVar 1) (mCons (mC (.int 12)) (mNil))))) (mNil))) [18] (.one 18) (mYes) (mTup (mCons (mCall r_law_any (mCons (mVar 1) (mCons (mVar 3) (mNil)))) (mCons (mCall r_law_content (mCons (mVar 1) (mNil))) (mNil))))) (gName' 4)
def law4 : MS := sAsg (mDict0) (gName' 5)
def law5 : MS := sFor (iL (mVar 4)) (gTup' [gName' 6, gName' 7]) (sAsg (mOp (wAdd true) (mDget2 (mVar 5) (mVar 6) (mLst true (mNil))) (mLst true (mCons (mVar 7) (mNil)))) (gSub' (mVar 5) (mVar 6)))
def law6 : MS := sAsg (mComp true (iR1 (mCons (mC (.int 2)) (mNil))) [18] (.one 18) (mYes) (mCall r_law_mixed (mCons (mVar 1) (mCons (mComp true (iL (mVar 4)) [6, 7] (.tup [6, 7]) (mYes) (mVar 6)) (mNil))))) (gName' 8)
def law7 : MS := sAsg (mLst false (mNil)) (gName' 9)
def law8 : MS := sFor (iL (mVar 8)) (gName' 10) (sSeq (sAsg (mTup (mCons (mCall r_law_written (mCons (mVar 2) (mCons (mVar 4) (mNil)))) (mCons (mFn fDict (mCons (mLock (mVar 5) (mComp true (iK (mVar 5)) [6] (.one 6) (mYes) (mTup (mCons (mVar 6) (mCons (mC (.int 0)) (mNil)))))) (mNil))) (mNil)))) (gTup' [gName' 11, gName' 12])) (sSeq (sIf (mNot (mTr (mCall r_law_lies (mCons (mVar 11) (mCons (mVar 5) (mCons (mVar 12) (mNil))))))) (sRet (mC (.bl false))) (sNx)) (sSeq (sFor (iE (mCons (mVar 10) (mNil))) (gTup' [gName' 13, gName' 6]) (sSeq (sExpr (mMeth [(0, r_Disk_reach)] "reach" (mVar 11) (mCons (mVar 6) (mNil)))) (sSeq (sAsg (mOp (wAdd true) (mOp wIx (mVar 12) (mVar 6)) (mC (.int 1))) (gSub' (mVar 12) (mVar 6))) (sIf (mOr (mNot (mTr (mCall r_law_lies (mCons (mVar 11) (mCons (mVar 5) (mCons (mVar 12) (mNil))))))) (mB (mOp (wNe) (mMeth [(0, r_Disk_reached)] "reached" (mVar 11) mNil) (mOp (wAdd true) (mVar 13) (mC (.int 1)))))) (sRet (mC (.bl false))) (sNx))))) (sExpr (mLm fAppend (mVar 9) (mCons (mComp true (iR1 (mCons (mVar 2) (mNil))) [6] (.one 6) (mYes) (mMeth [(0, r_Disk_lying)] "lying" (mVar 11) (mCons (mVar 6) (mNil)))) (mNil)))))))
def law9 : MS := sFor (iR1 (mCons (mOp (wAdd true) (mFn fLen (mCons (mVar 4) (mNil))) (mC (.int 1))) (mNil))) (gName' 14) (sSeq (sAsg (mCall r_law_written (mCons (mVar 2) (mCons (mVar 4) (mNil)))) (gName' 11)) (sSeq (sFor (iL (mSl true (mOp wIx (mVar 8) (mC (.int 0))) (mNoPart) (mPart (mVar 14)))) (gName' 6) (sExpr (mMeth [(0, r_Disk_reach)] "reach" (mVar 11) (mCons (mVar 6) (mNil))))) (sSeq (sExpr (mMeth [(0, r_Disk_cut)] "cut" (mVar 11) mNil)) (sSeq (sLock (mVar 5) (sFor (iKv (mVar 5)) (gTup' [gName' 6, gName' 15]) (sSeq (sAsg (mLm fCount (mSl true (mOp wIx (mVar 8) (mC (.int 0))) (mNoPart) (mPart (mVar 14))) (mCons (mVar 6) (mNil))) (gName' 16)) (sSeq (sAsg (mIf (mB (mOp (wCmpS (fun i j => decide (j.cps.toList < i.cps.toList)) (fun i j => decide (j < i))) (mVar 16) (mC (.int 0)))) (mOp wIx (mVar 15) (mOp (wSub) (mVar 16) (mC (.int 1)))) (mTup (mNil))) (gName' 17)) (sIf (mOr (mB (mOp (wNe) (mMeth [(0, r_Disk_lying)] "lying" (mVar 11) (mCons (mVar 6) (mNil))) (mVar 17))) (mB (mOp (wNe) (mMeth [(0, r_Disk_read)] "read" (mVar 11) (mCons (mVar 6) (mNil))) (mVar 17)))) (sRet (mC (.bl false))) (sNx)))))) (sIf (mOr (mB (mOp (wEqD false) (mMeth [(0, r_Disk_waiting)] "waiting" (mVar 11) mNil) (mDict0))) (mB (mOp (wNe) (mMeth [(0, r_Disk_reached)] "reached" (mVar 11) mNil) (mVar 14)))) (sRet (mC (.bl false))) (sNx))))))
def law10 : MS := sRet (mOp (wEq) (mOp wIx (mVar 9) (mC (.int 0))) (mOp wIx (mVar 9) (mC (.int 1))))
theorem law_split : m_law = sSeq law0 (sSeq law1 (sSeq law2 (sSeq law3 (sSeq law4 (sSeq law5 (sSeq law6 (sSeq law7 (sSeq law8 (sSeq law9 (law10)))))))))) := rfl
abbrev E19 (a0 a1 a2 a3 a4 a5 a6 a7 a8 a9 a10 a11 a12 a13 a14 a15 a16 a17 a18 : Option W) : Ev := [a0, a1, a2, a3, a4, a5, a6, a7, a8, a9, a10, a11, a12, a13, a14, a15, a16, a17, a18]
theorem hd_one {n m : Nd} : [n].set 0 m = [m] := rfl
section
variable {a0 a1 a2 a3 a4 a5 a6 a7 a8 a9 a10 a11 a12 a13 a14 a15 a16 a17 a18 : Option W}
theorem step1 {n : Nd} (H : Hd [n] 0) : ∃ (B : Nat) (n' : Nd), 16 ≤ B ∧ B ≤ 18 ∧ Hd [n'] 0 ∧ law1 (E19 a0 (some (.ref 0)) a2 a3 a4 a5 a6 a7 a8 a9 a10 a11 a12 a13 a14 a15 a16 a17 a18) [n] = .nx (E19 a0 (some (.ref 0)) (some (.int B)) a3 a4 a5 a6 a7 a8 a9 a10 a11 a12 a13 a14 a15 a16 a17 a18) [n'] := by
  obtain ⟨x, n', q, h1, h2, h3⟩ := draw1 H (m := 3) (by decide) (by decide)
  rw [hd_one] at q h3
  refine ⟨16 + x.toNat, n', by omega, by omega, h3, ?_⟩
  have e : (16 : Int) + x = ((16 + x.toNat : Nat) : Int) := by omega
  unfold law1
  generalize r_law_draw = f at q ⊢
  simp only [sSeq, sIf, sAsg, sRet, sExpr, sNx, Rs.to, Rs.bind, mAnd, mOr, mNot, mB, mTr, toB, mOp, mVar, mC, mNeg, mCons, mNil, mFn, mBl, mTup, mCall, mIf, gName', gDo, gSub', List.map, List.length, List.replicate, List.cons_append, List.nil_append, List.append_nil, List.getElem?_cons_succ, List.getElem?_cons_zero, List.set_cons_zero, List.set_cons_succ, if_true, Bool.not_true, Bool.not_false, Bool.true_eq_false, Bool.false_eq_true, if_false, Nat.reduceAdd, Nat.reduceSub, q, add_i, e]
theorem step2 {n : Nd} {B : Nat} (hB : 16 ≤ B) (H : Hd [n] 0) : ∃ (xs : List W) (n' : Nd), xs ≠ [] ∧ xs.length ≤ 4 ∧ (∀ x ∈ xs, ∃ b : Int, x = .int b ∧ 0 ≤ b ∧ b < B) ∧ Hd [n'] 0 ∧ law2 (E19 a0 (some (.ref 0)) (some (.int B)) a3 a4 a5 a6 a7 a8 a9 a10 a11 a12 a13 a14 a15 a16 a17 a18) [n] = .nx (E19 a0 (some (.ref 0)) (some (.int B)) (some (.lst xs)) a4 a5 a6 a7 a8 a9 a10 a11 a12 a13 a14 a15 a16 a17 a18) [n'] := by
  obtain ⟨x, n', q, h1, h2, h3⟩ := draw1 H (m := 4) (by decide) (by decide)
  rw [hd_one] at q h3
  obtain ⟨k, rfl⟩ : ∃ k : Nat, x = k := ⟨x.toNat, by omega⟩
  have e : (1 : Int) + (k : Int) = ((1 + k : Nat) : Int) := by omega
  have sl : wSl true (.lst [.int 0, .int 1, .int 2, .int ((B : Int) - 1)]) none (some (((1 + k : Nat) : Int))) [n'] = .ok (.lst ([W.int 0, .int 1, .int 2, .int ((B : Int) - 1)].take (min (1 + k) 4))) [n'] := by
    simp only [wSl, seqL, newL, cutW, if_true, HT.sIx_nat]
    rfl
  refine ⟨[W.int 0, .int 1, .int 2, .int ((B : Int) - 1)].take (min (1 + k) 4), n', ?_, ?_, fun y hy => ?_, h3, ?_⟩
  · intro z
    have := congrArg List.length z
    simp at this
  · simp
    omega
  · have := List.mem_of_mem_take hy
    simp only [List.mem_cons, List.not_mem_nil, or_false] at this
    rcases this with rfl | rfl | rfl | rfl
    · exact ⟨_, rfl, by omega, by omega⟩
    · exact ⟨_, rfl, by omega, by omega⟩
    · exact ⟨_, rfl, by omega, by omega⟩
    · exact ⟨_, rfl, by omega, by omega⟩
  · unfold law2
    generalize r_law_draw = f at q ⊢
    simp only [sSeq, sIf, sAsg, sRet, sExpr, sNx, Rs.to, Rs.bind, mAnd, mOr, mNot, mB, mTr, toB, mOp, mVar, mC, mNeg, mCons, mNil, mFn, mBl, mTup, mCall, mIf, gName', gDo, gSub', List.map, List.length, List.replicate, List.cons_append, List.nil_append, List.append_nil, List.getElem?_cons_succ, List.getElem?_cons_zero, List.set_cons_zero, List.set_cons_succ, if_true, Bool.not_true, Bool.not_false, Bool.true_eq_false, Bool.false_eq_true, if_false, Nat.reduceAdd, Nat.reduceSub, mSl, mLst, newL, sub_i, mNoPart, mPart, q, add_i, e, sl]
theorem step3 {n : Nd} {B : Nat} {xs : List W} (H : Hd [n] 0) (x1 : xs ≠ []) (x2 : xs.length ≤ 4) (x3 : ∀ x ∈ xs, ∃ b : Int, x = .int b ∧ 0 ≤ b ∧ b < B) : ∃ (ws : List (Int × W)) (n' : Nd), ws.length ≤ 12 ∧ (∀ p ∈ ws, 0 ≤ p.1 ∧ p.1 < B ∧ Cont p.2) ∧ law3 (E19 a0 (some (.ref 0)) (some (.int B)) (some (.lst xs)) a4 a5 a6 a7 a8 a9 a10 a11 a12 a13 a14 a15 a16 a17 none) [n] = .nx (E19 a0 (some (.ref 0)) (some (.int B)) (some (.lst xs)) (some (.lst (wrW ws))) a5 a6 a7 a8 a9 a10 a11 a12 a13 a14 a15 a16 a17 none) [n'] ∧ Hd [n'] 0 := by
  obtain ⟨x, n1, q, h1, h2, h3⟩ := draw1 H (m := 12) (by decide) (by decide)
  rw [hd_one] at q h3
  obtain ⟨k, rfl⟩ : ∃ k : Nat, x = k := ⟨x.toNat, by omega⟩
  have e : (1 : Int) + (k : Int) = ((1 + k : Nat) : Int) := by omega
  obtain ⟨vs, st', qc, ⟨ws, rfl, k1, k2, n2, rfl, k3⟩⟩ := comp_fix (xs := rngW 0 (1 + k)) (t := .one 18) (cond := mYes) (elt := mTup (mCons (mCall r_law_any (mCons (mVar 1) (mCons (mVar 3) (mNil)))) (mCons (mCall r_law_content (mCons (mVar 1) (mNil))) (mNil)))) (env := E19 a0 (some (.ref 0)) (some (.int B)) (some (.lst xs)) a4 a5 a6 a7 a8 a9 a10 a11 a12 a13 a14 a15 a16 a17 none) (st := [n1])
    (fun i acc s => ∃ ws, acc = wrW ws ∧ ws.length = i ∧ (∀ p ∈ ws, 0 ≤ p.1 ∧ p.1 < (B : Int) ∧ Cont p.2) ∧ ∃ n, s = [n] ∧ Hd [n] 0) (fun i hi acc s z => by
      obtain ⟨ws, rfl, z1, z2, n, rfl, z3⟩ := z
      obtain ⟨w, n2, qa, pa, Ha⟩ := any1 z3 x1 (by omega)
      rw [hd_one] at qa Ha
      obtain ⟨u, n3, qb, pb, Hb⟩ := content1 Ha
      rw [hd_one] at qb Hb
      obtain ⟨b, rfl, b1, b2⟩ := x3 w pa
      simp only [rngW, List.length_map, List.length_range] at hi
      refine ⟨_, .tup [.int b, u], _, rfl, rfl, ?_, by simp only [wrW, List.length_map, z1, sizeLine]; omega, ws ++ [(b, u)], by simp [wrW], by simp [z1], fun p hp => ?_, n3, rfl, Hb⟩
      · generalize r_law_any = f1 at qa ⊢
        generalize r_law_content = f2 at qb ⊢
        simp only [sSeq, sIf, sAsg, sRet, sExpr, sNx, Rs.to, Rs.bind, mAnd, mOr, mNot, mB, mTr, toB, mOp, mVar, mC, mNeg, mCons, mNil, mFn, mBl, mTup, mCall, mIf, gName', gDo, gSub', List.map, List.length, List.replicate, List.cons_append, List.nil_append, List.append_nil, List.getElem?_cons_succ, List.getElem?_cons_zero, List.set_cons_zero, List.set_cons_succ, if_true, Bool.not_true, Bool.not_false, Bool.true_eq_false, Bool.false_eq_true, if_false, Nat.reduceAdd, Nat.reduceSub, qa, qb]
      · rcases List.mem_append.mp hp with hp | hp
        · exact z2 p hp
        · simp only [List.mem_singleton] at hp
          subst hp
          exact ⟨b1, b2, pb⟩)
    ⟨[], rfl, rfl, by simp, n1, rfl, h3⟩
  have hsl : Mi.small62 ((1 + k : Nat) : Int) = true := by
    simp only [Mi.small62, decide_eq_true_eq]
    omega
  refine ⟨ws, n2, by rw [k1]; simp [rngW]; omega, k2, ?_, k3⟩
  have hw : wipeW (E19 a0 (some (.ref 0)) (some (.int B)) (some (.lst xs)) a4 a5 a6 a7 a8 a9 a10 a11 a12 a13 a14 a15 a16 a17 none) [18] = E19 a0 (some (.ref 0)) (some (.int B)) (some (.lst xs)) a4 a5 a6 a7 a8 a9 a10 a11 a12 a13 a14 a15 a16 a17 none := rfl
  have hc : mComp true (iR1 (mCons (mOp (wAdd true) (mC (.int 1)) (mCall r_law_draw (mCons (mVar 1) (mCons (mC (.int 12)) (mNil))))) (mNil))) [18] (.one 18) (mYes) (mTup (mCons (mCall r_law_any (mCons (mVar 1) (mCons (mVar 3) (mNil)))) (mCons (mCall r_law_content (mCons (mVar 1) (mNil))) (mNil)))) (E19 a0 (some (.ref 0)) (some (.int B)) (some (.lst xs)) a4 a5 a6 a7 a8 a9 a10 a11 a12 a13 a14 a15 a16 a17 none) [n] = .ok (.lst (wrW ws)) [n2] := by
    generalize mTup _ = el at qc ⊢
    generalize r_law_draw = f at q ⊢
    simp only [sSeq, sIf, sAsg, sRet, sExpr, sNx, Rs.to, Rs.bind, mAnd, mOr, mNot, mB, mTr, toB, mOp, mVar, mC, mNeg, mCons, mNil, mFn, mBl, mTup, mCall, mIf, gName', gDo, gSub', List.map, List.length, List.replicate, List.cons_append, List.nil_append, List.append_nil, List.getElem?_cons_succ, List.getElem?_cons_zero, List.set_cons_zero, List.set_cons_succ, if_true, Bool.not_true, Bool.not_false, Bool.true_eq_false, Bool.false_eq_true, if_false, Nat.reduceAdd, Nat.reduceSub, mComp, iR1, q, add_i, e, hsl, Int.toNat_natCast]
    rw [hw]
    simp only [qc, newL, if_true]
  unfold law3
  generalize mComp _ _ _ _ _ _ = mc at hc ⊢
  simp only [sSeq, sIf, sAsg, sRet, sExpr, sNx, Rs.to, Rs.bind, mAnd, mOr, mNot, mB, mTr, toB, mOp, mVar, mC, mNeg, mCons, mNil, mFn, mBl, mTup, mCall, mIf, gName', gDo, gSub', List.map, List.length, List.replicate, List.cons_append, List.nil_append, List.append_nil, List.getElem?_cons_succ, List.getElem?_cons_zero, List.set_cons_zero, List.set_cons_succ, if_true, Bool.not_true, Bool.not_false, Bool.true_eq_false, Bool.false_eq_true, if_false, Nat.reduceAdd, Nat.reduceSub, hc]
/-- the rows -/
theorem lk_rows {bs : List Int} {row : Int → List W} {b : Int} : (b ∈ bs → lkW (rowsN bs row) (.inl b) = some (.lst (row b))) ∧ (b ∉ bs → lkW (rowsN bs row) (.inl b) = none) := lk_g (g := fun b => W.lst (row b))
theorem rowOf_none {ws : List (Int × W)} {b : Int} (h : ¬ ∃ p ∈ ws, p.1 = b) : rowOf ws b = [] := by
  simp only [rowOf, List.map_eq_nil_iff, List.filter_eq_nil_iff, decide_eq_true_eq]
  exact fun p hp e => h ⟨p, hp, e⟩
theorem put_rows {bs : List Int} {row : Int → List W} {b : Int} {v : List W} (h : b ∈ bs) : putKW (rowsN bs row) (.inl b) (.lst v) = rowsN bs fun x => if x = b then v else row x := by
  have a : ((rowsN bs row).any fun kv => decide (kv.1 = (.inl b : Key))) = true := by
    simp only [List.any_eq_true, rowsN]
    exact ⟨_, List.mem_map.mpr ⟨b, h, rfl⟩, by simp⟩
  simp only [putKW, a, if_true]
  simp only [rowsN, List.map_map]
  apply List.map_congr_left
  intro x _
  simp only [Function.comp]
  by_cases g : x = b
  · subst g
    simp
  · simp [g]
theorem put_rows_new {bs : List Int} {row : Int → List W} {b : Int} {v : List W} (h : b ∉ bs) : putKW (rowsN bs row) (.inl b) (.lst v) = rowsN (bs ++ [b]) fun x => if x = b then v else row x := by
  rw [putKW_new]
  · simp only [rowsN, List.map_append, List.map_cons, List.map_nil, if_true]
    congr 1
    apply List.map_congr_left
    intro x hx
    have : x ≠ b := by
      rintro rfl
      exact h hx
    simp [this]
  · intro kv hk
    obtain ⟨x, hx, rfl⟩ := List.mem_map.mp hk
    simp only [ne_eq, Sum.inl.injEq]
    rintro rfl
    exact h hx
theorem step5 {n : Nd} {ws : List (Int × W)} (hl : ws.length ≤ 12) : ∃ (bs : List Int) (y z : Option W), bs.Nodup ∧ (∀ b, b ∈ bs ↔ ∃ p ∈ ws, p.1 = b) ∧ law5 (E19 a0 a1 a2 a3 (some (.lst (wrW ws))) (some (.ref 1)) a6 a7 a8 a9 a10 a11 a12 a13 a14 a15 a16 a17 a18) [n, .dk []] = .nx (E19 a0 a1 a2 a3 (some (.lst (wrW ws))) (some (.ref 1)) y z a8 a9 a10 a11 a12 a13 a14 a15 a16 a17 a18) [n, .dk (rowsN bs (rowOf ws))] := by
  obtain ⟨env', st', q, ⟨y, z, rfl⟩, bs, k1, k2, k4, rfl⟩ := for_fix (xs := wrW ws) (g := gTup' [gName' 6, gName' 7]) (body := sAsg (mOp (wAdd true) (mDget2 (mVar 5) (mVar 6) (mLst true (mNil))) (mLst true (mCons (mVar 7) (mNil)))) (gSub' (mVar 5) (mVar 6))) (env := E19 a0 a1 a2 a3 (some (.lst (wrW ws))) (some (.ref 1)) a6 a7 a8 a9 a10 a11 a12 a13 a14 a15 a16 a17 a18) (st := [n, .dk []])
    (fun i env s => (∃ y z, env = E19 a0 a1 a2 a3 (some (.lst (wrW ws))) (some (.ref 1)) y z a8 a9 a10 a11 a12 a13 a14 a15 a16 a17 a18) ∧ ∃ bs : List Int, bs.Nodup ∧ (∀ b, b ∈ bs ↔ ∃ p ∈ ws.take i, p.1 = b) ∧ bs.length ≤ i ∧ s = [n, .dk (rowsN bs (rowOf (ws.take i)))]) (fun i hi env s z => by
      obtain ⟨⟨y, z, rfl⟩, bs, z1, z2, z4, rfl⟩ := z
      have hi' : i < ws.length := by simpa [wrW] using hi
      have hx : (wrW ws)[i] = .tup [.int ws[i].1, ws[i].2] := by simp [wrW]
      have rl := rowOf_len (ws.take i) ws[i].1
      have tk : (ws.take i).length = i := by simp; omega
      have rt := rowOf_take hi'
      have tkm : ∀ b, (∃ p ∈ ws.take (i + 1), p.1 = b) ↔ (∃ p ∈ ws.take i, p.1 = b) ∨ ws[i].1 = b := by
        intro b
        rw [← List.take_append_getElem hi']
        constructor
        · rintro ⟨p, hp, rfl⟩
          rcases List.mem_append.mp hp with hp | hp
          · exact .inl ⟨p, hp, rfl⟩
          · simp only [List.mem_singleton] at hp
            subst hp
            exact .inr rfl
        · rintro (⟨p, hp, rfl⟩ | rfl)
          · exact ⟨p, List.mem_append_left _ hp, rfl⟩
          · exact ⟨ws[i], List.mem_append_right _ (List.mem_singleton.mpr rfl), rfl⟩
      rw [hx]
      generalize ws[i] = p at rl rt tkm
      obtain ⟨b, w⟩ := p
      simp only at rl rt tkm
      have dk : dkOf [n, .dk (rowsN bs (rowOf (ws.take i)))] (.ref 1) = some (rowsN bs (rowOf (ws.take i))) := rfl
      have ll : (rowsN bs (rowOf (ws.take i))).length < sizeLine := by simp only [rowsN, List.length_map, sizeLine]; omega
      have ad : wAdd true (.lst (rowOf (ws.take i) b)) (.lst [w]) [n, .dk (rowsN bs (rowOf (ws.take i)))] = .ok (.lst (rowOf (ws.take i) b ++ [w])) [n, .dk (rowsN bs (rowOf (ws.take i)))] := by
        simp only [wAdd, trkL]
        rw [if_pos (by simp only [List.length_cons, List.length_nil, sizeLine]; omega)]
        rfl
      have gt : (lkW (rowsN bs (rowOf (ws.take i))) (.inl b)).getD (.lst []) = .lst (rowOf (ws.take i) b) := by
        by_cases g : b ∈ bs
        · rw [lk_rows.1 g]; rfl
        · rw [lk_rows.2 g, rowOf_none (fun z => g ((z2 b).mpr z))]; rfl
      have sto : ∀ v : W, wStore (.ref 1) (.int b) v [n, .dk (rowsN bs (rowOf (ws.take i)))] = some [n, .dk (putKW (rowsN bs (rowOf (ws.take i))) (.inl b) v)] := by
        intro v
        have a : wSet (.ref 1) (.int b) v [n, .dk (rowsN bs (rowOf (ws.take i)))] = none := rfl
        simp only [wStore, a, wPutD, List.getElem?_cons_succ, List.getElem?_cons_zero, keyi, ll, if_true]
        rfl
      refine ⟨E19 a0 a1 a2 a3 (some (.lst (wrW ws))) (some (.ref 1)) (some (.int b)) (some w) a8 a9 a10 a11 a12 a13 a14 a15 a16 a17 a18, _, E19 a0 a1 a2 a3 (some (.lst (wrW ws))) (some (.ref 1)) (some (.int b)) (some w) a8 a9 a10 a11 a12 a13 a14 a15 a16 a17 a18, [n, .dk (putKW (rowsN bs (rowOf (ws.take i))) (.inl b) (.lst (rowOf (ws.take i) b ++ [w])))], rfl, ?_, ⟨_, _, rfl⟩, ?_⟩
      · simp only [sSeq, sIf, sAsg, sRet, sExpr, sNx, Rs.to, Rs.bind, mAnd, mOr, mNot, mB, mTr, toB, mOp, mVar, mC, mNeg, mCons, mNil, mFn, mBl, mTup, mCall, mIf, gName', gDo, gSub', List.map, List.length, List.replicate, List.cons_append, List.nil_append, List.append_nil, List.getElem?_cons_succ, List.getElem?_cons_zero, List.set_cons_zero, List.set_cons_succ, if_true, Bool.not_true, Bool.not_false, Bool.true_eq_false, Bool.false_eq_true, if_false, Nat.reduceAdd, Nat.reduceSub, mDget2, dk, Option.isSome_some, mLst, newL, keyi, gt, ad, sto]
      · by_cases g : b ∈ bs
        · refine ⟨bs, z1, fun c => ?_, by omega, ?_⟩
          · rw [tkm, ← z2]
            constructor
            · exact .inl
            · rintro (h | rfl)
              · exact h
              · exact g
          · rw [put_rows g, rt]
            simp only [List.cons.injEq, Nd.dk.injEq, and_true, true_and]
            congr 1
            funext x
            by_cases e : x = b
            · subst e; simp
            · simp [e]
        · refine ⟨bs ++ [b], ?_, fun c => ?_, by simp; omega, ?_⟩
          · refine List.nodup_append.mpr ⟨z1, by simp, fun x hx y hy => ?_⟩
            simp only [List.mem_singleton] at hy
            subst hy
            rintro rfl
            exact g hx
          · rw [tkm, ← z2]
            simp only [List.mem_append, List.mem_singleton]
            constructor
            · rintro (h | rfl)
              · exact .inl h
              · exact .inr rfl
            · rintro (h | rfl)
              · exact .inl h
              · exact .inr rfl
          · rw [put_rows_new g, rt]
            simp only [List.cons.injEq, Nd.dk.injEq, and_true, true_and]
            congr 1
            funext x
            by_cases e : x = b
            · subst e; simp
            · simp [e])
    ⟨⟨_, _, rfl⟩, [], List.nodup_nil, by simp, Nat.le_refl _, rfl⟩
  have hlw : (wrW ws).length = ws.length := by simp [wrW]
  rw [hlw, List.take_length] at k2
  rw [hlw, List.take_length] at q
  refine ⟨bs, y, z, k1, k2, ?_⟩
  unfold law5
  simp only [sFor, iL]
  simp only [sSeq, sIf, sAsg, sRet, sExpr, sNx, Rs.to, Rs.bind, mAnd, mOr, mNot, mB, mTr, toB, mOp, mVar, mC, mNeg, mCons, mNil, mFn, mBl, mTup, mCall, mIf, gName', gDo, gSub', List.map, List.length, List.replicate, List.cons_append, List.nil_append, List.append_nil, List.getElem?_cons_succ, List.getElem?_cons_zero, List.set_cons_zero, List.set_cons_succ, if_true, Bool.not_true, Bool.not_false, Bool.true_eq_false, Bool.false_eq_true, if_false, Nat.reduceAdd, Nat.reduceSub]
  exact q
end
end Lw
namespace Lw
open PySem L2 Mi
def be0 : MS := sAsg (mTup (mCons (mCall r_law_written (mCons (mVar 2) (mCons (mVar 4) (mNil)))) (mCons (mFn fDict (mCons (mLock (mVar 5) (mComp true (iK (mVar 5)) [6] (.one 6) (mYes) (mTup (mCons (mVar 6) (mCons (mC (.int 0)) (mNil)))))) (mNil))) (mNil)))) (gTup' [gName' 11, gName' 12])
def be1 : MS := sIf (mNot (mTr (mCall r_law_lies (mCons (mVar 11) (mCons (mVar 5) (mCons (mVar 12) (mNil))))))) (sRet (mC (.bl false))) (sNx)
def be2 : MS := sFor (iE (mCons (mVar 10) (mNil))) (gTup' [gName' 13, gName' 6]) (sSeq (sExpr (mMeth [(0, r_Disk_reach)] "reach" (mVar 11) (mCons (mVar 6) (mNil)))) (sSeq (sAsg (mOp (wAdd true) (mOp wIx (mVar 12) (mVar 6)) (mC (.int 1))) (gSub' (mVar 12) (mVar 6))) (sIf (mOr (mNot (mTr (mCall r_law_lies (mCons (mVar 11) (mCons (mVar 5) (mCons (mVar 12) (mNil))))))) (mB (mOp (wNe) (mMeth [(0, r_Disk_reached)] "reached" (mVar 11) mNil) (mOp (wAdd true) (mVar 13) (mC (.int 1)))))) (sRet (mC (.bl false))) (sNx))))
def be3 : MS := sExpr (mLm fAppend (mVar 9) (mCons (mComp true (iR1 (mCons (mVar 2) (mNil))) [6] (.one 6) (mYes) (mMeth [(0, r_Disk_lying)] "lying" (mVar 11) (mCons (mVar 6) (mNil)))) (mNil)))
def bf0 : MS := sExpr (mMeth [(0, r_Disk_reach)] "reach" (mVar 11) (mCons (mVar 6) (mNil)))
def bf1 : MS := sAsg (mOp (wAdd true) (mOp wIx (mVar 12) (mVar 6)) (mC (.int 1))) (gSub' (mVar 12) (mVar 6))
def bf2 : MS := sIf (mOr (mNot (mTr (mCall r_law_lies (mCons (mVar 11) (mCons (mVar 5) (mCons (mVar 12) (mNil))))))) (mB (mOp (wNe) (mMeth [(0, r_Disk_reached)] "reached" (mVar 11) mNil) (mOp (wAdd true) (mVar 13) (mC (.int 1)))))) (sRet (mC (.bl false))) (sNx)
theorem be2_split : be2 = sFor (iE (mCons (mVar 10) (mNil))) (gTup' [gName' 13, gName' 6]) (sSeq bf0 (sSeq bf1 bf2)) := rfl
theorem law8_split : law8 = sFor (iL (mVar 8)) (gName' 10) (sSeq be0 (sSeq be1 (sSeq be2 be3))) := rfl
/-! counts -/
theorem lk_put {E : List (Key × W)} {k k' : Key} {v : W} (h : (lkW E k).isSome = true) : lkW (putKW E k v) k' = if k' = k then some v else lkW E k' := by
  have a : (E.any fun kv => decide (kv.1 = k)) = true := by
    simp only [lkW, Option.isSome_map] at h
    rw [List.find?_isSome] at h
    rw [List.any_eq_true]
    exact h
  simp only [putKW, a, if_true]
  clear h
  induction E with
  | nil => simp at a
  | cons p E ih =>
    simp only [List.map_cons, lkW] at ih ⊢
    by_cases g : p.1 = k
    · simp only [g, if_true]
      by_cases g2 : k' = k
      · subst g2
        simp
      · rw [List.find?_cons_of_neg (by simpa using fun z => g2 z.symm), if_neg g2]
        rw [List.find?_cons_of_neg (by simpa [g] using fun z => g2 z.symm)]
        clear ih a
        induction E with
        | nil => rfl
        | cons q E ih2 =>
          simp only [List.map_cons]
          by_cases g3 : q.1 = k
          · simp only [g3, if_true]
            rw [List.find?_cons_of_neg (by simpa using fun z => g2 z.symm), List.find?_cons_of_neg (by simpa [g3] using fun z => g2 z.symm)]
            exact ih2
          · simp only [g3, if_false]
            by_cases g4 : q.1 = k'
            · simp [g4]
            · rw [List.find?_cons_of_neg (by simpa using g4), List.find?_cons_of_neg (by simpa using g4)]
              exact ih2
    · have a' : (E.any fun kv => decide (kv.1 = k)) = true := by simpa [g] using a
      simp only [g, if_false]
      by_cases g4 : p.1 = k'
      · have g5 : ¬ k' = k := fun z => g (g4.trans z)
        simp [g4, g5]
      · rw [List.find?_cons_of_neg (by simpa using g4), List.find?_cons_of_neg (by simpa using g4)]
        exact ih a'
theorem putKW_len {E : List (Key × W)} {k : Key} {v : W} (h : (lkW E k).isSome = true) : (putKW E k v).length = E.length := by
  have a : (E.any fun kv => decide (kv.1 = k)) = true := by
    simp only [lkW, Option.isSome_map] at h
    rw [List.find?_isSome] at h
    rw [List.any_eq_true]
    exact h
  simp only [putKW, a, if_true, List.length_map]
theorem rowOf_count (b : Int) : ∀ ws : List (Int × W), (rowOf ws b).length = (ws.map (·.1)).count b
  | [] => rfl
  | p :: ws => by
    have ih := rowOf_count b ws
    simp only [rowOf, List.map_cons, List.count_cons, List.length_map] at ih ⊢
    by_cases g : p.1 = b
    · simp [g, ih]
    · simp [g, ih]
theorem take_count {os : List Int} {j : Nat} (h : j < os.length) : (fun x => if x = os[j] then (os.take j).count x + 1 else (os.take j).count x) = fun x => (os.take (j + 1)).count x := by
  funext x
  rw [← List.take_append_getElem h, List.count_append, List.count_singleton]
  by_cases g : x = os[j]
  · subst g
    simp
  · have g' : ¬ os[j] = x := fun z => g z.symm
    simp [g, g']
theorem take_less {os : List Int} {j : Nat} (h : j < os.length) : (os.take j).count os[j] < os.count os[j] := by
  have a := congrFun (take_count h) os[j]
  simp only [if_true] at a
  have b : (os.take (j + 1)).count os[j] ≤ os.count os[j] := (List.take_sublist _ _).count_le _
  omega
theorem rowOf_cont {ws : List (Int × W)} (h : ∀ p ∈ ws, Cont p.2) (b : Int) : ∀ w ∈ rowOf ws b, Cont w := by
  intro w hw
  simp only [rowOf, List.mem_map, List.mem_filter] at hw
  obtain ⟨p, ⟨hp, _⟩, rfl⟩ := hw
  exact h p hp
theorem rowOf_ne {ws : List (Int × W)} {b : Int} (h : ∃ p ∈ ws, p.1 = b) : rowOf ws b ≠ [] := by
  obtain ⟨p, hp, rfl⟩ := h
  intro z
  have : p.2 ∈ rowOf ws p.1 := by
    simp only [rowOf, List.mem_map, List.mem_filter]
    exact ⟨p, ⟨hp, by simp⟩, rfl⟩
  rw [z] at this
  simp at this
section
variable {a0 a1 a2 a3 a4 a5 a6 a7 a8 a9 a10 a11 a12 a13 a14 a15 a16 a17 a18 : Option W}
variable {st : Sto} {own : List Nat} {d B : Nat} {n : Int} {c k : Nat} {C : List W} {L : List (Int × Nat)}
theorem order1 {ws : List (Int × W)} {bs os : List Int} {lo o cn : Nat} {E0 : List (Key × W)} (D : DSt st own d B (rowOf ws) (fun _ => 0) 0 c k C L) (hown : ∀ j ∈ own, lo ≤ j ∧ j < st.length) (hlo : 1 < lo) (hR : st[1]? = some (.dk (rowsN bs (rowOf ws)))) (hol : o < lo) (hO : st[o]? = some (.lst (os.map W.int))) (hcn : lo ≤ cn) (cno : cn ∉ own) (hE : st[cn]? = some (.dk E0)) (hE0 : ∀ b ∈ bs, lkW E0 (.inl b) = some (.int 0)) (hEl : E0.length < sizeLine)
    (hp : os.Perm (ws.map (·.1))) (hbs : ∀ b, b ∈ bs ↔ ∃ p ∈ ws, p.1 = b) (hw : ∀ p ∈ ws, 0 ≤ p.1 ∧ p.1 < (B : Int) ∧ Cont p.2) :
    ∃ x y st' C' L', be2 (E19 a0 a1 a2 a3 a4 (some (.ref 1)) a6 a7 a8 a9 (some (.ref o)) (some (.ref d)) (some (.ref cn)) a13 a14 a15 a16 a17 a18) st = .nx (E19 a0 a1 a2 a3 a4 (some (.ref 1)) x a7 a8 a9 (some (.ref o)) (some (.ref d)) (some (.ref cn)) y a14 a15 a16 a17 a18) st' ∧ DSt st' own d B (rowOf ws) (fun b => (rowOf ws b).length) os.length c k C' L' ∧ (∀ j, j < lo → st'[j]? = st[j]?) ∧ st.length ≤ st'.length := by
  have lcn := lt_of hE
  have lo1 := lt_of hO
  have hC : ∀ b, ∀ w ∈ rowOf ws b, Cont w := fun b => rowOf_cont (fun p hp => (hw p hp).2.2) b
  obtain ⟨env', st', q, ⟨x, y, rfl⟩, C', L', E', D', k1, k2, k3, k4, k5⟩ := for_gen (s := enumW (nodS o (os.map W.int).length)) (g := gTup' [gName' 13, gName' 6]) (body := sSeq bf0 (sSeq bf1 bf2)) (env := E19 a0 a1 a2 a3 a4 (some (.ref 1)) a6 a7 a8 a9 (some (.ref o)) (some (.ref d)) (some (.ref cn)) a13 a14 a15 a16 a17 a18) (st := st) (m := (os.map W.int).length + 1) (i := 0) os.length
    (fun j env s => (∃ x y, env = E19 a0 a1 a2 a3 a4 (some (.ref 1)) x a7 a8 a9 (some (.ref o)) (some (.ref d)) (some (.ref cn)) y a14 a15 a16 a17 a18) ∧ ∃ C L E, DSt s own d B (rowOf ws) (fun b => (os.take j).count b) j c k C L ∧ s[cn]? = some (.dk E) ∧ (∀ b ∈ bs, lkW E (.inl b) = some (.int ((os.take j).count b : Nat))) ∧ (∀ i, i < lo → s[i]? = st[i]?) ∧ st.length ≤ s.length ∧ E.length = E0.length) (by simp) (Nat.zero_le _) (fun j env s hj z => by
      obtain ⟨⟨x, y, rfl⟩, C, L, E, D1, z1, z2, z3, z4, z5⟩ := z
      have hOs : s[o]? = some (.lst (os.map W.int)) := by rw [z3 o hol]; exact hO
      have hR1 : s[1]? = some (.dk (rowsN bs (rowOf ws))) := by rw [z3 1 hlo]; exact hR
      have mem : os[j] ∈ ws.map (·.1) := hp.mem_iff.mp (List.getElem_mem hj)
      have hin : ∃ p ∈ ws, p.1 = os[j] := by
        obtain ⟨p, h1, h2⟩ := List.mem_map.mp mem
        exact ⟨p, h1, h2⟩
      have less : (os.take j).count os[j] < (rowOf ws os[j]).length := by
        rw [rowOf_count, ← hp.count_eq]
        exact take_less hj
      have tc := take_count hj
      have at1 : (enumW (nodS o (os.map W.int).length)).at_ j s = some (some (.tup [.int j, .int os[j]])) := by
        simp only [enumW, nodS, hOs]
        simp [hj]
      generalize os[j] = b at mem hin less tc at1
      have hb : b ∈ bs := (hbs b).mpr hin
      obtain ⟨g1, g2⟩ : 0 ≤ b ∧ b < (B : Int) := by
        obtain ⟨p, h1, rfl⟩ := hin
        exact ⟨(hw p h1).1, (hw p h1).2.1⟩
      obtain ⟨s1, C1, L1, qr, e1, e2, D2⟩ := reach1 D1 g1 g2 less
      rw [tc] at D2
      have hE1 : s1[cn]? = some (.dk E) := by rw [e2 cn cno]; exact z1
      have dE : dkOf s1 (.ref cn) = some E := by simp only [dkOf, hE1]
      have lkb := z2 b hb
      have cx : wIx (.ref cn) (.int b) s1 = .ok (.int ((os.take j).count b : Nat)) s1 := by simp only [wIx, dE, keyi, lkb]
      have E1l : ∀ b' ∈ bs, lkW (putKW E (.inl b) (.int ((os.take j).count b + 1 : Nat))) (.inl b') = some (.int ((os.take (j + 1)).count b' : Nat)) := by
        intro b' hb'
        rw [lk_put (by rw [lkb]; rfl), ← congrFun tc b']
        by_cases g : b' = b
        · subst g
          simp
        · rw [if_neg (by simpa using g), if_neg g]
          exact z2 b' hb'
      have sE : wStore (.ref cn) (.int b) (.int (((os.take j).count b : Nat) + 1)) s1 = some (s1.set cn (.dk (putKW E (.inl b) (.int ((os.take j).count b + 1 : Nat))))) := by
        have a : ∀ v, wSet (.ref cn) (.int b) v s1 = none := fun v => by simp only [wSet, hE1]
        have hh : E.length < sizeLine := by rw [z5]; exact hEl
        simp only [wStore, a, wPutD, hE1, keyi, hh, if_true]
        rfl
      have pl := putKW_len (v := .int ((os.take j).count b + 1 : Nat)) (show (lkW E (.inl b)).isSome = true by rw [lkb]; rfl)
      generalize putKW E (.inl b) (.int ((os.take j).count b + 1 : Nat)) = E2 at E1l sE pl
      have hE2 := get_set (m := .dk E2) hE1
      have D3 : DSt (s1.set cn (.dk E2)) own d B (rowOf ws) (fun x => (os.take (j + 1)).count x) (j + 1) c k C1 L1 := D2.frame fun i hi => get_ne (fun z => cno (by rw [z]; exact hi))
      have n1 : 1 ∉ own := fun z => by have := (hown 1 z).1; omega
      have hR2 : (s1.set cn (.dk E2))[1]? = some (.dk (rowsN bs (rowOf ws))) := by rw [get_ne (by omega), e2 1 n1]; exact hR1
      obtain ⟨s3, ql, f1, f2⟩ := lies1 D3 (fun i hi => by have := hown i hi; simp only [List.length_set, e1]; omega) hR2 hE2 n1 cno (by omega) (fun b' hb' => by
        obtain ⟨p, h1, rfl⟩ := (hbs b').mp hb'
        exact ⟨(hw p h1).1, (hw p h1).2.1, rowOf_ne ⟨p, h1, rfl⟩, E1l _ hb'⟩) hC
      have l2 : (s1.set cn (.dk E2)).length = s.length := by simp [e1]
      have D4 : DSt s3 own d B (rowOf ws) (fun x => (os.take (j + 1)).count x) (j + 1) c k C1 L1 := D3.frame fun i hi => f2 i (by have := hown i hi; omega)
      have qd := reached1 D4
      have hd0 := D1.hd
      have hd4 := D4.hd
      have t0 : bf0 (E19 a0 a1 a2 a3 a4 (some (.ref 1)) (some (.int b)) a7 a8 a9 (some (.ref o)) (some (.ref d)) (some (.ref cn)) (some (.int j)) a14 a15 a16 a17 a18) s = .nx (E19 a0 a1 a2 a3 a4 (some (.ref 1)) (some (.int b)) a7 a8 a9 (some (.ref o)) (some (.ref d)) (some (.ref cn)) (some (.int j)) a14 a15 a16 a17 a18) s1 := by
        unfold bf0
        generalize r_Disk_reach = f at qr ⊢
        simp only [sSeq, sIf, sAsg, sRet, sExpr, sNx, Rs.to, Rs.bind, mAnd, mOr, mNot, mB, mTr, toB, mOp, mVar, mC, mNeg, mCons, mNil, mFn, mBl, mTup, mCall, mIf, gName', gDo, gSub', List.map, List.length, List.replicate, List.cons_append, List.nil_append, List.append_nil, List.getElem?_cons_succ, List.getElem?_cons_zero, List.set_cons_zero, List.set_cons_succ, if_true, Bool.not_true, Bool.not_false, Bool.true_eq_false, Bool.false_eq_true, if_false, Nat.reduceAdd, Nat.reduceSub, mMeth, mFld, lk_c, lk_k, lk_l, lk_a, no_0, no_1, no_2, no_3, no_4, no_5, no_6, no_7, no_8, no_9, lk_tb, cont0, runOf, outOf, hd0, qr]
      have t1 : bf1 (E19 a0 a1 a2 a3 a4 (some (.ref 1)) (some (.int b)) a7 a8 a9 (some (.ref o)) (some (.ref d)) (some (.ref cn)) (some (.int j)) a14 a15 a16 a17 a18) s1 = .nx (E19 a0 a1 a2 a3 a4 (some (.ref 1)) (some (.int b)) a7 a8 a9 (some (.ref o)) (some (.ref d)) (some (.ref cn)) (some (.int j)) a14 a15 a16 a17 a18) (s1.set cn (.dk E2)) := by
        unfold bf1
        simp only [sSeq, sIf, sAsg, sRet, sExpr, sNx, Rs.to, Rs.bind, mAnd, mOr, mNot, mB, mTr, toB, mOp, mVar, mC, mNeg, mCons, mNil, mFn, mBl, mTup, mCall, mIf, gName', gDo, gSub', List.map, List.length, List.replicate, List.cons_append, List.nil_append, List.append_nil, List.getElem?_cons_succ, List.getElem?_cons_zero, List.set_cons_zero, List.set_cons_succ, if_true, Bool.not_true, Bool.not_false, Bool.true_eq_false, Bool.false_eq_true, if_false, Nat.reduceAdd, Nat.reduceSub, cx, add_i, sE]
      have t2 : bf2 (E19 a0 a1 a2 a3 a4 (some (.ref 1)) (some (.int b)) a7 a8 a9 (some (.ref o)) (some (.ref d)) (some (.ref cn)) (some (.int j)) a14 a15 a16 a17 a18) (s1.set cn (.dk E2)) = .nx (E19 a0 a1 a2 a3 a4 (some (.ref 1)) (some (.int b)) a7 a8 a9 (some (.ref o)) (some (.ref d)) (some (.ref cn)) (some (.int j)) a14 a15 a16 a17 a18) s3 := by
        unfold bf2
        generalize r_law_lies = f1 at ql ⊢
        generalize r_Disk_reached = f2 at qd ⊢
        simp only [sSeq, sIf, sAsg, sRet, sExpr, sNx, Rs.to, Rs.bind, mAnd, mOr, mNot, mB, mTr, toB, mOp, mVar, mC, mNeg, mCons, mNil, mFn, mBl, mTup, mCall, mIf, gName', gDo, gSub', List.map, List.length, List.replicate, List.cons_append, List.nil_append, List.append_nil, List.getElem?_cons_succ, List.getElem?_cons_zero, List.set_cons_zero, List.set_cons_succ, if_true, Bool.not_true, Bool.not_false, Bool.true_eq_false, Bool.false_eq_true, if_false, Nat.reduceAdd, Nat.reduceSub, mMeth, mFld, lk_c, lk_k, lk_l, lk_a, no_0, no_1, no_2, no_3, no_4, no_5, no_6, no_7, no_8, no_9, lk_tb, cont0, runOf, outOf, ql, trW, hd4, qd, add_i, ne_i, decide_true]
      refine ⟨_, E19 a0 a1 a2 a3 a4 (some (.ref 1)) (some (.int b)) a7 a8 a9 (some (.ref o)) (some (.ref d)) (some (.ref cn)) (some (.int j)) a14 a15 a16 a17 a18, s, _, s3, at1, rfl, ?_, ⟨some (.int b), some (.int j), rfl⟩, C1, L1, E2, D4, ?_, E1l, fun i hi => ?_, by omega, by omega⟩
      · simp only [sSeq]
        rw [t0]
        simp only
        rw [t1]
        simp only
        exact t2
      · rw [f2 cn (by omega)]; exact hE2
      · rw [f2 i (by omega), get_ne (by omega), e2 i (fun z => by have := (hown i z).1; omega)]
        exact z3 i hi) (fun env s z => by
      obtain ⟨_, C, L, E, D1, z1, z2, z3, z4, z5⟩ := z
      have hOs : s[o]? = some (.lst (os.map W.int)) := by rw [z3 o hol]; exact hO
      simp only [enumW, nodS, hOs]
      simp)
    ⟨⟨_, _, rfl⟩, C, L, E0, by simpa using D, hE, by simpa using hE0, fun _ _ => rfl, Nat.le_refl _, rfl⟩
  rw [List.take_length] at D'
  refine ⟨x, y, st', C', L', ?_, ?_, k3, k4⟩
  · rw [be2_split]
    have so : srcOf st (.ref o) = some (nodS o (os.map W.int).length) := by simp only [srcOf, hO]
    simp only [sFor, iE]
    simp only [sSeq, sIf, sAsg, sRet, sExpr, sNx, Rs.to, Rs.bind, mAnd, mOr, mNot, mB, mTr, toB, mOp, mVar, mC, mNeg, mCons, mNil, mFn, mBl, mTup, mCall, mIf, gName', gDo, gSub', List.map, List.length, List.replicate, List.cons_append, List.nil_append, List.append_nil, List.getElem?_cons_succ, List.getElem?_cons_zero, List.set_cons_zero, List.set_cons_succ, if_true, Bool.not_true, Bool.not_false, Bool.true_eq_false, Bool.false_eq_true, if_false, Nat.reduceAdd, Nat.reduceSub, so]
    exact q
  · have : (fun b => (rowOf ws b).length) = fun b => os.count b := by
      funext b
      rw [rowOf_count, ← hp.count_eq]
    rw [this]
    exact D'
end
end Lw
namespace Lw
open PySem L2 Mi
theorem set_self {st : Sto} {i : Nat} {n : Nd} (e : st[i]? = some n) : st.set i n = st := by
  apply List.ext_getElem?
  intro j
  by_cases g : i = j
  · subst g
    rw [get_set e, e]
  · rw [get_ne g]
def zeros (bs : List Int) : List (Key × W) := bs.map fun b => ((Sum.inl b : Key), W.int 0)
theorem pairs_zeros : ∀ bs : List Int, pairsW (bs.map fun b => W.tup [.int b, .int 0]) = some (zeros bs)
  | [] => rfl
  | b :: bs => by
    have ih := pairs_zeros bs
    simp only [List.map_cons, pairsW, keyi, ih]
    rfl
theorem merge_zeros : ∀ (bs : List Int) (acc : List (Key × W)), bs.Nodup → (∀ b ∈ bs, ∀ kv ∈ acc, kv.1 ≠ (.inl b : Key)) → (zeros bs).foldl (fun acc kv => putKW acc kv.1 kv.2) acc = acc ++ zeros bs
  | [], acc, _, _ => by simp [zeros]
  | b :: bs, acc, nd, h => by
    simp only [List.nodup_cons] at nd
    simp only [zeros, List.map_cons, List.foldl_cons]
    rw [putKW_new (h b (by simp))]
    have := merge_zeros bs (acc ++ [((Sum.inl b : Key), W.int 0)]) nd.2 fun b' hb' kv hkv => by
      rcases List.mem_append.mp hkv with hkv | hkv
      · exact h b' (by simp [hb']) kv hkv
      · simp only [List.mem_singleton] at hkv
        subst hkv
        simp only [ne_eq, Sum.inl.injEq]
        rintro rfl
        exact nd.1 hb'
    simp only [zeros] at this
    rw [this, List.append_assoc]
    rfl
def finals (ws : List (Int × W)) (B : Nat) : List W := (List.range B).map fun (b : Nat) => valW (rowOf ws b) (rowOf ws b).length
section
variable {a0 a1 a2 a3 a4 a5 a6 a7 a8 a9 a10 a11 a12 a13 a14 a15 a16 a17 a18 : Option W}
theorem dict0 {s : Sto} {bs : List Int} {row : Int → List W} (nd : bs.Nodup) (hbl : bs.length ≤ 18) (hR : s[1]? = some (.dk (rowsN bs row))) :
    mFn fDict (mCons (mLock (mVar 5) (mComp true (iK (mVar 5)) [6] (.one 6) (mYes) (mTup (mCons (mVar 6) (mCons (mC (.int 0)) (mNil)))))) (mNil)) (E19 a0 a1 a2 a3 a4 (some (.ref 1)) a6 a7 a8 a9 a10 a11 a12 a13 a14 a15 a16 a17 a18) s = .ok (.ref s.length) (s ++ [.dk (zeros bs)]) := by
  obtain ⟨vs, st', q, rfl, rfl⟩ := comp_fix (xs := bs.map W.int) (t := .one 6) (cond := mYes) (elt := mTup (mCons (mVar 6) (mCons (mC (.int 0)) (mNil)))) (env := E19 a0 a1 a2 a3 a4 (some (.ref 1)) none a7 a8 a9 a10 a11 a12 a13 a14 a15 a16 a17 a18) (st := s.set 1 (.lk (rowsN bs row)))
    (fun i acc t => t = s.set 1 (.lk (rowsN bs row)) ∧ acc = (bs.take i).map fun b => W.tup [.int b, .int 0]) (fun i hi acc t z => by
      obtain ⟨rfl, rfl⟩ := z
      have hi' : i < bs.length := by simpa using hi
      have hx : (bs.map W.int)[i] = W.int bs[i] := by simp
      rw [hx]
      refine ⟨_, .tup [.int bs[i], .int 0], _, rfl, rfl, rfl, by simp only [List.length_map, List.length_take, sizeLine]; omega, rfl, ?_⟩
      rw [← List.take_append_getElem hi', List.map_append]
      rfl) ⟨rfl, rfl⟩
  rw [List.length_map, List.take_length] at q
  have hlk : (s.set 1 (.lk (rowsN bs row)))[1]? = some (.lk (rowsN bs row)) := get_set hR
  have lkof : lkOf (s.set 1 (.lk (rowsN bs row))) (.ref 1) = some (1, rowsN bs row) := by simp only [lkOf, hlk]
  have km : (rowsN bs row).map (fun p => keyW p.1) = bs.map W.int := by simp [rowsN, keyW]
  have un : unlk 1 (s.set 1 (.lk (rowsN bs row))) = some s := by
    simp only [unlk, hlk]
    rw [List.set_set, set_self hR]
  have ndd : nodD s (.ref 1) = some (1, rowsN bs row) := by simp only [nodD, hR]
  have hw : wipeW (E19 a0 a1 a2 a3 a4 (some (.ref 1)) a6 a7 a8 a9 a10 a11 a12 a13 a14 a15 a16 a17 a18) [6] = E19 a0 a1 a2 a3 a4 (some (.ref 1)) none a7 a8 a9 a10 a11 a12 a13 a14 a15 a16 a17 a18 := rfl
  have hc : mComp true (iK (mVar 5)) [6] (.one 6) (mYes) (mTup (mCons (mVar 6) (mCons (mC (.int 0)) (mNil)))) (E19 a0 a1 a2 a3 a4 (some (.ref 1)) a6 a7 a8 a9 a10 a11 a12 a13 a14 a15 a16 a17 a18) (s.set 1 (.lk (rowsN bs row))) = .ok (.lst (bs.map fun b => W.tup [.int b, .int 0])) (s.set 1 (.lk (rowsN bs row))) := by
    generalize mTup _ = el at q ⊢
    simp only [sSeq, sIf, sAsg, sRet, sExpr, sNx, Rs.to, Rs.bind, mAnd, mOr, mNot, mB, mTr, toB, mOp, mVar, mC, mNeg, mCons, mNil, mFn, mBl, mTup, mCall, mIf, gName', gDo, gSub', List.map, List.length, List.replicate, List.cons_append, List.nil_append, List.append_nil, List.getElem?_cons_succ, List.getElem?_cons_zero, List.set_cons_zero, List.set_cons_succ, if_true, Bool.not_true, Bool.not_false, Bool.true_eq_false, Bool.false_eq_true, if_false, Nat.reduceAdd, Nat.reduceSub, mComp, iK, lkof, km]
    rw [hw]
    simp only [q, newL, if_true]
  have fd : fDict [.lst (bs.map fun b => W.tup [.int b, .int 0])] s = .ok (.ref s.length) (s ++ [.dk (zeros bs)]) := by
    simp only [fDict, dkOf, seqL, pairs_zeros, newD, mergeKW]
    rw [merge_zeros bs [] nd (by simp), List.nil_append]
  generalize mComp _ _ _ _ _ _ = mc at hc ⊢
  simp only [sSeq, sIf, sAsg, sRet, sExpr, sNx, Rs.to, Rs.bind, mAnd, mOr, mNot, mB, mTr, toB, mOp, mVar, mC, mNeg, mCons, mNil, mFn, mBl, mTup, mCall, mIf, gName', gDo, gSub', List.map, List.length, List.replicate, List.cons_append, List.nil_append, List.append_nil, List.getElem?_cons_succ, List.getElem?_cons_zero, List.set_cons_zero, List.set_cons_succ, if_true, Bool.not_true, Bool.not_false, Bool.true_eq_false, Bool.false_eq_true, if_false, Nat.reduceAdd, Nat.reduceSub, mLock, ndd, hc, un, fd]
theorem turn1 {s : Sto} {ws : List (Int × W)} {bs os : List Int} {B o : Nat} {es : List W} (h1 : 16 ≤ B) (h2 : B ≤ 18) (hl : ws.length ≤ 12) (hw : ∀ p ∈ ws, 0 ≤ p.1 ∧ p.1 < (B : Int) ∧ Cont p.2) (nd : bs.Nodup) (hbl : bs.length ≤ 18) (hbs : ∀ b, b ∈ bs ↔ ∃ p ∈ ws, p.1 = b)
    (hs : 7 ≤ s.length) (hR : s[1]? = some (.dk (rowsN bs (rowOf ws)))) (ho : o < 6) (hO : s[o]? = some (.lst (os.map W.int))) (hp : os.Perm (ws.map (·.1))) (hE : s[6]? = some (.lst es)) (hes : es.length ≤ 2) :
    ∃ x6 x11 x12 x13 st', sSeq be0 (sSeq be1 (sSeq be2 be3)) (E19 a0 a1 (some (.int B)) a3 (some (.lst (wrW ws))) (some (.ref 1)) a6 a7 a8 (some (.ref 6)) (some (.ref o)) a11 a12 a13 a14 a15 a16 a17 a18) s = .nx (E19 a0 a1 (some (.int B)) a3 (some (.lst (wrW ws))) (some (.ref 1)) x6 a7 a8 (some (.ref 6)) (some (.ref o)) x11 x12 x13 a14 a15 a16 a17 a18) st' ∧ 7 ≤ st'.length ∧ (∀ j, j < 6 → st'[j]? = s[j]?) ∧ st'[6]? = some (.lst (es ++ [.lst (finals ws B)])) := by
  obtain ⟨s1, q1, l1, f1, own, c, k, C, L, D, hown⟩ := written1 (st := s) h1 h2 hl hw
  have hR1 : s1[1]? = some (.dk (rowsN bs (rowOf ws))) := by rw [f1 1 (by omega)]; exact hR
  have hC : ∀ b, ∀ w ∈ rowOf ws b, Cont w := fun b => rowOf_cont (fun p hp => (hw p hp).2.2) b
  have qd := fun (x6 x11 x12 : Option W) => dict0 (a0 := a0) (a1 := a1) (a2 := some (.int B)) (a3 := a3) (a4 := some (.lst (wrW ws))) (a6 := x6) (a7 := a7) (a8 := a8) (a9 := some (.ref 6)) (a10 := some (.ref o)) (a11 := x11) (a12 := x12) (a13 := a13) (a14 := a14) (a15 := a15) (a16 := a16) (a17 := a17) (a18 := a18) nd hbl hR1
  have D2 : DSt (s1 ++ [.dk (zeros bs)]) own s.length B (rowOf ws) (fun _ => 0) 0 c k C L := D.frame fun j hj => get_lt (hown j hj).2
  have hR2 : (s1 ++ [Nd.dk (zeros bs)])[1]? = some (.dk (rowsN bs (rowOf ws))) := get_app hR1
  have hE2 : (s1 ++ [Nd.dk (zeros bs)])[s1.length]? = some (.dk (zeros bs)) := get_new
  have n1 : 1 ∉ own := fun z => by have := (hown 1 z).1; omega
  have n2 : s1.length ∉ own := fun z => by have := (hown _ z).2; omega
  have lz : ∀ b ∈ bs, lkW (zeros bs) (.inl b) = some (.int 0) := fun b hb => lk_g.1 hb
  obtain ⟨s3, ql, l3, f3⟩ := lies1 D2 (fun i hi => by have := hown i hi; simp; omega) hR2 hE2 n1 n2 (by omega) (fun b' hb' => by
    have z := lz b' hb'
    obtain ⟨p, g1, rfl⟩ := (hbs b').mp hb'
    exact ⟨(hw p g1).1, (hw p g1).2.1, rowOf_ne ⟨p, g1, rfl⟩, by simpa using z⟩) hC
  have ll : (s1 ++ [Nd.dk (zeros bs)]).length = s1.length + 1 := by simp
  have D3 : DSt s3 own s.length B (rowOf ws) (fun _ => 0) 0 c k C L := D2.frame fun j hj => f3 j (by have := hown j hj; omega)
  have k3 : ∀ j, j < s.length → s3[j]? = s[j]? := fun j hj => by rw [f3 j (by omega), get_lt (by omega), f1 j hj]
  obtain ⟨x6, x13, s4, C4, L4, q4, D4, f4, l4⟩ := order1 (a0 := a0) (a1 := a1) (a2 := some (.int B)) (a3 := a3) (a4 := some (.lst (wrW ws))) (a6 := a6) (a7 := a7) (a8 := a8) (a9 := some (.ref 6)) (a13 := a13) (a14 := a14) (a15 := a15) (a16 := a16) (a17 := a17) (a18 := a18) (ws := ws) (bs := bs) (os := os) (lo := s.length) (o := o) (cn := s1.length) (E0 := zeros bs) D3 (fun j hj => by have := hown j hj; omega) (by omega) (by rw [k3 1 (by omega)]; exact hR) (by omega) (by rw [k3 o (by omega)]; exact hO) l1 n2 (by rw [f3 _ (by omega)]; exact hE2) lz (by simp only [zeros, List.length_map, sizeLine]; omega) hp hbs hw
  have k4 : ∀ j, j < s.length → s4[j]? = s[j]? := fun j hj => by rw [f4 j hj, k3 j hj]
  have hE4 : s4[6]? = some (.lst es) := by rw [k4 6 (by omega)]; exact hE
  have hd4 := D4.hd
  obtain ⟨vs, s5, qc, e5, rfl⟩ := comp_fix (xs := rngW 0 B) (t := .one 6) (cond := mYes) (elt := mMeth [(0, r_Disk_lying)] "lying" (mVar 11) (mCons (mVar 6) (mNil))) (env := E19 a0 a1 (some (.int B)) a3 (some (.lst (wrW ws))) (some (.ref 1)) none a7 a8 (some (.ref 6)) (some (.ref o)) (some (.ref s.length)) (some (.ref s1.length)) x13 a14 a15 a16 a17 a18) (st := s4)
    (fun i acc t => t = s4 ∧ acc = (List.range i).map fun (b : Nat) => valW (rowOf ws b) (rowOf ws b).length) (fun i hi acc t z => by
      obtain ⟨rfl, rfl⟩ := z
      have hi' : i < B := by simpa [rngW] using hi
      have hx : (rngW 0 B)[i] = W.int (i : Int) := by simp [rngW]
      have qy := lying1 D4 (b := (i : Int)) (by omega) (by omega)
      rw [hx]
      refine ⟨_, valW (rowOf ws i) (rowOf ws i).length, _, rfl, rfl, ?_, by simp only [List.length_map, List.length_range, sizeLine]; omega, rfl, ?_⟩
      · generalize r_Disk_lying = f at qy ⊢
        simp only [sSeq, sIf, sAsg, sRet, sExpr, sNx, Rs.to, Rs.bind, mAnd, mOr, mNot, mB, mTr, toB, mOp, mVar, mC, mNeg, mCons, mNil, mFn, mBl, mTup, mCall, mIf, gName', gDo, gSub', List.map, List.length, List.replicate, List.cons_append, List.nil_append, List.append_nil, List.getElem?_cons_succ, List.getElem?_cons_zero, List.set_cons_zero, List.set_cons_succ, if_true, Bool.not_true, Bool.not_false, Bool.true_eq_false, Bool.false_eq_true, if_false, Nat.reduceAdd, Nat.reduceSub, mMeth, mFld, lk_c, lk_k, lk_l, lk_a, no_0, no_1, no_2, no_3, no_4, no_5, no_6, no_7, no_8, no_9, lk_tb, cont0, runOf, outOf, hd4, qy]
      · rw [List.range_succ, List.map_append]
        rfl) ⟨rfl, rfl⟩
  have hlr : (rngW 0 B).length = B := by simp [rngW]
  rw [hlr, e5] at qc
  have hsl : Mi.small62 (B : Int) = true := by
    simp only [Mi.small62, decide_eq_true_eq]
    omega
  have hw6 : wipeW (E19 a0 a1 (some (.int B)) a3 (some (.lst (wrW ws))) (some (.ref 1)) x6 a7 a8 (some (.ref 6)) (some (.ref o)) (some (.ref s.length)) (some (.ref s1.length)) x13 a14 a15 a16 a17 a18) [6] = E19 a0 a1 (some (.int B)) a3 (some (.lst (wrW ws))) (some (.ref 1)) none a7 a8 (some (.ref 6)) (some (.ref o)) (some (.ref s.length)) (some (.ref s1.length)) x13 a14 a15 a16 a17 a18 := rfl
  have hc : mComp true (iR1 (mCons (mVar 2) (mNil))) [6] (.one 6) (mYes) (mMeth [(0, r_Disk_lying)] "lying" (mVar 11) (mCons (mVar 6) (mNil))) (E19 a0 a1 (some (.int B)) a3 (some (.lst (wrW ws))) (some (.ref 1)) x6 a7 a8 (some (.ref 6)) (some (.ref o)) (some (.ref s.length)) (some (.ref s1.length)) x13 a14 a15 a16 a17 a18) s4 = .ok (.lst (finals ws B)) s4 := by
    generalize mMeth _ _ _ _ = el at qc ⊢
    simp only [sSeq, sIf, sAsg, sRet, sExpr, sNx, Rs.to, Rs.bind, mAnd, mOr, mNot, mB, mTr, toB, mOp, mVar, mC, mNeg, mCons, mNil, mFn, mBl, mTup, mCall, mIf, gName', gDo, gSub', List.map, List.length, List.replicate, List.cons_append, List.nil_append, List.append_nil, List.getElem?_cons_succ, List.getElem?_cons_zero, List.set_cons_zero, List.set_cons_succ, if_true, Bool.not_true, Bool.not_false, Bool.true_eq_false, Bool.false_eq_true, if_false, Nat.reduceAdd, Nat.reduceSub, mComp, iR1, hsl, Int.toNat_natCast]
    rw [hw6]
    simp only [qc, newL, if_true]
    rfl
  have ap := app_ref (w := .lst (finals ws B)) hE4 (by simp only [sizeLine]; omega)
  have sq : (seqL s4 (.ref 6)).isSome = true := by rw [seq_ref hE4]; rfl
  have t0 : be0 (E19 a0 a1 (some (.int B)) a3 (some (.lst (wrW ws))) (some (.ref 1)) a6 a7 a8 (some (.ref 6)) (some (.ref o)) a11 a12 a13 a14 a15 a16 a17 a18) s = .nx (E19 a0 a1 (some (.int B)) a3 (some (.lst (wrW ws))) (some (.ref 1)) a6 a7 a8 (some (.ref 6)) (some (.ref o)) (some (.ref s.length)) (some (.ref s1.length)) a13 a14 a15 a16 a17 a18) (s1 ++ [.dk (zeros bs)]) := by
    have qd' := qd a6 a11 a12
    unfold be0
    generalize mFn fDict _ = m1 at qd' ⊢
    generalize r_law_written = m2 at q1 ⊢
    simp only [sSeq, sIf, sAsg, sRet, sExpr, sNx, Rs.to, Rs.bind, mAnd, mOr, mNot, mB, mTr, toB, mOp, mVar, mC, mNeg, mCons, mNil, mFn, mBl, mTup, mCall, mIf, gName', gDo, gSub', List.map, List.length, List.replicate, List.cons_append, List.nil_append, List.append_nil, List.getElem?_cons_succ, List.getElem?_cons_zero, List.set_cons_zero, List.set_cons_succ, if_true, Bool.not_true, Bool.not_false, Bool.true_eq_false, Bool.false_eq_true, if_false, Nat.reduceAdd, Nat.reduceSub, q1, qd', gTup', gAll]
  have t1 : be1 (E19 a0 a1 (some (.int B)) a3 (some (.lst (wrW ws))) (some (.ref 1)) a6 a7 a8 (some (.ref 6)) (some (.ref o)) (some (.ref s.length)) (some (.ref s1.length)) a13 a14 a15 a16 a17 a18) (s1 ++ [.dk (zeros bs)]) = .nx (E19 a0 a1 (some (.int B)) a3 (some (.lst (wrW ws))) (some (.ref 1)) a6 a7 a8 (some (.ref 6)) (some (.ref o)) (some (.ref s.length)) (some (.ref s1.length)) a13 a14 a15 a16 a17 a18) s3 := by
    unfold be1
    generalize r_law_lies = m2 at ql ⊢
    simp only [sSeq, sIf, sAsg, sRet, sExpr, sNx, Rs.to, Rs.bind, mAnd, mOr, mNot, mB, mTr, toB, mOp, mVar, mC, mNeg, mCons, mNil, mFn, mBl, mTup, mCall, mIf, gName', gDo, gSub', List.map, List.length, List.replicate, List.cons_append, List.nil_append, List.append_nil, List.getElem?_cons_succ, List.getElem?_cons_zero, List.set_cons_zero, List.set_cons_succ, if_true, Bool.not_true, Bool.not_false, Bool.true_eq_false, Bool.false_eq_true, if_false, Nat.reduceAdd, Nat.reduceSub, ql, trW]
  have t3 : be3 (E19 a0 a1 (some (.int B)) a3 (some (.lst (wrW ws))) (some (.ref 1)) x6 a7 a8 (some (.ref 6)) (some (.ref o)) (some (.ref s.length)) (some (.ref s1.length)) x13 a14 a15 a16 a17 a18) s4 = .nx (E19 a0 a1 (some (.int B)) a3 (some (.lst (wrW ws))) (some (.ref 1)) x6 a7 a8 (some (.ref 6)) (some (.ref o)) (some (.ref s.length)) (some (.ref s1.length)) x13 a14 a15 a16 a17 a18) (s4.set 6 (.lst (es ++ [.lst (finals ws B)]))) := by
    unfold be3
    generalize mComp _ _ _ _ _ _ = m2 at hc ⊢
    simp only [sSeq, sIf, sAsg, sRet, sExpr, sNx, Rs.to, Rs.bind, mAnd, mOr, mNot, mB, mTr, toB, mOp, mVar, mC, mNeg, mCons, mNil, mFn, mBl, mTup, mCall, mIf, gName', gDo, gSub', List.map, List.length, List.replicate, List.cons_append, List.nil_append, List.append_nil, List.getElem?_cons_succ, List.getElem?_cons_zero, List.set_cons_zero, List.set_cons_succ, if_true, Bool.not_true, Bool.not_false, Bool.true_eq_false, Bool.false_eq_true, if_false, Nat.reduceAdd, Nat.reduceSub, mLm, sq, hc, ap]
  refine ⟨x6, some (.ref s.length), some (.ref s1.length), x13, s4.set 6 (.lst (es ++ [.lst (finals ws B)])), ?_, by simp; omega, fun j hj => ?_, get_set hE4⟩
  · simp only [sSeq]
    rw [t0]
    simp only
    rw [t1]
    simp only
    rw [q4]
    simp only
    exact t3
  · rw [get_ne (by omega)]
    exact k4 j (by omega)
end
end Lw
namespace Lw
open PySem L2 Mi
def bg0 : MS := sAsg (mCall r_law_written (mCons (mVar 2) (mCons (mVar 4) (mNil)))) (gName' 11)
def bg1 : MS := sFor (iL (mSl true (mOp wIx (mVar 8) (mC (.int 0))) (mNoPart) (mPart (mVar 14)))) (gName' 6) (sExpr (mMeth [(0, r_Disk_reach)] "reach" (mVar 11) (mCons (mVar 6) (mNil))))
def bg2 : MS := sExpr (mMeth [(0, r_Disk_cut)] "cut" (mVar 11) mNil)
def bg3 : MS := sLock (mVar 5) (sFor (iKv (mVar 5)) (gTup' [gName' 6, gName' 15]) (sSeq (sAsg (mLm fCount (mSl true (mOp wIx (mVar 8) (mC (.int 0))) (mNoPart) (mPart (mVar 14))) (mCons (mVar 6) (mNil))) (gName' 16)) (sSeq (sAsg (mIf (mB (mOp (wCmpS (fun i j => decide (j.cps.toList < i.cps.toList)) (fun i j => decide (j < i))) (mVar 16) (mC (.int 0)))) (mOp wIx (mVar 15) (mOp (wSub) (mVar 16) (mC (.int 1)))) (mTup (mNil))) (gName' 17)) (sIf (mOr (mB (mOp (wNe) (mMeth [(0, r_Disk_lying)] "lying" (mVar 11) (mCons (mVar 6) (mNil))) (mVar 17))) (mB (mOp (wNe) (mMeth [(0, r_Disk_read)] "read" (mVar 11) (mCons (mVar 6) (mNil))) (mVar 17)))) (sRet (mC (.bl false))) (sNx)))))
def bg4 : MS := sIf (mOr (mB (mOp (wEqD false) (mMeth [(0, r_Disk_waiting)] "waiting" (mVar 11) mNil) (mDict0))) (mB (mOp (wNe) (mMeth [(0, r_Disk_reached)] "reached" (mVar 11) mNil) (mVar 14)))) (sRet (mC (.bl false))) (sNx)
def bh0 : MS := sAsg (mLm fCount (mSl true (mOp wIx (mVar 8) (mC (.int 0))) (mNoPart) (mPart (mVar 14))) (mCons (mVar 6) (mNil))) (gName' 16)
def bh1 : MS := sAsg (mIf (mB (mOp (wCmpS (fun i j => decide (j.cps.toList < i.cps.toList)) (fun i j => decide (j < i))) (mVar 16) (mC (.int 0)))) (mOp wIx (mVar 15) (mOp (wSub) (mVar 16) (mC (.int 1)))) (mTup (mNil))) (gName' 17)
def bh2 : MS := sIf (mOr (mB (mOp (wNe) (mMeth [(0, r_Disk_lying)] "lying" (mVar 11) (mCons (mVar 6) (mNil))) (mVar 17))) (mB (mOp (wNe) (mMeth [(0, r_Disk_read)] "read" (mVar 11) (mCons (mVar 6) (mNil))) (mVar 17)))) (sRet (mC (.bl false))) (sNx)
theorem bg3_split : bg3 = sLock (mVar 5) (sFor (iKv (mVar 5)) (gTup' [gName' 6, gName' 15]) (sSeq bh0 (sSeq bh1 bh2))) := rfl
theorem law9_split : law9 = sFor (iR1 (mCons (mOp (wAdd true) (mFn fLen (mCons (mVar 4) (mNil))) (mC (.int 1))) (mNil))) (gName' 14) (sSeq bg0 (sSeq bg1 (sSeq bg2 (sSeq bg3 bg4)))) := rfl
section
variable {a0 a1 a2 a3 a4 a5 a6 a7 a8 a9 a10 a11 a12 a13 a14 a15 a16 a17 a18 : Option W}
theorem slice1 {t : Sto} {ws : List (Int × W)} {os : List Int} {B : Nat} {p : Nat} (hO : t[3]? = some (.lst (os.map W.int))) (hp : p ≤ os.length) : (mSl true (mOp wIx (mVar 8) (mC (.int 0))) (mNoPart) (mPart (mVar 14))) (E19 a0 a1 (some (.int B)) a3 (some (.lst (wrW ws))) (some (.ref 1)) a6 a7 (some (.lst [.ref 3, .ref 5])) a9 a10 a11 a12 a13 (some (.int p)) a15 a16 a17 a18) t = .ok (.lst ((os.take p).map W.int)) t := by
  have i1 : wIx (.lst [.ref 3, .ref 5]) (.int 0) t = .ok (.ref 3) t := rfl
  have sl : wSl true (.ref 3) none (some (p : Int)) t = .ok (.lst ((os.take p).map W.int)) t := by
    simp only [wSl, seq_ref hO, newL, cutW, if_true, HT.sIx_nat, HT.sIx_none, Nat.sub_zero, List.drop_zero, List.length_map, Nat.min_eq_left hp, List.map_take]
  simp only [sSeq, sIf, sAsg, sRet, sExpr, sNx, Rs.to, Rs.bind, mAnd, mOr, mNot, mB, mTr, toB, mOp, mVar, mC, mNeg, mCons, mNil, mFn, mBl, mTup, mCall, mIf, gName', gDo, gSub', List.map, List.length, List.replicate, List.cons_append, List.nil_append, List.append_nil, List.getElem?_cons_succ, List.getElem?_cons_zero, List.set_cons_zero, List.set_cons_succ, if_true, Bool.not_true, Bool.not_false, Bool.true_eq_false, Bool.false_eq_true, if_false, Nat.reduceAdd, Nat.reduceSub, mSl, i1, mNoPart, mPart, sl]
theorem place1 {s : Sto} {ws : List (Int × W)} {bs os : List Int} {B p : Nat} (h1 : 16 ≤ B) (h2 : B ≤ 18) (hl : ws.length ≤ 12) (hw : ∀ p ∈ ws, 0 ≤ p.1 ∧ p.1 < (B : Int) ∧ Cont p.2) (hbs : ∀ b, b ∈ bs ↔ ∃ p ∈ ws, p.1 = b)
    (hs : 7 ≤ s.length) (hR : s[1]? = some (.dk (rowsN bs (rowOf ws)))) (hO : s[3]? = some (.lst (os.map W.int))) (hp : os.Perm (ws.map (·.1))) (hpl : p ≤ os.length) :
    ∃ x6 x11 x15 x16 x17 st', sSeq bg0 (sSeq bg1 (sSeq bg2 (sSeq bg3 bg4))) (E19 a0 a1 (some (.int B)) a3 (some (.lst (wrW ws))) (some (.ref 1)) a6 a7 (some (.lst [.ref 3, .ref 5])) a9 a10 a11 a12 a13 (some (.int p)) a15 a16 a17 a18) s = .nx (E19 a0 a1 (some (.int B)) a3 (some (.lst (wrW ws))) (some (.ref 1)) x6 a7 (some (.lst [.ref 3, .ref 5])) a9 a10 x11 a12 a13 (some (.int p)) x15 x16 x17 a18) st' ∧ 7 ≤ st'.length ∧ (∀ j, j < 7 → st'[j]? = s[j]?) := by
  obtain ⟨s1, q1, l1, f1, own, c, k, C, L, D, hown⟩ := written1 (st := s) h1 h2 hl hw
  have hC : ∀ b, ∀ w ∈ rowOf ws b, Cont w := fun b => rowOf_cont (fun p hp => (hw p hp).2.2) b
  have t0 : bg0 (E19 a0 a1 (some (.int B)) a3 (some (.lst (wrW ws))) (some (.ref 1)) a6 a7 (some (.lst [.ref 3, .ref 5])) a9 a10 a11 a12 a13 (some (.int p)) a15 a16 a17 a18) s = .nx (E19 a0 a1 (some (.int B)) a3 (some (.lst (wrW ws))) (some (.ref 1)) a6 a7 (some (.lst [.ref 3, .ref 5])) a9 a10 (some (.ref s.length)) a12 a13 (some (.int p)) a15 a16 a17 a18) s1 := by
    unfold bg0
    generalize r_law_written = m2 at q1 ⊢
    simp only [sSeq, sIf, sAsg, sRet, sExpr, sNx, Rs.to, Rs.bind, mAnd, mOr, mNot, mB, mTr, toB, mOp, mVar, mC, mNeg, mCons, mNil, mFn, mBl, mTup, mCall, mIf, gName', gDo, gSub', List.map, List.length, List.replicate, List.cons_append, List.nil_append, List.append_nil, List.getElem?_cons_succ, List.getElem?_cons_zero, List.set_cons_zero, List.set_cons_succ, if_true, Bool.not_true, Bool.not_false, Bool.true_eq_false, Bool.false_eq_true, if_false, Nat.reduceAdd, Nat.reduceSub, q1]
  have hO1 : s1[3]? = some (.lst (os.map W.int)) := by rw [f1 3 (by omega)]; exact hO
  have htl : (os.take p).length = p := by simp; omega
  -- the writes that reach the disk
  obtain ⟨env2, s2, q2, ⟨x6, rfl⟩, C2, L2, D2, f2, l2⟩ := for_fix (xs := (os.take p).map W.int) (g := gName' 6) (body := sExpr (mMeth [(0, r_Disk_reach)] "reach" (mVar 11) (mCons (mVar 6) (mNil)))) (env := (E19 a0 a1 (some (.int B)) a3 (some (.lst (wrW ws))) (some (.ref 1)) a6 a7 (some (.lst [.ref 3, .ref 5])) a9 a10 (some (.ref s.length)) a12 a13 (some (.int p)) a15 a16 a17 a18)) (st := s1)
    (fun j env t => (∃ x6, env = (E19 a0 a1 (some (.int B)) a3 (some (.lst (wrW ws))) (some (.ref 1)) x6 a7 (some (.lst [.ref 3, .ref 5])) a9 a10 (some (.ref s.length)) a12 a13 (some (.int p)) a15 a16 a17 a18)) ∧ ∃ C L, DSt t own s.length B (rowOf ws) (fun b => (os.take j).count b) j c k C L ∧ (∀ i, i < s.length → t[i]? = s1[i]?) ∧ t.length = s1.length) (fun j hj env t z => by
      obtain ⟨⟨x6, rfl⟩, C, L, D1, z1, z2⟩ := z
      have hj1 : j < p := by
        simp at hj
        omega
      have hj2 : j < os.length := by omega
      have hx : ((os.take p).map W.int)[j] = W.int os[j] := by simp
      have mem : os[j] ∈ ws.map (·.1) := hp.mem_iff.mp (List.getElem_mem hj2)
      have hin : ∃ p ∈ ws, p.1 = os[j] := by
        obtain ⟨p, h1, h2⟩ := List.mem_map.mp mem
        exact ⟨p, h1, h2⟩
      have less : (os.take j).count os[j] < (rowOf ws os[j]).length := by
        rw [rowOf_count, ← hp.count_eq]
        exact take_less hj2
      have tc := take_count hj2
      rw [hx]
      generalize os[j] = b at mem hin less tc
      obtain ⟨g1, g2⟩ : 0 ≤ b ∧ b < (B : Int) := by
        obtain ⟨p, h1, rfl⟩ := hin
        exact ⟨(hw p h1).1, (hw p h1).2.1⟩
      obtain ⟨t1, C1, L1, qr, e1, e2, D2⟩ := reach1 D1 g1 g2 less
      rw [tc] at D2
      have hd0 := D1.hd
      refine ⟨(E19 a0 a1 (some (.int B)) a3 (some (.lst (wrW ws))) (some (.ref 1)) (some (.int b)) a7 (some (.lst [.ref 3, .ref 5])) a9 a10 (some (.ref s.length)) a12 a13 (some (.int p)) a15 a16 a17 a18), t, (E19 a0 a1 (some (.int B)) a3 (some (.lst (wrW ws))) (some (.ref 1)) (some (.int b)) a7 (some (.lst [.ref 3, .ref 5])) a9 a10 (some (.ref s.length)) a12 a13 (some (.int p)) a15 a16 a17 a18), t1, rfl, ?_, ⟨some (.int b), rfl⟩, C1, L1, D2, fun i hi => ?_, by omega⟩
      · generalize r_Disk_reach = f at qr ⊢
        simp only [sSeq, sIf, sAsg, sRet, sExpr, sNx, Rs.to, Rs.bind, mAnd, mOr, mNot, mB, mTr, toB, mOp, mVar, mC, mNeg, mCons, mNil, mFn, mBl, mTup, mCall, mIf, gName', gDo, gSub', List.map, List.length, List.replicate, List.cons_append, List.nil_append, List.append_nil, List.getElem?_cons_succ, List.getElem?_cons_zero, List.set_cons_zero, List.set_cons_succ, if_true, Bool.not_true, Bool.not_false, Bool.true_eq_false, Bool.false_eq_true, if_false, Nat.reduceAdd, Nat.reduceSub, mMeth, mFld, lk_c, lk_k, lk_l, lk_a, no_0, no_1, no_2, no_3, no_4, no_5, no_6, no_7, no_8, no_9, lk_tb, cont0, runOf, outOf, hd0, qr]
      · rw [e2 i (fun z => by have := (hown i z).1; omega)]
        exact z1 i hi)
    ⟨⟨_, rfl⟩, C, L, by simpa using D, fun _ _ => rfl, rfl⟩
  have hml : ((os.take p).map W.int).length = p := by simp; omega
  rw [hml] at D2
  have t1 : bg1 (E19 a0 a1 (some (.int B)) a3 (some (.lst (wrW ws))) (some (.ref 1)) a6 a7 (some (.lst [.ref 3, .ref 5])) a9 a10 (some (.ref s.length)) a12 a13 (some (.int p)) a15 a16 a17 a18) s1 = .nx (E19 a0 a1 (some (.int B)) a3 (some (.lst (wrW ws))) (some (.ref 1)) x6 a7 (some (.lst [.ref 3, .ref 5])) a9 a10 (some (.ref s.length)) a12 a13 (some (.int p)) a15 a16 a17 a18) s2 := by
    have qs := slice1 (a0 := a0) (a1 := a1) (a3 := a3) (a6 := a6) (a7 := a7) (a9 := a9) (a10 := a10) (a11 := some (.ref s.length)) (a12 := a12) (a13 := a13) (a15 := a15) (a16 := a16) (a17 := a17) (a18 := a18) (ws := ws) (B := B) hO1 hpl
    unfold bg1
    generalize (mSl true (mOp wIx (mVar 8) (mC (.int 0))) (mNoPart) (mPart (mVar 14))) = m2 at qs ⊢
    simp only [sFor, iL]
    simp only [sSeq, sIf, sAsg, sRet, sExpr, sNx, Rs.to, Rs.bind, mAnd, mOr, mNot, mB, mTr, toB, mOp, mVar, mC, mNeg, mCons, mNil, mFn, mBl, mTup, mCall, mIf, gName', gDo, gSub', List.map, List.length, List.replicate, List.cons_append, List.nil_append, List.append_nil, List.getElem?_cons_succ, List.getElem?_cons_zero, List.set_cons_zero, List.set_cons_succ, if_true, Bool.not_true, Bool.not_false, Bool.true_eq_false, Bool.false_eq_true, if_false, Nat.reduceAdd, Nat.reduceSub, qs]
    exact q2
  -- the power goes
  obtain ⟨s3, qcut, l3, f3, D3⟩ := cut1 D2
  have hd2 := D2.hd
  have t2 : bg2 (E19 a0 a1 (some (.int B)) a3 (some (.lst (wrW ws))) (some (.ref 1)) x6 a7 (some (.lst [.ref 3, .ref 5])) a9 a10 (some (.ref s.length)) a12 a13 (some (.int p)) a15 a16 a17 a18) s2 = .nx (E19 a0 a1 (some (.int B)) a3 (some (.lst (wrW ws))) (some (.ref 1)) x6 a7 (some (.lst [.ref 3, .ref 5])) a9 a10 (some (.ref s.length)) a12 a13 (some (.int p)) a15 a16 a17 a18) s3 := by
    unfold bg2
    generalize r_Disk_cut = m2 at qcut ⊢
    simp only [sSeq, sIf, sAsg, sRet, sExpr, sNx, Rs.to, Rs.bind, mAnd, mOr, mNot, mB, mTr, toB, mOp, mVar, mC, mNeg, mCons, mNil, mFn, mBl, mTup, mCall, mIf, gName', gDo, gSub', List.map, List.length, List.replicate, List.cons_append, List.nil_append, List.append_nil, List.getElem?_cons_succ, List.getElem?_cons_zero, List.set_cons_zero, List.set_cons_succ, if_true, Bool.not_true, Bool.not_false, Bool.true_eq_false, Bool.false_eq_true, if_false, Nat.reduceAdd, Nat.reduceSub, mMeth, mFld, lk_c, lk_k, lk_l, lk_a, no_0, no_1, no_2, no_3, no_4, no_5, no_6, no_7, no_8, no_9, lk_tb, cont0, runOf, outOf, hd2, qcut]
  have fr3 : ∀ j, j < s.length → s3[j]? = s[j]? := fun j hj => by
    rw [f3 j (by omega) (fun z => by have := (hown j z).1; omega), f2 j hj, f1 j hj]
  have hown3 : ∀ j ∈ s2.length :: own, s.length ≤ j := fun j hj => by
    rcases List.mem_cons.mp hj with rfl | hj
    · omega
    · exact (hown j hj).1
  have hR3 : s3[1]? = some (.dk (rowsN bs (rowOf ws))) := by rw [fr3 1 (by omega)]; exact hR
  have hO3 : s3[3]? = some (.lst (os.map W.int)) := by rw [fr3 3 (by omega)]; exact hO
  have hlk : (s3.set 1 (.lk (rowsN bs (rowOf ws))))[1]? = some (.lk (rowsN bs (rowOf ws))) := get_set hR3
  have lkof : lkOf (s3.set 1 (.lk (rowsN bs (rowOf ws)))) (.ref 1) = some (1, rowsN bs (rowOf ws)) := by simp only [lkOf, hlk]
  have D4 : DSt (s3.set 1 (.lk (rowsN bs (rowOf ws)))) (s2.length :: own) s.length B (fun x => (rowOf ws x).take ((os.take p).count x)) (fun b => (os.take p).count b) p c s2.length C2 [] := D3.frame fun j hj => get_ne (by have := hown3 j hj; omega)
  have hO4 : (s3.set 1 (.lk (rowsN bs (rowOf ws))))[3]? = some (.lst (os.map W.int)) := by rw [get_ne (by omega)]; exact hO3
  have hd4 := D4.hd
  have cl : ∀ b, (os.take p).count b ≤ (rowOf ws b).length := D2.cle
  obtain ⟨env5, s5, q5, ⟨y6, y15, y16, y17, rfl⟩, e5⟩ := for_fix (xs := (rowsN bs (rowOf ws)).map fun p => .tup [keyW p.1, p.2]) (g := gTup' [gName' 6, gName' 15]) (body := sSeq bh0 (sSeq bh1 bh2)) (env := (E19 a0 a1 (some (.int B)) a3 (some (.lst (wrW ws))) (some (.ref 1)) x6 a7 (some (.lst [.ref 3, .ref 5])) a9 a10 (some (.ref s.length)) a12 a13 (some (.int p)) a15 a16 a17 a18)) (st := s3.set 1 (.lk (rowsN bs (rowOf ws))))
    (fun i env t => (∃ x6 x15 x16 x17, env = (E19 a0 a1 (some (.int B)) a3 (some (.lst (wrW ws))) (some (.ref 1)) x6 a7 (some (.lst [.ref 3, .ref 5])) a9 a10 (some (.ref s.length)) a12 a13 (some (.int p)) x15 x16 x17 a18)) ∧ t = s3.set 1 (.lk (rowsN bs (rowOf ws)))) (fun i hi env t z => by
      obtain ⟨⟨x6, x15, x16, x17, rfl⟩, z1⟩ := z
      have hi' : i < bs.length := by simpa [rowsN] using hi
      have hx : ((rowsN bs (rowOf ws)).map fun p => W.tup [keyW p.1, p.2])[i] = .tup [.int bs[i], .lst (rowOf ws bs[i])] := by simp [rowsN, keyW]
      have hb := List.getElem_mem hi'
      rw [hx]
      generalize bs[i] = b at hb
      obtain ⟨g1, g2⟩ : 0 ≤ b ∧ b < (B : Int) := by
        obtain ⟨p, h1, rfl⟩ := (hbs b).mp hb
        exact ⟨(hw p h1).1, (hw p h1).2.1⟩
      generalize s3.set 1 (.lk (rowsN bs (rowOf ws))) = t4 at D4 hO4 hd4 z1
      subst z1
      have qs := slice1 (a0 := a0) (a1 := a1) (a3 := a3) (a6 := some (.int b)) (a7 := a7) (a9 := a9) (a10 := a10) (a11 := some (.ref s.length)) (a12 := a12) (a13 := a13) (a15 := some (.lst (rowOf ws b))) (a16 := x16) (a17 := x17) (a18 := a18) (ws := ws) (B := B) hO4 hpl
      have qc : fCount (.lst ((os.take p).map W.int)) [.int b] t = .ok (.int ((os.take p).count b : Nat)) t := by
        simp only [fCount, seqL, intsOf_map]
      have c0 : bh0 (E19 a0 a1 (some (.int B)) a3 (some (.lst (wrW ws))) (some (.ref 1)) (some (.int b)) a7 (some (.lst [.ref 3, .ref 5])) a9 a10 (some (.ref s.length)) a12 a13 (some (.int p)) (some (.lst (rowOf ws b))) x16 x17 a18) t = .nx (E19 a0 a1 (some (.int B)) a3 (some (.lst (wrW ws))) (some (.ref 1)) (some (.int b)) a7 (some (.lst [.ref 3, .ref 5])) a9 a10 (some (.ref s.length)) a12 a13 (some (.int p)) (some (.lst (rowOf ws b))) (some (.int ((os.take p).count b : Nat))) x17 a18) t := by
        unfold bh0
        generalize (mSl true (mOp wIx (mVar 8) (mC (.int 0))) (mNoPart) (mPart (mVar 14))) = m2 at qs ⊢
        have sq : (seqL t (.lst ((os.take p).map W.int))).isSome = true := rfl
        simp only [sSeq, sIf, sAsg, sRet, sExpr, sNx, Rs.to, Rs.bind, mAnd, mOr, mNot, mB, mTr, toB, mOp, mVar, mC, mNeg, mCons, mNil, mFn, mBl, mTup, mCall, mIf, gName', gDo, gSub', List.map, List.length, List.replicate, List.cons_append, List.nil_append, List.append_nil, List.getElem?_cons_succ, List.getElem?_cons_zero, List.set_cons_zero, List.set_cons_succ, if_true, Bool.not_true, Bool.not_false, Bool.true_eq_false, Bool.false_eq_true, if_false, Nat.reduceAdd, Nat.reduceSub, mLm, qs, sq, qc]
      have c1 : bh1 (E19 a0 a1 (some (.int B)) a3 (some (.lst (wrW ws))) (some (.ref 1)) (some (.int b)) a7 (some (.lst [.ref 3, .ref 5])) a9 a10 (some (.ref s.length)) a12 a13 (some (.int p)) (some (.lst (rowOf ws b))) (some (.int ((os.take p).count b : Nat))) x17 a18) t = .nx (E19 a0 a1 (some (.int B)) a3 (some (.lst (wrW ws))) (some (.ref 1)) (some (.int b)) a7 (some (.lst [.ref 3, .ref 5])) a9 a10 (some (.ref s.length)) a12 a13 (some (.int p)) (some (.lst (rowOf ws b))) (some (.int ((os.take p).count b : Nat))) (some (valW (rowOf ws b) ((os.take p).count b))) a18) t := by
        have cb := cl b
        generalize (os.take p).count b = u at cb
        unfold bh1
        rcases Nat.eq_zero_or_pos u with e | e
        · subst e
          have c1 : ¬ (0 : Int) < ((0 : Nat) : Int) := by omega
          simp only [sSeq, sIf, sAsg, sRet, sExpr, sNx, Rs.to, Rs.bind, mAnd, mOr, mNot, mB, mTr, toB, mOp, mVar, mC, mNeg, mCons, mNil, mFn, mBl, mTup, mCall, mIf, gName', gDo, gSub', List.map, List.length, List.replicate, List.cons_append, List.nil_append, List.append_nil, List.getElem?_cons_succ, List.getElem?_cons_zero, List.set_cons_zero, List.set_cons_succ, if_true, Bool.not_true, Bool.not_false, Bool.true_eq_false, Bool.false_eq_true, if_false, Nat.reduceAdd, Nat.reduceSub, cmp_i, c1, decide_false]
          rfl
        · obtain ⟨m, rfl⟩ : ∃ m, u = m + 1 := ⟨u - 1, by omega⟩
          have c1 : (0 : Int) < ((m + 1 : Nat) : Int) := by omega
          have i1 : wIx (.lst (rowOf ws b)) (.int (((m + 1 : Nat) : Int) - 1)) t = .ok (valW (rowOf ws b) (m + 1)) t := by
            rw [show (((m + 1 : Nat) : Int) - 1) = ((m : Nat) : Int) by omega]
            simp only [wIx, dkOf, seqL]
            have hml : m < (rowOf ws b).length := by omega
            rw [nth_nat (w := (rowOf ws b)[m]) (by simp [hml])]
            simp [valW, List.getD, hml]
          simp only [sSeq, sIf, sAsg, sRet, sExpr, sNx, Rs.to, Rs.bind, mAnd, mOr, mNot, mB, mTr, toB, mOp, mVar, mC, mNeg, mCons, mNil, mFn, mBl, mTup, mCall, mIf, gName', gDo, gSub', List.map, List.length, List.replicate, List.cons_append, List.nil_append, List.append_nil, List.getElem?_cons_succ, List.getElem?_cons_zero, List.set_cons_zero, List.set_cons_succ, if_true, Bool.not_true, Bool.not_false, Bool.true_eq_false, Bool.false_eq_true, if_false, Nat.reduceAdd, Nat.reduceSub, cmp_i, c1, decide_true, sub_i, i1]
      have ql := lying1 D4 g1 g2
      have qr := read1 D4 g1 g2
      have tl : ((rowOf ws b).take ((os.take p).count b)).length = (os.take p).count b := by
        have := cl b
        simp only [List.length_take]
        omega
      simp only [tl] at qr
      simp only [valW_take (cl b)] at ql qr
      have ns := ne_same (valW_cont (hC b) ((os.take p).count b)) t
      have c2 : bh2 (E19 a0 a1 (some (.int B)) a3 (some (.lst (wrW ws))) (some (.ref 1)) (some (.int b)) a7 (some (.lst [.ref 3, .ref 5])) a9 a10 (some (.ref s.length)) a12 a13 (some (.int p)) (some (.lst (rowOf ws b))) (some (.int ((os.take p).count b : Nat))) (some (valW (rowOf ws b) ((os.take p).count b))) a18) t = .nx (E19 a0 a1 (some (.int B)) a3 (some (.lst (wrW ws))) (some (.ref 1)) (some (.int b)) a7 (some (.lst [.ref 3, .ref 5])) a9 a10 (some (.ref s.length)) a12 a13 (some (.int p)) (some (.lst (rowOf ws b))) (some (.int ((os.take p).count b : Nat))) (some (valW (rowOf ws b) ((os.take p).count b))) a18) t := by
        unfold bh2
        generalize r_Disk_lying = f1 at ql ⊢
        generalize r_Disk_read = f2 at qr ⊢
        simp only [sSeq, sIf, sAsg, sRet, sExpr, sNx, Rs.to, Rs.bind, mAnd, mOr, mNot, mB, mTr, toB, mOp, mVar, mC, mNeg, mCons, mNil, mFn, mBl, mTup, mCall, mIf, gName', gDo, gSub', List.map, List.length, List.replicate, List.cons_append, List.nil_append, List.append_nil, List.getElem?_cons_succ, List.getElem?_cons_zero, List.set_cons_zero, List.set_cons_succ, if_true, Bool.not_true, Bool.not_false, Bool.true_eq_false, Bool.false_eq_true, if_false, Nat.reduceAdd, Nat.reduceSub, mMeth, mFld, lk_c, lk_k, lk_l, lk_a, no_0, no_1, no_2, no_3, no_4, no_5, no_6, no_7, no_8, no_9, lk_tb, cont0, runOf, outOf, hd4, ql, qr, ns]
      refine ⟨(E19 a0 a1 (some (.int B)) a3 (some (.lst (wrW ws))) (some (.ref 1)) (some (.int b)) a7 (some (.lst [.ref 3, .ref 5])) a9 a10 (some (.ref s.length)) a12 a13 (some (.int p)) (some (.lst (rowOf ws b))) x16 x17 a18), t, _, t, rfl, ?_, ⟨some (.int b), some (.lst (rowOf ws b)), some (.int ((os.take p).count b : Nat)), some (valW (rowOf ws b) ((os.take p).count b)), rfl⟩, rfl⟩
      simp only [sSeq]
      rw [c0]
      simp only
      rw [c1]
      simp only
      exact c2)
    ⟨⟨_, _, _, _, rfl⟩, rfl⟩
  rw [e5] at q5
  have t3 : bg3 (E19 a0 a1 (some (.int B)) a3 (some (.lst (wrW ws))) (some (.ref 1)) x6 a7 (some (.lst [.ref 3, .ref 5])) a9 a10 (some (.ref s.length)) a12 a13 (some (.int p)) a15 a16 a17 a18) s3 = .nx (E19 a0 a1 (some (.int B)) a3 (some (.lst (wrW ws))) (some (.ref 1)) y6 a7 (some (.lst [.ref 3, .ref 5])) a9 a10 (some (.ref s.length)) a12 a13 (some (.int p)) y15 y16 y17 a18) s3 := by
    have hq : sFor (iKv (mVar 5)) (gTup' [gName' 6, gName' 15]) (sSeq bh0 (sSeq bh1 bh2)) (E19 a0 a1 (some (.int B)) a3 (some (.lst (wrW ws))) (some (.ref 1)) x6 a7 (some (.lst [.ref 3, .ref 5])) a9 a10 (some (.ref s.length)) a12 a13 (some (.int p)) a15 a16 a17 a18) (s3.set 1 (.lk (rowsN bs (rowOf ws)))) = .nx (E19 a0 a1 (some (.int B)) a3 (some (.lst (wrW ws))) (some (.ref 1)) y6 a7 (some (.lst [.ref 3, .ref 5])) a9 a10 (some (.ref s.length)) a12 a13 (some (.int p)) y15 y16 y17 a18) (s3.set 1 (.lk (rowsN bs (rowOf ws)))) := by
      simp only [sFor, iKv]
      simp only [sSeq, sIf, sAsg, sRet, sExpr, sNx, Rs.to, Rs.bind, mAnd, mOr, mNot, mB, mTr, toB, mOp, mVar, mC, mNeg, mCons, mNil, mFn, mBl, mTup, mCall, mIf, gName', gDo, gSub', List.map, List.length, List.replicate, List.cons_append, List.nil_append, List.append_nil, List.getElem?_cons_succ, List.getElem?_cons_zero, List.set_cons_zero, List.set_cons_succ, if_true, Bool.not_true, Bool.not_false, Bool.true_eq_false, Bool.false_eq_true, if_false, Nat.reduceAdd, Nat.reduceSub, lkof]
      exact q5
    have un : unlk 1 (s3.set 1 (.lk (rowsN bs (rowOf ws)))) = some s3 := by
      simp only [unlk, hlk]
      rw [List.set_set, set_self hR3]
    have nd : nodD s3 (.ref 1) = some (1, rowsN bs (rowOf ws)) := by simp only [nodD, hR3]
    rw [bg3_split]
    generalize sFor _ _ _ = f1 at hq ⊢
    simp only [sSeq, sIf, sAsg, sRet, sExpr, sNx, Rs.to, Rs.bind, mAnd, mOr, mNot, mB, mTr, toB, mOp, mVar, mC, mNeg, mCons, mNil, mFn, mBl, mTup, mCall, mIf, gName', gDo, gSub', List.map, List.length, List.replicate, List.cons_append, List.nil_append, List.append_nil, List.getElem?_cons_succ, List.getElem?_cons_zero, List.set_cons_zero, List.set_cons_succ, if_true, Bool.not_true, Bool.not_false, Bool.true_eq_false, Bool.false_eq_true, if_false, Nat.reduceAdd, Nat.reduceSub, sLock, nd, hq, unlkS, un]
  obtain ⟨E6, qw, _, w6⟩ := waiting1 D3
  have w6 := w6 rfl
  subst w6
  have D6 : DSt (s3 ++ [Nd.dk [], Nd.dk []]) (s2.length :: own) s.length B (fun x => (rowOf ws x).take ((os.take p).count x)) (fun b => (os.take p).count b) p c s2.length C2 [] := D3.frame fun j hj => get_lt (by
    rcases List.mem_cons.mp hj with rfl | hj
    · omega
    · have := (hown j hj).2; omega)
  have qd := reached1 D6
  have hd3 := D3.hd
  have hd6 := D6.hd
  have wq : wEqD false (.ref s3.length) (.ref (s3 ++ [Nd.dk []]).length) (s3 ++ [Nd.dk []] ++ [Nd.dk []]) = .ok (.bl false) (s3 ++ [Nd.dk [], Nd.dk []]) := by
    have e1 : s3 ++ [Nd.dk []] ++ [Nd.dk []] = s3 ++ [Nd.dk [], Nd.dk []] := by simp
    have g1 : (s3 ++ [Nd.dk [], Nd.dk []])[s3.length]? = some (.dk []) := by simp
    have g2 : (s3 ++ [Nd.dk [], Nd.dk []])[s3.length + 1]? = some (.dk []) := by simp
    rw [e1, List.length_append]
    simp only [wEqD, nodD, List.length_cons, List.length_nil, Nat.zero_add, g1, g2]
    rfl
  have t4 : bg4 (E19 a0 a1 (some (.int B)) a3 (some (.lst (wrW ws))) (some (.ref 1)) y6 a7 (some (.lst [.ref 3, .ref 5])) a9 a10 (some (.ref s.length)) a12 a13 (some (.int p)) y15 y16 y17 a18) s3 = .nx (E19 a0 a1 (some (.int B)) a3 (some (.lst (wrW ws))) (some (.ref 1)) y6 a7 (some (.lst [.ref 3, .ref 5])) a9 a10 (some (.ref s.length)) a12 a13 (some (.int p)) y15 y16 y17 a18) (s3 ++ [Nd.dk [], Nd.dk []]) := by
    unfold bg4
    generalize r_Disk_waiting = f1 at qw ⊢
    generalize r_Disk_reached = f2 at qd ⊢
    simp only [sSeq, sIf, sAsg, sRet, sExpr, sNx, Rs.to, Rs.bind, mAnd, mOr, mNot, mB, mTr, toB, mOp, mVar, mC, mNeg, mCons, mNil, mFn, mBl, mTup, mCall, mIf, gName', gDo, gSub', List.map, List.length, List.replicate, List.cons_append, List.nil_append, List.append_nil, List.getElem?_cons_succ, List.getElem?_cons_zero, List.set_cons_zero, List.set_cons_succ, if_true, Bool.not_true, Bool.not_false, Bool.true_eq_false, Bool.false_eq_true, if_false, Nat.reduceAdd, Nat.reduceSub, mMeth, mFld, lk_c, lk_k, lk_l, lk_a, no_0, no_1, no_2, no_3, no_4, no_5, no_6, no_7, no_8, no_9, lk_tb, cont0, runOf, outOf, hd3, qw, mDict0, wq, hd6, qd, ne_i, decide_true]
  refine ⟨y6, some (.ref s.length), y15, y16, y17, s3 ++ [Nd.dk [], Nd.dk []], ?_, by simp; omega, fun j hj => ?_⟩
  · simp only [sSeq]
    rw [t0]
    simp only
    rw [t1]
    simp only
    rw [t2]
    simp only
    rw [t3]
    simp only
    exact t4
  · rw [get_lt (by omega), fr3 j (by omega)]
end
end Lw
namespace Lw
open PySem L2 Mi
def unInt : W → Int
  | .int i => i
  | _ => 0
theorem perm_ints {ys : List W} {xs : List Int} (h : ys.Perm (xs.map W.int)) : ∃ os : List Int, ys = os.map W.int ∧ os.Perm xs := by
  refine ⟨ys.map unInt, ?_, ?_⟩
  · have all : ∀ y ∈ ys, ∃ i, y = W.int i := fun y hy => by
      obtain ⟨i, _, rfl⟩ := List.mem_map.mp (h.mem_iff.mp hy)
      exact ⟨i, rfl⟩
    clear h
    induction ys with
    | nil => rfl
    | cons y ys ih =>
      obtain ⟨i, rfl⟩ := all y (by simp)
      simp only [List.map_cons, unInt]
      rw [← ih fun z hz => all z (by simp [hz])]
  · have := h.map unInt
    rw [List.map_map] at this
    have e : (unInt ∘ W.int) = id := rfl
    rw [e, List.map_id] at this
    exact this
section
variable {a0 a1 a2 a3 a4 a5 a6 a7 a8 a9 a10 a11 a12 a13 a14 a15 a16 a17 a18 : Option W}
theorem firsts1 {t : Sto} {ws : List (Int × W)} (hl : ws.length ≤ 12) : mComp true (iL (mVar 4)) [6, 7] (.tup [6, 7]) (mYes) (mVar 6) (E19 a0 a1 a2 a3 (some (.lst (wrW ws))) a5 a6 a7 a8 a9 a10 a11 a12 a13 a14 a15 a16 a17 a18) t = .ok (.lst ((ws.map (·.1)).map W.int)) t := by
  obtain ⟨vs, s5, qc, e5, rfl⟩ := comp_fix (xs := wrW ws) (t := .tup [6, 7]) (cond := mYes) (elt := mVar 6) (env := E19 a0 a1 a2 a3 (some (.lst (wrW ws))) a5 none none a8 a9 a10 a11 a12 a13 a14 a15 a16 a17 a18) (st := t)
    (fun i acc s => s = t ∧ acc = (ws.take i).map fun p => W.int p.1) (fun i hi acc s z => by
      obtain ⟨rfl, rfl⟩ := z
      have hi' : i < ws.length := by simpa [wrW] using hi
      have hx : (wrW ws)[i] = .tup [.int ws[i].1, ws[i].2] := by simp [wrW]
      rw [hx]
      refine ⟨_, .int ws[i].1, _, rfl, rfl, rfl, by simp only [List.length_map, List.length_take, sizeLine]; omega, rfl, ?_⟩
      rw [← List.take_append_getElem hi', List.map_append]
      rfl) ⟨rfl, rfl⟩
  have hlw : (wrW ws).length = ws.length := by simp [wrW]
  rw [hlw, List.take_length, e5] at qc
  have hw : wipeW (E19 a0 a1 a2 a3 (some (.lst (wrW ws))) a5 a6 a7 a8 a9 a10 a11 a12 a13 a14 a15 a16 a17 a18) [6, 7] = E19 a0 a1 a2 a3 (some (.lst (wrW ws))) a5 none none a8 a9 a10 a11 a12 a13 a14 a15 a16 a17 a18 := rfl
  simp only [mComp, hw]
  simp only [sSeq, sIf, sAsg, sRet, sExpr, sNx, Rs.to, Rs.bind, mAnd, mOr, mNot, mB, mTr, toB, mOp, mVar, mC, mNeg, mCons, mNil, mFn, mBl, mTup, mCall, mIf, gName', gDo, gSub', List.map, List.length, List.replicate, List.cons_append, List.nil_append, List.append_nil, List.getElem?_cons_succ, List.getElem?_cons_zero, List.set_cons_zero, List.set_cons_succ, if_true, Bool.not_true, Bool.not_false, Bool.true_eq_false, Bool.false_eq_true, if_false, Nat.reduceAdd, Nat.reduceSub, iL]
  rw [qc]
  simp [newL]
theorem step6 {n : Nd} {R : Nd} {ws : List (Int × W)} (hl : ws.length ≤ 12) (H : Hd [n] 0) : ∃ (n' : Nd) (o1 o2 : List Int), o1.Perm (ws.map (·.1)) ∧ o2.Perm (ws.map (·.1)) ∧ law6 (E19 a0 (some (.ref 0)) a2 a3 (some (.lst (wrW ws))) a5 a6 a7 a8 a9 a10 a11 a12 a13 a14 a15 a16 a17 none) [n, R] = .nx (E19 a0 (some (.ref 0)) a2 a3 (some (.lst (wrW ws))) a5 a6 a7 (some (.lst [.ref 3, .ref 5])) a9 a10 a11 a12 a13 a14 a15 a16 a17 none) [n', R, .lst [], .lst (o1.map W.int), .lst [], .lst (o2.map W.int)] := by
  have H1 : Hd [n, R] 0 := by
    obtain ⟨cs, a, b, c, d, h1, h2, h3⟩ := H
    exact ⟨cs, a, b, c, d, h1, h2, h3⟩
  have len : ((ws.map (·.1)).map W.int).length ≤ 64 := by simp; omega
  obtain ⟨n1, ys1, q1, p1, H2⟩ := mixed1 H1 len
  obtain ⟨n2, ys2, q2, p2, H3⟩ := mixed1 H2 len
  obtain ⟨o1, rfl, r1⟩ := perm_ints p1
  obtain ⟨o2, rfl, r2⟩ := perm_ints p2
  have hs1 : SAB [n, R] 0 n1 [] (o1.map W.int) = [n1, R, .lst [], .lst (o1.map W.int)] := rfl
  have hs2 : SAB [n1, R, .lst [], .lst (o1.map W.int)] 0 n2 [] (o2.map W.int) = [n2, R, .lst [], .lst (o1.map W.int), .lst [], .lst (o2.map W.int)] := rfl
  rw [hs1] at q1
  rw [hs1] at q2
  rw [hs2] at q2
  have l1 : W.ref ([n, R].length + 1) = .ref 3 := rfl
  have l2 : W.ref ([n1, R, .lst [], .lst (o1.map W.int)].length + 1) = .ref 5 := rfl
  rw [l1] at q1
  rw [l2] at q2
  refine ⟨n2, o1, o2, r1, r2, ?_⟩
  have fi := fun (x : Option W) (t : Sto) => firsts1 (a0 := a0) (a1 := some (.ref 0)) (a2 := a2) (a3 := a3) (a5 := a5) (a6 := a6) (a7 := a7) (a8 := a8) (a9 := a9) (a10 := a10) (a11 := a11) (a12 := a12) (a13 := a13) (a14 := a14) (a15 := a15) (a16 := a16) (a17 := a17) (a18 := x) (t := t) hl
  have el : ∀ (x : Option W) (t : Sto) (v : W) (t' : Sto), r_law_mixed [.ref 0, .lst ((ws.map (·.1)).map W.int)] t = .ok v t' → mCall r_law_mixed (mCons (mVar 1) (mCons (mComp true (iL (mVar 4)) [6, 7] (.tup [6, 7]) (mYes) (mVar 6)) (mNil))) (E19 a0 (some (.ref 0)) a2 a3 (some (.lst (wrW ws))) a5 a6 a7 a8 a9 a10 a11 a12 a13 a14 a15 a16 a17 x) t = .ok v t' := by
    intro x t v t' q
    have f := fi x t
    generalize mComp _ _ _ _ _ _ = mc at f ⊢
    generalize r_law_mixed = mm at q ⊢
    simp only [sSeq, sIf, sAsg, sRet, sExpr, sNx, Rs.to, Rs.bind, mAnd, mOr, mNot, mB, mTr, toB, mOp, mVar, mC, mNeg, mCons, mNil, mFn, mBl, mTup, mCall, mIf, gName', gDo, gSub', List.map, List.length, List.replicate, List.cons_append, List.nil_append, List.append_nil, List.getElem?_cons_succ, List.getElem?_cons_zero, List.set_cons_zero, List.set_cons_succ, if_true, Bool.not_true, Bool.not_false, Bool.true_eq_false, Bool.false_eq_true, if_false, Nat.reduceAdd, Nat.reduceSub, f, q]
  have rg : rngW 0 2 = [.int 0, .int 1] := rfl
  obtain ⟨vs, s5, qc, hv⟩ := comp_fix (xs := rngW 0 2) (t := .one 18) (cond := mYes) (elt := mCall r_law_mixed (mCons (mVar 1) (mCons (mComp true (iL (mVar 4)) [6, 7] (.tup [6, 7]) (mYes) (mVar 6)) (mNil)))) (env := E19 a0 (some (.ref 0)) a2 a3 (some (.lst (wrW ws))) a5 a6 a7 a8 a9 a10 a11 a12 a13 a14 a15 a16 a17 none) (st := [n, R])
    (fun i acc s => (i = 0 ∧ acc = [] ∧ s = [n, R]) ∨ (i = 1 ∧ acc = [.ref 3] ∧ s = [n1, R, .lst [], .lst (o1.map W.int)]) ∨ (i = 2 ∧ acc = [.ref 3, .ref 5] ∧ s = [n2, R, .lst [], .lst (o1.map W.int), .lst [], .lst (o2.map W.int)])) (fun i hi acc s z => by
      rcases z with ⟨rfl, rfl, rfl⟩ | ⟨rfl, rfl, rfl⟩ | ⟨rfl, rfl, rfl⟩
      · exact ⟨_, _, _, rfl, rfl, el _ _ _ _ q1, by simp [sizeLine], .inr (.inl ⟨rfl, rfl, rfl⟩)⟩
      · exact ⟨_, _, _, rfl, rfl, el _ _ _ _ q2, by simp [sizeLine], .inr (.inr ⟨rfl, rfl, rfl⟩)⟩
      · rw [rg] at hi
        simp at hi) (.inl ⟨rfl, rfl, rfl⟩)
  have h2 : vs = [.ref 3, .ref 5] ∧ s5 = [n2, R, .lst [], .lst (o1.map W.int), .lst [], .lst (o2.map W.int)] := by
    rcases hv with ⟨h, _⟩ | ⟨h, _⟩ | ⟨_, h1, h2⟩
    · cases h
    · cases h
    · exact ⟨h1, h2⟩
  obtain ⟨rfl, rfl⟩ := h2
  have hc : mComp true (iR1 (mCons (mC (.int 2)) (mNil))) [18] (.one 18) (mYes) (mCall r_law_mixed (mCons (mVar 1) (mCons (mComp true (iL (mVar 4)) [6, 7] (.tup [6, 7]) (mYes) (mVar 6)) (mNil)))) (E19 a0 (some (.ref 0)) a2 a3 (some (.lst (wrW ws))) a5 a6 a7 a8 a9 a10 a11 a12 a13 a14 a15 a16 a17 none) [n, R] = .ok (.lst [.ref 3, .ref 5]) [n2, R, .lst [], .lst (o1.map W.int), .lst [], .lst (o2.map W.int)] := by
    generalize mCall _ _ = el at qc ⊢
    have hw : wipeW (E19 a0 (some (.ref 0)) a2 a3 (some (.lst (wrW ws))) a5 a6 a7 a8 a9 a10 a11 a12 a13 a14 a15 a16 a17 none) [18] = E19 a0 (some (.ref 0)) a2 a3 (some (.lst (wrW ws))) a5 a6 a7 a8 a9 a10 a11 a12 a13 a14 a15 a16 a17 none := rfl
    have sm : Mi.small62 2 = true := by decide
    have tn : (2 : Int).toNat = 2 := rfl
    simp only [mComp, hw]
    simp only [sSeq, sIf, sAsg, sRet, sExpr, sNx, Rs.to, Rs.bind, mAnd, mOr, mNot, mB, mTr, toB, mOp, mVar, mC, mNeg, mCons, mNil, mFn, mBl, mTup, mCall, mIf, gName', gDo, gSub', List.map, List.length, List.replicate, List.cons_append, List.nil_append, List.append_nil, List.getElem?_cons_succ, List.getElem?_cons_zero, List.set_cons_zero, List.set_cons_succ, if_true, Bool.not_true, Bool.not_false, Bool.true_eq_false, Bool.false_eq_true, if_false, Nat.reduceAdd, Nat.reduceSub, iR1, sm, tn]
    rw [qc]
    simp [newL]
  unfold law6
  generalize mCall _ _ = el at hc ⊢
  generalize mComp _ _ _ _ _ _ = mc at hc ⊢
  simp only [sSeq, sIf, sAsg, sRet, sExpr, sNx, Rs.to, Rs.bind, mAnd, mOr, mNot, mB, mTr, toB, mOp, mVar, mC, mNeg, mCons, mNil, mFn, mBl, mTup, mCall, mIf, gName', gDo, gSub', List.map, List.length, List.replicate, List.cons_append, List.nil_append, List.append_nil, List.getElem?_cons_succ, List.getElem?_cons_zero, List.set_cons_zero, List.set_cons_succ, if_true, Bool.not_true, Bool.not_false, Bool.true_eq_false, Bool.false_eq_true, if_false, Nat.reduceAdd, Nat.reduceSub, hc]
theorem finals_len {ws : List (Int × W)} {B : Nat} : True := trivial
theorem finals_eq {ws : List (Int × W)} {B : Nat} (hw : ∀ p ∈ ws, Cont p.2) (st : Sto) : wEq (.lst (finals ws B)) (.lst (finals ws B)) st = .ok (.bl true) st := by
  obtain ⟨ds, k1, k2, k3⟩ := dataD (k := 1) (st := st) (xs := finals ws B) fun x hx => by
    obtain ⟨b, _, rfl⟩ := List.mem_map.mp hx
    exact contD (valW_cont (rowOf_cont hw b) _) st
  have e := eq_data (w := .lst (finals ws B)) (st := st) (d := .list ds) rfl (by simp [toD, k1]) (by simp only [PyData.canLay0]; exact k2) (by simp only [PyData.depth]; omega)
  simp only [wEq, e]
theorem law_true (ns : List Int) (hn : ns.length ≤ 63) : ∃ st, r_law [.scr (ns.map W.int)] [] = .ok (.bl true) st := by
  obtain ⟨n0, q0, H0⟩ := hand1 ns hn
  obtain ⟨B, n1, b1, b2, H1, t1⟩ := step1 (a0 := some (.scr (ns.map W.int))) (a2 := none) (a3 := none) (a4 := none) (a5 := none) (a6 := none) (a7 := none) (a8 := none) (a9 := none) (a10 := none) (a11 := none) (a12 := none) (a13 := none) (a14 := none) (a15 := none) (a16 := none) (a17 := none) (a18 := none) H0
  obtain ⟨xs, n2, x1, x2, x3, H2, t2⟩ := step2 (a0 := some (.scr (ns.map W.int))) (a3 := none) (a4 := none) (a5 := none) (a6 := none) (a7 := none) (a8 := none) (a9 := none) (a10 := none) (a11 := none) (a12 := none) (a13 := none) (a14 := none) (a15 := none) (a16 := none) (a17 := none) (a18 := none) b1 H1
  obtain ⟨ws, n3, hl, hw, t3, H3⟩ := step3 (a0 := some (.scr (ns.map W.int))) (a4 := none) (a5 := none) (a6 := none) (a7 := none) (a8 := none) (a9 := none) (a10 := none) (a11 := none) (a12 := none) (a13 := none) (a14 := none) (a15 := none) (a16 := none) (a17 := none) H2 x1 x2 x3
  obtain ⟨bs, y6, y7, nd, hbs, t5⟩ := step5 (a0 := some (.scr (ns.map W.int))) (a1 := some (.ref 0)) (a2 := some (.int B)) (a3 := some (.lst xs)) (a6 := none) (a7 := none) (a8 := none) (a9 := none) (a10 := none) (a11 := none) (a12 := none) (a13 := none) (a14 := none) (a15 := none) (a16 := none) (a17 := none) (a18 := none) (n := n3) hl
  have hbl : bs.length ≤ 18 := by
    have := few_ints B bs nd fun b hb => by
      obtain ⟨p, hp, rfl⟩ := (hbs b).mp hb
      exact ⟨(hw p hp).1, (hw p hp).2.1⟩
    omega
  obtain ⟨n6, o1, o2, p1, p2, t6⟩ := step6 (a0 := some (.scr (ns.map W.int))) (a2 := some (.int B)) (a3 := some (.lst xs)) (a5 := some (.ref 1)) (a6 := y6) (a7 := y7) (a8 := none) (a9 := none) (a10 := none) (a11 := none) (a12 := none) (a13 := none) (a14 := none) (a15 := none) (a16 := none) (a17 := none) (n := n3) (R := .dk (rowsN bs (rowOf ws))) hl H3
  have hC : ∀ p ∈ ws, Cont p.2 := fun p hp => (hw p hp).2.2
  -- the two orders
  obtain ⟨env8, s8, q8, ⟨z6, z10, z11, z12, z13, rfl⟩, l8, hR8, h38, h58, h68⟩ := for_fix (xs := [.ref 3, .ref 5]) (g := gName' 10) (body := sSeq be0 (sSeq be1 (sSeq be2 be3))) (env := E19 (some (.scr (ns.map W.int))) (some (.ref 0)) (some (.int B)) (some (.lst xs)) (some (.lst (wrW ws))) (some (.ref 1)) y6 y7 (some (.lst [.ref 3, .ref 5])) (some (.ref 6)) none none none none none none none none none) (st := [n6, .dk (rowsN bs (rowOf ws)), .lst [], .lst (o1.map W.int), .lst [], .lst (o2.map W.int), .lst []])
    (fun i env s => (∃ z6 z10 z11 z12 z13, env = E19 (some (.scr (ns.map W.int))) (some (.ref 0)) (some (.int B)) (some (.lst xs)) (some (.lst (wrW ws))) (some (.ref 1)) z6 y7 (some (.lst [.ref 3, .ref 5])) (some (.ref 6)) z10 z11 z12 z13 none none none none none) ∧ 7 ≤ s.length ∧ s[1]? = some (.dk (rowsN bs (rowOf ws))) ∧ s[3]? = some (.lst (o1.map W.int)) ∧ s[5]? = some (.lst (o2.map W.int)) ∧ s[6]? = some (.lst (List.replicate i (.lst (finals ws B))))) (fun i hi env s z => by
      obtain ⟨⟨z6, z10, z11, z12, z13, rfl⟩, l, hR, h3, h5, h6⟩ := z
      have hi2 : i < 2 := by simpa using hi
      obtain ⟨o, os, ho, hxo, hO, hp⟩ : ∃ (o : Nat) (os : List Int), o < 6 ∧ [W.ref 3, .ref 5][i] = .ref o ∧ s[o]? = some (.lst (os.map W.int)) ∧ os.Perm (ws.map (·.1)) := by
        match i, hi2 with
        | 0, _ => exact ⟨3, o1, by omega, rfl, h3, p1⟩
        | 1, _ => exact ⟨5, o2, by omega, rfl, h5, p2⟩
      rw [hxo]
      obtain ⟨x6, x11, x12, x13, st', q, k1, k2, k3⟩ := turn1 (a0 := some (.scr (ns.map W.int))) (a1 := some (.ref 0)) (a3 := some (.lst xs)) (a6 := z6) (a7 := y7) (a8 := some (.lst [.ref 3, .ref 5])) (a11 := z11) (a12 := z12) (a13 := z13) (a14 := none) (a15 := none) (a16 := none) (a17 := none) (a18 := none) b1 b2 hl hw nd hbl hbs l hR ho hO hp h6 (by simp; omega)
      refine ⟨E19 (some (.scr (ns.map W.int))) (some (.ref 0)) (some (.int B)) (some (.lst xs)) (some (.lst (wrW ws))) (some (.ref 1)) z6 y7 (some (.lst [.ref 3, .ref 5])) (some (.ref 6)) (some (.ref o)) z11 z12 z13 none none none none none, s, _, st', rfl, q, ⟨_, _, _, _, _, rfl⟩, k1, ?_, ?_, ?_, ?_⟩
      · rw [k2 1 (by omega)]; exact hR
      · rw [k2 3 (by omega)]; exact h3
      · rw [k2 5 (by omega)]; exact h5
      · rw [k3, List.replicate_succ'])
    ⟨⟨_, _, _, _, _, rfl⟩, by simp, rfl, rfl, rfl, rfl⟩
  -- the places of the cut
  have ho1 : o1.length = ws.length := by rw [p1.length_eq]; simp
  obtain ⟨env9, s9, q9, ⟨u6, u11, u14, u15, u16, u17, rfl⟩, l9, h9⟩ := for_fix (xs := rngW 0 (ws.length + 1)) (g := gName' 14) (body := sSeq bg0 (sSeq bg1 (sSeq bg2 (sSeq bg3 bg4)))) (env := E19 (some (.scr (ns.map W.int))) (some (.ref 0)) (some (.int B)) (some (.lst xs)) (some (.lst (wrW ws))) (some (.ref 1)) z6 y7 (some (.lst [.ref 3, .ref 5])) (some (.ref 6)) z10 z11 z12 z13 none none none none none) (st := s8)
    (fun i env s => (∃ u6 u11 u14 u15 u16 u17, env = E19 (some (.scr (ns.map W.int))) (some (.ref 0)) (some (.int B)) (some (.lst xs)) (some (.lst (wrW ws))) (some (.ref 1)) u6 y7 (some (.lst [.ref 3, .ref 5])) (some (.ref 6)) z10 u11 z12 z13 u14 u15 u16 u17 none) ∧ 7 ≤ s.length ∧ ∀ j, j < 7 → s[j]? = s8[j]?) (fun i hi env s z => by
      obtain ⟨⟨u6, u11, u14, u15, u16, u17, rfl⟩, l, h⟩ := z
      have hi' : i < ws.length + 1 := by simpa [rngW] using hi
      have hx : (rngW 0 (ws.length + 1))[i] = W.int (i : Int) := by simp [rngW]
      rw [hx]
      obtain ⟨x6, x11, x15, x16, x17, st', q, k1, k2⟩ := place1 (a0 := some (.scr (ns.map W.int))) (a1 := some (.ref 0)) (a3 := some (.lst xs)) (a6 := u6) (a7 := y7) (a9 := some (.ref 6)) (a10 := z10) (a11 := u11) (a12 := z12) (a13 := z13) (a15 := u15) (a16 := u16) (a17 := u17) (a18 := none) (p := i) b1 b2 hl hw hbs l (by rw [h 1 (by omega)]; exact hR8) (by rw [h 3 (by omega)]; exact h38) p1 (by omega)
      exact ⟨E19 (some (.scr (ns.map W.int))) (some (.ref 0)) (some (.int B)) (some (.lst xs)) (some (.lst (wrW ws))) (some (.ref 1)) u6 y7 (some (.lst [.ref 3, .ref 5])) (some (.ref 6)) z10 u11 z12 z13 (some (.int i)) u15 u16 u17 none, s, _, st', rfl, q, ⟨_, _, _, _, _, _, rfl⟩, k1, fun j hj => by rw [k2 j hj, h j hj]⟩)
    ⟨⟨_, _, _, _, _, _, rfl⟩, l8, fun _ _ => rfl⟩
  have h69 : s9[6]? = some (.lst [.lst (finals ws B), .lst (finals ws B)]) := by rw [h9 6 (by omega)]; exact h68
  refine ⟨s9, ?_⟩
  have w0 : law0 (E19 (some (.scr (ns.map W.int))) none none none none none none none none none none none none none none none none none none) [] = .nx (E19 (some (.scr (ns.map W.int))) (some (.ref 0)) none none none none none none none none none none none none none none none none none) [n0] := by
    unfold law0
    generalize r_law_hand = f at q0 ⊢
    simp only [sSeq, sIf, sAsg, sRet, sExpr, sNx, Rs.to, Rs.bind, mAnd, mOr, mNot, mB, mTr, toB, mOp, mVar, mC, mNeg, mCons, mNil, mFn, mBl, mTup, mCall, mIf, gName', gDo, gSub', List.map, List.length, List.replicate, List.cons_append, List.nil_append, List.append_nil, List.getElem?_cons_succ, List.getElem?_cons_zero, List.set_cons_zero, List.set_cons_succ, if_true, Bool.not_true, Bool.not_false, Bool.true_eq_false, Bool.false_eq_true, if_false, Nat.reduceAdd, Nat.reduceSub, q0]
  have w4 : law4 (E19 (some (.scr (ns.map W.int))) (some (.ref 0)) (some (.int B)) (some (.lst xs)) (some (.lst (wrW ws))) none none none none none none none none none none none none none none) [n3] = .nx (E19 (some (.scr (ns.map W.int))) (some (.ref 0)) (some (.int B)) (some (.lst xs)) (some (.lst (wrW ws))) (some (.ref 1)) none none none none none none none none none none none none none) [n3, .dk []] := rfl
  have w7 : law7 (E19 (some (.scr (ns.map W.int))) (some (.ref 0)) (some (.int B)) (some (.lst xs)) (some (.lst (wrW ws))) (some (.ref 1)) y6 y7 (some (.lst [.ref 3, .ref 5])) none none none none none none none none none none) [n6, .dk (rowsN bs (rowOf ws)), .lst [], .lst (o1.map W.int), .lst [], .lst (o2.map W.int)] = .nx (E19 (some (.scr (ns.map W.int))) (some (.ref 0)) (some (.int B)) (some (.lst xs)) (some (.lst (wrW ws))) (some (.ref 1)) y6 y7 (some (.lst [.ref 3, .ref 5])) (some (.ref 6)) none none none none none none none none none) [n6, .dk (rowsN bs (rowOf ws)), .lst [], .lst (o1.map W.int), .lst [], .lst (o2.map W.int), .lst []] := rfl
  have w8 : law8 (E19 (some (.scr (ns.map W.int))) (some (.ref 0)) (some (.int B)) (some (.lst xs)) (some (.lst (wrW ws))) (some (.ref 1)) y6 y7 (some (.lst [.ref 3, .ref 5])) (some (.ref 6)) none none none none none none none none none) [n6, .dk (rowsN bs (rowOf ws)), .lst [], .lst (o1.map W.int), .lst [], .lst (o2.map W.int), .lst []] = .nx (E19 (some (.scr (ns.map W.int))) (some (.ref 0)) (some (.int B)) (some (.lst xs)) (some (.lst (wrW ws))) (some (.ref 1)) z6 y7 (some (.lst [.ref 3, .ref 5])) (some (.ref 6)) z10 z11 z12 z13 none none none none none) s8 := by
    rw [law8_split]
    simp only [sFor, iL]
    simp only [sSeq, sIf, sAsg, sRet, sExpr, sNx, Rs.to, Rs.bind, mAnd, mOr, mNot, mB, mTr, toB, mOp, mVar, mC, mNeg, mCons, mNil, mFn, mBl, mTup, mCall, mIf, gName', gDo, gSub', List.map, List.length, List.replicate, List.cons_append, List.nil_append, List.append_nil, List.getElem?_cons_succ, List.getElem?_cons_zero, List.set_cons_zero, List.set_cons_succ, if_true, Bool.not_true, Bool.not_false, Bool.true_eq_false, Bool.false_eq_true, if_false, Nat.reduceAdd, Nat.reduceSub]
    exact q8
  have w9 : law9 (E19 (some (.scr (ns.map W.int))) (some (.ref 0)) (some (.int B)) (some (.lst xs)) (some (.lst (wrW ws))) (some (.ref 1)) z6 y7 (some (.lst [.ref 3, .ref 5])) (some (.ref 6)) z10 z11 z12 z13 none none none none none) s8 = .nx (E19 (some (.scr (ns.map W.int))) (some (.ref 0)) (some (.int B)) (some (.lst xs)) (some (.lst (wrW ws))) (some (.ref 1)) u6 y7 (some (.lst [.ref 3, .ref 5])) (some (.ref 6)) z10 u11 z12 z13 u14 u15 u16 u17 none) s9 := by
    rw [law9_split]
    have e : ((wrW ws).length : Int) + 1 = ((ws.length + 1 : Nat) : Int) := by simp [wrW]
    have sm : Mi.small62 ((ws.length + 1 : Nat) : Int) = true := by
      simp only [Mi.small62, decide_eq_true_eq]
      omega
    simp only [sFor, iR1]
    simp only [sSeq, sIf, sAsg, sRet, sExpr, sNx, Rs.to, Rs.bind, mAnd, mOr, mNot, mB, mTr, toB, mOp, mVar, mC, mNeg, mCons, mNil, mFn, mBl, mTup, mCall, mIf, gName', gDo, gSub', List.map, List.length, List.replicate, List.cons_append, List.nil_append, List.append_nil, List.getElem?_cons_succ, List.getElem?_cons_zero, List.set_cons_zero, List.set_cons_succ, if_true, Bool.not_true, Bool.not_false, Bool.true_eq_false, Bool.false_eq_true, if_false, Nat.reduceAdd, Nat.reduceSub, len_l, add_i, e, sm, Int.toNat_natCast]
    exact q9
  have i0 : wIx (.ref 6) (.int 0) s9 = .ok (.lst (finals ws B)) s9 := by rw [ix_ref h69]; rfl
  have i1 : wIx (.ref 6) (.int 1) s9 = .ok (.lst (finals ws B)) s9 := by rw [ix_ref h69]; rfl
  have w10 : law10 (E19 (some (.scr (ns.map W.int))) (some (.ref 0)) (some (.int B)) (some (.lst xs)) (some (.lst (wrW ws))) (some (.ref 1)) u6 y7 (some (.lst [.ref 3, .ref 5])) (some (.ref 6)) z10 u11 z12 z13 u14 u15 u16 u17 none) s9 = .rt (.bl true) s9 := by
    unfold law10
    simp only [sSeq, sIf, sAsg, sRet, sExpr, sNx, Rs.to, Rs.bind, mAnd, mOr, mNot, mB, mTr, toB, mOp, mVar, mC, mNeg, mCons, mNil, mFn, mBl, mTup, mCall, mIf, gName', gDo, gSub', List.map, List.length, List.replicate, List.cons_append, List.nil_append, List.append_nil, List.getElem?_cons_succ, List.getElem?_cons_zero, List.set_cons_zero, List.set_cons_succ, if_true, Bool.not_true, Bool.not_false, Bool.true_eq_false, Bool.false_eq_true, if_false, Nat.reduceAdd, Nat.reduceSub, i0, i1, finals_eq hC]
  show outOf (m_law (E19 (some (.scr (ns.map W.int))) none none none none none none none none none none none none none none none none none none) []) = _
  rw [law_split]
  simp only [sSeq]
  rw [w0]
  simp only
  rw [t1]
  simp only
  rw [t2]
  simp only
  rw [t3]
  simp only
  rw [w4]
  simp only
  rw [t5]
  simp only
  rw [t6]
  simp only
  rw [w7]
  simp only
  rw [w8]
  simp only
  rw [w9]
  simp only
  rw [w10]
  rfl
end
end Lw
namespace Lw
open PySem PySem.Spec PyProof.Rows L2 Mi
theorem law_fn {P : Program} {w : World} {K : PySem.W.Frag} {mg : Str → Option Value} {base : Heap} (x : Tx K mg) (H0 : ∀ ns : List Int, ns.length ≤ 63 → ∃ st, r_law [.scr (ns.map W.int)] [] = .ok (.bl true) st) : FnOk P w K mg base (L2.CX P w) 8 x.a_law x.d_law ["script"] (spLaw K) := by
  refine (fn_law x).imp fun vs H Q E h => ?_
  obtain ⟨a, ns, e, hs, hl, q⟩ := h
  subst e
  obtain ⟨st, hr⟩ := H0 ns hl
  refine ⟨[], [], [], [.scr (ns.map W.int)], ⟨List.nodup_nil, rfl, by simp, by simp, by simp⟩, VRs.cons ?_ VRs.nil, rfl, ?_⟩
  · simp only [VR]
    exact ⟨a, _, rfl, hs.imp (fun h => ⟨by simp, by simp, h⟩) id, vints⟩
  · rw [hr]
    intro ρ' H' v g s r
    simp only [VR] at r
    rw [r]
    exact q H'
theorem walk {l : PySem.W.OpenLaw} {q : Program} {loose : List Str} {XP : (Str → Option Value) → Heap → Prop} {YP : World → Heap → Prop} {d : DefRec} {K : Params → PySem.W.Frag} (hn : l.most = some 63) (hdf : d.params.defaults = [])
    (hY : ∀ (w : World) (h : Heap), YP w h → (K w.params).In h) (H0 : ∀ ns : List Int, ns.length ≤ 63 → ∃ st, r_law [.scr (ns.map W.int)] [] = .ok (.bl true) st)
    (F : ∀ (w : World) (mg : Str → Option Value) (fa : Addr) (h : Heap), (K w.params).In h → h.Ns mainGlobals mg → mg d.name = some (.ref fa) → ∃ x : Tx (K w.params) mg, x.a_law = fa) :
    PySem.W.WalkO q loose XP YP l.row.toRowW d [] (fun f vs => PySem.call f vs) := by
  refine L2.walk_of (n := 63) (k := 8) (x := "script") (CX := fun w => L2.CX l.prog w) (sp := fun w => spLaw (K w.params)) hn (by decide) hdf ⟨rfl, by decide, by decide⟩ hY (fun w mg fa h hK hG hm => ?_) (fun _ _ a ns hl _ hS => ⟨a, ns, rfl, hS, hl, fun _ => rfl⟩) (fun w H s e s' z => ?_)
  · obtain ⟨x, e⟩ := F w mg fa h hK hG hm
    subst e
    exact ⟨x.d_law, x.bl, fun base _ _ => law_fn x H0⟩
  · obtain ⟨_, _, _, _, _, _, _, _, _, _, _, _, z⟩ := z
    exact z.elim
end Lw
open PySem PySem.W PyProof.Rows in
set_option maxRecDepth 100000 in
set_option maxHeartbeats 0 in
theorem PySem.Challenge.cw_wholecommits_k04_whole_orders_in_which_w_holds : PySem.Challenge.rw_wholecommits_k04_whole_orders_in_which_w.Holds := by
  w_on; o_law; k_head; (case hw => w_witness2)
  k_fill
  refine Lw.walk (l := PySem.Challenge.rw_wholecommits_k04_whole_orders_in_which_w) rfl rfl (fun w h Y => PySem.W.kIn_of Y) Lw.law_true ?F
  case F =>
    intro w mg fa h KX G hmg
    refine' Lw.all_mk (w := w) KX G hmg ?aC_Disk ?a0 ?l0 ?c0 ?k0 ?a1 ?l1 ?c1 ?k1 ?a2 ?l2 ?c2 ?k2 ?a3 ?l3 ?c3 ?k3 ?a4 ?l4 ?c4 ?k4 ?a5 ?l5 ?c5 ?k5 ?a6 ?l6 ?c6 ?k6 ?a7 ?i7 ?l7 ?c7 ?k7 ?a8 ?i8 ?l8 ?c8 ?k8 ?a9 ?i9 ?l9 ?c9 ?k9 ?a10 ?l10 ?c10 ?k10 ?a11 ?l11 ?c11 ?k11 ?a12 ?l12 ?c12 ?k12 ?a13 ?l13 ?c13 ?k13 ?a14 ?i14 ?l14 ?c14 ?k14 ?a15 ?l15 ?c15 ?k15 ?a16 ?i16 ?l16 ?c16 ?k16 ?a17 ?i17 ?l17 ?c17 ?k17 ?a18 ?i18 ?l18 ?c18 ?k18 ?a19 ?l19 ?c19 ?k19 ?a20 ?i20 ?l20 ?c20 ?k20 ?a21 ?i21 ?l21 ?c21 ?k21 ?a22 ?i22 ?l22 ?c22 ?k22 ?a23 ?i23 ?l23 ?c23 ?k23 ?a24 ?l24 ?c24 ?k24 ?pg_Disk ?hd_Disk ?po_Disk ?sa_Disk ?mk_Disk ?kc_Disk ?nf_arrived_Disk ?nf_cached_Disk ?nf_contents_Disk ?nf_left_Disk ?co_FEWEST_BLOCKS ?co_GREATEST_ITEM ?co_LONGEST_CONTENT ?co_LONGEST_WORD ?co_MOST_BLOCKS ?zb_abs ?zb_all ?zb_bool ?zb_dict ?zb_enumerate ?zb_int ?zb_isinstance ?zb_len ?zb_list ?zb_range ?zb_sorted ?zb_str ?zb_tuple
    (case aC_Disk => k_is)
    (case a0 => k_is)
    (case l0 => k_is)
    (case c0 => k_is)
    (case k0 => k_is)
    (case a1 => k_is)
    (case l1 => k_is)
    (case c1 => k_is)
    (case k1 => k_is)
    (case a2 => k_is)
    (case l2 => k_is)
    (case c2 => k_is)
    (case k2 => k_is)
    (case a3 => k_is)
    (case l3 => k_is)
    (case c3 => k_is)
    (case k3 => k_is)
    (case a4 => k_is)
    (case l4 => k_is)
    (case c4 => k_is)
    (case k4 => k_is)
    (case a5 => k_is)
    (case l5 => k_is)
    (case c5 => k_is)
    (case k5 => k_is)
    (case a6 => k_is)
    (case l6 => k_is)
    (case c6 => k_is)
    (case k6 => k_is)
    (case a7 => k_is)
    (case i7 => k_is)
    (case l7 => k_is)
    (case c7 => k_is)
    (case k7 => k_is)
    (case a8 => k_is)
    (case i8 => k_is)
    (case l8 => k_is)
    (case c8 => k_is)
    (case k8 => k_is)
    (case a9 => k_is)
    (case i9 => k_is)
    (case l9 => k_is)
    (case c9 => k_is)
    (case k9 => k_is)
    (case a10 => k_is)
    (case l10 => k_is)
    (case c10 => k_is)
    (case k10 => k_is)
    (case a11 => k_is)
    (case l11 => k_is)
    (case c11 => k_is)
    (case k11 => k_is)
    (case a12 => k_is)
    (case l12 => k_is)
    (case c12 => k_is)
    (case k12 => k_is)
    (case a13 => k_is)
    (case l13 => k_is)
    (case c13 => k_is)
    (case k13 => k_is)
    (case a14 => k_is)
    (case i14 => k_is)
    (case l14 => k_is)
    (case c14 => k_is)
    (case k14 => k_is)
    (case a15 => k_is)
    (case l15 => k_is)
    (case c15 => k_is)
    (case k15 => k_is)
    (case a16 => k_is)
    (case i16 => k_is)
    (case l16 => k_is)
    (case c16 => k_is)
    (case k16 => k_is)
    (case a17 => k_is)
    (case i17 => k_is)
    (case l17 => k_is)
    (case c17 => k_is)
    (case k17 => k_is)
    (case a18 => k_is)
    (case i18 => k_is)
    (case l18 => k_is)
    (case c18 => k_is)
    (case k18 => k_is)
    (case a19 => k_is)
    (case l19 => k_is)
    (case c19 => k_is)
    (case k19 => k_is)
    (case a20 => k_is)
    (case i20 => k_is)
    (case l20 => k_is)
    (case c20 => k_is)
    (case k20 => k_is)
    (case a21 => k_is)
    (case i21 => k_is)
    (case l21 => k_is)
    (case c21 => k_is)
    (case k21 => k_is)
    (case a22 => k_is)
    (case i22 => k_is)
    (case l22 => k_is)
    (case c22 => k_is)
    (case k22 => k_is)
    (case a23 => k_is)
    (case i23 => k_is)
    (case l23 => k_is)
    (case c23 => k_is)
    (case k23 => k_is)
    (case a24 => k_is)
    (case l24 => k_is)
    (case c24 => k_is)
    (case k24 => k_is)
    (case pg_Disk => k_is)
    (case hd_Disk => k_is)
    (case po_Disk => k_is)
    (case sa_Disk => k_is)
    (case mk_Disk => k_is)
    (case kc_Disk => k_is)
    (case nf_arrived_Disk => k_is)
    (case nf_cached_Disk => k_is)
    (case nf_contents_Disk => k_is)
    (case nf_left_Disk => k_is)
    (case co_FEWEST_BLOCKS => k_is)
    (case co_GREATEST_ITEM => k_is)
    (case co_LONGEST_CONTENT => k_is)
    (case co_LONGEST_WORD => k_is)
    (case co_MOST_BLOCKS => k_is)
    (case zb_abs => k_is)
    (case zb_all => k_is)
    (case zb_bool => k_is)
    (case zb_dict => k_is)
    (case zb_enumerate => k_is)
    (case zb_int => k_is)
    (case zb_isinstance => k_is)
    (case zb_len => k_is)
    (case zb_list => k_is)
    (case zb_range => k_is)
    (case zb_sorted => k_is)
    (case zb_str => k_is)
    (case zb_tuple => k_is)
